/-
  Many in one: Str, Str2, CodW, CodDw.
-/
import Derived.Test.YtmdpendnbkajdaaDoorZChaseForgets11
import Derived.Deep.AppendSrc
import Derived.Lib.ConvBytes
set_option linter.unusedSectionVars false
set_option linter.unusedVariables false
set_option linter.unusedSimpArgs false
set_option maxRecDepth 100000
set_option maxHeartbeats 1000000
section
namespace Go.Eng
def qLk (s:ByteArray):Nat→UInt8:=fun k=>s.data.toList.getD k 0
def qTc (src dst:TypeId) (x:Value):Sem Next:=do pure (.value (←convert src dst x))
theorem qHb (w:World) (e:TypeId) (s:ByteArray) (q:Nat) (hq:grownCap w s.size 0 e=s.size+q) (o:Nat) (v:Value) (h:(spr (s.size+q) s.size (fun k=>u8 (qLk s k)) (u8 0)).get o=some v):
  (Lib.bytesCells w e s)[o]?=some v:=by
 unfold Lib.bytesCells
 rw[hq,show s.size+q-s.size=q by omega]
 by_cases h0:o<s.size+q
 ·rw[spr,qAL h0] at h
  by_cases h1:o<s.size
  ·rw[if_pos h1] at h
   injection h with h
   rw[Array.getElem?_append_left (by rw[Array.size_map];exact h1),Array.getElem?_map,←h]
   have h2:o<s.data.toList.length:=by rw[Array.length_toList];exact h1
   rw[←Array.getElem?_toList,List.getElem?_eq_getElem h2]
   unfold qLk
   rw[List.getD_eq_getElem?_getD,List.getElem?_eq_getElem h2]
   rfl
  ·rw[if_neg h1] at h
   injection h with h
   have h3:s.data.size=s.size:=rfl
   rw[Array.getElem?_append_right (by rw[Array.size_map];omega),Array.size_map,Array.getElem?_replicate,if_pos (by omega),←h]
   rfl
 ·rw[spr,qA3 h0] at h;cases h
theorem qWR {P:Program} {src dst e:TypeId} (hs:P.underlying src=some .string) (hd:P.underlying dst=some (.slice e)) (he:P.underlying e=some (.int .u8)) (s:ByteArray):
  qAz P (qTc src dst (.string s)) [] 2 (fun ns=>.slice (some ⟨ns.getD 0 0,0,none⟩) s.size (s.size+ns.getD 1 0))
   (fun ns=>[some ⟨ns.getD 0 0,true,0,spr (s.size+ns.getD 1 0) s.size (fun k=>u8 (qLk s k)) (u8 0)⟩]):=by
 intro w hall ha
 have hrun:=Lib.run_convert_string_bytes (P:=P) w src dst e s hs hd he
 have hge:=grownCap_ge w s.size 0 e
 obtain⟨q,hq⟩:∃q,grownCap w s.size 0 e=s.size+q:=⟨_,(Nat.add_sub_cancel' hge).symm⟩
 rw[hq] at hrun
 refine⟨[w.heap.size,q],_,rfl,.inl (qAA hrun),?_⟩
 have hnew:=Lib.bytesWorld_at_new w e s
 have hN:qAl ⟨w.heap.size,true,0,spr (s.size+q) s.size (fun k=>u8 (qLk s k)) (u8 0)⟩ (Lib.bytesWorld w e s):=by
  refine⟨by show w.heap.size< _;rw[Lib.bytesWorld_size];omega,fun o v ho=>?_,fun _ o v ho=>?_,qC9 rfl⟩
  ·have h1:=qHb w e s q hq o v ho
   simp only[World.cell?,hnew,Nat.zero_add]
   simpa using h1
  ·have h1:=qHb w e s q hq o v ho
   have h2:o<(Lib.bytesCells w e s).size:=by
    rcases Nat.lt_or_ge o (Lib.bytesCells w e s).size with h|h
    ·exact h
    ·rw[Array.getElem?_eq_none h] at h1;cases h1
   simp only[World.frozen?,hnew,Nat.zero_add]
   simp;omega
 refine⟨fun p b hp=>?_,fun p r b c hpr hp hr ho=>?_,⟨rfl,rfl,rfl,by rw[Lib.bytesWorld_size];omega,fun j hj _=>Lib.bytesWorld_at_old w e s j hj,fun j hj=>?_,fun p b hp ho=>?_⟩⟩
 ·rcases p with _ |p
  ·injection hp with hp;subst hp;exact hN
  ·simp[lM] at hp
 ·rcases p with _ |p
  ·rcases r with _ |r
   ·exact absurd rfl hpr
   ·simp[lM] at hr
  ·simp[lM] at hp
 ·obtain⟨p,b,hp,ho,hjk⟩:=hj
  rcases p with _ |p
  ·injection hp with hp;subst hp;exact .inr (Nat.le_of_eq hjk)
  ·simp[lM] at hp
 ·rcases p with _ |p
  ·injection hp with hp;subst hp;cases ho
  ·simp[lM] at hp
def qOI (t tx ty:TypeId) (x y:Value):Sem Next:=do pure (.value (←Builtin.append_ #[t,tx] ty #[x,y]))
theorem qKv (x x':Blk):qAD (lM [some x]) [(0,some x')]=lM [some x']:=by
 funext p
 rcases p with _ |p<;>rfl
section
variable {P:Program} {t tx ty e:TypeId} {i:TypeInfo} {z:Value}
theorem qKq (ht:P.underlying t=some (.slice e)) (hi:P.info? e=some i) (hz:i.zero=some z) (hsz:i.size=1) (hzc:z.cells=#[z])
  {b len r n:Nat} {g h:Nat→Value} {x:Value} (w:World) (hall:∀c∈[(⟨b,true,0,spr (len+r) len g z⟩:Blk)],qAl c w) (ha:qCs (lM ([(⟨b,true,0,spr (len+r) len g z⟩:Blk)].map some)))
  (hsrc:Go.Src P 1 tx x n ((List.range n).map h) w)
  (hb:(len+n)*i.bytes≤140737488355328) (hb2:len+n≤9223372036854775807):
  ∃(ns:List Nat) (w':World),ns.length=2∧(((qOI t tx ty (.slice (some ⟨b,0,none⟩) len (len+r)) x).run P w=.ok (.value (.slice (some ⟨ns.getD 0 0,0,none⟩) (len+n) (len+n+ns.getD 1 0))) w')∨
    ((qOI t tx ty (.slice (some ⟨b,0,none⟩) len (len+r)) x).run P w=.ok .skip w'∧Value.slice (some ⟨ns.getD 0 0,0,none⟩) (len+n) (len+n+ns.getD 1 0)=undef))∧
   qCL (lM ([(⟨b,true,0,spr (len+r) len g z⟩:Blk)].map some)) w (lM [some ⟨ns.getD 0 0,true,0,spr (len+n+ns.getD 1 0) (len+n) (qMV g len h) z⟩]) w':=by
 have hA:qAl ⟨b,true,0,spr (len+r) len g z⟩ w:=hall _ (by simp)
 have hm:∀p c,lM [some ⟨b,true,0,spr (len+r) len g z⟩] p=some c→qAl c w:=fun p c hc=>hall c (List.mem_of_getElem? (qAW (l:=[⟨b,true,0,spr (len+r) len g z⟩]).1 hc))
 by_cases hr:n≤r
 ·have hget:∀j,j<n→(spr (len+r) len g z).get (len+j)=some z:=fun j hj=>by
   rw[spr,qAL (by omega),if_neg (by omega)]
  have hrun:=run_append_room_src (P:=P) w t tx ty e i ht hi b 0 len (len+r) x n ((List.range n).map h) (by rw[hsz];exact hsrc) (by omega)
   (fun j hj=>by
    have hj':j<n:=by simpa using hj
    have:=hA.cell _ _ (hget j hj')
    rw[show 0+len*i.size+j=0+(len+j) by rw[hsz];omega,this];rfl)
   (fun j hj=>by
    have hj':j<n:=by simpa using hj
    have:=hA.free rfl _ _ (hget j hj')
    rw[show 0+len*i.size+j=0+(len+j) by rw[hsz];omega];exact this)
  have hrun2:(Builtin.append_ #[t,tx] ty #[.slice (some ⟨b,0,none⟩) len (len+r),x]).run P w=.ok (.slice (some ⟨b,0,none⟩) (len+n) (len+n+(r-n))) (w.setCells b (0+len*i.size) ((List.range n).map h)):=by
   rw[show len+n+(r-n)=len+r by omega];exact hrun
  refine⟨[b,r-n],_,rfl,.inl (qAA hrun2),?_⟩
  have hp:=qIB (m:=lM [some ⟨b,true,0,spr (len+r) len g z⟩]) (w:=w) (p:=0) (b:=⟨b,true,0,spr (len+r) len g z⟩) (o0:=len) (cs:=(List.range n).map h)
   (c:=spr (len+r) (len+n) (qMV g len h) z) hm ha rfl rfl rfl rfl (fun j hj=>⟨z,hget j (by simpa using hj)⟩) (fun j=>by
    have hlen:((List.range n).map h).length=n:=by simp
    rw[hlen]
    by_cases hj:j<len+r
    ·rw[spr,spr,qAL hj,qAL hj]
     by_cases h2:j<len
     ·rw[if_neg (show¬(len≤j∧j<len+n) by omega),if_pos h2,if_pos (show j<len+n by omega),qMV,if_pos h2]
     ·by_cases h3:j<len+n
      ·rw[if_pos (show len≤j∧j<len+n by omega),if_pos h3,qMV,if_neg h2,List.getElem?_map,List.getElem?_range (by omega)];rfl
      ·rw[if_neg (show¬(len≤j∧j<len+n) by omega),if_neg h3,if_neg h2]
    ·rw[spr,spr,qA3 hj,qA3 hj,if_neg (show¬(len≤j∧j<len+n) by omega)])
  rw[qKv] at hp
  have e1:len+n+(r-n)=len+r:=by omega
  simpa[hsz,e1] using hp
 ·have hg:len+r<len+n:=by omega
  have hold:(Builtin.firstCells i.size len (.slice (some ⟨b,0,none⟩) len (len+r))).run P w.drew=.ok ((List.range len).map g).toArray w.drew:=
   run_firstCells_some w.drew i.size len ⟨b,0,none⟩ len (len+r) ((List.range len).map g) (by simp[hsz]) (fun j v hj=>by
    obtain⟨hjn,rfl⟩:=qBY hj
    rw[qBs,Nat.zero_add]
    have:=hA.cell j (g j) (by rw[spr,qAL (by omega),if_pos hjn])
    rw[Nat.zero_add] at this
    simpa using this)
  have hrun:=run_append_grow_src (P:=P) w t tx ty e i z ht hi hz (some ⟨b,0,none⟩) len (len+r) ((List.range len).map g) hold x n ((List.range n).map h) (by rw[hsz];exact hsrc) hg (by omega) (growslice_fits hg hb)
  have hge:=grownCap_ge w (len+n) (len+r) e
  obtain⟨q,hq⟩:∃q,grownCap w (len+n) (len+r) e=len+n+q:=⟨_,(Nat.add_sub_cancel' hge).symm⟩
  rw[hq] at hrun
  refine⟨[w.heap.size,q],_,rfl,.inl (qAA hrun),?_⟩
  have hp0:=qCL.drew hm ha
  have hp:=hp0.trans (qF4 hp0.holds hp0.apart 0 (((List.range len).map g++(List.range n).map h).toArray++Builtin.zeroCells z.cells (len+n+q-(len+n))) e)
  rw[show w.drew.heap.size=w.heap.size from rfl,qKv] at hp
  have hc:∀o v,(spr (len+n+q) (len+n) (qMV g len h) z).get o=some v→
    (qAI.lit (((List.range len).map g++(List.range n).map h).toArray++Builtin.zeroCells z.cells (len+n+q-(len+n))).toList).get o=some v:=fun o v ho=>by
   rw[hzc,show len+n+q-(len+n)=q by omega]
   simp only[qAI.get,Array.toList_append,List.append_assoc,qId]
   by_cases h0:o<len+n+q
   ·rw[spr,qAL h0] at ho
    by_cases h2:o<len
    ·rw[if_pos (by omega),qMV,if_pos h2] at ho
     rw[List.getElem?_append_left (by simp;exact h2),List.getElem?_map,List.getElem?_range h2];exact ho
    ·rw[List.getElem?_append_right (by simp;omega)]
     by_cases h3:o<len+n
     ·rw[if_pos h3,qMV,if_neg h2] at ho
      rw[List.getElem?_append_left (by simp;omega),List.getElem?_map]
      simp only[List.length_map,List.length_range]
      rw[List.getElem?_range (by omega)];exact ho
     ·rw[if_neg h3] at ho
      rw[List.getElem?_append_right (by simp;omega),List.getElem?_replicate,if_pos (by simp;omega)];exact ho
   ·rw[spr,qA3 h0] at ho;cases ho
  have hN:=(hp.holds 0 _ rfl).recont rfl hc
  refine⟨fun p c hpc=>?_,fun p p' c d hpp hc1 hd ho=>?_,⟨hp.adv.os,hp.adv.output,hp.adv.tape,hp.adv.size,hp.adv.heap,fun j hj=>?_,fun p c hpc ho=>?_⟩⟩
  ·rcases p with _ |p
   ·injection hpc with hpc;subst hpc;exact hN
   ·simp[lM] at hpc
  ·rcases p with _ |p
   ·rcases p' with _ |p'
    ·exact absurd rfl hpp
    ·simp[lM] at hd
   ·simp[lM] at hc1
  ·obtain⟨p,c,hpc,ho,hjk⟩:=hj
   rcases p with _ |p
   ·injection hpc with hpc;subst hpc;exact hp.adv.names _ ⟨0,_,rfl,rfl,hjk⟩
   ·simp[lM] at hpc
  ·rcases p with _ |p
   ·injection hpc with hpc;subst hpc;cases ho
   ·simp[lM] at hpc
end
theorem qJt {P:Program} {t ty e:TypeId} {B:Nat} {F:Blk→Prop} (ht:P.underlying t=some (.slice e)) (h1:qRZ P e (u8 0) B) (b len r:Nat) (g:Nat→UInt8) (x:BytL) (hx:OkB x) (hF:∀c,qA2 x c→F c)
  (hb:(len+x.wn)*B≤140737488355328∧len+x.wn≤9223372036854775807):
  qJj F P (qOI t t ty (.slice (some ⟨b,0,none⟩) len (len+r)) (.slice x.wa x.wn x.wc)) [⟨b,true,0,spr (len+r) len (fun k=>u8 (g k)) (u8 0)⟩] 2
   (fun ns=>.slice (some ⟨ns.getD 0 0,0,none⟩) (len+x.wn) (len+x.wn+ns.getD 1 0))
   (fun ns=>[some ⟨ns.getD 0 0,true,0,spr (len+x.wn+ns.getD 1 0) (len+x.wn) (fun k=>u8 (qAs g len x.wf k)) (u8 0)⟩]):=by
 obtain⟨i,hi,hz,hsz,hB,hzc⟩:=h1
 subst hB
 intro w hall ha hfam
 have hsrc:Go.Src P 1 t (.slice x.wa x.wn x.wc) x.wn ((List.range x.wn).map fun k=>u8 (x.wf k)) w:=by
  rcases Nat.eq_zero_or_pos x.wn with h0|h0
  ·rw[h0]
   cases hxa:x.wa with
   |none=>exact Go.Src.ofNil w ht x.wc
   |some a=>exact Go.Src.ofSlice w ht a 0 x.wc [] (by simp) (fun j u hj=>by simp at hj) (fun u hu=>by cases hu)
  ·rw[hx.ad h0]
   have hH:=(hfam _ (hF _ ⟨h0,rfl⟩)).1
   refine Go.Src.ofSlice w ht _ x.wn x.wc _ (by simp) (fun j u hj=>?_) (fun u hu=>?_)
   ·obtain⟨hjn,rfl⟩:=qBY hj
    have:=hH.cell j (u8 (x.wf j)) (by show(qAd x.wn _).get j=_;rw[qAL hjn])
    rw[qBs];exact this
   ·obtain⟨_,_,rfl⟩:=List.mem_map.1 hu;rfl
 have:=qKq (P:=P) (t:=t) (tx:=t) (ty:=ty) ht hi hz hsz hzc (b:=b) (len:=len) (r:=r) (n:=x.wn) (g:=fun k=>u8 (g k)) (h:=fun k=>u8 (x.wf k)) (x:=.slice x.wa x.wn x.wc) w hall ha hsrc hb.1 hb.2
 rw[qXt] at this
 exact this
theorem qYb {nm:Nat} {l:List Value} {z:Value} {w:World} (h:qAl ⟨nm,true,0,.lit l⟩ w):qAl ⟨nm,true,0,spr (l.length+0) l.length (fun k=>l.getD k z) z⟩ w:=
 h.recont rfl fun o v ho=>by
  have ho':(spr (l.length+0) l.length (fun k=>l.getD k z) z).get o=some v:=ho
  show l[o]?=some v
  by_cases h0:o<l.length
  ·rw[spr,qAL (by omega),if_pos h0] at ho'
   rw[List.getD_eq_getElem?_getD,List.getElem?_eq_getElem h0] at ho'
   rw[List.getElem?_eq_getElem h0];exact ho'
  ·rw[spr,qA3 (by omega)] at ho';cases ho'
theorem qKH {P:Program} {t ty e:TypeId} {B:Nat} {z:Value} (ht:P.underlying t=some (.slice e)) (h1:qRZ P e z B) (b k:Nat) (l1 l2:List Value) (h2:l2.all Value.oneCell'=true)
  (hb:(l1.length+l2.length)*B≤140737488355328∧l1.length+l2.length≤9223372036854775807):
  qAz P (qB2 t ty (.slice (some ⟨b,0,none⟩) l1.length l1.length) (.slice (some ⟨k,0,none⟩) l2.length l2.length)) [⟨b,true,0,.lit l1⟩,⟨k,false,0,.lit l2⟩] 2
   (fun ns=>.slice (some ⟨ns.getD 0 0,0,none⟩) (l1.length+l2.length) (l1.length+l2.length+ns.getD 1 0))
   (fun ns=>[some ⟨ns.getD 0 0,true,0,spr (l1.length+l2.length+ns.getD 1 0) (l1.length+l2.length) (fun j=>(l1++l2).getD j z) z⟩,none]):=by
 obtain⟨i,hi,hz,hsz,hB,hzc⟩:=h1
 subst hB
 have h0:=qKg (P:=P) (t:=t) (ty:=ty) ht hi hz hsz hzc (b:=b) (len:=l1.length) (r:=0) (k:=k) (bo:=0) (os:=0) (n:=l2.length) (cc:=l2.length) (g:=fun j=>l1.getD j z) (h:=fun j=>l2.getD j z) (S:=.lit l2)
  (fun j hj=>by show l2[0+j]?= _;rw[Nat.zero_add,List.getElem?_eq_getElem hj,List.getD_eq_getElem?_getD,List.getElem?_eq_getElem hj];rfl)
  (fun j hj=>by rw[List.getD_eq_getElem?_getD,List.getElem?_eq_getElem hj];exact List.all_eq_true.1 h2 _ (List.getElem_mem hj)) hb.1 hb.2
 have hcat:qMV (fun j=>l1.getD j z) l1.length (fun j=>l2.getD j z)=fun j=>(l1++l2).getD j z:=by
  funext j
  unfold qMV
  by_cases h:j<l1.length
  ·rw[if_pos h]
   show l1.getD j z=(l1++l2).getD j z
   rw[List.getD_eq_getElem?_getD,List.getD_eq_getElem?_getD,List.getElem?_append_left h]
  ·rw[if_neg h]
   show l2.getD (j-l1.length) z=(l1++l2).getD j z
   rw[List.getD_eq_getElem?_getD,List.getD_eq_getElem?_getD,List.getElem?_append_right (by omega)]
 rw[hcat] at h0
 have h3:=qAz.dark [false,true] h0
 intro w hall ha
 have hall':∀c∈[(⟨b,true,0,spr (l1.length+0) l1.length (fun j=>l1.getD j z) z⟩:Blk),⟨k,false,0,.lit l2⟩],qAl c w:=fun c hc=>by
  simp only[List.mem_cons,List.not_mem_nil,or_false] at hc
  rcases hc with rfl|rfl
  ·exact qYb (hall ⟨b,true,0,.lit l1⟩ (by simp))
  ·exact hall _ (by simp)
 have hap:qCs (lM [some (⟨b,true,0,spr (l1.length+0) l1.length (fun j=>l1.getD j z) z⟩:Blk),some ⟨k,false,0,.lit l2⟩]):=fun p q c d hpq hc hd ho=>by
  rcases p with _ | _ |p<;>rcases q with _ | _ |q
  ·exact absurd rfl hpq
  ·injection hc with hc;injection hd with hd;subst hc hd
   exact ha 0 1 ⟨b,true,0,.lit l1⟩ ⟨k,false,0,.lit l2⟩ (by omega) rfl rfl rfl
  ·simp[lM] at hd
  ·injection hc with hc;subst hc;cases ho
  ·exact absurd rfl hpq
  ·simp[lM] at hd
  ·simp[lM] at hc
  ·simp[lM] at hc
  ·simp[lM] at hc
 obtain⟨ns,w',k1,k2,k3⟩:=h3 w hall' hap
 refine⟨ns,w',k1,k2,⟨k3.holds,k3.apart,⟨k3.adv.os,k3.adv.output,k3.adv.tape,k3.adv.size,fun j hj hno=>k3.adv.heap j hj (fun⟨p,c,h4,h5,h6⟩=>hno ?_),fun j hj=>?_,fun p c hp ho=>?_⟩⟩⟩
 ·rcases p with _ | _ |p
  ·injection h4 with h4;subst h4;exact⟨0,_,rfl,rfl,h6⟩
  ·injection h4 with h4;subst h4;cases h5
  ·simp[lM] at h4
 ·rcases k3.adv.names j hj with⟨p,c,h4,h5,h6⟩|h
  ·left
   rcases p with _ | _ |p
   ·injection h4 with h4;subst h4;exact⟨0,_,rfl,rfl,h6⟩
   ·injection h4 with h4;subst h4;cases h5
   ·simp[lM] at h4
  ·exact .inr h
 ·have:=k3.adv.ro p c hp ho
  rcases p with _ | _ |p
  ·injection this with this;subst this;cases ho
  ·exact this
  ·simp[lM] at this
def jCV (b:Blk):List Value:=match b.cont with
 |.lit l=>l
 | _=>[]
def jBA (bs:List Blk) (k:Nat):List Value:=match bs[k]?with
 |some b=>jCV b
 |none=>[]
theorem qVm {P:Program} {t t':TypeId} {x y:Operand} (a b:UInt64) (hb:b.toNat≠0):qB0 P (.binOp .quo t x y t') [u64 a,u64 b] (u64 (a/b)):=qAv qAp (by
 show qAa P (Op.intDiv .quo .u64 (a.toNat:Int) (b.toNat:Int))=_
 unfold Op.intDiv
 rw[if_neg (by omega)]
 show some (Value.int .u64 (IntKind.u64.wrap (Int.tdiv (a.toNat:Int) b.toNat)))=_
 rw[qDs,u64,UInt64.toNat_div];congr 2
 rw[Int.tdiv_eq_ediv_of_nonneg (by omega),←Int.natCast_ediv]
 have h3:a.toNat/b.toNat<18446744073709551616:=Nat.lt_of_le_of_lt (Nat.div_le_self _ _) a.toNat_lt
 rw[show(18446744073709551616:Int)=((18446744073709551616:Nat):Int) from rfl,←Int.natCast_emod,Nat.mod_eq_of_lt h3])
theorem jCh {x y:UInt64} {c:Nat} (h:y.toNat=x.toNat/256^c):(y%256).toUInt8=UInt8.ofNat (x.toNat/256^c%256):=by
 apply UInt8.toNat_inj.1
 rw[UInt64.toNat_toUInt8,UInt64.toNat_mod,h,UInt8.toNat_ofNat']
 show x.toNat/256^c%256%256=x.toNat/256^c%256%256
 rfl
theorem qZ2 {y:UInt64} (h:0<y):0<y.toNat:=by
 rw[UInt64.lt_iff_toNat_lt] at h;exact h
theorem qU5 {y:UInt64} (h:¬0<y):y.toNat=0:=by
 rw[UInt64.lt_iff_toNat_lt] at h
 have h1:¬0<y.toNat:=h
 omega
theorem qU9 {x y:UInt64} {c:Nat} {B:Grw UInt8} (hn:B.n=c) (hy:y.toNat=x.toNat/256^c) (hf:∀k,k<c→B.f k=UInt8.ofNat (dig x.toNat (c-1-k))) (h0:0<y) (a r:Nat):
  ((⟨false,a,1+B.n,r,qAs (fun _=>(y%256).toUInt8) 1 B.f⟩:Grw UInt8).ok∧1+B.n=c+1∧(y/256).toNat=x.toNat/256^(c+1)∧
  (∀k,k<c+1→qAs (fun _=>(y%256).toUInt8) 1 B.f k=UInt8.ofNat (dig x.toNat (c+1-1-k)))∧(c+1≠0→x.toNat/256^(c+1-1)≠0)∧c+1≤8)∧(y/256).toNat<y.toNat:=by
 have h1:=qZ2 h0
 have h2:(y/256).toNat=y.toNat/256:=by rw[UInt64.toNat_div];rfl
 refine⟨⟨(fun h=>by cases h),by omega,by rw[h2,hy,Nat.div_div_eq_div_mul,←Nat.pow_succ],fun k hk=>?_,fun _=>?_,?_⟩,by omega⟩
 ·rw[jCh hy];exact qVn hf k hk
 ·show x.toNat/256^c≠0;omega
 ·rcases Nat.lt_or_ge c 8 with h|h
  ·omega
  ·exfalso
   have h3:256^8≤256^c:=Nat.pow_le_pow_right (by omega) h
   have h4:=x.toNat_lt
   have h5:x.toNat/256^c=0:=Nat.div_eq_of_lt (Nat.lt_of_lt_of_le h4 h3)
   omega
theorem qY8 {x y:UInt64} {c:Nat} {B:Grw UInt8} (hn:B.n=c) (hy:y.toNat=x.toNat/256^c) (h2:c≠0→x.toNat/256^(c-1)≠0) (h0:¬0<y):szU x=B.n:=by
 have h1:=qU5 h0
 rw[hn];exact(qYi (by omega) h2).symm
def smT (x:UInt64):Nat→UInt8:=fun k=>smB x (k+1)
theorem qZ4 {x y:UInt64} {c:Nat} {B:Grw UInt8} (hn:B.n=c) (hf:∀k,k<c→B.f k=UInt8.ofNat (dig x.toNat (c-1-k))) (h:szU x=B.n):∀k,k<B.n→smT x k=B.f k:=fun k hk=>by
 subst hn
 rw[hf k hk]
 show smB x (k+1)=_
 rw[qO5 x (by omega) (by omega),h,show B.n-1-k=B.n-(k+1) by omega]
theorem qZA (x:UInt64):qAs (fun _=>UInt8.ofNat (szU x)) 1 (smT x)=smB x:=by
 funext k
 unfold qAs
 by_cases h:k<1
 ·rw[if_pos h,show k=0 by omega];unfold smB;rw[if_pos rfl]
 ·rw[if_neg h];show smB x (k-1+1)=_;rw[show k-1+1=k by omega]
theorem qYh (x:UInt64):1+szU x=smN x:=by unfold smN;omega
end Go.Eng
end
section
namespace Go.Proofs.YtmdpendnbkajdaaDoor
open Go Go.Eng
theorem jA9:qV4 TP 5 [u8 0] 1 1:=qPb (z:=u8 0) (by kernel_rfl) rfl rfl (by decide)
abbrev qXX (a:BytL):=smN (UInt64.ofNat a.wn)+a.wn
def qIL (x:UInt64) (x1:Nat×(Grw UInt8)×UInt64):St:=⟨[(0,.v (u64 x1.2.2)),(3,.v (gsV x1.2.1))],[(0,(gsE u8C [u8 0] 1 x1.2.1))],1⟩
def qFk (x:UInt64) (x1:Nat×(Grw UInt8)×UInt64):Prop:=x1.2.1.ok∧(x1.2.1.n=x1.1)∧(x1.2.2.toNat=x.toNat/256^x1.1)∧(∀k,k<x1.1→x1.2.1.f k=UInt8.ofNat (dig x.toNat (x1.1-1-k)))∧(x1.1≠0→x.toNat/256^(x1.1-1)≠0)∧(x1.1≤8)
def qFF (x:UInt64) (x1:Nat×(Grw UInt8)×UInt64):Nat:=x1.2.2.toNat
theorem qYv {F:Blk→Prop} (x:UInt64):qAb F TP 29 [(u64 x)] [] 2 (fun(ns:List Nat)=>(gsV (Grw.mk false (ns.getD 0 0) (1+(szU x)) (ns.getD 1 0) (qAs (fun _=>(UInt8.ofNat (szU x))) 1 (smT x))))) (fun(ns:List Nat)=>[(gsE u8C [u8 0] 1 (Grw.mk false (ns.getD 0 0) (1+(szU x)) (ns.getD 1 0) (qAs (fun _=>(UInt8.ofNat (szU x))) 1 (smT x))))]):=
 qAn mix Tryd.func29 rfl rfl 400 (.reg (rg [.g]) (.keep [0,2] [] 1 (.reg (rg [.g]) (.inv [0,3] [0] 1 (qFk x) (qIL x) (qFF x) ((0,(Grw.mk true 0 0 0 (fun _=>0)),x):Nat×(Grw UInt8)×UInt64) (fun(x1:Nat×(Grw UInt8)×UInt64)=>(.reg (rg [.g,(.as (vB (decide (0<x1.2.2))))]) (.br (.regn (rg [.g,(.as (u64 (x1.2.2%256))),(.as (u8 ((x1.2.2%256).toUInt8))),(.oth [] 1 1 (fun ns=>vS (some ⟨ns.getD 0 0,0,none⟩) 1 1) (fun ns=>[some ⟨ns.getD 0 0,true,0,.lit [(u8 ((x1.2.2%256).toUInt8))]⟩])),.g,(.othO [(1,false),(0,true)] 2 0 (fun ns=>gsV (Grw.mk false (g0 ns) (1+x1.2.1.n) (g1 ns) (qAs (fun _=>((x1.2.2%256).toUInt8)) 1 x1.2.1.f))) (fun ns=>[(gsE u8C [u8 0] 1 (Grw.mk false (g0 ns) (1+x1.2.1.n) (g1 ns) (qAs (fun _=>((x1.2.2%256).toUInt8)) 1 x1.2.1.f))),none])),.g]) (more (fun n1=>more (fun n2=>more (fun n3=>fun _=>(.renO 1 0 (.reg (rg [.g,(.as (u64 (x1.2.2/256))),.g]) .done))))))) (.keep [3] [0] 1 (.told ⟨[(3,.v (gsV (reB x1.2.1 (szU x) (smT x))))],[(0,(gsE u8C [u8 0] 1 (reB x1.2.1 (szU x) (smT x))))],1⟩ (.regn (rg [.g,(.as (nat (szU x))),(.as (u8 (UInt8.ofNat (szU x)))),(.oth [] 1 1 (fun ns=>vS (some ⟨ns.getD 0 0,0,none⟩) 1 1) (fun ns=>[some ⟨ns.getD 0 0,true,0,.lit [(u8 (UInt8.ofNat (szU x)))]⟩])),.g,(.othO [(1,false),(0,true)] 2 0 (fun ns=>gsV (Grw.mk false (g0 ns) (1+(szU x)) (g1 ns) (qAs (fun _=>(UInt8.ofNat (szU x))) 1 (smT x)))) (fun ns=>[(gsE u8C [u8 0] 1 (Grw.mk false (g0 ns) (1+(szU x)) (g1 ns) (qAs (fun _=>(UInt8.ofNat (szU x))) 1 (smT x)))),none])),.g]) (more (fun n4=>more (fun n5=>more (fun n6=>fun _=>.done)))))))))))))) [] [1] rfl
  (Eq.mp (by kernel_rfl) (aI kV1 ((aI kV1 (aI (show(qFk x) ((0,(Grw.mk true 0 0 0 (fun _=>0)),x):Nat×(Grw UInt8)×UInt64) from(show((Grw.mk true 0 0 0 (fun _=>0)).ok)∧((Grw.mk true 0 0 0 (fun _=>0)).n=0)∧(x.toNat=x.toNat/256^0)∧(∀k,k<0→(Grw.mk true 0 0 0 (fun _=>0)).f k=UInt8.ofNat (dig x.toNat (0-1-k)))∧(0≠0→x.toNat/256^(0-1)≠0)∧(0≤8) from by exact⟨fun _=>rfl,rfl,(Nat.div_one _).symm,fun k hk=>absurd hk (Nat.not_lt_zero k),fun h=>absurd rfl h,by decide⟩)) (aI (@rfl St ((qIL x) ((0,(Grw.mk true 0 0 0 (fun _=>0)),x):Nat×(Grw UInt8)×UInt64))) (fun(x1:Nat×(Grw UInt8)×UInt64) (hx1:(qFk x) x1)=>have B0:x1.2.1.ok:=hx1.1;have B1:x1.2.1.n=x1.1:=hx1.2.1;have B2:x1.2.2.toNat=x.toNat/256^x1.1:=hx1.2.2.1;have B3:∀k,k<x1.1→x1.2.1.f k=UInt8.ofNat (dig x.toNat (x1.1-1-k)):=hx1.2.2.2.1;have B4:x1.1≠0→x.toNat/256^(x1.1-1)≠0:=hx1.2.2.2.2.1;have B5:x1.1≤8:=hx1.2.2.2.2.2;aI (sk (aI (aT (@qMD TP 30 30 (.tmp 4) (.const (.int .u64 0)) x1.2.2 0)) tV)) (aT (aI (fun(h1:(decide (0<x1.2.2))=true)=>have f6:=(oT h1);fun(n1 n2 n3:Nat)=>aI (sk (aI (aT (@qFX TP 30 30 (.tmp 6) (.const (.int .u64 256)) x1.2.2 256 (by decide))) (aI (aT (@qBn TP 30 5 (.tmp 7) (by kernel_rfl) (by kernel_rfl) (x1.2.2%256))) (aI (aT (qA6 (P:=TP) (t:=23) (e:=5) qIu 1 #[(0,(u8 ((x1.2.2%256).toUInt8)))] #[(u8 ((x1.2.2%256).toUInt8))] (by kernel_rfl) (by decide) (by kernel_rfl))) (sk (aI (aT (qTD (P:=TP) (t:=23) (ty:=23) (e:=5) (by kernel_rfl) jA9 n1 ((x1.2.2%256).toUInt8) x1.2.1 (show(x1.2.1).ok from by assumption) (show(x1.2.1).n+1≤140737488355328 from by have e0:(x1.2.1).n=x1.2.1.n:=rfl;omega))) kV1)))))) (aI (fun b (h:(gsE u8C [u8 0] 1 (Grw.mk false n2 (1+x1.2.1.n) n3 (qAs (fun _=>((x1.2.2%256).toUInt8)) 1 x1.2.1.f)))=some b)=>qWz h) (aI (sk (aI (aT (@qVm TP 30 30 (.tmp 12) (.const (.int .u64 256)) x1.2.2 256 (by decide))) kV1)) ((rnd (qFk x) (qIL x) (qFF x) x1 (((x1.1+1),(Grw.mk false n2 (1+x1.2.1.n) n3 (qAs (fun _=>((x1.2.2%256).toUInt8)) 1 x1.2.1.f)),(x1.2.2/256)):Nat×(Grw UInt8)×UInt64) (show(qFk x) (((x1.1+1),(Grw.mk false n2 (1+x1.2.1.n) n3 (qAs (fun _=>((x1.2.2%256).toUInt8)) 1 x1.2.1.f)),(x1.2.2/256)):Nat×(Grw UInt8)×UInt64)∧(qFF x) (((x1.1+1),(Grw.mk false n2 (1+x1.2.1.n) n3 (qAs (fun _=>((x1.2.2%256).toUInt8)) 1 x1.2.1.f)),(x1.2.2/256)):Nat×(Grw UInt8)×UInt64)<(qFF x) x1 from(show(((Grw.mk false n2 (1+x1.2.1.n) n3 (qAs (fun _=>((x1.2.2%256).toUInt8)) 1 x1.2.1.f)).ok)∧((Grw.mk false n2 (1+x1.2.1.n) n3 (qAs (fun _=>((x1.2.2%256).toUInt8)) 1 x1.2.1.f)).n=(x1.1+1))∧((x1.2.2/256).toNat=x.toNat/256^(x1.1+1))∧(∀k,k<(x1.1+1)→(Grw.mk false n2 (1+x1.2.1.n) n3 (qAs (fun _=>((x1.2.2%256).toUInt8)) 1 x1.2.1.f)).f k=UInt8.ofNat (dig x.toNat ((x1.1+1)-1-k)))∧((x1.1+1)≠0→x.toNat/256^((x1.1+1)-1)≠0)∧((x1.1+1)≤8))∧((x1.2.2/256).toNat)<x1.2.2.toNat from by exact qU9 B1 B2 B3 (oT h1) _ _))))))) (fun(h1:(decide (0<x1.2.2))=false)=>have f6:=(oF h1);(have hsz:szU x=x1.2.1.n:=(qY8 B1 B2 B4 (oF h1));have hs8:szU x≤8:=(qLS x);aI (show(⟨[(3,.v (gsV x1.2.1))],[(0,(gsE u8C [u8 0] 1 x1.2.1))],1⟩:St)=⟨[(3,.v (gsV (reB x1.2.1 (szU x) (smT x))))],[(0,(gsE u8C [u8 0] 1 (reB x1.2.1 (szU x) (smT x))))],1⟩ from by rw[jDy (A:=x1.2.1) (n:=szU x) (f:=smT x) hsz,jDp (A:=x1.2.1) (n:=szU x) (f:=smT x) hsz (qZ4 (y:=0) B1 B3 hsz)]) (fun(n4 n5 n6:Nat)=>aI (sk (aI (aT (@qAw TP 23 5 (.tmp 14) (by kernel_rfl) (gsA (reB x1.2.1 (szU x) (smT x))) (szU x) (gsC (reB x1.2.1 (szU x) (smT x))))) (aI (aT (@qPk TP 3 5 (.tmp 15) (by kernel_rfl) (by kernel_rfl) (szU x))) (aI (aT (qA6 (P:=TP) (t:=23) (e:=5) qIu 1 #[(0,(u8 (UInt8.ofNat (szU x))))] #[(u8 (UInt8.ofNat (szU x)))] (by kernel_rfl) (by decide) (by kernel_rfl))) (sk (aI (aT (qTD (P:=TP) (t:=23) (ty:=23) (e:=5) (by kernel_rfl) jA9 n4 (UInt8.ofNat (szU x)) (reB x1.2.1 (szU x) (smT x)) (jBP (show(x1.2.1).ok from by assumption) hsz) (show(reB x1.2.1 (szU x) (smT x)).n+1≤140737488355328 from by have e0:(reB x1.2.1 (szU x) (smT x)).n=(szU x):=rfl;omega))) kV1)))))) (aT (eX (fun(ns:List Nat)=>ns.length=2∧((gsV (Grw.mk false n5 (1+(szU x)) n6 (qAs (fun _=>(UInt8.ofNat (szU x))) 1 (smT x)))):Value)=(fun(ns:List Nat)=>(gsV (Grw.mk false (g0 ns) (1+(szU x)) (g1 ns) (qAs (fun _=>(UInt8.ofNat (szU x))) 1 (smT x))))) ns∧([(gsE u8C [u8 0] 1 (Grw.mk false n5 (1+(szU x)) n6 (qAs (fun _=>(UInt8.ofNat (szU x))) 1 (smT x))))]:List (Option Blk))=(fun(ns:List Nat)=>[(gsE u8C [u8 0] 1 (Grw.mk false (g0 ns) (1+(szU x)) (g1 ns) (qAs (fun _=>(UInt8.ofNat (szU x))) 1 (smT x))))]) ns) [n5,n6] (aI (@rfl Nat 2) (aI (@rfl Value (gsV (Grw.mk false n5 (1+(szU x)) n6 (qAs (fun _=>(UInt8.ofNat (szU x))) 1 (smT x))))) (@rfl (List (Option Blk)) [(gsE u8C [u8 0] 1 (Grw.mk false n5 (1+(szU x)) n6 (qAs (fun _=>(UInt8.ofNat (szU x))) 1 (smT x))))])))))))))))))))))
theorem jBL {F:Blk→Prop} (x:UInt64):qAb F TP 29 [u64 x] [] 2 (fun ns=>gsV (Grw.mk false (ns.getD 0 0) (smN x) (ns.getD 1 0) (smB x))) (fun ns=>[gsE u8C [u8 0] 1 (Grw.mk false (ns.getD 0 0) (smN x) (ns.getD 1 0) (smB x))]):=by
 have h:=qYv (F:=F) x
 simp only[qZA,qYh] at h
 exact h
theorem qMF {F:Blk→Prop} (x:UInt64):qAt F TP 29 [u64 x] [] 2 (fun ns=>.slice (some ⟨ns.getD 0 0,0,none⟩) (smN x) (smN x+ns.getD 1 0)) (fun ns=>[some ⟨ns.getD 0 0,true,0,spr (smN x+ns.getD 1 0) (smN x) (fun k=>u8 (smB x k)) (u8 0)⟩]):=by
 have h:=jBL (F:=F) x
 simp only[qJE] at h
 exact qAb.toF (bs:=[]) h
theorem qVP (q:BytL) (hq:OkB q) (hl:q.wn≤100000):qAt (qA2 q) TP 30 [(Value.slice q.wa q.wn q.wc)] [] 2 (fun(ns:List Nat)=>(Value.slice (some ⟨(ns.getD 0 0),0,none⟩) (smN (UInt64.ofNat q.wn)+q.wn) (smN (UInt64.ofNat q.wn)+q.wn+(ns.getD 1 0)))) (fun(ns:List Nat)=>[some ⟨(ns.getD 0 0),true,0,(spr (smN (UInt64.ofNat q.wn)+q.wn+(ns.getD 1 0)) (smN (UInt64.ofNat q.wn)+q.wn) (fun k=>u8 (qAs (smB (UInt64.ofNat q.wn)) (smN (UInt64.ofNat q.wn)) q.wf k)) (u8 0))⟩]):=
 qAm (F:=(qA2 q)) mix Tryd.func30 rfl rfl 400 (.reg (rg [.g]) (.regn (rg [.g,(.as (nat q.wn)),(.as (u64 (uO q.wn))),(.callF [] 2 1 (fun ns=>vS (some ⟨(g0 ns),0,none⟩) (smN (uO q.wn)) (smN (uO q.wn)+(g1 ns))) (fun ns=>[some ⟨(g0 ns),true,0,(spr (smN (uO q.wn)+(g1 ns)) (smN (uO q.wn)) (fun k=>u8 (smB (uO q.wn) k)) (u8 0))⟩])),.g,(.othF [(0,false)] 2 0 (fun ns=>vS (some ⟨(g0 ns),0,none⟩) (qXX q) (smN (uO q.wn)+q.wn+(g1 ns))) (fun ns=>[some ⟨(g0 ns),true,0,(spr (smN (uO q.wn)+q.wn+(g1 ns)) (qXX q) (fun k=>u8 (qAs (smB (uO q.wn)) (smN (uO q.wn)) q.wf k)) (u8 0))⟩])),.g]) (more (fun n1=>more (fun n2=>more (fun n3=>more (fun n4=>fun _=>.done))))))) [] [0] rfl
  (have f1:smN (uO q.wn)≤9:=(qXA _);Eq.mp (by kernel_rfl) (aI kV1 (fun(n1 n2 n3 n4:Nat)=>aI (sk (aI (aT (@qAw TP 23 5 (.tmp 3) (by kernel_rfl) q.wa q.wn q.wc)) (aI (aT (@qBz TP 3 30 (.tmp 4) (by kernel_rfl) (by kernel_rfl) q.wn)) (aI (aT (qMF (F:=(qA2 q)) (uO q.wn))) (sk (aI (aT (qJt (P:=TP) (t:=23) (ty:=23) (e:=5) (by kernel_rfl) qIu n1 (smN (uO q.wn)) n2 (smB (uO q.wn)) q hq (fun z hz=>hz) (show(smN (uO q.wn)+q.wn)*1≤140737488355328∧smN (uO q.wn)+q.wn≤9223372036854775807 from by have:=qFY  (uO q.wn);omega))) kV1)))))) (aT (eX (fun(ns:List Nat)=>ns.length=2∧((vS (some ⟨n3,0,none⟩) (qXX q) (smN (uO q.wn)+q.wn+n4)):Value)=(fun(ns:List Nat)=>(vS (some ⟨(g0 ns),0,none⟩) (qXX q) (smN (uO q.wn)+q.wn+(g1 ns)))) ns∧([some ⟨n3,true,0,(spr (smN (uO q.wn)+q.wn+n4) (qXX q) (fun k=>u8 (qAs (smB (uO q.wn)) (smN (uO q.wn)) q.wf k)) (u8 0))⟩]:List (Option Blk))=(fun(ns:List Nat)=>[some ⟨(g0 ns),true,0,(spr (smN (uO q.wn)+q.wn+(g1 ns)) (qXX q) (fun k=>u8 (qAs (smB (uO q.wn)) (smN (uO q.wn)) q.wf k)) (u8 0))⟩]) ns) [n3,n4] (aI (@rfl Nat 2) (aI (@rfl Value (vS (some ⟨n3,0,none⟩) (qXX q) (smN (uO q.wn)+q.wn+n4))) (@rfl (List (Option Blk)) [some ⟨n3,true,0,(spr (smN (uO q.wn)+q.wn+n4) (qXX q) (fun k=>u8 (qAs (smB (uO q.wn)) (smN (uO q.wn)) q.wf k)) (u8 0))⟩]))))))))
end Go.Proofs.YtmdpendnbkajdaaDoor
end
