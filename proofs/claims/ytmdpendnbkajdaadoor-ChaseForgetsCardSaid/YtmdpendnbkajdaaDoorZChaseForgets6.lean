/-
  Many in one: EngR, EngS.
-/
import Derived.Test.YtmdpendnbkajdaaDoorZChaseForgets5
import Derived.ArgAppend
import Derived.Laws.AppendOwn
set_option linter.unusedVariables false
set_option linter.unusedSimpArgs false
set_option maxRecDepth 100000
set_option maxHeartbeats 1000000
section
namespace Go.Eng
theorem qIB {m:Nat→Option Blk} {w:World} (hm:∀p b,m p=some b→qAl b w) (ha:qCs m) {p:Nat} {b:Blk} (hp:m p=some b) (ho:b.own=true)
  {o0:Nat} {cs:List Value} {c:qAI} (hnm:c.isMap=false) (hbm:b.cont.isMap=false) (g1:∀k,k<cs.length→∃v,b.cont.get (o0+k)=some v) (g2:∀k,c.get k=if o0≤k∧k<o0+cs.length then cs[k-o0]?else b.cont.get k):
  qCL m w (qAD m [(p,some {b with cont:=c})]) (w.setCells b.name (b.base+o0) cs):=by
 obtain⟨r1,r2,r3⟩:=qF2 b.name cs (b.base+o0) w
 have hcm:=hnm
 have hk:∀k,Blk.has {b with cont:=c} k↔b.has k:=fun k=>(qBk hcm).trans (qBk hbm).symm
 have hb:=hm p b hp
 have happ:∀q,qAD m [(p,some {b with cont:=c})] q=if p=q then some {b with cont:=c} else m q:=fun q=>by
  simp only[qAD,qAq,qJS]
  split<;>rename_i h<;>split at h<;>simp_all
 have hcell:∀o v,c.get o=some v→(w.setCells b.name (b.base+o0) cs).cell? ⟨b.name,b.base+o,none⟩=some v:=fun o v hv=>by
  rw[g2] at hv
  by_cases hin:o0≤o∧o<o0+cs.length
  ·rw[if_pos hin] at hv
   have h1:=World.cell?_setCells_in b.name cs (b.base+o0) w (fun j hj=>by
    obtain⟨u,hu⟩:=g1 j hj
    rw[Nat.add_assoc,hb.cell _ u hu];rfl) (o-o0) (by omega)
   rw[show b.base+o=b.base+o0+(o-o0) by omega,h1,←List.getElem?_eq_getElem]
   exact hv
  ·rw[if_neg hin] at hv
   rw[qDa _ _ _ _ _ (by omega)]
   exact hb.cell o v hv
 have hfree:∀o v,c.get o=some v→(w.setCells b.name (b.base+o0) cs).frozen? ⟨b.name,b.base+o,none⟩=false:=fun o v hv=>by
  rw[World.frozen?_setCells]
  rw[g2] at hv
  by_cases hin:o0≤o∧o<o0+cs.length
  ·obtain⟨u,hu⟩:=g1 (o-o0) (by omega)
   rw[show o0+(o-o0)=o by omega] at hu
   exact hb.free ho o u hu
  ·rw[if_neg hin] at hv
   exact hb.free ho o v hv
 refine⟨fun q d hq=>?_,fun q r d e hqr hd he hown=>?_,⟨r1,r2,r3,Nat.le_of_eq (qBX _ _ _ _).symm,fun k _ hn=>qCN _ _ _ _ _ (fun e=>hn ⟨p,b,hp,ho,(qBk hbm).2 e.symm⟩),fun k hdk=>?_,fun q d hq hown=>?_⟩⟩
 ·rw[happ] at hq
  split at hq
  ·injection hq with hq;subst hq
   exact⟨by rw[qBX];exact hb.lt,hcell,fun _=>hfree,qC9 hnm⟩
  ·rename_i hpq
   exact(hm q d hq).of_heap (by rw[qBX];exact Nat.le_refl _) fun k hdk=>qCN _ _ _ _ _ (fun e=>ha p q b d hpq hp hq ho k ((qBk hbm).2 e.symm) hdk)
 ·rw[happ] at hd he
  split at hd<;>split at he
  ·rename_i h1 h2;exact absurd (h1.symm.trans h2) hqr
  ·rename_i h1 h2
   injection hd with hd;subst hd;subst h1
   exact fun k k1 k2=>ha p r b e h2 hp he ho k ((hk k).1 k1) k2
  ·rename_i h1 h2
   injection he with he;subst he;subst h2
   exact fun k k1 k2=>ha q p d b (Ne.symm h1) hd hp hown k k1 ((hk k).1 k2)
  ·exact ha q r d e hqr hd he hown
 ·obtain⟨q,d,hq,hown,hdk⟩:=hdk
  rw[happ] at hq
  split at hq
  ·injection hq with hq;subst hq
   exact .inl ⟨p,b,hp,ho,(hk k).1 hdk⟩
  ·exact .inl ⟨q,d,hq,hown,hdk⟩
 ·rw[happ] at hq
  split at hq
  ·injection hq with hq;subst hq
   rw[ho] at hown;cases hown
  ·exact hq
theorem qAl.recont {b:Blk} {w:World} (h:qAl b w) {c:qAI} (hnm:c.isMap=false) (hc:∀o v,c.get o=some v→b.cont.get o=some v):qAl {b with cont:=c} w:=
 ⟨h.lt,fun o v ho=>h.cell o v (hc o v ho),fun hb o v ho=>h.free hb o v (hc o v ho),qC9 hnm⟩
def spr (c len:Nat) (g:Nat→Value) (z:Value):qAI:=qAd c fun k=>if k<len then g k else z
def qMV (g:Nat→Value) (len:Nat) (h:Nat→Value):Nat→Value:=fun j=>if j<len then g j else h (j-len)
theorem qAL {n:Nat} {g:Nat→Value} {o:Nat} (ho:o<n):(qAd n g).get o=some (g o):=by
 simp[qAd,qAI.get,Nat.mod_one,ho]
theorem qA3 {n:Nat} {g:Nat→Value} {o:Nat} (ho:¬o<n):(qAd n g).get o=none:=by
 simp[qAd,qAI.get,ho]
def qB2 (t ty:TypeId) (x y:Value):Sem Next:=do pure (.value (←Builtin.append_ #[t,t] ty #[x,y]))
theorem qAA {P:Program} {s:Sem Value} {v:Value} {w w':World} (h:s.run P w=.ok v w'):(s >>= fun v=>(pure (Next.value v):Sem Next)).run P w=.ok (Next.value v) w':=by
 rw[Sem.run_bind,h];rfl
theorem qId (z:Value) (m:Nat):(Builtin.zeroCells #[z] m).toList=List.replicate m z:=by
 apply List.ext_getElem?
 intro k
 by_cases hk:k<m
 ·simp[Builtin.zeroCells,hk,Nat.mod_one]
 ·simp[Builtin.zeroCells,hk]
theorem qBY {n:Nat} {h:Nat→Value} {j:Nat} {v:Value} (hj:((List.range n).map h)[j]?=some v):j<n∧v=h j:=by
 rw[List.getElem?_map] at hj
 by_cases hn:j<n
 ·rw[List.getElem?_range hn] at hj
  simp at hj
  exact⟨hn,hj.symm⟩
 ·rw[List.getElem?_eq_none (by simp;omega)] at hj
  simp at hj
section
variable {P:Program} {t ty e:TypeId} {i:TypeInfo} {z:Value}
theorem qKg (ht:P.underlying t=some (.slice e)) (hi:P.info? e=some i) (hz:i.zero=some z) (hsz:i.size=1) (hzc:z.cells=#[z])
  {b len r k bo os n cc:Nat} {g h:Nat→Value} {S:qAI} (hS:∀j,j<n→S.get (os+j)=some (h j)) (h1:∀j,j<n→(h j).oneCell'=true)
  (hb:(len+n)*i.bytes≤140737488355328) (hb2:len+n≤9223372036854775807):
  qAz P (qB2 t ty (.slice (some ⟨b,0,none⟩) len (len+r)) (.slice (some ⟨k,bo+os,none⟩) n cc)) [⟨b,true,0,spr (len+r) len g z⟩,⟨k,false,bo,S⟩] 2
   (fun ns=>.slice (some ⟨ns.getD 0 0,0,none⟩) (len+n) (len+n+ns.getD 1 0))
   (fun ns=>[some ⟨ns.getD 0 0,true,0,spr (len+n+ns.getD 1 0) (len+n) (qMV g len h) z⟩,some ⟨k,false,bo,S⟩]):=by
 intro w hall ha
 have hA:qAl ⟨b,true,0,spr (len+r) len g z⟩ w:=hall _ (by simp)
 have hK:qAl ⟨k,false,bo,S⟩ w:=hall _ (by simp)
 have hnews:∀j u,((List.range n).map h)[j]?=some u→w.cell? ((⟨k,bo+os,none⟩:Addr).add j)=some u:=fun j u hj=>by
  obtain⟨hjn,rfl⟩:=qBY hj
  rw[qBs,Nat.add_assoc]
  exact hK.cell _ _ (hS j hjn)
 have hone:∀u∈(List.range n).map h,u.oneCell'=true:=fun u hu=>by
  obtain⟨j,hj,rfl⟩:=List.mem_map.1 hu
  exact h1 j (List.mem_range.1 hj)
 have hm:∀p c,lM [some ⟨b,true,0,spr (len+r) len g z⟩,some ⟨k,false,bo,S⟩] p=some c→qAl c w:=fun p c hc=>hall c (List.mem_of_getElem? (qAW (l:=[⟨b,true,0,spr (len+r) len g z⟩,⟨k,false,bo,S⟩]).1 hc))
 by_cases hr:n≤r
 ·
  have hget:∀j,j<n→(spr (len+r) len g z).get (len+j)=some z:=fun j hj=>by
   rw[spr,qAL (by omega),if_neg (by omega)]
  have hrun:=run_append_room_cells (P:=P) w t ty e i ht hi b 0 len (len+r) ⟨k,bo+os,none⟩ n cc ((List.range n).map h) (by simp[hsz]) hnews hone (by omega)
   (fun j hj=>by
    have hj':j<n:=by simpa using hj
    have:=hA.cell _ _ (hget j hj')
    rw[show 0+len*i.size+j=0+(len+j) by rw[hsz];omega,this];rfl)
   (fun j hj=>by
    have hj':j<n:=by simpa using hj
    have:=hA.free rfl _ _ (hget j hj')
    rw[show 0+len*i.size+j=0+(len+j) by rw[hsz];omega];exact this)
  have hrun2:(Builtin.append_ #[t,t] ty #[.slice (some ⟨b,0,none⟩) len (len+r),.slice (some ⟨k,bo+os,none⟩) n cc]).run P w=.ok (.slice (some ⟨b,0,none⟩) (len+n) (len+n+(r-n))) (w.setCells b (0+len*i.size) ((List.range n).map h)):=by
   rw[show len+n+(r-n)=len+r by omega];exact hrun
  refine⟨[b,r-n],_,rfl,.inl (qAA hrun2),?_⟩
  have hp:=qIB (m:=lM [some ⟨b,true,0,spr (len+r) len g z⟩,some ⟨k,false,bo,S⟩]) (w:=w) (p:=0) (b:=⟨b,true,0,spr (len+r) len g z⟩) (o0:=len) (cs:=(List.range n).map h)
   (c:=spr (len+r) (len+n) (qMV g len h) z) hm ha rfl rfl rfl rfl (fun j hj=>⟨z,hget j (by simpa using hj)⟩) (fun j=>by
    have hlen:((List.range n).map h).length=n:=by simp
    rw[hlen]
    by_cases hj:j<len+r
    ·rw[spr,spr,qAL hj,qAL hj]
     by_cases h2:j<len
     ·rw[if_neg (show¬(len≤j∧j<len+n) by omega),if_pos h2,if_pos (show j<len+n by omega),qMV,if_pos h2]
     ·by_cases h3:j<len+n
      ·rw[if_pos (show len≤j∧j<len+n by omega),if_pos h3,qMV,if_neg h2,List.getElem?_map,List.getElem?_range (by omega)];rfl
      ·rw[if_neg (show¬(len≤j∧j<len+n) by omega),if_neg h3,if_neg h2]
    ·rw[spr,spr,qA3 hj,qA3 hj,if_neg (show¬(len≤j∧j<len+n) by omega)])
  rw[qDz] at hp
  have e1:len+n+(r-n)=len+r:=by omega
  simpa[hsz,e1] using hp
 ·
  have hg:len+r<len+n:=by omega
  have hrun:=run_append_grow (P:=P) w t ty e i z ht hi hz ⟨b,0,none⟩ len (len+r) ((List.range len).map g) (by simp[hsz])
   (fun j v hj=>by
    obtain⟨hjn,rfl⟩:=qBY hj
    rw[qBs,Nat.zero_add]
    have:=hA.cell j (g j) (by rw[spr,qAL (by omega),if_pos hjn])
    rw[Nat.zero_add] at this;exact this)
   ⟨k,bo+os,none⟩ n cc ((List.range n).map h) (by simp[hsz]) hnews hg (by omega) (growslice_fits hg hb)
  have hge:=grownCap_ge w (len+n) (len+r) e
  obtain⟨q,hq⟩:∃q,grownCap w (len+n) (len+r) e=len+n+q:=⟨_,(Nat.add_sub_cancel' hge).symm⟩
  rw[hq] at hrun
  refine⟨[w.heap.size,q],_,rfl,.inl (qAA hrun),?_⟩
  have hp0:=qCL.drew hm ha
  have hp:=hp0.trans (qF4 hp0.holds hp0.apart 0 (((List.range len).map g).toArray++((List.range n).map h).toArray++Builtin.zeroCells z.cells (len+n+q-(len+n))) e)
  rw[show w.drew.heap.size=w.heap.size from rfl,qDz] at hp
  have hc:∀o v,(spr (len+n+q) (len+n) (qMV g len h) z).get o=some v→
    (qAI.lit (((List.range len).map g).toArray++((List.range n).map h).toArray++Builtin.zeroCells z.cells (len+n+q-(len+n))).toList).get o=some v:=fun o v ho=>by
   rw[hzc,show len+n+q-(len+n)=q by omega]
   simp only[qAI.get,Array.toList_append,List.append_assoc,qId]
   by_cases h0:o<len+n+q
   ·rw[spr,qAL h0] at ho
    by_cases h2:o<len
    ·rw[if_pos (by omega),qMV,if_pos h2] at ho
     rw[List.getElem?_append_left (by simp;exact h2),List.getElem?_map,List.getElem?_range h2];exact ho
    ·rw[List.getElem?_append_right (by simp;omega)]
     by_cases h3:o<len+n
     ·rw[if_pos h3,qMV,if_neg h2] at ho
      rw[List.getElem?_append_left (by simp;omega),List.getElem?_map]
      simp only[List.length_map,List.length_range]
      rw[List.getElem?_range (by omega)];exact ho
     ·rw[if_neg h3] at ho
      rw[List.getElem?_append_right (by simp;omega),List.getElem?_replicate,if_pos (by simp;omega)];exact ho
   ·rw[spr,qA3 h0] at ho;cases ho
  have hN:=(hp.holds 0 _ rfl).recont rfl hc
  refine⟨fun p c hpc=>?_,fun p p' c d hpp hc1 hd ho=>?_,⟨hp.adv.os,hp.adv.output,hp.adv.tape,hp.adv.size,hp.adv.heap,fun j hj=>?_,fun p c hpc ho=>?_⟩⟩
  ·rcases p with _ | _ |p
   ·injection hpc with hpc;subst hpc;exact hN
   ·injection hpc with hpc;subst hpc;exact hp.holds 1 _ rfl
   ·simp[lM] at hpc
  ·rcases p with _ | _ |p
   ·injection hc1 with hc1;subst hc1
    rcases p' with _ | _ |p'
    ·exact absurd rfl hpp
    ·injection hd with hd;subst hd
     have h01:=hp.apart 0 1 _ _ (by omega) rfl rfl rfl
     exact h01
    ·simp[lM] at hd
   ·injection hc1 with hc1;subst hc1;cases ho
   ·simp[lM] at hc1
  ·obtain⟨p,c,hpc,ho,hjk⟩:=hj
   rcases p with _ | _ |p
   ·injection hpc with hpc;subst hpc
    exact .inr (Nat.le_of_eq hjk)
   ·injection hpc with hpc;subst hpc;cases ho
   ·simp[lM] at hpc
  ·rcases p with _ | _ |p
   ·injection hpc with hpc;subst hpc;cases ho
   ·exact hpc
   ·simp[lM] at hpc
theorem qSK {x:Blk} {w w':World} (hx:qAl x w) (hro:x.own=false) {N:Blk} (hn:N.own=true) (hname:∀k,N.has k→w.heap.size=k) (hN:qAl N w') (hos:w'.os=w.os) (hout:w'.output=w.output) (htape:w'.tape=w.tape)
  (hsz:w.heap.size≤w'.heap.size) (hheap:∀j,j<w.heap.size→w'.heap[j]?=w.heap[j]?):qCL (lM [some x]) w (lM [some x,some N]) w':=by
 refine⟨fun p c hpc=>?_,fun p p' c d hpp hc1 hd ho=>?_,⟨hos,hout,htape,hsz,fun j hj _=>hheap j hj,fun j hj=>?_,fun p c hpc ho=>?_⟩⟩
 ·rcases p with _ | _ |p
  ·injection hpc with hpc;subst hpc;exact hx.of_heap hsz fun k hk=>hheap _ (hx.has_lt hk)
  ·injection hpc with hpc;subst hpc;exact hN
  ·simp[lM] at hpc
 ·rcases p with _ | _ |p
  ·injection hc1 with hc1;subst hc1;rw[hro] at ho;cases ho
  ·injection hc1 with hc1;subst hc1
   rcases p' with _ | _ |p'
   ·injection hd with hd;subst hd
    intro k k1 k2
    have:=hx.has_lt k2
    have:=hname k k1
    omega
   ·exact absurd rfl hpp
   ·simp[lM] at hd
  ·simp[lM] at hc1
 ·obtain⟨p,c,hpc,ho,hjk⟩:=hj
  rcases p with _ | _ |p
  ·injection hpc with hpc;subst hpc;rw[hro] at ho;cases ho
  ·injection hpc with hpc;subst hpc;have:=hname j hjk;exact .inr (by omega)
  ·simp[lM] at hpc
 ·rcases p with _ | _ |p
  ·exact hpc
  ·injection hpc with hpc;subst hpc;rw[hn] at ho;cases ho
  ·simp[lM] at hpc
theorem qIl {s:Sem Next} {cs:Array Value} {len cap:Nat} (hs:∀w:World,s.run P w=.ok (.value (.slice (some ⟨w.heap.size,0,none⟩) len cap)) (w.alloc (.cells cs e))):
  qAz P s [] 1 (fun ns=>.slice (some ⟨ns.getD 0 0,0,none⟩) len cap) (fun ns=>[some ⟨ns.getD 0 0,true,0,.lit cs.toList⟩]):=by
 intro w hall ha
 have hp:=qF4 (m:=fun _=>none) (w:=w) (fun p b h=>by cases h) (fun p q b c _ h=>by cases h) 0 cs e
 refine⟨[w.heap.size],_,rfl,.inl (hs w),?_⟩
 have e0:qAD (fun _=>none) [(0,some ⟨w.heap.size,true,0,.lit cs.toList⟩)]=lM [some ⟨w.heap.size,true,0,.lit cs.toList⟩]:=by
  funext p;rcases p with _ |p<;>rfl
 have e1:(fun _=>none:Nat→Option Blk)=lM (([]:List Blk).map some):=by funext p;simp[lM]
 rw[e0,e1] at hp
 exact hp
def qJN (t:TypeId) (len:Nat) (parts:Array (Nat×Value)):Sem Next:=do pure (.value (←Instr.buildSlice t len parts))
theorem qRk (ht:P.underlying t=some (.slice e)) (hi:P.info? e=some i) (hz:i.zero=some z) {len:Nat} {parts:Array (Nat×Value)} {cs:Array Value}
  (h0:len*i.size≠0) (hb:len*i.size≤16777216) (hcs:qMu z i.size len parts=some cs):
  qAz P (qJN t len parts) [] 1 (fun ns=>.slice (some ⟨ns.getD 0 0,0,none⟩) len len) (fun ns=>[some ⟨ns.getD 0 0,true,0,.lit cs.toList⟩]):=qIl (e:=e) fun w=>by
 refine qAA ?_
 have hb':¬(16777216<len*i.size):=by omega
 have hcs':=hcs
 unfold qMu at hcs'
 simp[Instr.buildSlice,run_underlying ht,sizeOf,typeInfo,hi,zeroValue,hz,h0,hb',hcs',newRow]
theorem qAz.recont {s:Sem Next} {v:List Nat→Value} {C C':List Nat→qAI} (h:qAz P s [] 1 v (fun ns=>[some ⟨ns.getD 0 0,true,0,C ns⟩])) (hnm:∀ns,(C' ns).isMap=false) (hc:∀ns o v,(C' ns).get o=some v→(C ns).get o=some v) (hbm:∀ns,(C ns).isMap=false:=by intros;rfl):
  qAz P s [] 1 v (fun ns=>[some ⟨ns.getD 0 0,true,0,C' ns⟩]):=by
 intro w hall ha
 obtain⟨ns,w',h1,h2,hp⟩:=h w hall ha
 refine⟨ns,w',h1,h2,⟨fun p c hpc=>?_,fun p p' c d hpp hc1 hd ho=>?_,⟨hp.adv.os,hp.adv.output,hp.adv.tape,hp.adv.size,hp.adv.heap,fun j hj=>?_,fun p c hpc ho=>?_⟩⟩⟩
 ·rcases p with _ |p
  ·injection hpc with hpc;subst hpc;exact(hp.holds 0 _ rfl).recont (hnm ns) (hc ns)
  ·simp[lM] at hpc
 ·rcases p with _ |p
  ·rcases p' with _ |p'
   ·exact absurd rfl hpp
   ·simp[lM] at hd
  ·simp[lM] at hc1
 ·obtain⟨p,c,hpc,ho,hjk⟩:=hj
  rcases p with _ |p
  ·injection hpc with hpc;subst hpc
   exact hp.adv.names _ ⟨0,_,rfl,rfl,(qBk (hbm ns)).2 ((qBk (b:=⟨ns.getD 0 0,true,0,C' ns⟩) (hnm ns)).1 hjk)⟩
  ·simp[lM] at hpc
 ·rcases p with _ |p
  ·injection hpc with hpc;subst hpc;cases ho
  ·simp[lM] at hpc
def qKu (t:TypeId) (len cap:Value):Sem Next:=do pure (.value (←Instr.makeSlice t len cap))
theorem qTe (ht:P.underlying t=some (.slice e)) (hi:P.info? e=some i) (hz:i.zero=some z) (hsz:i.size=1) (hzc:z.cells=#[z]) {n:Nat} (hb:(i.bytes:Int)*n≤281474976710656) (hb2:n≤9223372036854775807):
  qAz P (qKu t (nat n) (nat n)) [] 1 (fun ns=>.slice (some ⟨ns.getD 0 0,0,none⟩) n n) (fun ns=>[some ⟨ns.getD 0 0,true,0,qAd n fun _=>z⟩]):=by
 refine(qIl (P:=P) (e:=e) (s:=qKu t (nat n) (nat n)) (cs:=madeCells z.cells (n*i.size)) (len:=n) (cap:=n) fun w=>?_).recont (fun _=>rfl) fun ns o v ho=>?_
 ·refine qAA ?_
  have:=run_make (P:=P) w t e i z ht hi hz .i64 .i64 (n:Int) (n:Int) (by omega) (by omega) hb (by omega)
  simpa[nat] using this
 ·by_cases hon:o<n
  ·rw[qAL hon] at ho
   rw[hzc,hsz]
   simp[qAI.get,madeCells,hon,Nat.mod_one]
   simpa using ho
  ·rw[qA3 hon] at ho;cases ho
theorem qAw {x:Operand} (ht:P.underlying t=some (.slice e)) (a:Option Addr) (n c:Nat):qB0 P (.call {callee:=.builtin .len,args:=#[x],argTypes:=#[t]}) [.slice a n c] (nat n):=by
 intro ρ o ho hv
 rw[ho] at hv
 have hv':ρ x=.slice a n c:=by simpa[Op.operands,Call.operands] using hv
 unfold execOp
 rw[ho]
 show qAa P ((Builtin.len_ #[t] o.type (#[x].map ρ)) >>= fun v=>(pure (Next.value v):Sem Next))=_
 have e1:(#[x].map ρ:Array Value)=#[.slice a n c]:=by simp[hv']
 have e2:qAa P (Builtin.len_ #[t] o.type #[.slice a n c])=some (nat n):=by
  show qAa P (underlying t >>= fun d=>_)=_
  rw[qAi,qAk ht]
  rfl
 rw[e1,qAi,e2]
 rfl
end
end Go.Eng
namespace Go.Eng
def qRZ (P:Program) (e:TypeId) (z:Value) (B:Nat):Prop:=∃i,P.info? e=some i∧i.zero=some z∧i.size=1∧i.bytes=B∧z.cells=#[z]
def jCs (P:Program) (e:TypeId):Option (Value×Nat×Nat):=match P.info? e with
 |some i=>match i.zero with
  |some z=>some (z,i.size,i.bytes)
  |none=>none
 |none=>none
theorem qOq {P:Program} {e:TypeId} {z:Value} {B:Nat} (h:jCs P e=some (z,1,B)) (hz:z.cells=#[z]):qRZ P e z B:=by
 unfold jCs at h
 split at h
 ·rename_i i hi
  split at h
  ·rename_i z' hz'
   injection h with h
   injection h with h1 h2
   injection h2 with h2 h3
   subst h1
   exact⟨i,hi,hz',h2,h3,hz⟩
  ·cases h
 ·cases h
def qAs {α:Type} (g:Nat→α) (len:Nat) (h:Nat→α):Nat→α:=fun j=>if j<len then g j else h (j-len)
theorem qXt {α:Type} (K:α→Value) (g h:Nat→α) (len:Nat):qMV (fun k=>K (g k)) len (fun k=>K (h k))=fun k=>K (qAs g len h k):=by
 funext k;unfold qMV qAs;split<;>rfl
theorem qEK (x:Value):∀j,j<1→(qAI.lit [x]).get (0+j)=some x:=fun j hj=>by
 have:j=0:=by omega
 subst this;rfl
theorem qQ5 {c len:Nat} {α:Type} {K:α→Value} {g g':Nat→α} {z:Value} (h:len≤c) (hg:∀k,k<len→g k=g' k):∀o v,(qAd len fun k=>K (g k)).get o=some v→(spr c len (fun k=>K (g' k)) z).get o=some v:=fun o v ho=>by
 by_cases hl:o<len
 ·rw[qAL hl,hg o hl] at ho
  rw[spr,qAL (by omega),if_pos hl];exact ho
 ·rw[qA3 hl] at ho;cases ho
section
variable {P:Program} {t ty e:TypeId}
theorem qB6 {B:Nat} {z:Value} (ht:P.underlying t=some (.slice e)) (h1:qRZ P e z B) (b len r k bo os n cc:Nat) {α:Type} (K:α→Value) (g h:Nat→α) (S:qAI) (hS:∀j,j<n→S.get (os+j)=some (K (h j)))
  (hK:∀a,(K a).oneCell'=true) (hb:(len+n)*B≤140737488355328∧len+n≤9223372036854775807):
  qAz P (qB2 t ty (.slice (some ⟨b,0,none⟩) len (len+r)) (.slice (some ⟨k,bo+os,none⟩) n cc)) [⟨b,true,0,spr (len+r) len (fun k=>K (g k)) z⟩,⟨k,false,bo,S⟩] 2
   (fun ns=>.slice (some ⟨ns.getD 0 0,0,none⟩) (len+n) (len+n+ns.getD 1 0))
   (fun ns=>[some ⟨ns.getD 0 0,true,0,spr (len+n+ns.getD 1 0) (len+n) (fun k=>K (qAs g len h k)) z⟩,some ⟨k,false,bo,S⟩]):=by
 obtain⟨i,hi,hz,hsz,hB,hzc⟩:=h1
 subst hB
 have:=qKg (P:=P) (t:=t) (ty:=ty) ht hi hz hsz hzc (b:=b) (len:=len) (r:=r) (k:=k) (bo:=bo) (os:=os) (n:=n) (cc:=cc) (g:=fun k=>K (g k)) (h:=fun k=>K (h k)) (S:=S) hS (fun j _=>hK _) hb.1 hb.2
 rw[qXt] at this
 exact this
theorem qZm {B:Nat} {z:Value} (ht:P.underlying t=some (.slice e)) (h1:qRZ P e z B) (n:Nat) (hb:(B:Int)*(n:Int)≤281474976710656∧n≤9223372036854775807):
  qAz P (qKu t (nat n) (nat n)) [] 1 (fun ns=>.slice (some ⟨ns.getD 0 0,0,none⟩) n n) (fun ns=>[some ⟨ns.getD 0 0,true,0,qAd n fun _=>z⟩]):=by
 obtain⟨i,hi,hz,hsz,hB,hzc⟩:=h1
 subst hB
 exact qTe ht hi hz hsz hzc hb.1 hb.2
theorem qA6 {B:Nat} {z:Value} (h1:qRZ P e z B) (len:Nat) (parts:Array (Nat×Value)) (cs:Array Value) (ht:P.underlying t=some (.slice e)) (h0:len≠0∧len≤16777216) (hcs:qMu z 1 len parts=some cs):
  qAz P (qJN t len parts) [] 1 (fun ns=>.slice (some ⟨ns.getD 0 0,0,none⟩) len len) (fun ns=>[some ⟨ns.getD 0 0,true,0,.lit cs.toList⟩]):=by
 obtain⟨i,hi,hz,hsz,hB,hzc⟩:=h1
 exact qRk ht hi hz (by rw[hsz];omega) (by rw[hsz];omega) (by rw[hsz];exact hcs)
end
end Go.Eng
namespace Go.Eng
def dkn:List Bool→List (Option Blk)→List (Option Blk)
 | _,[]=>[]
 |[],x::l=>x::l
 |true::r,_ ::l=>none::dkn r l
 |false::r,x::l=>x::dkn r l
theorem qHx:∀(fl:List Bool) (l:List (Option Blk)) (p:Nat) (b:Blk),lM (dkn fl l) p=some b→lM l p=some b
 |[],[],p,b,h=>h
 |true:: _,[],p,b,h=>h
 |false:: _,[],p,b,h=>h
 |[],x::l,p,b,h=>h
 |true::r,x::l,0,b,h=>by cases h
 |true::r,x::l,p+1,b,h=>qHx r l p b h
 |false::r,x::l,0,b,h=>h
 |false::r,x::l,p+1,b,h=>qHx r l p b h
theorem qCL.sub {m m' m'':Nat→Option Blk} {w w':World} (h:qCL m w m' w') (hs:∀p b,m'' p=some b→m' p=some b):qCL m w m'' w':=
 ⟨fun p b hp=>h.holds p b (hs p b hp),fun p q b c hpq hb hc ho=>h.apart p q b c hpq (hs p b hb) (hs q c hc) ho,
  ⟨h.adv.os,h.adv.output,h.adv.tape,h.adv.size,h.adv.heap,fun k ⟨p,b,hp,ho,he⟩=>h.adv.names k ⟨p,b,hs p b hp,ho,he⟩,fun p b hp ho=>h.adv.ro p b (hs p b hp) ho⟩⟩
theorem qBp.dark {P:Program} {f:FuncId} {args:List Value} {bs:List Blk} {k:Nat} {v:List Nat→Value} {out:List Nat→List (Option Blk)} (fl:List Bool) (h:qBp P f args bs k v out):
  qBp P f args bs k v (fun ns=>dkn fl (out ns)):=fun w hb ha=>Calls.mono (h w hb ha) fun _ _ ⟨ns,h1,h2,h3⟩=>⟨ns,h1,h2,h3.sub (qHx fl (out ns))⟩
theorem qAz.dark {P:Program} {s:Sem Next} {bs:List Blk} {k:Nat} {v:List Nat→Value} {out:List Nat→List (Option Blk)} (fl:List Bool) (h:qAz P s bs k v out):
  qAz P s bs k v (fun ns=>dkn fl (out ns)):=fun w hb ha=>have⟨ns,w',h1,h2,h3⟩:=h w hb ha;⟨ns,w',h1,h2,h3.sub (qHx fl (out ns))⟩
def cf (sz:Nat) (g:Nat→List Value) (o:Nat):Value:=(g (o/sz)).getD (o%sz) undef
def qF8 (sz c len:Nat) (g:Nat→List Value) (zc:List Value):qAI:=.tab c sz fun k=>if k<len then g k else zc
section
variable {sz n len o:Nat} {E g h:Nat→List Value} {zc:List Value}
theorem qDX (ho:o<n*sz):o/sz<n:=Nat.div_lt_of_lt_mul (by rw[Nat.mul_comm];exact ho)
theorem qLN (hsz:0<sz) (ho:¬o<n*sz):¬o/sz<n:=fun h=>ho ((Nat.div_lt_iff_lt_mul hsz).1 h)
theorem qS3 (hsz:0<sz) (hE:∀k,k<n→(E k).length=sz) (ho:o<n*sz):(qAI.tab n sz E).get o=some (cf sz E o):=by
 have h2:o%sz<(E (o/sz)).length:=by rw[hE _ (qDX ho)];exact Nat.mod_lt _ hsz
 simp only[qAI.get,if_pos ho,cf]
 rw[List.getD_eq_getElem?_getD,List.getElem?_eq_getElem h2];rfl
theorem qJP (ho:¬o<n*sz):(qAI.tab n sz E).get o=none:=by
 simp only[qAI.get,if_neg ho]
theorem qNc (ho:o<len*sz):cf sz (fun k=>if k<len then g k else zc) o=cf sz g o:=by
 show(if o/sz<len then g (o/sz) else zc).getD _ _=_;rw[if_pos (qDX ho)];rfl
theorem qSZ (hsz:0<sz) (ho:¬o<len*sz):cf sz (fun k=>if k<len then g k else zc) o=zc.getD (o%sz) undef:=by
 show(if o/sz<len then g (o/sz) else zc).getD _ _=_;rw[if_neg (qLN hsz ho)]
theorem qN4 (ho:o<len*sz):cf sz (qAs g len h) o=cf sz g o:=by
 unfold cf qAs;rw[if_pos (qDX ho)]
theorem qNy (hsz:0<sz) (ho:¬o<len*sz):cf sz (qAs g len h) o=cf sz h (o-len*sz):=by
 unfold cf qAs
 rw[if_neg (qLN hsz ho),Nat.mul_comm len sz,Nat.sub_mul_div,Nat.sub_mul_mod]
 rw[Nat.mul_comm];omega
theorem qGY {c:Nat} (hsz:0<sz) (hg:∀k,(g k).length=sz) (hz:zc.length=sz) (ho:o<c*sz):(qF8 sz c len g zc).get o=some (if o<len*sz then cf sz g o else zc.getD (o%sz) undef):=by
 unfold qF8
 rw[qS3 hsz (fun k _=>by split<;>first|exact hg _ |exact hz) ho]
 congr 1
 split
 ·rename_i h;exact qNc h
 ·rename_i h;exact qSZ hsz h
theorem qJH {c:Nat} (ho:¬o<c*sz):(qF8 sz c len g zc).get o=none:=qJP ho
theorem qRC {c:Nat} (h:len≤c) (hg:∀k,k<len→g k=E k):∀o v,(qAI.tab len sz g).get o=some v→(qF8 sz c len E zc).get o=some v:=fun o v ho=>by
 by_cases hl:o<len*sz
 ·have h2:len*sz≤c*sz:=Nat.mul_le_mul_right _ h
  simp only[qF8,qAI.get,if_pos hl,if_pos (show o<c*sz by omega),if_pos (qDX hl)] at ho ⊢
  rw[←hg _ (qDX hl)];exact ho
 ·rw[qJP hl] at ho;cases ho
theorem qG6 {z:Array Value} (hz:z.toList=zc) (m k:Nat) (hk:k<m*zc.length):(Builtin.zeroCells z m).toList[k]?=some (zc.getD (k%zc.length) undef):=by
 subst hz
 have hz0:0<z.size:=by
  rcases Nat.eq_zero_or_pos z.size with h0|h0
  ·simp[h0] at hk
  ·exact h0
 have hk':k<m*z.size:=by simpa using hk
 have hm:k%z.size<z.size:=Nat.mod_lt _ hz0
 simp[Builtin.zeroCells,hk',hm]
end
section
variable {P:Program} {t ty e:TypeId} {i:TypeInfo} {z:Value} {sz:Nat} {zc:List Value}
theorem qM8 (ht:P.underlying t=some (.slice e)) (hi:P.info? e=some i) (hz:i.zero=some z) (hsz:i.size=sz) (hs0:0<sz) (hzc:z.cells.toList=zc) (hzl:zc.length=sz)
  {b len r k bo os n cc:Nat} {g h:Nat→List Value} {S:qAI} (hg:∀k,(g k).length=sz) (hh:∀k,(h k).length=sz) (hS:∀j,j<n*sz→S.get (os+j)=some (cf sz h j)) (h1:∀j,j<n*sz→(cf sz h j).oneCell'=true)
  (hb:(len+n)*i.bytes≤140737488355328) (hb2:len+n≤9223372036854775807):
  qAz P (qB2 t ty (.slice (some ⟨b,0,none⟩) len (len+r)) (.slice (some ⟨k,bo+os,none⟩) n cc)) [⟨b,true,0,qF8 sz (len+r) len g zc⟩,⟨k,false,bo,S⟩] 2
   (fun ns=>.slice (some ⟨ns.getD 0 0,0,none⟩) (len+n) (len+n+ns.getD 1 0))
   (fun ns=>[some ⟨ns.getD 0 0,true,0,qF8 sz (len+n+ns.getD 1 0) (len+n) (qAs g len h) zc⟩,some ⟨k,false,bo,S⟩]):=by
 intro w hall ha
 have hA:qAl ⟨b,true,0,qF8 sz (len+r) len g zc⟩ w:=hall _ (by simp)
 have hK:qAl ⟨k,false,bo,S⟩ w:=hall _ (by simp)
 have hcat:∀k,(qAs g len h k).length=sz:=fun k=>by unfold qAs;split<;>first|exact hg _ |exact hh _
 have hnews:∀j u,((List.range (n*sz)).map (cf sz h))[j]?=some u→w.cell? ((⟨k,bo+os,none⟩:Addr).add j)=some u:=fun j u hj=>by
  obtain⟨hjn,rfl⟩:=qBY hj
  rw[qBs,Nat.add_assoc]
  exact hK.cell _ _ (hS j hjn)
 have hone:∀u∈(List.range (n*sz)).map (cf sz h),u.oneCell'=true:=fun u hu=>by
  obtain⟨j,hj,rfl⟩:=List.mem_map.1 hu
  exact h1 j (List.mem_range.1 hj)
 have hm:∀p c,lM [some ⟨b,true,0,qF8 sz (len+r) len g zc⟩,some ⟨k,false,bo,S⟩] p=some c→qAl c w:=fun p c hc=>hall c (List.mem_of_getElem? (qAW (l:=[⟨b,true,0,qF8 sz (len+r) len g zc⟩,⟨k,false,bo,S⟩]).1 hc))
 have hadd:(len+n)*sz=len*sz+n*sz:=Nat.add_mul _ _ _
 by_cases hr:n≤r
 ·
  have hle:len*sz+n*sz≤(len+r)*sz:=by rw[←hadd];exact Nat.mul_le_mul_right _ (by omega)
  have hget:∀j,j<n*sz→∃u,(qF8 sz (len+r) len g zc).get (len*sz+j)=some u:=fun j hj=>⟨_,qGY hs0 hg hzl (by omega)⟩
  have hrun:=run_append_room_cells (P:=P) w t ty e i ht hi b 0 len (len+r) ⟨k,bo+os,none⟩ n cc ((List.range (n*sz)).map (cf sz h)) (by simp[hsz]) hnews hone (by omega)
   (fun j hj=>by
    obtain⟨u,hu⟩:=hget j (by simpa using hj)
    have:=hA.cell _ _ hu
    rw[show 0+len*i.size+j=0+(len*sz+j) by rw[hsz];omega,this];rfl)
   (fun j hj=>by
    obtain⟨u,hu⟩:=hget j (by simpa using hj)
    have:=hA.free rfl _ _ hu
    rw[show 0+len*i.size+j=0+(len*sz+j) by rw[hsz];omega];exact this)
  have hrun2:(Builtin.append_ #[t,t] ty #[.slice (some ⟨b,0,none⟩) len (len+r),.slice (some ⟨k,bo+os,none⟩) n cc]).run P w=.ok (.slice (some ⟨b,0,none⟩) (len+n) (len+n+(r-n))) (w.setCells b (0+len*i.size) ((List.range (n*sz)).map (cf sz h))):=by
   rw[show len+n+(r-n)=len+r by omega];exact hrun
  refine⟨[b,r-n],_,rfl,.inl (qAA hrun2),?_⟩
  have hp:=qIB (m:=lM [some ⟨b,true,0,qF8 sz (len+r) len g zc⟩,some ⟨k,false,bo,S⟩]) (w:=w) (p:=0) (b:=⟨b,true,0,qF8 sz (len+r) len g zc⟩) (o0:=len*sz) (cs:=(List.range (n*sz)).map (cf sz h))
   (c:=qF8 sz (len+r) (len+n) (qAs g len h) zc) hm ha rfl rfl rfl rfl (fun j hj=>hget j (by simpa using hj)) (fun j=>by
    have hlen:((List.range (n*sz)).map (cf sz h)).length=n*sz:=by simp
    rw[hlen]
    by_cases hj:j<(len+r)*sz
    ·rw[qGY hs0 hcat hzl hj,qGY hs0 hg hzl hj,hadd]
     by_cases h2:j<len*sz
     ·rw[if_neg (show¬(len*sz≤j∧j<len*sz+n*sz) by omega),if_pos h2,if_pos (show j<len*sz+n*sz by omega),qN4 h2]
     ·by_cases h3:j<len*sz+n*sz
      ·rw[if_pos (show len*sz≤j∧j<len*sz+n*sz by omega),if_pos h3,qNy hs0 h2,List.getElem?_map,List.getElem?_range (by omega)];rfl
      ·rw[if_neg (show¬(len*sz≤j∧j<len*sz+n*sz) by omega),if_neg h3,if_neg h2]
    ·rw[qJH hj,qJH hj,if_neg (show¬(len*sz≤j∧j<len*sz+n*sz) by omega)])
  rw[qDz] at hp
  have e1:len+n+(r-n)=len+r:=by omega
  simpa[hsz,e1] using hp
 ·
  have hgr:len+r<len+n:=by omega
  have hrun:=run_append_grow (P:=P) w t ty e i z ht hi hz ⟨b,0,none⟩ len (len+r) ((List.range (len*sz)).map (cf sz g)) (by simp[hsz])
   (fun j v hj=>by
    obtain⟨hjn,rfl⟩:=qBY hj
    rw[qBs,Nat.zero_add]
    have hle:len*sz≤(len+r)*sz:=Nat.mul_le_mul_right _ (by omega)
    have:=hA.cell j (cf sz g j) (by rw[qGY hs0 hg hzl (by omega),if_pos hjn])
    rw[Nat.zero_add] at this;exact this)
   ⟨k,bo+os,none⟩ n cc ((List.range (n*sz)).map (cf sz h)) (by simp[hsz]) hnews hgr (by omega) (growslice_fits hgr hb)
  have hge:=grownCap_ge w (len+n) (len+r) e
  obtain⟨q,hq⟩:∃q,grownCap w (len+n) (len+r) e=len+n+q:=⟨_,(Nat.add_sub_cancel' hge).symm⟩
  rw[hq] at hrun
  refine⟨[w.heap.size,q],_,rfl,.inl (qAA hrun),?_⟩
  have hp0:=qCL.drew hm ha
  have hp:=hp0.trans (qF4 hp0.holds hp0.apart 0 (((List.range (len*sz)).map (cf sz g)).toArray++((List.range (n*sz)).map (cf sz h)).toArray++Builtin.zeroCells z.cells (len+n+q-(len+n))) e)
  rw[show w.drew.heap.size=w.heap.size from rfl,qDz] at hp
  have hc:∀o v,(qF8 sz (len+n+q) (len+n) (qAs g len h) zc).get o=some v→
    (qAI.lit (((List.range (len*sz)).map (cf sz g)).toArray++((List.range (n*sz)).map (cf sz h)).toArray++Builtin.zeroCells z.cells (len+n+q-(len+n))).toList).get o=some v:=fun o v ho=>by
   rw[show len+n+q-(len+n)=q by omega]
   simp only[qAI.get,Array.toList_append,List.append_assoc]
   have hall3:(len+n+q)*sz=len*sz+n*sz+q*sz:=by rw[Nat.add_mul,Nat.add_mul]
   by_cases h0:o<(len+n+q)*sz
   ·rw[qGY hs0 hcat hzl h0,hadd] at ho
    by_cases h2:o<len*sz
    ·rw[if_pos (by omega),qN4 h2] at ho
     rw[List.getElem?_append_left (by simp;exact h2),List.getElem?_map,List.getElem?_range h2];exact ho
    ·rw[List.getElem?_append_right (by simp;omega)]
     by_cases h3:o<len*sz+n*sz
     ·rw[if_pos h3,qNy hs0 h2] at ho
      rw[List.getElem?_append_left (by simp;omega),List.getElem?_map]
      simp only[List.length_map,List.length_range]
      rw[List.getElem?_range (by omega)];exact ho
     ·rw[if_neg h3] at ho
      rw[List.getElem?_append_right (by simp;omega)]
      simp only[List.length_map,List.length_range]
      rw[qG6 hzc q _ (by rw[hzl];omega),←ho,hzl]
      rw[show o-len*sz-n*sz=o-sz*(len+n) by rw[Nat.mul_comm sz,hadd];omega,Nat.sub_mul_mod]
      rw[Nat.mul_comm,hadd];omega
   ·rw[qJH h0] at ho;cases ho
  have hN:=(hp.holds 0 _ rfl).recont rfl hc
  refine⟨fun p c hpc=>?_,fun p p' c d hpp hc1 hd ho=>?_,⟨hp.adv.os,hp.adv.output,hp.adv.tape,hp.adv.size,hp.adv.heap,fun j hj=>?_,fun p c hpc ho=>?_⟩⟩
  ·rcases p with _ | _ |p
   ·injection hpc with hpc;subst hpc;exact hN
   ·injection hpc with hpc;subst hpc;exact hp.holds 1 _ rfl
   ·simp[lM] at hpc
  ·rcases p with _ | _ |p
   ·injection hc1 with hc1;subst hc1
    rcases p' with _ | _ |p'
    ·exact absurd rfl hpp
    ·injection hd with hd;subst hd
     have h01:=hp.apart 0 1 _ _ (by omega) rfl rfl rfl
     exact h01
    ·simp[lM] at hd
   ·injection hc1 with hc1;subst hc1;cases ho
   ·simp[lM] at hc1
  ·obtain⟨p,c,hpc,ho,hjk⟩:=hj
   rcases p with _ | _ |p
   ·injection hpc with hpc;subst hpc
    exact .inr (Nat.le_of_eq hjk)
   ·injection hpc with hpc;subst hpc;cases ho
   ·simp[lM] at hpc
  ·rcases p with _ | _ |p
   ·injection hpc with hpc;subst hpc;cases ho
   ·exact hpc
   ·simp[lM] at hpc
theorem qJq (ht:P.underlying t=some (.slice e)) (hi:P.info? e=some i) (hz:i.zero=some z) (hsz:i.size=sz) (hs0:0<sz) (hzc:z.cells.toList=zc) (hzl:zc.length=sz)
  {k bo os n cc:Nat} {h:Nat→List Value} {S:qAI} (hh:∀k,(h k).length=sz) (hS:∀j,j<n*sz→S.get (os+j)=some (cf sz h j)) (hn0:0<n)
  (hb:n*i.bytes≤140737488355328) (hb2:n≤9223372036854775807):
  qAz P (qB2 t ty (.slice none 0 0) (.slice (some ⟨k,bo+os,none⟩) n cc)) [⟨k,false,bo,S⟩] 2
   (fun ns=>.slice (some ⟨ns.getD 0 0,0,none⟩) n (n+ns.getD 1 0))
   (fun ns=>[some ⟨k,false,bo,S⟩,some ⟨ns.getD 0 0,true,0,qF8 sz (n+ns.getD 1 0) n h zc⟩]):=by
 intro w hall ha
 have hK:qAl ⟨k,false,bo,S⟩ w:=hall _ (by simp)
 have hnews:∀j u,((List.range (n*sz)).map (cf sz h))[j]?=some u→w.cell? ((⟨k,bo+os,none⟩:Addr).add j)=some u:=fun j u hj=>by
  obtain⟨hjn,rfl⟩:=qBY hj
  rw[qBs,Nat.add_assoc]
  exact hK.cell _ _ (hS j hjn)
 have hrun:=run_append_nil (P:=P) w t ty e i z ht hi hz ⟨k,bo+os,none⟩ n cc ((List.range (n*sz)).map (cf sz h)) (by simp[hsz]) hnews hn0 (by omega) (by omega)
 have hge:=grownCap_ge w n 0 e
 obtain⟨q,hq⟩:∃q,grownCap w n 0 e=n+q:=⟨_,(Nat.add_sub_cancel' hge).symm⟩
 rw[hq] at hrun
 refine⟨[w.heap.size,q],_,rfl,.inl (qAA hrun),?_⟩
 have hp:=qF4 (m:=fun _=>none) (w:=w.drew) (fun p b h=>by cases h) (fun p q b c _ h=>by cases h) 0 (((List.range (n*sz)).map (cf sz h)).toArray++Builtin.zeroCells z.cells (n+q-n)) e
 have hN0:=hp.holds 0 ⟨w.heap.size,true,0,.lit (((List.range (n*sz)).map (cf sz h)).toArray++Builtin.zeroCells z.cells (n+q-n)).toList⟩ rfl
 have hc:∀o v,(qF8 sz (n+q) n h zc).get o=some v→(qAI.lit (((List.range (n*sz)).map (cf sz h)).toArray++Builtin.zeroCells z.cells (n+q-n)).toList).get o=some v:=fun o v ho=>by
  rw[show n+q-n=q by omega]
  simp only[qAI.get,Array.toList_append]
  have hall3:(n+q)*sz=n*sz+q*sz:=Nat.add_mul _ _ _
  by_cases h0:o<(n+q)*sz
  ·rw[qGY hs0 hh hzl h0] at ho
   by_cases h2:o<n*sz
   ·rw[if_pos h2] at ho
    rw[List.getElem?_append_left (by simp;exact h2),List.getElem?_map,List.getElem?_range h2];exact ho
   ·rw[if_neg h2] at ho
    rw[List.getElem?_append_right (by simp;omega)]
    simp only[List.length_map,List.length_range]
    rw[qG6 hzc q _ (by rw[hzl];omega),←ho,hzl]
    rw[Nat.mul_comm n sz,Nat.sub_mul_mod]
    rw[Nat.mul_comm];omega
  ·rw[qJH h0] at ho;cases ho
 exact qSK hK rfl rfl (fun _ h=>h) (hN0.recont rfl hc) rfl rfl rfl (by simp) (fun j hj=>by
  simp only[World.alloc]
  rw[Array.getElem?_push,if_neg (by show¬j=w.heap.size;omega)];rfl)
end
def qV4 (P:Program) (e:TypeId) (zc:List Value) (sz B:Nat):Prop:=∃i z,P.info? e=some i∧i.zero=some z∧i.size=sz∧i.bytes=B∧z.cells.toList=zc∧zc.length=sz∧0<sz
theorem qPb {P:Program} {e:TypeId} {z:Value} {zc:List Value} {sz B:Nat} (h:jCs P e=some (z,sz,B)) (hz:z.cells.toList=zc) (hl:zc.length=sz) (h0:0<sz):qV4 P e zc sz B:=by
 unfold jCs at h
 split at h
 ·rename_i i hi
  split at h
  ·rename_i z' hz'
   injection h with h
   injection h with h1 h2
   injection h2 with h2 h3
   subst h1
   exact⟨i,z',hi,hz',h2,h3,hz,hl,h0⟩
  ·cases h
 ·cases h
theorem jAI {α:Type} (K:α→List Value) (g h:Nat→α) (len:Nat):qAs (fun k=>K (g k)) len (fun k=>K (h k))=fun k=>K (qAs g len h k):=by
 funext k;unfold qAs;split<;>rfl
theorem qHH {sz:Nat} {l:List Value} (hl:l.length=sz):∀j,j<1*sz→(qAI.lit l).get (0+j)=some (cf sz (fun _=>l) j):=fun j hj=>by
 rw[Nat.one_mul] at hj
 rw[Nat.zero_add]
 unfold cf
 rw[Nat.mod_eq_of_lt hj]
 simp[qAI.get,hl,hj]
section
variable {P:Program} {t ty e:TypeId}
theorem qQQ {sz B:Nat} {zc:List Value} (ht:P.underlying t=some (.slice e)) (h1:qV4 P e zc sz B) (b len r k bo os n cc:Nat) {α:Type} (K:α→List Value) (hK:∀a,(K a).length=sz∧(K a).all Value.oneCell'=true) (g h:Nat→α) (S:qAI)
  (hS:∀j,j<n*sz→S.get (os+j)=some (cf sz (fun k=>K (h k)) j)) (hb:(len+n)*B≤140737488355328∧len+n≤9223372036854775807):
  qAz P (qB2 t ty (.slice (some ⟨b,0,none⟩) len (len+r)) (.slice (some ⟨k,bo+os,none⟩) n cc)) [⟨b,true,0,qF8 sz (len+r) len (fun k=>K (g k)) zc⟩,⟨k,false,bo,S⟩] 2
   (fun ns=>.slice (some ⟨ns.getD 0 0,0,none⟩) (len+n) (len+n+ns.getD 1 0))
   (fun ns=>[some ⟨ns.getD 0 0,true,0,qF8 sz (len+n+ns.getD 1 0) (len+n) (fun k=>K (qAs g len h k)) zc⟩,some ⟨k,false,bo,S⟩]):=by
 obtain⟨i,z,hi,hz,hsz,hB,hzc,hzl,hs0⟩:=h1
 subst hB
 have:=qM8 (P:=P) (t:=t) (ty:=ty) ht hi hz hsz hs0 hzc hzl (b:=b) (len:=len) (r:=r) (k:=k) (bo:=bo) (os:=os) (n:=n) (cc:=cc) (g:=fun k=>K (g k)) (h:=fun k=>K (h k)) (S:=S) (fun _=>(hK _).1) (fun _=>(hK _).1) hS
  (fun j hj=>by
   have hl:=(hK (h (j/sz))).1
   have hm:j%sz<(K (h (j/sz))).length:=by rw[hl];exact Nat.mod_lt _ hs0
   unfold cf
   rw[List.getD_eq_getElem?_getD,List.getElem?_eq_getElem hm]
   exact List.all_eq_true.1 (hK (h (j/sz))).2 _ (List.getElem_mem hm)) hb.1 hb.2
 rw[jAI] at this
 exact this
theorem qLm {sz B:Nat} {zc:List Value} (ht:P.underlying t=some (.slice e)) (h1:qV4 P e zc sz B) (k bo os n cc:Nat) {α:Type} (K:α→List Value) (hK:∀a,(K a).length=sz∧(K a).all Value.oneCell'=true) (h:Nat→α) (S:qAI)
  (hS:∀j,j<n*sz→S.get (os+j)=some (cf sz (fun k=>K (h k)) j)) (hb:0<n∧n*B≤140737488355328∧n≤9223372036854775807):
  qAz P (qB2 t ty (.slice none 0 0) (.slice (some ⟨k,bo+os,none⟩) n cc)) [⟨k,false,bo,S⟩] 2
   (fun ns=>.slice (some ⟨ns.getD 0 0,0,none⟩) n (n+ns.getD 1 0))
   (fun ns=>[some ⟨k,false,bo,S⟩,some ⟨ns.getD 0 0,true,0,qF8 sz (n+ns.getD 1 0) n (fun k=>K (h k)) zc⟩]):=by
 obtain⟨i,z,hi,hz,hsz,hB,hzc,hzl,hs0⟩:=h1
 subst hB
 exact qJq ht hi hz hsz hs0 hzc hzl (fun _=>(hK _).1) hS hb.1 hb.2.1 hb.2.2
end
end Go.Eng
end
