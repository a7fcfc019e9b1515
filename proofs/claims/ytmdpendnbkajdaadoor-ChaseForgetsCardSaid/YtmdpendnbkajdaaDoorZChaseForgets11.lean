/-
  Many in one: Maps2, Maps3, Votes, Votes2, Maps4, Votes3, Votes4, Votes5.
-/
import Derived.Test.YtmdpendnbkajdaaDoorZChaseForgets10
import Derived.ChangeSame
import Derived.Maps.RangeRun
set_option linter.unusedSectionVars false
set_option linter.unusedVariables false
set_option linter.unusedSimpArgs false
set_option maxRecDepth 100000
set_option maxHeartbeats 1000000
section
namespace Go.Eng
open Go.WideShapes Go.ChangeShapes Go.ChangeAt
section
variable {α β:Type} {P:Program} {mt kt et:TypeId} {kv:α→Value} {ev:β→Value} {z:β} {eqb:α→α→Bool}
theorem qLT {kd:TypeDesc} (hs:∀k h,Instr.sameNow kd (kv k) (kv h)=some (eqb k h)) (k:α):∀(l:List (α×β)) (n i:Nat),Instr.findNow kd (kv k) (qBH kv ev l n) i=some ((qE5 eqb k l i).map fun p=>(p.1,ev p.2))
 |[],_,_=>rfl
 |(h,x)::r,n,i=>by
  simp only[qBH,Instr.findNow,hs,qE5]
  cases e:eqb k h with
  |true=>simp
  |false=>simpa using qLT hs k r (n+1) (i+1)
theorem qMq {kd:TypeDesc} (hm:P.underlying mt=some (.map kt et)) (hk:P.underlying kt=some kd) (hs:∀k h,Instr.sameNow kd (kv k) (kv h)=some (eqb k h))
  (chk:∀em k w,(Instr.checkKey em 10000 kt (kv k)).run P w=.ok () w) (eqr:∀k h w,(Op.equal kt (kv k) (kv h)).run P w=.ok (eqb k h) w) (eqv:∀k h,eqb k h=true→Instr.sameBits 10000 (kv h) (kv k)=true) (zer:∀w,(zeroValue et).run P w=.ok (ev z) w):
  qQj P mt kt et kv ev z eqb:=⟨hm,chk,fun k l n w=>MapKept.run_findKey hk (qLT hs k l n 0),eqr,eqv,zer⟩
end
section
variable {P:Program} {mt kt et:TypeId} {β:Type} {ev:β→Value} {z:β}
theorem qQz (hm:P.underlying mt=some (.map kt et)) (hk:P.underlying kt=some (.int .i64)) (hz:∀w,(zeroValue et).run P w=.ok (ev z) w):qQj P mt kt et int ev z (fun a b:Int=>a==b):=
 qMq hm hk (fun _ _=>rfl) (fun em k w=>by unfold Instr.checkKey;simp[run_underlying hk,int]) (fun k h w=>by
  have:qAa P (Op.equal kt (int k) (int h))=some (k==h):=by
   show qAa P (Op.equalIn (9999+1) kt (.int .i64 k) (.int .i64 h))=_
   unfold Op.equalIn;rw[qAi,qAk hk];rfl
  exact qAO this w) (fun k h e=>by rw[eq_of_beq e];simp[Instr.sameBits,int]) hz
theorem qUE (hm:P.underlying mt=some (.map kt et)) (hk:P.underlying kt=some .bool) (hz:∀w,(zeroValue et).run P w=.ok (ev z) w):qQj P mt kt et Value.bool ev z (fun a b:Bool=>a==b):=
 qMq hm hk (fun _ _=>rfl) (fun em k w=>by unfold Instr.checkKey;simp[run_underlying hk]) (fun k h w=>by
  have:qAa P (Op.equal kt (.bool k) (.bool h))=some (k==h):=by
   show qAa P (Op.equalIn (9999+1) kt (.bool k) (.bool h))=_
   unfold Op.equalIn;rw[qAi,qAk hk];rfl
  exact qAO this w) (fun k h e=>by rw[eq_of_beq e];simp[Instr.sameBits]) hz
end
def sR (f g:Nat→UInt8):Bool:=(List.range 32).all fun i=>f i==g i
def qDF (f:Nat→UInt8):Value:=qCt 32 fun k=>u8 (f k)
theorem qGy {f g:Nat→UInt8}:sR f g=true↔∀i,i<32→f i=g i:=by
 simp[sR,List.all_eq_true]
theorem qGt (f:Nat→UInt8):sR f f=true:=qGy.2 fun _ _=>rfl
theorem qYe {f g:Nat→UInt8} (h:sR f g=true):sR g f=true:=qGy.2 fun i hi=>(qGy.1 h i hi).symm
theorem qWQ {f g h:Nat→UInt8} (a:sR f g=true) (b:sR g h=true):sR f h=true:=qGy.2 fun i hi=>(qGy.1 a i hi).trans (qGy.1 b i hi)
theorem qZo {f g:Nat→UInt8} (h:sR f g=true):qDF f=qDF g:=by
 unfold qDF qCt
 congr 1
 rw[show(List.range 32).map (fun k=>u8 (f k))=(List.range 32).map (fun k=>u8 (g k)) from List.map_congr_left fun k hk=>by rw[qGy.1 h k (List.mem_range.1 hk)]]
theorem qPQ {P:Program} {α:Type} {f:α→PUnit→Sem (ForInStep PUnit)} (w:World):∀(l:List α),(∀x∈l,(f x ⟨⟩).run P w=.ok (.yield ⟨⟩) w)→(forIn l PUnit.unit f).run P w=.ok PUnit.unit w
 |[],_=>rfl
 |x::l,h=>by
  rw[List.forIn_cons]
  simp only[Sem.run_bind,h x (.head _),Result.andThen_ok]
  exact qPQ w l fun y hy=>h y (.tail _ hy)
theorem qZY {P:Program} {t e:TypeId} (ht:P.underlying t=some (.array 32 e)) (he:P.underlying e=some (.int .u8)) (hs:qBZ P e=some 1) (em:Bool) (x:Nat→UInt8) (w:World):(Instr.checkKey em 10000 t (qDF x)).run P w=.ok () w:=by
 have hsz:(sizeOf e).run P w=.ok 1 w:=qAO (qA4 hs) w
 have hc:∀k a,(Instr.checkKey em 9999 e (.int k a)).run P w=.ok () w:=fun k a=>by
  unfold Instr.checkKey;simp[run_underlying he]
 have hp:∀i,i<32→(part e ((List.range 32).map fun k=>u8 (x k)).toArray i).run P w=.ok (u8 (x i)) w:=fun i hi=>qNR w he (by simp[hi])
 unfold Instr.checkKey
 simp only[Sem.run_bind,run_underlying ht,Result.andThen_ok,qDF,qCt,Std.Legacy.Range.forIn_eq_forIn_range',Std.Legacy.Range.size]
 rw[qPQ w _ fun i hi=>?_]
 ·rfl
 have hi':i<32:=by
  simpa using hi
 simp only[Sem.run_bind,hsz,Result.andThen_ok,Nat.mul_one,hp i hi']
 unfold u8
 simp only[hc,Result.andThen_ok]
 rfl
theorem qNF {P:Program} {t e:TypeId} (ht:P.underlying t=some (.array 32 e)) (he:P.underlying e=some (.int .u8)) (hs:qBZ P e=some 1) (f g:Nat→UInt8):
  qAa P (Op.equal t (qDF f) (qDF g))=some (sR f g):=by
 have h:=qHI (P:=P) 9998 ((List.range 32).map fun k=>((f k).toNat:Int)) ((List.range 32).map fun k=>((g k).toNat:Int)) ht he hs (by simp) (by simp)
 have e1:∀q:Nat→UInt8,(((List.range 32).map fun k=>((q k).toNat:Int)).map (Value.int .u8)).toArray=((List.range 32).map fun k=>u8 (q k)).toArray:=fun q=>by
  rw[List.map_map];rfl
 rw[e1,e1] at h
 show qAa P (Op.equalIn (9998+2) t (qCt 32 _) (qCt 32 _))=_
 rw[show(qCt 32 fun k=>u8 (f k))=.agg ((List.range 32).map fun k=>u8 (f k)).toArray from rfl,show(qCt 32 fun k=>u8 (g k))=.agg ((List.range 32).map fun k=>u8 (g k)).toArray from rfl,h]
 congr 1
 rw[Bool.eq_iff_iff,List.all_eq_true,qGy]
 constructor
 ·intro h1 k hk
  have h2:=h1 k (List.mem_range.2 hk)
  simp[List.getD,hk] at h2
  exact UInt8.toNat_inj.1 (by omega)
 ·intro h1 k hk
  have hk':=List.mem_range.1 hk
  simp[List.getD,hk',h1 k hk']
theorem qNo (f:Nat→UInt8):Instr.sameBits 10000 (qDF f) (qDF f)=true:=by
 have h:∀l:List Value,(∀v∈l,Instr.sameBits 9999 v v=true)→(l.zip l).all (fun(x,y)=>Instr.sameBits 9999 x y)=true:=fun l=>by
  induction l with
  |nil=>intro _;rfl
  |cons v l ih=>intro hv;simp only[List.zip_cons_cons,List.all_cons,hv v (.head _),Bool.true_and];exact ih fun u hu=>hv u (.tail _ hu)
 show(_ == _ &&(List.zip _ _).all _)=true
 rw[beq_self_eq_true,Bool.true_and]
 refine h _ fun v hv=>?_
 obtain⟨k,_,rfl⟩:=List.mem_map.1 hv
 simp[Instr.sameBits,u8]
theorem qVa {P:Program} {mt kt et e:TypeId} {β:Type} {ev:β→Value} {z:β} (hm:P.underlying mt=some (.map kt et)) (ht:P.underlying kt=some (.array 32 e)) (he:P.underlying e=some (.int .u8)) (hs:qBZ P e=some 1) (hz:∀w,(zeroValue et).run P w=.ok (ev z) w):qQj P mt kt et qDF ev z sR:=
 have eqr:∀k h w,(Op.equal kt (qDF k) (qDF h)).run P w=.ok (sR k h) w:=fun k h w=>qAO (qNF ht he hs k h) w
 ⟨hm,fun em k w=>qZY ht he hs em k w,fun k l n w=>(run_findKey_eq w (by rw[ht]) _ _).trans (qLx eqr k w l n 0),eqr,fun k h e=>by rw[qZo e];exact qNo h,hz⟩
theorem qTv {P:Program} {t e t':TypeId} {x y:Operand} (ht:P.underlying t=some (.array 32 e)) (he:P.underlying e=some (.int .u8)) (hs:qBZ P e=some 1) (hg:P.eqGuardType P.depth t=false) (f g:Nat→UInt8):
  qB0 P (.binOp .eql t x y t') [qDF f,qDF g] (.bool (sR f g)):=qAv (qTH hg) (by
 show qAa P (do pure (Value.bool (←Op.equal t (qDF f) (qDF g))))=_
 rw[qAi,qNF ht he hs];rfl)
end Go.Eng
end
section
namespace Go.Eng
open Go.WideShapes Go.ChangeMaps
def qBe (o:List Nat) (n:Nat):Bool:=(List.range n).any fun i=>!o.contains i
def pk (o:List Nat) (n c:Nat):Nat:=if c<n∧o.contains c=false then c else((List.range n).find? fun i=>!o.contains i).getD 0
theorem qDH {o:List Nat} {n:Nat} (h:qBe o n=true) (c:Nat):pk o n c<n∧o.contains (pk o n c)=false:=by
 unfold pk
 split
 ·rename_i hc;exact hc
 ·obtain⟨i,h1,h2⟩:=List.any_eq_true.1 h
  cases hf:(List.range n).find? (fun i=>!o.contains i) with
  |none=>have:=List.find?_eq_none.1 hf i h1;exact absurd h2 this
  |some j=>
   have h3:=List.find?_some hf
   have h4:=List.mem_of_find?_eq_some hf
   exact⟨List.mem_range.1 h4,by simpa using h3⟩
theorem qSV {o:List Nat} {n c:Nat} (h:c<n) (h2:o.contains c=false):pk o n c=c:=if_pos ⟨h,h2⟩
theorem qJ1 {o:List Nat} {n:Nat} (h:qBe o n=false):∀i,i<n→o.contains i=true:=fun i hi=>by
 cases hc:o.contains i with
 |true=>rfl
 |false=>
  have:qBe o n=true:=List.any_eq_true.2 ⟨i,List.mem_range.2 hi,by rw[hc];rfl⟩
  rw[h] at this;cases this
def qEX (o:List Nat) (n:Nat):Nat:=((List.range n).filter fun i=>!o.contains i).length
theorem qGO {o:List Nat} {n j:Nat} (h:j<n) (h2:o.contains j=false):qEX (o++[j]) n<qEX o n:=by
 unfold qEX
 refine filter_lt (fun i=>!o.contains i) (fun i=>!(o++[j]).contains i) (fun x hx=>?_) j (by rw[h2];rfl) (by simp) _ (List.mem_range.2 h)
 simp at hx ⊢;exact hx.1
def itC (bm n:Nat) (o:List Nat):qAI:=.map (.o (.mapIter (some bm) n o.toArray n)) 0
def qAI.clk:qAI→Nat
 |.map _ c=>c
 | _=>0
def itB:List Blk→qAI
 |b:: _=>itC b.name b.cont.clk []
 |[]=>.lit []
theorem qAb.darkV {F:Blk→Prop} {P:Program} {f:FuncId} {args:List Value} {bs:List (Option Blk)} {k:Nat} {v:List Nat→Value} {out:List Nat→List (Option Blk)} (fl:List Bool) (h:qAb F P f args bs k v out):
  qAb F P f args bs k v (fun ns=>dkn fl (out ns)):=fun w hb ha hF=>Calls.mono (h w hb ha hF) fun _ _ ⟨ns,h1,h2,h3⟩=>⟨ns,h1,h2,h3.sub (qHx fl (out ns))⟩
theorem qAz.valE {P:Program} {s:Sem Next} {bs:List Blk} {k:Nat} {a b:Value} {out:List Nat→List (Option Blk)} (h:qAz P s bs k (fun _=>a) out) (e:a=b):qAz P s bs k (fun _=>b) out:=e▸h
def qC8 {α β:Type} (d:α×β) (l:List (α×β)) (i:Nat):α×β:=l.getD i d
section
variable {α β:Type} {P:Program} {mt kt et:TypeId} {kv:α→Value} {ev:β→Value} {z:β} {eqb:α→α→Bool}
theorem qNB:∀(l:List (α×β)) (n:Nat),(qBH kv ev l n).map (·.born)=List.range' n l.length
 |[],_=>rfl
 |(h,x)::r,n=>by simp[qBH,List.range'_succ,qNB r (n+1)]
theorem qJU {l:List (α×β)} {e:MapEntry} (he:e∈qBH kv ev l 0):∃j h x,l[j]?=some (h,x)∧e=⟨kv h,ev x,j⟩:=by
 obtain⟨j,hj,he⟩:=List.getElem_of_mem he
 have hl:j<l.length:=by rw[←qNf (kv:=kv) (ev:=ev) l 0];exact hj
 refine⟨j,l[j].1,l[j].2,by simp[hl],?_⟩
 have:=qGv (kv:=kv) (ev:=ev) l 0 j l[j].1 l[j].2 (by simp[hl])
 rw[List.getElem?_eq_getElem hj] at this
 rw[←he];simpa using Option.some.inj this
def qTf (t:TypeId) (x:Value):Sem Next:=do pure (.value (←Instr.range t x))
def qN2 (x:Value) (ty:TypeId):Sem Next:=do pure (.value (←Instr.next x false ty))
def qXP (x:Value):Sem Next:=do pure (.value (←Instr.entry x))
theorem qP9 (hm:P.underlying mt=some (.map kt et)) (b:Nat) (own:Bool) (l:List (α×β)):
  qAz P (qTf mt (.map (some b))) [⟨b,own,0,qPq kv ev l⟩] 1 (fun ns=>ptr (ns.getD 0 0) 0) (fun ns=>[none,some ⟨ns.getD 0 0,true,0,itC b l.length []⟩]):=by
 intro w hall ha
 have hb:=(hall _ (List.mem_singleton.2 rfl)).objm rfl
 obtain⟨h1,h2⟩:=qFJ w (.mapIter (some b) l.length #[] l.length)
 refine⟨[w.heap.size],w.alloc (.mapIter (some b) l.length #[] l.length),rfl,.inl (qAA ?_),⟨fun p c hpc=>?_,fun p p' c d hpp hc hd ho=>?_,⟨rfl,rfl,rfl,by simp,fun j hj _=>h2 j hj,fun j hj=>?_,fun p c hpc ho=>?_⟩⟩⟩
 ·exact run_range_map w mt kt et b _ _ hm hb
 ·rcases p with _ | _ |p
  ·simp[lM] at hpc
  ·injection hpc with hpc;subst hpc
   exact⟨by simp,(fun o v ho=>by cases ho),(fun _ o v ho=>by cases ho),h1⟩
  ·simp[lM] at hpc
 ·rcases p with _ | _ |p
  ·simp[lM] at hc
  ·rcases p' with _ | _ |p'
   ·simp[lM] at hd
   ·exact absurd rfl hpp
   ·simp[lM] at hd
  ·simp[lM] at hc
 ·obtain⟨p,c,hpc,ho,hjk⟩:=hj
  rcases p with _ | _ |p
  ·simp[lM] at hpc
  ·injection hpc with hpc;subst hpc;exact .inr (Nat.le_of_eq hjk)
  ·simp[lM] at hpc
 ·rcases p with _ | _ |p
  ·simp[lM] at hpc
  ·injection hpc with hpc;subst hpc;cases ho
  ·simp[lM] at hpc
theorem qPw {r:Nat} {x x':qAI} {B:Blk} {w w':World} (hr:qAl ⟨r,true,0,x⟩ w) (h1:w'.os=w.os) (h2:w'.output=w.output) (h3:w'.tape=w.tape) (h4:w.heap.size≤w'.heap.size) (h5:∀j,j≠r→w'.heap[j]?=w.heap[j]?)
  (hx:qAl ⟨r,true,0,x'⟩ w') (hh:∀k,(Blk.mk r true 0 x).has k↔r=k:=by intro k;exact Iff.rfl) (hh':∀k,(Blk.mk r true 0 x').has k↔r=k:=by intro k;exact Iff.rfl):qCL (lM ([⟨r,true,0,x⟩,B].map some)) w (lM [some ⟨r,true,0,x'⟩,none]) w':=by
 refine⟨fun p c hpc=>?_,fun p p' c d hpp hc hd ho=>?_,⟨h1,h2,h3,h4,fun j hj hn=>h5 j fun e=>hn ⟨0,_,rfl,rfl,(hh j).2 e.symm⟩,fun j hj=>?_,fun p c hpc ho=>?_⟩⟩
 ·rcases p with _ | _ |p
  ·injection hpc with hpc;subst hpc;exact hx
  ·simp[lM] at hpc
  ·simp[lM] at hpc
 ·rcases p with _ | _ |p
  ·rcases p' with _ | _ |p'
   ·exact absurd rfl hpp
   ·simp[lM] at hd
   ·simp[lM] at hd
  ·simp[lM] at hc
  ·simp[lM] at hc
 ·obtain⟨p,c,hpc,ho,hjk⟩:=hj
  rcases p with _ | _ |p
  ·injection hpc with hpc;subst hpc;exact .inl ⟨0,_,rfl,rfl,(hh j).2 ((hh' j).1 hjk)⟩
  ·simp[lM] at hpc
  ·simp[lM] at hpc
 ·rcases p with _ | _ |p
  ·injection hpc with hpc;subst hpc;cases ho
  ·simp[lM] at hpc
  ·simp[lM] at hpc
theorem qCx {bs:List Blk} {w:World} (k:Nat):qCL (lM (bs.map some)) w (lM (List.replicate k none)) w:=
 have hn:∀p c,lM (List.replicate k (none:Option Blk)) p≠some c:=fun p c h=>by
  unfold lM at h
  rw[List.getElem?_replicate] at h
  by_cases hk:p<k
  ·rw[if_pos hk] at h;cases h
  ·rw[if_neg hk] at h;cases h
 ⟨fun p c hpc=>absurd hpc (hn p c),fun p p' c d hpp hc=>absurd hc (hn p c),⟨rfl,rfl,rfl,Nat.le_refl _,fun _ _ _=>rfl,fun j hj=>by obtain⟨p,c,hpc,_⟩:=hj;exact absurd hpc (hn p c),fun p c hpc=>absurd hpc (hn p c)⟩⟩
theorem qQk {l:List (α×β)} {o:List Nat}:(leftOf (qBH kv ev l 0).toArray o.toArray).size=0↔qBe o l.length=false:=by
 unfold leftOf
 constructor
 ·intro h
  have h2:Array.filter (fun e=>!o.toArray.contains e.born) (qBH kv ev l 0).toArray=#[]:=Array.eq_empty_of_size_eq_zero h
  rw[Array.filter_eq_empty_iff] at h2
  cases hu:qBe o l.length with
  |false=>rfl
  |true=>
   obtain⟨i,h3,h4⟩:=List.any_eq_true.1 hu
   have hi:=List.mem_range.1 h3
   have:=qGv (kv:=kv) (ev:=ev) l 0 i l[i].1 l[i].2 (by simp[hi])
   have hm:(⟨kv l[i].1,ev l[i].2,0+i⟩:MapEntry)∈(qBH kv ev l 0).toArray:=by simpa using List.mem_of_getElem? this
   have h5:=h2 _ hm
   simp at h5 h4
   exact absurd h5 h4
 ·intro h
  have hs:=qJ1 h
  have:Array.filter (fun e=>!o.toArray.contains e.born) (qBH kv ev l 0).toArray=#[]:=by
   rw[Array.filter_eq_empty_iff]
   intro e he
   obtain⟨j,h',x,h1,rfl⟩:=qJU (by simpa using he)
   have hj:j<l.length:=(List.getElem?_eq_some_iff.1 h1).1
   have:=hs j hj
   simp at this ⊢
   exact this
  rw[this];rfl
theorem qQA (ty r b:Nat) (own:Bool) (l:List (α×β)) (o:List Nat) (d:α×β) (hu:qBe o l.length=true):
  qAz P (qN2 (ptr r 0) ty) [⟨r,true,0,itC b l.length o⟩,⟨b,own,0,qPq kv ev l⟩] 1
   (fun ns=>.tuple #[.bool true,kv (qC8 d l (pk o l.length (ns.getD 0 0))).1,ev (qC8 d l (pk o l.length (ns.getD 0 0))).2]) (fun ns=>[some ⟨r,true,0,itC b l.length (o++[pk o l.length (ns.getD 0 0)])⟩,none]):=by
 intro w hall ha
 have hH:=hall _ (List.mem_cons_self ..)
 have hr:=hH.objm rfl
 have hb:=(hall _ (List.mem_cons_of_mem _ (List.mem_singleton.2 rfl))).objm rfl
 have hr':w.heap[r]?=some (.mapIter (some b) l.length o.toArray l.length):=hr
 have hb':w.heap[b]?=some (.map (qBH kv ev l 0).toArray l.length):=hb
 have hold:∀x∈(qBH kv ev l 0).toArray.toList,x.born<l.length:=fun x hx=>by
  obtain⟨j,h,y,h1,rfl⟩:=qJU (by simpa using hx)
  exact(List.getElem?_eq_some_iff.1 h1).1
 rcases run_next_at (P:=P) w ty r b l.length l.length o.toArray _ _ hr' hb' hold (Nat.le_refl _) with⟨h0,_⟩|⟨e,he,w1,hw1,hrun⟩
 ·rw[qQk.1 h0] at hu;cases hu
 obtain⟨he1,he2⟩:=mem_left he
 obtain⟨j,h,x,hj,rfl⟩:=qJU (by simpa using he1)
 have hjl:j<l.length:=(List.getElem?_eq_some_iff.1 hj).1
 have hjo:o.contains j=false:=by simpa using he2
 have hpk:=qSV hjl hjo
 have hat:qC8 d l j=(h,x):=by unfold qC8;rw[List.getD_eq_getElem?_getD,hj];rfl
 have hb1:w1.heap=w.heap:=by rcases hw1 with rfl|rfl<;>rfl
 have hro:w1.heap[r]?=some (.mapIter (some b) l.length o.toArray l.length):=by rw[hb1];exact hr'
 obtain⟨s1,s2⟩:=qKe (o':=.mapIter (some b) l.length (o.toArray.push j) l.length) hro
 refine⟨[j],setBlock w1 r (.mapIter (some b) l.length (o.toArray.push j) l.length),rfl,.inl (qAA (hrun.trans ?_)),qPw hH ?_ ?_ ?_ ?_ (fun i hi=>?_) ?_⟩
 ·show _=Result.ok (Value.tuple #[Value.bool true,kv (qC8 d l (pk o l.length j)).1,ev (qC8 d l (pk o l.length j)).2]) _
  rw[hpk,hat]
 ·rcases hw1 with rfl|rfl<;>rfl
 ·rcases hw1 with rfl|rfl<;>rfl
 ·rcases hw1 with rfl|rfl<;>rfl
 ·simp[setBlock,hb1]
 ·have:=s2 i hi
  rw[hb1] at this
  simpa[setBlock,hb1] using this
 ·refine⟨?_,(fun o v ho=>by cases ho),(fun _ o v ho=>by cases ho),?_⟩
  ·have:=hH.lt;simpa[setBlock,hb1] using this
  ·show(w1.heap.setIfInBounds r _)[r]?= _
   rw[s1]
   show _=some (Obj.mapIter (some b) l.length (o++[pk o l.length j]).toArray l.length)
   rw[hpk];simp
theorem qNz (ty r b:Nat) (ow own:Bool) (l:List (α×β)) (o:List Nat) (hu:qBe o l.length=false):
  qAz P (qN2 (ptr r 0) ty) [⟨r,ow,0,itC b l.length o⟩,⟨b,own,0,qPq kv ev l⟩] 0 (fun _=>.tuple #[.bool false]) (fun _=>[none,none]):=by
 intro w hall ha
 have hr:=(hall _ (List.mem_cons_self ..)).objm rfl
 have hb:=(hall _ (List.mem_cons_of_mem _ (List.mem_singleton.2 rfl))).objm rfl
 have hold:∀x∈(qBH kv ev l 0).toArray.toList,x.born<l.length:=fun x hx=>by
  obtain⟨j,h,y,h1,rfl⟩:=qJU (by simpa using hx)
  exact(List.getElem?_eq_some_iff.1 h1).1
 have h0:(leftOf (qBH kv ev l 0).toArray o.toArray).size=0:=qQk.2 hu
 rcases run_next_at (P:=P) w ty r b l.length l.length o.toArray _ _ hr hb hold (Nat.le_refl _) with⟨_,h1⟩|⟨e,he,_⟩
 ·exact⟨[],w,rfl,.inl (qAA h1),qCx 2⟩
 ·have:(leftOf (qBH kv ev l 0).toArray o.toArray)=#[]:=Array.eq_empty_of_size_eq_zero h0
  rw[this] at he;simp at he
theorem qP7 (r b:Nat) (ow own:Bool) (l:List (α×β)) (o:List Nat) (j:Nat) (d:α×β) (hj:j<l.length):
  qAz P (qXP (ptr r 0)) [⟨r,ow,0,itC b l.length (o++[j])⟩,⟨b,own,0,qPq kv ev l⟩] 0 (fun _=>.tuple #[kv (qC8 d l j).1,ev (qC8 d l j).2]) (fun _=>[none,none]):=by
 intro w hall ha
 have hr:=(hall _ (List.mem_cons_self ..)).objm rfl
 have hb:=(hall _ (List.mem_cons_of_mem _ (List.mem_singleton.2 rfl))).objm rfl
 have he:=qGv (kv:=kv) (ev:=ev) l 0 j l[j].1 l[j].2 (by simp[hj])
 have hat:qC8 d l j=l[j]:=by unfold qC8;simp[List.getD_eq_getElem?_getD,hj]
 have hr2:w.heap[r]?=some (.mapIter (some b) l.length (o.toArray.push (⟨kv l[j].1,ev l[j].2,0+j⟩:MapEntry).born) l.length):=by
  have:w.heap[r]?=some (.mapIter (some b) l.length (o++[j]).toArray l.length):=hr
  rw[this];simp
 refine⟨[],w,rfl,.inl (qAA ?_),qCx 2⟩
 rw[hat]
 exact run_entry_at (P:=P) w r b l.length o.toArray _ _ _ hr2 hb (List.mem_of_getElem? he) (by rw[show(qBH kv ev l 0).toArray.toList=qBH kv ev l 0 by simp,qNB];exact List.nodup_range')
theorem qIO (M:qQj P mt kt et kv ev z eqb) (b:Nat) (own:Bool) (l:List (α×β)) (k:α):
  qAz P (qKk mt (.map (some b)) (kv k) false) [⟨b,own,0,qPq kv ev l⟩] 0 (fun _=>ev ((qAr eqb k l).getD z)) (fun _=>[none]):=by
 intro w hall ha
 have hb:=(hall _ (List.mem_singleton.2 rfl)).objm rfl
 refine⟨[],w,rfl,.inl (qAA ?_),qCx 1⟩
 simp only at hb
 unfold Instr.lookup
 simp only[Sem.run_bind,run_underlying M.hm,Result.andThen_ok,qKB hb,Sem.run_pure,M.chk,qGC M]
 have hE:=qOr (eqb:=eqb) k l 0
 cases hf:qE5 eqb k l 0 with
 |none=>
  rw[hf] at hE;simp only[Option.map_none] at hE
  rw[←hE]
  simp[M.zer]
 |some q=>
  rw[hf] at hE;simp only[Option.map_some] at hE
  rw[←hE]
  simp
theorem qZn (k:α) (x:β) (l:List (α×β)):(qCj eqb k x l).length=match qE5 eqb k l 0 with|some _=>l.length|none=>l.length+1:=by
 cases hf:qE5 eqb k l 0 with
 |none=>exact(qKQ (kv:=fun _=>Value.bool true) (ev:=fun _=>Value.bool true) k x l 0 0 hf).2
 |some q=>exact(qJ5 (kv:=fun _=>Value.bool true) (ev:=fun _=>Value.bool true) k x l 0 0 q.1 q.2 hf).2
end
end Go.Eng
end
section
namespace Go.Eng
def qMb (f:Nat→Nat):Nat→Nat
 |0=>0
 |k+1=>qMb f k+f k
theorem qSf {f g:Nat→Nat}:∀n,(∀i,i<n→f i≤g i)→qMb f n≤qMb g n
 |0,_=>Nat.le_refl _
 |n+1,h=>by simp only[qMb];have:=qSf n fun i hi=>h i (by omega);have:=h n (by omega);omega
theorem qXV (s:Nat→UInt64):∀n,qRF s n=qMb (fun i=>(s i).toNat) n
 |0=>rfl
 |n+1=>by simp only[qRF,qMb];rw[qXV s n]
def qLq (f:Nat→Nat):List Nat→Nat
 |[]=>0
 |i::o=>f i+qLq f o
theorem qS6 {f:Nat→Nat} {a b:List Nat} (h:a.Perm b):qLq f a=qLq f b:=by
 induction h with
 |nil=>rfl
 |cons x _ ih=>simp only[qLq,ih]
 |swap x y l=>simp only[qLq];omega
 |trans _ _ i1 i2=>exact i1.trans i2
theorem qLX {f:Nat→Nat} {a:Nat} {l:List Nat} (h:a∈l):qLq f l=f a+qLq f (l.erase a):=(qS6 (List.perm_cons_erase h)).trans rfl
theorem qMQ (f:Nat→Nat):∀(n:Nat) (l:List Nat),l.Nodup→(∀x∈l,x<n)→qLq f l≤qMb f n
 |0,l,_,h=>by
  cases l with
  |nil=>exact Nat.le_refl _
  |cons x l=>exact absurd (h x (.head _)) (by omega)
 |n+1,l,hn,h=>by
  simp only[qMb]
  by_cases hm:n∈l
  ·rw[qLX hm]
   have:=qMQ f n (l.erase n) (hn.erase n) fun x hx=>by
    have h1:=h x (List.mem_of_mem_erase hx)
    have h2:x≠n:=fun e=>by subst e;exact(hn.mem_erase_iff.1 hx).1 rfl
    omega
   omega
  ·have :=qMQ f n l hn fun x hx=>by
    have h1:=h x hx
    have h2:x≠n:=fun e=>hm (e▸hx)
    omega
   omega
theorem qPc (f:Nat→Nat):∀(n:Nat) (l:List Nat),l.Nodup→(∀x,x∈l↔x<n)→qLq f l=qMb f n
 |0,l,_,h=>by
  cases l with
  |nil=>rfl
  |cons x l=>exact absurd ((h x).1 (.head _)) (by omega)
 |n+1,l,hn,h=>by
  have hm:n∈l:=(h n).2 (by omega)
  rw[qLX hm,qPc f n (l.erase n) (hn.erase n) fun x=>by
   rw[hn.mem_erase_iff,h x];omega]
  simp only[qMb];omega
def jAJ:Nat→Nat→List Nat
 |0,_=>[]
 |k+1,c=>if c=0 then[] else(c%64-1)::jAJ k (c/64)
def qUT:List Nat→Nat
 |[]=>0
 |x::l=>(x+1)+64*qUT l
theorem qR4:∀(l:List Nat) (k:Nat),l.length≤k→(∀x∈l,x<63)→jAJ k (qUT l)=l
 |[],k,_,_=>by cases k<;>rfl
 |x::l,0,h,_=>by simp at h
 |x::l,k+1,h,hx=>by
  have h1:=hx x (.head _)
  have e:qUT (x::l)=(x+1)+64*qUT l:=rfl
  rw[e]
  unfold jAJ
  rw[if_neg (by omega),show((x+1)+64*qUT l)%64-1=x by omega,show((x+1)+64*qUT l)/64=qUT l by omega,qR4 l k (by simpa using h) fun y hy=>hx y (.tail _ hy)]
structure qIw (n:Nat) (o:List Nat):Prop where
 nd:o.Nodup
 lt:∀x∈o,x<n
structure qUv (n:Nat) (o:List Nat):Prop extends qIw n o where
 all:qBe o n=false
theorem qUv.mem {n:Nat} {o:List Nat} (h:qUv n o) (x:Nat):x∈o↔x<n:=⟨h.lt x,fun hx=>by simpa using qJ1 h.all x hx⟩
theorem qIw.nil (n:Nat):qIw n []:=⟨List.nodup_nil,by simp⟩
theorem qIw.snoc {n:Nat} {o:List Nat} (h:qIw n o) (hu:qBe o n=true) (c:Nat):qIw n (o++[pk o n c]):=by
 obtain⟨h1,h2⟩:=qDH hu c
 refine⟨List.nodup_append.2 ⟨h.nd,by simp,fun a ha b hb=>?_⟩,fun x hx=>?_⟩
 ·simp at hb h2;subst hb
  exact fun e=>h2 (e▸ha)
 ·rcases List.mem_append.1 hx with hx|hx
  ·exact h.lt x hx
  ·simp at hx;omega
open Classical in
noncomputable def qVO (n c:Nat):List Nat:=if qUv n (jAJ n c) then jAJ n c else List.range n
theorem qRK (n:Nat):qUv n (List.range n):=⟨⟨List.nodup_range,fun x hx=>List.mem_range.1 hx⟩,by
 cases h:qBe (List.range n) n with
 |false=>rfl
 |true=>
  obtain⟨i,h1,h2⟩:=List.any_eq_true.1 h
  simp at h1 h2;omega⟩
theorem qZJ (n c:Nat):qUv n (qVO n c):=by
 unfold qVO
 split
 ·assumption
 ·exact qRK n
theorem qKU {n:Nat} {o:List Nat} (h:qIw n o):o.length≤n:=by
 have h1:=qMQ (fun _=>1) n o h.nd h.lt
 have h2:∀l:List Nat,qLq (fun _=>1) l=l.length:=fun l=>by
  induction l with
  |nil=>rfl
  |cons x l ih=>simp only[qLq,ih,List.length_cons];omega
 have h3:∀k,qMb (fun _=>1) k=k:=fun k=>by
  induction k with
  |zero=>rfl
  |succ k ih=>simp only[qMb,ih]
 rw[h2,h3] at h1;exact h1
theorem qVb {n:Nat} {o:List Nat} (h:qUv n o) (hn:n≤63):qVO n (qUT o)=o:=by
 unfold qVO
 rw[qR4 o n (qKU h.toqIw) fun x hx=>by have:=h.lt x hx;omega,if_pos h]
section
variable {κ:Type} (eqb:κ→κ→Bool) (key:Nat→κ) (st:Nat→UInt64)
def gm (o:List Nat):List (κ×UInt64):=o.foldl (fun m i=>qCj eqb (key i) ((qAr eqb (key i) m).getD 0+st i) m) []
theorem qZr (o:List Nat) (j:Nat):gm eqb key st (o++[j])=qCj eqb (key j) ((qAr eqb (key j) (gm eqb key st o)).getD 0+st j) (gm eqb key st o):=by
 unfold gm;rw[List.foldl_append];rfl
end
structure Eqv {κ:Type} (eqb:κ→κ→Bool):Prop where
 refl:∀a,eqb a a=true
 symm:∀a b,eqb a b=true→eqb b a=true
 trans:∀a b c,eqb a b=true→eqb b c=true→eqb a c=true
theorem qZ8 {κ:Type} [BEq κ] [LawfulBEq κ]:Eqv (fun a b:κ=>a==b):=⟨fun a=>by simp,fun a b h=>by simpa using(eq_of_beq h).symm,fun a b c h k=>by simpa using(eq_of_beq h).trans (eq_of_beq k)⟩
theorem qMk:Eqv sR:=⟨qGt,fun _ _=>qYe,fun _ _ _=>qWQ⟩
section
variable {κ β:Type} {eqb:κ→κ→Bool} (E:Eqv eqb)
include E
theorem Eqv.comm (a b:κ):eqb a b=eqb b a:=Bool.eq_iff_iff.2 ⟨E.symm a b,E.symm b a⟩
theorem Eqv.left {a b:κ} (h:eqb a b=true) (c:κ):eqb a c=eqb b c:=Bool.eq_iff_iff.2 ⟨fun k=>E.trans b a c (E.symm a b h) k,fun k=>E.trans a b c h k⟩
theorem qIV {a b:κ} (h:eqb a b=true):∀m:List (κ×β),qAr eqb a m=qAr eqb b m
 |[]=>rfl
 |(k,x)::m=>by simp only[qAr,E.left h k,qIV h m]
theorem qHR (k:κ) (x:β):∀m:List (κ×β),qAr eqb k (qCj eqb k x m)=some x
 |[]=>by simp[qCj,qAr,E.refl]
 |(h,y)::m=>by
  simp only[qCj]
  by_cases e:eqb k h=true
  ·simp[e,qAr,E.refl]
  ·simp[e,qAr,qHR k x m]
theorem qG8 {a k:κ} (h:eqb a k=false) (x:β):∀m:List (κ×β),qAr eqb a (qCj eqb k x m)=qAr eqb a m
 |[]=>by simp[qCj,qAr,h]
 |(b,y)::m=>by
  simp only[qCj]
  by_cases e:eqb k b=true
  ·have :eqb a b=false:=by
    cases hc:eqb a b with
    |false=>rfl
    |true=>rw[E.trans a b k hc (E.symm k b e)] at h;cases h
   simp[e,qAr,h,this]
  ·simp only[e,qAr]
   by_cases e2:eqb a b=true
   ·simp[e2,qAr]
   ·simp[e2,qAr,qG8 h x m]
theorem qZj (key:Nat→κ) (st:Nat→UInt64) (k:κ):∀o:List Nat,((qAr eqb k (gm eqb key st o)).getD 0).toNat=qLq (fun i=>if eqb k (key i)=true then(st i).toNat else 0) o%2^64:=by
 have key':∀(o:List Nat) (m:List (κ×UInt64)),((qAr eqb k (o.foldl (fun m i=>qCj eqb (key i) ((qAr eqb (key i) m).getD 0+st i) m) m)).getD 0).toNat=(((qAr eqb k m).getD 0).toNat+qLq (fun i=>if eqb k (key i)=true then(st i).toNat else 0) o)%2^64:=by
  intro o
  induction o with
  |nil=>intro m;simp only[List.foldl_nil,qLq,Nat.add_zero];exact(Nat.mod_eq_of_lt (UInt64.toNat_lt _)).symm
  |cons i o ih=>
   intro m
   rw[List.foldl_cons,ih]
   simp only[qLq]
   by_cases e:eqb k (key i)=true
   ·rw[qIV E e,qHR E,←qIV E e,if_pos e]
    simp only[Option.getD_some,UInt64.toNat_add]
    omega
   ·rw[qG8 E (by simpa using e),if_neg e,Nat.zero_add]
 intro o
 have:=key' o []
 rw[show qAr eqb k ([]:List (κ×UInt64))=none from rfl,show((none:Option UInt64).getD 0).toNat=0 from rfl,Nat.zero_add] at this
 exact this
def KD (eqb:κ→κ→Bool) (m:List (κ×β)):Prop:=m.Pairwise fun a b=>eqb a.1 b.1=false
theorem qT7 {k:κ} {x:β} {m:List (κ×β)} {p:κ×β} (h:p∈qCj eqb k x m):p=(k,x)∨p∈m:=by
 induction m with
 |nil=>simp[qCj] at h;exact .inl h
 |cons q m ih=>
  obtain⟨b,y⟩:=q
  simp only[qCj] at h
  by_cases e:eqb k b=true
  ·simp only[e,if_true] at h
   rcases List.mem_cons.1 h with h|h
   ·exact .inl h
   ·exact .inr (.tail _ h)
  ·simp only[e] at h
   rcases List.mem_cons.1 h with h|h
   ·exact .inr (h▸.head _)
   ·rcases ih h with h|h
    ·exact .inl h
    ·exact .inr (.tail _ h)
theorem KD.put {k:κ} {x:β} {m:List (κ×β)} (h:KD eqb m):KD eqb (qCj eqb k x m):=by
 induction m with
 |nil=>simp[qCj,KD]
 |cons q m ih=>
  obtain⟨b,y⟩:=q
  obtain⟨h1,h2⟩:=List.pairwise_cons.1 h
  simp only[qCj]
  by_cases e:eqb k b=true
  ·simp only[e,if_true]
   refine List.pairwise_cons.2 ⟨fun p hp=>?_,h2⟩
   show eqb k p.1=false
   rw[E.left e];exact h1 p hp
  ·simp only[e]
   refine List.pairwise_cons.2 ⟨fun p hp=>?_,ih h2⟩
   rcases qT7 E hp with rfl|hp
   ·show eqb b k=false
    rw[E.comm];simpa using e
   ·exact h1 p hp
theorem KD.find {m:List (κ×β)} (h:KD eqb m) {k:κ} {x:β} (hm:(k,x)∈m):qAr eqb k m=some x:=by
 induction m with
 |nil=>cases hm
 |cons q m ih=>
  obtain⟨b,y⟩:=q
  obtain⟨h1,h2⟩:=List.pairwise_cons.1 h
  rcases List.mem_cons.1 hm with e|hm
  ·injection e with e1 e2;subst e1;subst e2
   simp[qAr,E.refl]
  ·have:=h1 _ hm
   simp only at this
   simp[qAr,E.comm k b,this,ih h2 hm]
theorem qVN {m:List (κ×β)} {k:κ} {x:β} (h:qAr eqb k m=some x):∃p∈m,eqb k p.1=true∧p.2=x:=by
 induction m with
 |nil=>cases h
 |cons q m ih=>
  obtain⟨b,y⟩:=q
  simp only[qAr] at h
  by_cases e:eqb k b=true
  ·simp[e] at h;exact⟨(b,y),.head _,e,h⟩
  ·simp[e] at h
   obtain⟨p,hp,h⟩:=ih h
   exact⟨p,.tail _ hp,h⟩
end
def eqI (a b:Int):Bool:=a==b
def eqT (a b:Bool):Bool:=a==b
theorem jEt:Eqv eqT:=qZ8
abbrev Fst:=List (Int×(Nat→UInt8))
def d0:Int×(Nat→UInt8):=(0,fun _=>0)
def kF (F:Fst) (i:Nat):Int:=(qC8 d0 F i).1
def vF (F:Fst) (i:Nat):Nat→UInt8:=(qC8 d0 F i).2
def sF (s:Nat→UInt64) (F:Fst) (i:Nat):UInt64:=s (kF F i).toNat
def qBM (l:Fst):qAI:=qPq int qDF l
def qDT (l:List (Int×Unit)):qAI:=qPq int ev0 l
def qWh (l:List (Bool×UInt64)):qAI:=qPq Value.bool u64 l
def qGd (p a:UInt64):Bool:=decide (a.toNat<3*p.toNat)
def jB6 (s:Nat→UInt64) (F:Fst) (v:Nat→UInt8):Nat:=qMb (fun i=>if sR (vF F i) v=true then(sF s F i).toNat else 0) F.length
def jDQ (s:Nat→UInt64) (F:Fst):Nat:=qMb (fun i=>(sF s F i).toNat) F.length
def forV (s:Nat→UInt64) (F:Fst) (v:Nat→UInt8):UInt64:=UInt64.ofNat (jB6 s F v)
def qTd (s:Nat→UInt64) (F:Fst) (v:Nat→UInt8) (o:List Nat):=gm eqT (fun i=>sR (vF F i) v) (sF s F) o
structure VOk (n:Nat) (s:Nat→UInt64) (F:Fst):Prop where
 good:n≤40∧qRF s n<2^63
 key:∀i,i<F.length→0≤kF F i∧(kF F i).toNat<n
 inj:∀i j,i<F.length→j<F.length→kF F i=kF F j→i=j
theorem VOk.nil {n:Nat} {s:Nat→UInt64} (h:n≤40∧qRF s n<2^63):VOk n s []:=⟨h,fun i hi=>by simp at hi,fun i j hi=>by simp at hi⟩
def qAF (n:Nat) (s:Nat→UInt64) (F:Fst) (who:Int) (v:Nat→UInt8):Int:=
 if who<0∨(n:Int)≤who then 1 else if s who.toNat=0 then 51 else match qAr eqI who F with
 |none=>0
 |some w=>if sR w v=true then 13 else 52
def qBj (n:Nat) (s:Nat→UInt64) (F:Fst) (who:Int) (v:Nat→UInt8):Fst:=if qAF n s F who v=0 then qCj eqI who v F else F
def qBK (n:Nat) (s:Nat→UInt64) (F:Fst) (A:List (Int×Unit)) (who:Int) (v:Nat→UInt8):List (Int×Unit):=if qAF n s F who v=52 then qCj eqI who () A else A
theorem qMA {α β:Type} {eqb:α→α→Bool} {k:α} {x:β}:∀{m:List (α×β)},qAr eqb k m=none→qCj eqb k x m=m++[(k,x)]
 |[],_=>rfl
 |(h,y)::m,e=>by
  simp only[qAr] at e
  by_cases c:eqb k h=true
  ·simp[c] at e
  ·simp[c] at e
   simp[qCj,c,qMA e]
theorem qKm {α β:Type} {eqb:α→α→Bool} {k:α}:∀{m:List (α×β)},qAr eqb k m=none→∀p∈m,eqb k p.1=false
 |[],_,p,hp=>by cases hp
 |(h,y)::m,e,p,hp=>by
  simp only[qAr] at e
  by_cases c:eqb k h=true
  ·simp[c] at e
  ·simp[c] at e
   rcases List.mem_cons.1 hp with rfl|hp
   ·simpa using c
   ·exact qKm e p hp
theorem qTy {α β:Type} {d:α×β} {l:List (α×β)} {i:Nat} (h:i<l.length):qC8 d l i∈l:=by
 unfold qC8;rw[List.getD_eq_getElem?_getD,List.getElem?_eq_getElem h];exact List.getElem_mem h
theorem jBJ {α β:Type} {d:α×β} {l r:List (α×β)} {i:Nat} (h:i<l.length):qC8 d (l++r) i=qC8 d l i:=by
 unfold qC8;rw[List.getD_eq_getElem?_getD,List.getD_eq_getElem?_getD,List.getElem?_append_left h]
theorem jBo {α β:Type} {d x:α×β} {l:List (α×β)}:qC8 d (l++[x]) l.length=x:=by
 unfold qC8;rw[List.getD_eq_getElem?_getD];simp
section
variable {n:Nat} {s:Nat→UInt64} {F:Fst}
theorem qIq {who:Int} {v:Nat→UInt8} (h:qAF n s F who v=0):qBj n s F who v=F++[(who,v)]∧0≤who∧who.toNat<n∧s who.toNat≠0∧qAr eqI who F=none:=by
 have hF:qBj n s F who v=qCj eqI who v F:=if_pos h
 unfold qAF at h
 split at h
 ·cases h
 split at h
 ·cases h
 split at h
 ·rename_i h1 h2 _ h3
  exact⟨hF.trans (qMA h3),by omega,by omega,h2,h3⟩
 ·split at h<;>cases h
theorem VOk.vote (h:VOk n s F) (who:Int) (v:Nat→UInt8):VOk n s (qBj n s F who v):=by
 by_cases e:qAF n s F who v=0
 ·obtain⟨e1,h1,h2,h3,h4⟩:=qIq e
  rw[e1]
  have hne:∀i,i<F.length→kF F i≠who:=fun i hi c=>by
   have:=qKm h4 _ (qTy (d:=d0) hi)
   have h5:(qC8 d0 F i).1=who:=c
   rw[h5] at this
   simp[eqI] at this
  have hk:∀i,i<F.length→kF (F++[(who,v)]) i=kF F i:=fun i hi=>by unfold kF;rw[jBJ hi]
  have hl:kF (F++[(who,v)]) F.length=who:=by unfold kF;rw[jBo]
  refine⟨h.good,fun i hi=>?_,fun i j hi hj=>?_⟩
  ·simp at hi
   by_cases c:i=F.length
   ·subst c;rw[hl];exact⟨h1,h2⟩
   ·rw[hk i (by omega)];exact h.key i (by omega)
  ·simp at hi hj
   by_cases c:i=F.length
   ·by_cases c2:j=F.length
    ·omega
    ·rw[c,hl,hk j (by omega)];exact fun x=>absurd x.symm (hne j (by omega))
   ·by_cases c2:j=F.length
    ·rw[c2,hl,hk i (by omega)];exact fun x=>absurd x (hne i (by omega))
    ·rw[hk i (by omega),hk j (by omega)];exact h.inj i j (by omega) (by omega)
 ·have:qBj n s F who v=F:=if_neg e
  rw[this];exact h
theorem qPX {f:Nat→Nat} {g:Nat→Nat}:∀l:List Nat,qLq f (l.map g)=qLq (fun i=>f (g i)) l
 |[]=>rfl
 |i::l=>by simp only[List.map_cons,qLq,qPX l]
theorem qRd (f:Nat→Nat) (n:Nat):qLq f (List.range n)=qMb f n:=qPc f n _ List.nodup_range fun x=>List.mem_range
theorem VOk.any_le (h:VOk n s F):jDQ s F≤qRF s n:=by
 have h1:qLq (fun k=>(s k).toNat) ((List.range F.length).map fun i=>(kF F i).toNat)≤qMb (fun k=>(s k).toNat) n:=by
  refine qMQ _ n _ (List.pairwise_map.2 (List.Pairwise.imp_of_mem (fun{a b} ha hb hab=>?_) (List.nodup_range (n:=F.length)))) fun x hx=>?_
  ·have ha':=List.mem_range.1 ha;have hb':=List.mem_range.1 hb
   intro e
   have:=h.key a ha';have:=h.key b hb'
   exact hab (h.inj a b ha' hb' (by omega))
  ·obtain⟨i,hi,rfl⟩:=List.mem_map.1 hx
   exact(h.key i (List.mem_range.1 hi)).2
 rw[qPX,qRd] at h1
 rw[qXV];exact h1
theorem qLy (v:Nat→UInt8):jB6 s F v≤jDQ s F:=qSf _ fun i _=>by split<;>omega
theorem VOk.lt (h:VOk n s F):jDQ s F<2^63:=Nat.lt_of_le_of_lt h.any_le h.good.2
theorem VOk.forV (h:VOk n s F) (v:Nat→UInt8):(forV s F v).toNat=jB6 s F v:=by
 have:=qLy (s:=s) (F:=F) v;have:=h.lt
 unfold Go.Eng.forV
 rw[UInt64.toNat_ofNat'];exact Nat.mod_eq_of_lt (by omega)
theorem qU4 {f:Nat→Nat} {o:List Nat} {m:Nat} (h:qUv m o):qLq f o=qMb f m:=qPc f m o h.nd h.mem
theorem qYV (h:VOk n s F) (v:Nat→UInt8) {o:List Nat} (ho:qUv F.length o):(qAr eqT true (qTd s F v o)).getD 0=Go.Eng.forV s F v:=by
 apply UInt64.toNat_inj.1
 rw[h.forV]
 unfold qTd
 rw[qZj jEt,qU4 ho,show(fun i=>if eqT true (sR (vF F i) v)=true then(sF s F i).toNat else 0)=(fun i=>if sR (vF F i) v=true then(sF s F i).toNat else 0) from funext fun i=>by cases sR (vF F i) v<;>rfl]
 exact Nat.mod_eq_of_lt (Nat.lt_of_le_of_lt (qLy (s:=s) (F:=F) v) (Nat.lt_trans h.lt (by decide)))
end
end Go.Eng
namespace Go.Eng
theorem VOk.len {n:Nat} {s:Nat→UInt64} {F:Fst} (h:VOk n s F):F.length≤40:=by
 have h1:qIw n ((List.range F.length).map fun i=>(kF F i).toNat):=by
  refine⟨List.pairwise_map.2 (List.Pairwise.imp_of_mem (fun{a b} ha hb hab=>?_) (List.nodup_range (n:=F.length))),fun x hx=>?_⟩
  ·have ha':=List.mem_range.1 ha;have hb':=List.mem_range.1 hb
   intro e
   have:=h.key a ha';have:=h.key b hb'
   exact hab (h.inj a b ha' hb' (by omega))
  ·obtain⟨i,hi,rfl⟩:=List.mem_map.1 hx
   exact(h.key i (List.mem_range.1 hi)).2
 have h2:=qKU h1
 have:=h.good.1
 simp at h2;omega
theorem qWw {p a:UInt64}:decide (qOg (qLl (qBc p) (qBc 3)).lo (qBc a)>0)=qGd p a:=by
 have hp:=p.toNat_lt;have ha:=a.toNat_lt
 have e:∀x y:UInt64,(qLl (qBc x) (qBc y)).lo.val=x.toNat*y.toNat:=fun x y=>by
  have h1:=qV1 (qBc x) (qBc y)
  rw[qGP,qGP] at h1
  have hx:=x.toNat_lt;have hy:=y.toNat_lt
  have hm:x.toNat*y.toNat<2^128:=Nat.lt_of_lt_of_le (Nat.mul_lt_mul'' hx hy) (by decide)
  have hl:=(qLl (qBc x) (qBc y)).lo.val_lt
  have hv:(qLl (qBc x) (qBc y)).val=(qLl (qBc x) (qBc y)).lo.val+2^256*(qLl (qBc x) (qBc y)).hi.val:=rfl
  have hz:(qLl (qBc x) (qBc y)).hi.val=0:=by
   rcases Nat.eq_zero_or_pos (qLl (qBc x) (qBc y)).hi.val with h0|h0
   ·exact h0
   ·have:=Nat.mul_le_mul_left (2^256) h0;omega
  omega
 unfold qGd
 rw[qYf,e,qGP,show(3:UInt64).toNat=3 from rfl]
 have:(ord (p.toNat*3) a.toNat>0)↔a.toNat<3*p.toNat:=by
  unfold ord;split<;>(try split)<;>omega
 exact decide_eq_decide.2 this
end Go.Eng
namespace Go.Eng
section
variable {n:Nat} {s:Nat→UInt64} {F:Fst} {A:List (Int×Unit)} {who:Int} {v:Nat→UInt8}
theorem qGQ {e:Int} (h:qAF n s F who v=e) (h0:e≠0) (h52:e≠52):qBj n s F who v=F∧qBK n s F A who v=A:=
 ⟨if_neg (by rw[h];exact h0),if_neg (by rw[h];exact h52)⟩
theorem qSU (h:who<0∨(n:Int)≤who):qAF n s F who v=1:=if_pos h
theorem qOR (h:¬(who<0∨(n:Int)≤who)) (h0:(s who.toNat==0)=true):qAF n s F who v=51:=by
 unfold qAF;rw[if_neg h,if_pos (eq_of_beq h0)]
theorem qUy (h:¬(who<0∨(n:Int)≤who)) (h0:(s who.toNat==0)=false) (hf:(qAr eqI who F).isSome=false):qAF n s F who v=0:=by
 unfold qAF;rw[if_neg h,if_neg (by simpa using h0)]
 cases hc:qAr eqI who F with
 |none=>rfl
 |some w=>rw[hc] at hf;cases hf
theorem qOk (h:¬(who<0∨(n:Int)≤who)) (h0:(s who.toNat==0)=false) (hf:(qAr eqI who F).isSome=true) (hs:sR ((qAr eqI who F).getD fun _=>0) v=true):qAF n s F who v=13:=by
 unfold qAF;rw[if_neg h,if_neg (by simpa using h0)]
 cases hc:qAr eqI who F with
 |none=>rw[hc] at hf;cases hf
 |some w=>rw[hc] at hs;exact if_pos hs
theorem qPg (h:¬(who<0∨(n:Int)≤who)) (h0:(s who.toNat==0)=false) (hf:(qAr eqI who F).isSome=true) (hs:sR ((qAr eqI who F).getD fun _=>0) v=false):qAF n s F who v=52:=by
 unfold qAF;rw[if_neg h,if_neg (by simpa using h0)]
 cases hc:qAr eqI who F with
 |none=>rw[hc] at hf;cases hf
 |some w=>rw[hc] at hs;exact if_neg (by rw[show sR w v=false from hs];decide)
theorem qOy (h:qAF n s F who v=0):qBj n s F who v=qCj eqI who v F∧qBK n s F A who v=A:=⟨if_pos h,if_neg (by rw[h];decide)⟩
theorem qMf (h:qAF n s F who v=52):qBj n s F who v=F∧qBK n s F A who v=qCj eqI who () A:=⟨if_neg (by rw[h];decide),if_pos h⟩
end
end Go.Eng
namespace Go.Eng
def qYz (l:List UInt64):Nat→UInt64:=fun k=>l.getD k 0
theorem qSY (l:List UInt64):∀j v,(qAd l.length fun k=>u64 (qYz l k)).get j=some v→(qAI.lit (l.map u64)).get j=some v:=fun j v hj=>by
 by_cases h:j<l.length
 ·rw[qAL h] at hj
  injection hj with hj;subst hj
  show(l.map u64)[j]?= _
  simp[qYz,h]
 ·rw[qA3 h] at hj;cases hj
end Go.Eng
end
section
namespace Go.Eng
open Go.WideShapes Go.ChangeShapes Go.ChangeAt Go.ChangeMaps
def eqW (a b:UInt64):Bool:=a==b
theorem qFz {a b:UInt64}:eqW a b=true↔a=b:=beq_iff_eq
theorem jD9 (a b:UInt64):((a.toNat:Int)==(b.toNat:Int))=eqW a b:=by
 rw[Bool.eq_iff_iff,qFz,beq_iff_eq]
 exact⟨fun h=>UInt64.toNat_inj.1 (by omega),fun h=>by rw[h]⟩
section
variable {α β:Type}
def qBL (kv:α→Value) (ev:β→Value) (D:List Nat):List (α×β)→Nat→List MapEntry
 |[],_=>[]
 |(k,x)::r,i=>if D.contains i=true then qBL kv ev D r (i+1) else⟨kv k,ev x,i⟩::qBL kv ev D r (i+1)
def qA8 (kv:α→Value) (ev:β→Value) (D:List Nat) (l:List (α×β)):qAI:=.map (qBL kv ev D l 0).toArray l.length
theorem qNQ (kv:α→Value) (ev:β→Value):∀(l:List (α×β)) (i:Nat),qBL kv ev [] l i=qBH kv ev l i
 |[],_=>rfl
 |(k,x)::r,i=>by simp only[qBL,qBH];rw[qNQ kv ev r (i+1)];rfl
theorem qQc (kv:α→Value) (ev:β→Value) (l:List (α×β)):qA8 kv ev [] l=qPq kv ev l:=by unfold qA8 qPq;rw[qNQ]
def qDE (eqb:α→α→Bool) (k:α) (D:List Nat):List (α×β)→Nat→Nat→Option (Nat×Nat×β)
 |[],_,_=>none
 |(h,x)::r,i,q=>if D.contains i=true then qDE eqb k D r (i+1) q else if eqb k h=true then some (q,i,x) else qDE eqb k D r (i+1) (q+1)
def qDf (eqb:α→α→Bool) (k:α) (D:List Nat) (l:List (α×β)):Option β:=(qDE eqb k D l 0 0).map fun p=>p.2.2
def qCd (D:List Nat) (n:Nat):Nat:=((List.range n).filter fun i=>!D.contains i).length
variable {P:Program} {mt kt et:TypeId} {kv:α→Value} {ev:β→Value} {z:β} {eqb:α→α→Bool}
theorem qKK {kd:TypeDesc} (hs:∀k h,Instr.sameNow kd (kv k) (kv h)=some (eqb k h)) (k:α) (D:List Nat):∀(l:List (α×β)) (i q:Nat),Instr.findNow kd (kv k) (qBL kv ev D l i) q=some ((qDE eqb k D l i q).map fun p=>(p.1,ev p.2.2))
 |[],_,_=>rfl
 |(h,x)::r,i,q=>by
  simp only[qBL,qDE]
  by_cases hD:D.contains i=true
  ·rw[if_pos hD,if_pos hD];exact qKK hs k D r (i+1) q
  ·rw[if_neg hD,if_neg hD]
   simp only[Instr.findNow,hs]
   cases e:eqb k h with
   |true=>simp
   |false=>simpa using qKK hs k D r (i+1) (q+1)
structure qZp (P:Program) (mt kt et:TypeId) (kv:α→Value) (ev:β→Value) (z:β) (eqb:α→α→Bool):Prop extends qQj P mt kt et kv ev z eqb where
 fndP:∀k D (l:List (α×β)) w,(Instr.findKey kt (kv k) (qBL kv ev D l 0)).run P w=.ok ((qDE eqb k D l 0 0).map fun p=>(p.1,ev p.2.2)) w
theorem qFn (D:List Nat):∀{l:List (α×β)} {i:Nat} {e:MapEntry},e∈qBL kv ev D l i→∃j h x,l[j]?=some (h,x)∧D.contains (i+j)=false∧e=⟨kv h,ev x,i+j⟩
 |[],_,e,he=>by cases he
 |(h,x)::r,i,e,he=>by
  simp only[qBL] at he
  by_cases hD:D.contains i=true
  ·rw[if_pos hD] at he
   obtain⟨j,h',x',h1,h2,h3⟩:=qFn D he
   exact⟨j+1,h',x',by simpa using h1,by rw[show i+(j+1)=i+1+j by omega];exact h2,by rw[show i+(j+1)=i+1+j by omega];exact h3⟩
  ·rw[if_neg hD] at he
   rcases List.mem_cons.1 he with rfl|he
   ·exact⟨0,h,x,rfl,by simpa using hD,rfl⟩
   ·obtain⟨j,h',x',h1,h2,h3⟩:=qFn D he
    exact⟨j+1,h',x',by simpa using h1,by rw[show i+(j+1)=i+1+j by omega];exact h2,by rw[show i+(j+1)=i+1+j by omega];exact h3⟩
theorem qMH (D:List Nat):∀{l:List (α×β)} {i j:Nat} {h:α} {x:β},l[j]?=some (h,x)→D.contains (i+j)=false→(⟨kv h,ev x,i+j⟩:MapEntry)∈qBL kv ev D l i
 |[],_,_,_,_,e,_=>by simp at e
 |(h0,x0)::r,i,0,h,x,e,hD=>by
  simp at e;obtain⟨rfl,rfl⟩:=e
  simp only[qBL]
  rw[if_neg (by simpa using hD)];exact .head _
 |(h0,x0)::r,i,j+1,h,x,e,hD=>by
  have:=qMH D (l:=r) (i:=i+1) (j:=j) (by simpa using e) (by rw[show i+1+j=i+(j+1) by omega];exact hD)
  rw[show i+1+j=i+(j+1) by omega] at this
  simp only[qBL]
  by_cases h1:D.contains i=true
  ·rw[if_pos h1];exact this
  ·rw[if_neg h1];exact .tail _ this
theorem qGN (D:List Nat):∀(l:List (α×β)) (i:Nat),(qBL kv ev D l i).map (·.born)=(List.range' i l.length).filter fun j=>!D.contains j
 |[],_=>rfl
 |(h,x)::r,i=>by
  simp only[qBL,List.length_cons,List.range'_succ,List.filter_cons]
  by_cases hD:D.contains i=true
  ·rw[if_pos hD,qGN D r (i+1),hD];rfl
  ·rw[if_neg hD]
   have hD':D.contains i=false:=by simpa using hD
   simp only[List.map_cons,qGN D r (i+1),hD']
   rfl
theorem qUf (D:List Nat) (l:List (α×β)):(qBL kv ev D l 0).length=qCd D l.length:=by
 have:=congrArg List.length (qGN (kv:=kv) (ev:=ev) D l 0)
 rw[List.length_map,←List.range_eq_range'] at this
 exact this
theorem qFj (M:qZp P mt kt et kv ev z eqb) (b:Nat) (own:Bool) (D:List Nat) (l:List (α×β)) (k:α):
  qAz P (qKk mt (.map (some b)) (kv k) true) [⟨b,own,0,qA8 kv ev D l⟩] 0 (fun _=>.tuple #[ev ((qDf eqb k D l).getD z),.bool (qDf eqb k D l).isSome]) (fun _=>[none]):=by
 intro w hall ha
 have hb:=(hall _ (List.mem_singleton.2 rfl)).objm rfl
 refine⟨[],w,rfl,.inl (qAA ?_),qCx 1⟩
 simp only at hb
 unfold Instr.lookup qDf
 simp only[Sem.run_bind,run_underlying M.hm,Result.andThen_ok,qKB hb,Sem.run_pure,M.chk,M.fndP]
 cases hf:qDE eqb k D l 0 0 with
 |none=>simp[M.zer]
 |some q=>simp
theorem qKx (M:qZp P mt kt et kv ev z eqb) (b:Nat) (own:Bool) (D:List Nat) (l:List (α×β)) (k:α):
  qAz P (qKk mt (.map (some b)) (kv k) false) [⟨b,own,0,qA8 kv ev D l⟩] 0 (fun _=>ev ((qDf eqb k D l).getD z)) (fun _=>[none]):=by
 intro w hall ha
 have hb:=(hall _ (List.mem_singleton.2 rfl)).objm rfl
 refine⟨[],w,rfl,.inl (qAA ?_),qCx 1⟩
 simp only at hb
 unfold Instr.lookup qDf
 simp only[Sem.run_bind,run_underlying M.hm,Result.andThen_ok,qKB hb,Sem.run_pure,M.chk,M.fndP]
 cases hf:qDE eqb k D l 0 0 with
 |none=>simp[M.zer]
 |some q=>simp
theorem qOT (M:qQj P mt kt et kv ev z eqb) (k:α):qAz P (qKk mt (.map none) (kv k) false) [] 0 (fun _=>ev z) (fun _=>[]):=by
 intro w hall ha
 refine⟨[],w,rfl,.inl (qAA ?_),⟨fun p b h=>?_,fun p q b c _ h=>?_,Adv.refl _ _⟩⟩
 ·unfold Instr.lookup
  have h:=M.fnd k [] 0 w
  simp only[qBH] at h
  simp only[Sem.run_bind,run_underlying M.hm,Result.andThen_ok,Sem.run_pure,M.chk]
  have h':(Instr.findKey kt (kv k) (#[]:Array MapEntry).toList).run P w=.ok none w:=h
  rw[h']
  simp[M.zer]
 ·simp[lM] at h
 ·simp[lM] at h
def qXR (t ty:TypeId) (x:Value):Sem Next:=do pure (.value (←Builtin.len_ #[t] ty #[x]))
theorem qNs (hm:P.underlying mt=some (.map kt et)) (ty b:Nat) (own:Bool) (D:List Nat) (l:List (α×β)):
  qAz P (qXR mt ty (.map (some b))) [⟨b,own,0,qA8 kv ev D l⟩] 0 (fun _=>nat (qCd D l.length)) (fun _=>[none]):=by
 intro w hall ha
 have hb:=(hall _ (List.mem_singleton.2 rfl)).objm rfl
 simp only at hb
 refine⟨[],w,rfl,.inl (qAA ?_),qCx 1⟩
 have hb':w.heap[b]?=some (.map (qBL kv ev D l 0).toArray l.length):=hb
 unfold Builtin.len_
 simp[run_underlying hm,qKB hb',qUf,nat,goInt]
theorem qLd (hm:P.underlying mt=some (.map kt et)) (b:Nat) (own:Bool) (D:List Nat) (l:List (α×β)):
  qAz P (qTf mt (.map (some b))) [⟨b,own,0,qA8 kv ev D l⟩] 1 (fun ns=>ptr (ns.getD 0 0) 0) (fun ns=>[none,some ⟨ns.getD 0 0,true,0,itC b l.length []⟩]):=by
 intro w hall ha
 have hb:=(hall _ (List.mem_singleton.2 rfl)).objm rfl
 obtain⟨h1,h2⟩:=qFJ w (.mapIter (some b) l.length #[] l.length)
 refine⟨[w.heap.size],w.alloc (.mapIter (some b) l.length #[] l.length),rfl,.inl (qAA ?_),⟨fun p c hpc=>?_,fun p p' c d hpp hc hd ho=>?_,⟨rfl,rfl,rfl,by simp,fun j hj _=>h2 j hj,fun j hj=>?_,fun p c hpc ho=>?_⟩⟩⟩
 ·exact run_range_map w mt kt et b _ _ hm hb
 ·rcases p with _ | _ |p
  ·simp[lM] at hpc
  ·injection hpc with hpc;subst hpc
   exact⟨by simp,(fun o v ho=>by cases ho),(fun _ o v ho=>by cases ho),h1⟩
  ·simp[lM] at hpc
 ·rcases p with _ | _ |p
  ·simp[lM] at hc
  ·rcases p' with _ | _ |p'
   ·simp[lM] at hd
   ·exact absurd rfl hpp
   ·simp[lM] at hd
  ·simp[lM] at hc
 ·obtain⟨p,c,hpc,ho,hjk⟩:=hj
  rcases p with _ | _ |p
  ·simp[lM] at hpc
  ·injection hpc with hpc;subst hpc;exact .inr (Nat.le_of_eq hjk)
  ·simp[lM] at hpc
 ·rcases p with _ | _ |p
  ·simp[lM] at hpc
  ·injection hpc with hpc;subst hpc;cases ho
  ·simp[lM] at hpc
def qI2 (S D o:List Nat):Prop:=∀i,S.contains i=(D.contains i||o.contains i)
theorem qI2.nil (D:List Nat):qI2 D D []:=fun i=>by simp
theorem qNY {l:List (α×β)} {S D o:List Nat} (hS:qI2 S D o):(leftOf (qBL kv ev D l 0).toArray o.toArray).size=0↔qBe S l.length=false:=by
 unfold leftOf
 constructor
 ·intro h
  have h2:Array.filter (fun e=>!o.toArray.contains e.born) (qBL kv ev D l 0).toArray=#[]:=Array.eq_empty_of_size_eq_zero h
  rw[Array.filter_eq_empty_iff] at h2
  cases hu:qBe S l.length with
  |false=>rfl
  |true=>
   obtain⟨i,h3,h4⟩:=List.any_eq_true.1 hu
   have hi:=List.mem_range.1 h3
   have h5:S.contains i=false:=by simpa using h4
   rw[hS i] at h5
   have h6:D.contains i=false:=by cases hc:D.contains i<;>rw[hc] at h5<;>first|rfl|cases h5
   have h7:o.contains i=false:=by rw[h6] at h5;simpa using h5
   have hm:=qMH (kv:=kv) (ev:=ev) D (l:=l) (i:=0) (j:=i) (h:=l[i].1) (x:=l[i].2) (by simp[hi]) (by rw[Nat.zero_add];exact h6)
   rw[Nat.zero_add] at hm
   have h8:=h2 _ (by simpa using hm)
   simp at h8 h7
   exact absurd h8 h7
 ·intro h
  have hs:=qJ1 h
  have:Array.filter (fun e=>!o.toArray.contains e.born) (qBL kv ev D l 0).toArray=#[]:=by
   rw[Array.filter_eq_empty_iff]
   intro e he
   obtain⟨j,h',x,h1,h2,rfl⟩:=qFn D (by simpa using he)
   have hj:j<l.length:=(List.getElem?_eq_some_iff.1 h1).1
   have h3:=hs j hj
   rw[hS j] at h3
   rw[Nat.zero_add] at h2
   rw[h2,Bool.false_or] at h3
   simp at h3 ⊢
   exact h3
  rw[this];rfl
theorem qN6 (ty r b:Nat) (own:Bool) (l:List (α×β)) (S D o:List Nat) (d:α×β) (hS:qI2 S D o) (hu:qBe S l.length=true):
  qAz P (qN2 (ptr r 0) ty) [⟨r,true,0,itC b l.length o⟩,⟨b,own,0,qA8 kv ev D l⟩] 1
   (fun ns=>.tuple #[.bool true,kv (qC8 d l (pk S l.length (ns.getD 0 0))).1,ev (qC8 d l (pk S l.length (ns.getD 0 0))).2]) (fun ns=>[some ⟨r,true,0,itC b l.length (o++[pk S l.length (ns.getD 0 0)])⟩,none]):=by
 intro w hall ha
 have hH:=hall _ (List.mem_cons_self ..)
 have hr:=hH.objm rfl
 have hb:=(hall _ (List.mem_cons_of_mem _ (List.mem_singleton.2 rfl))).objm rfl
 have hr':w.heap[r]?=some (.mapIter (some b) l.length o.toArray l.length):=hr
 have hb':w.heap[b]?=some (.map (qBL kv ev D l 0).toArray l.length):=hb
 have hold:∀x∈(qBL kv ev D l 0).toArray.toList,x.born<l.length:=fun x hx=>by
  obtain⟨j,h,y,h1,_,rfl⟩:=qFn D (by simpa using hx)
  have:=(List.getElem?_eq_some_iff.1 h1).1
  show 0+j<l.length;omega
 rcases run_next_at (P:=P) w ty r b l.length l.length o.toArray _ _ hr' hb' hold (Nat.le_refl _) with⟨h0,_⟩|⟨e,he,w1,hw1,hrun⟩
 ·rw[(qNY hS).1 h0] at hu;cases hu
 obtain⟨he1,he2⟩:=mem_left he
 obtain⟨j,h,x,hj,hjD,rfl⟩:=qFn D (by simpa using he1)
 have hjl:j<l.length:=(List.getElem?_eq_some_iff.1 hj).1
 have hjo:o.contains j=false:=by simpa using he2
 have hjS:S.contains j=false:=by rw[Nat.zero_add] at hjD;rw[hS j,hjD,hjo];rfl
 have hpk:=qSV hjl hjS
 have hat:qC8 d l j=(h,x):=by unfold qC8;rw[List.getD_eq_getElem?_getD,hj];rfl
 have hb1:w1.heap=w.heap:=by rcases hw1 with rfl|rfl<;>rfl
 have hro:w1.heap[r]?=some (.mapIter (some b) l.length o.toArray l.length):=by rw[hb1];exact hr'
 obtain⟨s1,s2⟩:=qKe (o':=.mapIter (some b) l.length (o.toArray.push (0+j)) l.length) hro
 refine⟨[j],setBlock w1 r (.mapIter (some b) l.length (o.toArray.push (0+j)) l.length),rfl,.inl (qAA (hrun.trans ?_)),qPw hH ?_ ?_ ?_ ?_ (fun i hi=>?_) ?_⟩
 ·show _=Result.ok (Value.tuple #[Value.bool true,kv (qC8 d l (pk S l.length j)).1,ev (qC8 d l (pk S l.length j)).2]) _
  rw[hpk,hat]
 ·rcases hw1 with rfl|rfl<;>rfl
 ·rcases hw1 with rfl|rfl<;>rfl
 ·rcases hw1 with rfl|rfl<;>rfl
 ·simp[setBlock,hb1]
 ·have:=s2 i hi
  rw[hb1] at this
  simpa[setBlock,hb1] using this
 ·refine⟨?_,(fun o v ho=>by cases ho),(fun _ o v ho=>by cases ho),?_⟩
  ·have:=hH.lt;simpa[setBlock,hb1] using this
  ·show(w1.heap.setIfInBounds r _)[r]?= _
   rw[s1]
   show _=some (Obj.mapIter (some b) l.length (o++[pk S l.length j]).toArray l.length)
   rw[hpk];simp
theorem qIN (ty r b:Nat) (ow own:Bool) (l:List (α×β)) (S D o:List Nat) (hS:qI2 S D o) (hu:qBe S l.length=false):
  qAz P (qN2 (ptr r 0) ty) [⟨r,ow,0,itC b l.length o⟩,⟨b,own,0,qA8 kv ev D l⟩] 0 (fun _=>.tuple #[.bool false]) (fun _=>[none,none]):=by
 intro w hall ha
 have hr:=(hall _ (List.mem_cons_self ..)).objm rfl
 have hb:=(hall _ (List.mem_cons_of_mem _ (List.mem_singleton.2 rfl))).objm rfl
 have hold:∀x∈(qBL kv ev D l 0).toArray.toList,x.born<l.length:=fun x hx=>by
  obtain⟨j,h,y,h1,_,rfl⟩:=qFn D (by simpa using hx)
  have:=(List.getElem?_eq_some_iff.1 h1).1
  show 0+j<l.length;omega
 have h0:(leftOf (qBL kv ev D l 0).toArray o.toArray).size=0:=(qNY hS).2 hu
 rcases run_next_at (P:=P) w ty r b l.length l.length o.toArray _ _ hr hb hold (Nat.le_refl _) with⟨_,h1⟩|⟨e,he,_⟩
 ·exact⟨[],w,rfl,.inl (qAA h1),qCx 2⟩
 ·have:(leftOf (qBL kv ev D l 0).toArray o.toArray)=#[]:=Array.eq_empty_of_size_eq_zero h0
  rw[this] at he;simp at he
theorem qNH (r b:Nat) (ow own:Bool) (l:List (α×β)) (D o:List Nat) (j:Nat) (d:α×β) (hj:j<l.length) (hD:D.contains j=false):
  qAz P (qXP (ptr r 0)) [⟨r,ow,0,itC b l.length (o++[j])⟩,⟨b,own,0,qA8 kv ev D l⟩] 0 (fun _=>.tuple #[kv (qC8 d l j).1,ev (qC8 d l j).2]) (fun _=>[none,none]):=by
 intro w hall ha
 have hr:=(hall _ (List.mem_cons_self ..)).objm rfl
 have hb:=(hall _ (List.mem_cons_of_mem _ (List.mem_singleton.2 rfl))).objm rfl
 have he:=qMH (kv:=kv) (ev:=ev) D (l:=l) (i:=0) (j:=j) (h:=l[j].1) (x:=l[j].2) (by simp[hj]) (by rw[Nat.zero_add];exact hD)
 have hat:qC8 d l j=l[j]:=by unfold qC8;simp[List.getD_eq_getElem?_getD,hj]
 have hr2:w.heap[r]?=some (.mapIter (some b) l.length (o.toArray.push (⟨kv l[j].1,ev l[j].2,0+j⟩:MapEntry).born) l.length):=by
  have:w.heap[r]?=some (.mapIter (some b) l.length (o++[j]).toArray l.length):=hr
  rw[this];simp
 refine⟨[],w,rfl,.inl (qAA ?_),qCx 2⟩
 rw[hat]
 refine run_entry_at (P:=P) w r b l.length o.toArray _ _ _ hr2 hb (by simpa using he) ?_
 rw[show(qBL kv ev D l 0).toArray.toList=qBL kv ev D l 0 by simp,qGN]
 exact List.Pairwise.filter _ List.nodup_range'
theorem qH9 {k:α} {D:List Nat}:∀{l:List (α×β)} {i q p j:Nat} {x:β},qDE eqb k D l i q=some (p,j,x)→q≤p∧i≤j∧(qBL kv ev D l i).eraseIdx (p-q)=qBL kv ev (D++[j]) l i∧∃h,l[j-i]?=some (h,x)∧eqb k h=true∧D.contains j=false
 |[],_,_,_,_,_,e=>by cases e
 |(h,y)::r,i,q,p,j,x,e=>by
  simp only[qDE] at e
  by_cases hD:D.contains i=true
  ·rw[if_pos hD] at e
   obtain⟨h1,h2,h3,h',h4,h5,h6⟩:=qH9 e
   refine⟨h1,by omega,?_,h',by rw[show j-i=(j-(i+1))+1 by omega];simpa using h4,h5,h6⟩
   simp only[qBL]
   rw[if_pos hD,if_pos (by simp at hD ⊢;exact .inl hD)];exact h3
  ·rw[if_neg hD] at e
   have hD':D.contains i=false:=by simpa using hD
   by_cases he:eqb k h=true
   ·rw[if_pos he] at e
    injection e with e;injection e with e1 e2;injection e2 with e2 e3;subst e1;subst e2;subst e3
    refine⟨Nat.le_refl _,Nat.le_refl _,?_,h,by simp,he,hD'⟩
    simp only[qBL]
    rw[if_neg hD,if_pos (by simp),Nat.sub_self]
    show qBL kv ev D r (i+1)=_
    have:∀(r:List (α×β)) (m:Nat),i<m→qBL kv ev D r m=qBL kv ev (D++[i]) r m:=fun r=>by
     induction r with
     |nil=>intro m _;rfl
     |cons z r ih=>
      obtain⟨a,b⟩:=z
      intro m hm
      simp only[qBL]
      rw[List.contains_append,show([i]:List Nat).contains m=false by simp;omega,Bool.or_false,ih (m+1) (by omega)]
    exact this r (i+1) (by omega)
   ·rw[if_neg he] at e
    obtain⟨h1,h2,h3,h',h4,h5,h6⟩:=qH9 e
    refine⟨by omega,by omega,?_,h',by rw[show j-i=(j-(i+1))+1 by omega];simpa using h4,h5,h6⟩
    simp only[qBL]
    rw[if_neg hD,if_neg (by rw[List.contains_append,hD',show([j]:List Nat).contains i=false by simp;omega];decide),show p-q=(p-(q+1))+1 by omega,List.eraseIdx_cons_succ,h3]
def qXj (t k ty:TypeId) (x y:Value):Sem Next:=do pure (.value (←Builtin.delete_ #[t,k] ty #[x,y]))
theorem qSJ (M:qZp P mt kt et kv ev z eqb) (tk ty b:Nat) (D:List Nat) (l:List (α×β)) (k:α) (p j:Nat) (x:β) (hf:qDE eqb k D l 0 0=some (p,j,x)):
  qAz P (qXj mt tk ty (.map (some b)) (kv k)) [⟨b,true,0,qA8 kv ev D l⟩] 0 (fun _=>.tuple #[]) (fun _=>[some ⟨b,true,0,qA8 kv ev (D++[j]) l⟩]):=by
 intro w hall ha
 have hH:=hall _ (List.mem_singleton.2 rfl)
 have hb:=hH.objm rfl
 simp only at hb
 have hb':w.heap[b]?=some (.map (qBL kv ev D l 0).toArray l.length):=hb
 obtain⟨_,_,h3,_⟩:=qH9 (kv:=kv) (ev:=ev) hf
 refine⟨[],_,rfl,.inl (qAA ?_),qQE hH⟩
 unfold Builtin.delete_
 simp only[Sem.run_bind,List.getElem?_toArray,List.getElem?_cons_zero,List.getElem?_cons_succ,run_underlying M.hm,Result.andThen_ok,qKB hb',M.chk,M.fndP,hf,Option.map_some,qPU _ hb',Sem.run_pure]
 simp only[Nat.sub_zero] at h3
 rw[←h3]
 simp[OC.obj]
end
section
variable {P:Program} {mt kt et:TypeId} {β:Type} {ev:β→Value} {z:β}
theorem qWP (hm:P.underlying mt=some (.map kt et)) (hk:P.underlying kt=some (.int .u64)) (hz:∀w,(zeroValue et).run P w=.ok (ev z) w):qZp P mt kt et u64 ev z eqW:=
 have hs:∀k h:UInt64,Instr.sameNow (.int .u64) (u64 k) (u64 h)=some (eqW k h):=fun k h=>by rw[←jD9];rfl
 {qMq hm hk hs (fun em k w=>by unfold Instr.checkKey;simp[run_underlying hk,u64]) (fun k h w=>by
   have:qAa P (Op.equal kt (u64 k) (u64 h))=some (eqW k h):=by
    show qAa P (Op.equalIn (9999+1) kt (.int .u64 k.toNat) (.int .u64 h.toNat))=_
    unfold Op.equalIn;rw[qAi,qAk hk,←jD9];rfl
   exact qAO this w) (fun k h e=>by rw[qFz.1 e];simp[Instr.sameBits,u64]) hz with
  fndP:=fun k D l w=>MapKept.run_findKey hk (qKK hs k D l 0 0)}
end
end Go.Eng
namespace Go.Eng
open Go.WideShapes Go.ChangeShapes Go.ChangeAt Go.ChangeMaps
def jDv (_:Unit):qAI:=.map (.o (.mapIter none 0 #[] 0)) 0
theorem qR9 {P:Program} {mt kt et:TypeId} (hm:P.underlying mt=some (.map kt et)):qAz P (qTf mt (.map none)) [] 1 (fun ns=>ptr (ns.getD 0 0) 0) (fun ns=>[some ⟨ns.getD 0 0,true,0,jDv ()⟩]):=by
 intro w hall ha
 obtain⟨h1,h2⟩:=qFJ w (.mapIter none 0 #[] 0)
 refine⟨[w.heap.size],w.alloc (.mapIter none 0 #[] 0),rfl,.inl (qAA ?_),⟨fun p c hpc=>?_,fun p p' c d hpp hc hd ho=>?_,⟨rfl,rfl,rfl,by simp,fun j hj _=>h2 j hj,fun j hj=>?_,fun p c hpc ho=>?_⟩⟩⟩
 ·exact run_range_nilMap w mt kt et hm
 ·rcases p with _ |p
  ·injection hpc with hpc;subst hpc
   exact⟨by simp,(fun o v ho=>by cases ho),(fun _ o v ho=>by cases ho),h1⟩
  ·simp[lM] at hpc
 ·rcases p with _ |p
  ·rcases p' with _ |p'
   ·exact absurd rfl hpp
   ·simp[lM] at hd
  ·simp[lM] at hc
 ·obtain⟨p,c,hpc,ho,hjk⟩:=hj
  rcases p with _ |p
  ·injection hpc with hpc;subst hpc;exact .inr (Nat.le_of_eq hjk)
  ·simp[lM] at hpc
 ·rcases p with _ |p
  ·injection hpc with hpc;subst hpc;cases ho
  ·simp[lM] at hpc
theorem qSG {P:Program} (ty r:Nat) (ow:Bool):qAz P (qN2 (ptr r 0) ty) [⟨r,ow,0,jDv ()⟩] 0 (fun _=>.tuple #[.bool false]) (fun _=>[none]):=by
 intro w hall ha
 have hr:=(hall _ (List.mem_singleton.2 rfl)).objm rfl
 refine⟨[],w,rfl,.inl (qAA ?_),qCx 1⟩
 have hr':w.heap[r]?=some (.mapIter none 0 #[] 0):=hr
 show(Instr.next (.pointer (some ⟨r,0,none⟩)) false ty).run P w=_
 simp[Instr.next,getObj,Sem.run,hr']
theorem qSd {n i:Nat} {g:Nat→Value} (h:i<n):(qDL n g).get i=some (g i):=by
 rw[←qJ0];exact qAL h
end Go.Eng
namespace Go.Eng
open Go.WideShapes Go.ChangeShapes Go.ChangeAt Go.ChangeMaps
section
variable {α β:Type} {kv:α→Value} {ev:β→Value}
theorem qKo {D E:List Nat}:∀(l:List (α×β)) (i:Nat),(∀j,j<i+l.length→D.contains j=E.contains j)→qBL kv ev D l i=qBL kv ev E l i
 |[],_,_=>rfl
 |(k,x)::r,i,h=>by
  simp only[qBL]
  rw[h i (by simp),qKo r (i+1) fun j hj=>h j (by simp at hj ⊢;omega)]
theorem qRx {D E:List Nat} {l:List (α×β)} (h:∀j,j<l.length→D.contains j=E.contains j):qA8 kv ev D l=qA8 kv ev E l:=by
 unfold qA8;rw[qKo l 0 fun j hj=>h j (by omega)]
theorem qGB (D:List Nat) (n:Nat):qCd D n≤n:=by
 unfold qCd
 exact Nat.le_trans (List.length_filter_le _ _) (by simp)
end
theorem qJR (p:Nat→Bool) (o:List Nat):qI2 o (o.filter p) o:=fun i=>by
 cases h:o.contains i with
 |true=>simp
 |false=>
  have:(o.filter p).contains i=false:=by
   simp at h ⊢
   exact fun z=>absurd z h
  rw[this];rfl
theorem qMi {S D o:List Nat} (h:qI2 S D o) {j:Nat} (hj:S.contains j=false):D.contains j=false:=by
 have:=h j
 rw[hj] at this
 cases hd:D.contains j with
 |false=>rfl
 |true=>rw[hd] at this;simp at this
section
variable {β:Type}
def d0W:UInt64×Option (Nat×Nat):=(0,none)
theorem qKf {d:UInt64×β} {D:List Nat}:∀{l:List (UInt64×β)} {i q j:Nat},(l.map (·.1)).Nodup→j<l.length→D.contains (i+j)=false→∃p,qDE eqW (l.getD j d).1 D l i q=some (p,i+j,(l.getD j d).2)
 |[],_,_,_,_,h,_=>absurd h (Nat.not_lt_zero _)
 |(h,x)::r,i,q,0,hn,_,hD=>⟨q,by
  simp only[qDE,List.getD_cons_zero]
  rw[if_neg (by simpa using hD),if_pos (qFz.2 rfl)];rfl⟩
 |(h,x)::r,i,q,j+1,hn,hj,hD=>by
  have hn':=List.nodup_cons.1 (by simpa using hn:(h::r.map (·.1)).Nodup)
  have hj':j<r.length:=by simpa using hj
  have hne:eqW (r.getD j d).1 h=false:=by
   cases e:eqW (r.getD j d).1 h with
   |false=>rfl
   |true=>
    exfalso
    have:=qFz.1 e
    refine hn'.1 (this▸List.mem_map.2 ⟨r[j],List.getElem_mem hj',?_⟩)
    simp[List.getD_eq_getElem?_getD,hj']
  simp only[qDE,List.getD_cons_succ]
  by_cases hi:D.contains i=true
  ·rw[if_pos hi]
   obtain⟨p,hp⟩:=qKf (d:=d) (D:=D) (l:=r) (i:=i+1) (q:=q) (j:=j) hn'.2 hj' (by rw[show i+1+j=i+(j+1) by omega];exact hD)
   exact⟨p,by rw[hp,show i+1+j=i+(j+1) by omega]⟩
  ·rw[if_neg hi,if_neg (by rw[hne];decide)]
   obtain⟨p,hp⟩:=qKf (d:=d) (D:=D) (l:=r) (i:=i+1) (q:=q+1) (j:=j) hn'.2 hj' (by rw[show i+1+j=i+(j+1) by omega];exact hD)
   exact⟨p,by rw[hp,show i+1+j=i+(j+1) by omega]⟩
theorem qUi {P:Program} {mt kt et:TypeId} {ev:β→Value} {z:β} (M:qZp P mt kt et u64 ev z eqW) (tk ty b:Nat) (D:List Nat) (l:List (UInt64×β)) (d:UInt64×β) (j:Nat) (hn:(l.map (·.1)).Nodup) (hj:j<l.length) (hD:D.contains j=false):
  qAz P (qXj mt tk ty (.map (some b)) (u64 (qC8 d l j).1)) [⟨b,true,0,qA8 u64 ev D l⟩] 0 (fun _=>.tuple #[]) (fun _=>[some ⟨b,true,0,qA8 u64 ev (D++[j]) l⟩]):=by
 obtain⟨p,hp⟩:=qKf (d:=d) (D:=D) (l:=l) (i:=0) (q:=0) hn hj (by rw[Nat.zero_add];exact hD)
 rw[Nat.zero_add] at hp
 exact qSJ M tk ty b D l _ p j _ hp
def lsK (l:List (UInt64×Option (Nat×Nat))) (b:UInt64) (i:Nat):Bool:=decide ((qC8 d0W l i).1<b)
def fgD (l:List (UInt64×Option (Nat×Nat))) (b:UInt64):List Nat:=(List.range l.length).filter (lsK l b)
theorem qYX {l:List (UInt64×Option (Nat×Nat))} {b:UInt64} {o:List Nat} (h:qUv l.length o) (j:Nat):(o.filter (lsK l b)).contains j=(fgD l b).contains j:=by
 unfold fgD
 rw[Bool.eq_iff_iff]
 simp only[List.contains_iff_mem,List.mem_filter,List.mem_range]
 rw[h.mem]
end
end Go.Eng
namespace Go.Eng
theorem qYS {p:Nat→Bool} {o:List Nat} {j:Nat} (h:p j=true):o.filter p++[j]=(o++[j]).filter p:=by
 rw[List.filter_append];simp[h]
theorem jBQ {p:Nat→Bool} {o:List Nat} {j:Nat} (h:p j=false):o.filter p=(o++[j]).filter p:=by
 rw[List.filter_append];simp[h]
end Go.Eng
end
