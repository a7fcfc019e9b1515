/-
  Many in one: Maps, Fams, Byt, BytIn, Grow, Opt, GsU8, ShaOps, ShaHash, ShaMore, ShaRefL, PurFair, PurSum, PurFns, Pile, LendW, Heap, Timer, CodG, CodDef, CodRead, CodStay, CodAgn, CodBck, CodFwd, NatL, Timer2, LendV, CodFns, CodRd, CodAw, CodRm, CodNs, CodWg.
-/
import Derived.Test.YtmdpendnbkajdaaDoorZChaseForgets8
import Derived.MapKept
import Derived.WideKeyRuns
set_option linter.unusedVariables false
set_option linter.unusedSimpArgs false
set_option maxRecDepth 100000
set_option maxHeartbeats 1000000
section
namespace Go.Eng
open Go.WideShapes
theorem qKB {P:Program} {w:World} {r:Nat} {es:Array MapEntry} {clock:Nat} (hb:w.heap[r]?=some (.map es clock)):(getObj r).run P w=.ok (.map es clock) w:=by
 simp[getObj,Sem.run,hb]
theorem qPU {P:Program} {w:World} {r:Nat} {es:Array MapEntry} {clock:Nat} (o:Obj) (hb:w.heap[r]?=some (.map es clock)):(setObj r o).run P w=.ok () {w with heap:=w.heap.setIfInBounds r o}:=by
 simp[setObj,Sem.run,hb]
theorem qKe {w:World} {r:Nat} {o o':Obj} (hb:w.heap[r]?=some o):(w.heap.setIfInBounds r o')[r]?=some o'∧∀r',r'≠r→(w.heap.setIfInBounds r o')[r']?=w.heap[r']?:=by
 have hlt:r<w.heap.size:=(Array.getElem?_eq_some_iff.1 hb).1
 exact⟨by simp[hlt],fun r' hne=>by simp[Ne.symm hne]⟩
theorem qFJ (w:World) (o:Obj):(w.alloc o).heap[w.heap.size]?=some o∧∀r',r'<w.heap.size→(w.alloc o).heap[r']?=w.heap[r']?:=by
 have e:(w.alloc o).heap=w.heap.push o:=rfl
 rw[e]
 exact⟨by simp,fun r' h=>by simp[Array.getElem?_push,Nat.ne_of_lt h]⟩
def qBH {α β:Type} (kv:α→Value) (ev:β→Value):List (α×β)→Nat→List MapEntry
 |[],_=>[]
 |(k,x)::r,i=>⟨kv k,ev x,i⟩::qBH kv ev r (i+1)
def qPq {α β:Type} (kv:α→Value) (ev:β→Value) (l:List (α×β)):qAI:=.map (qBH kv ev l 0).toArray l.length
def qAr {α β:Type} (eqb:α→α→Bool) (k:α):List (α×β)→Option β
 |[]=>none
 |(h,x)::r=>if eqb k h=true then some x else qAr eqb k r
def qCj {α β:Type} (eqb:α→α→Bool) (k:α) (x:β):List (α×β)→List (α×β)
 |[]=>[(k,x)]
 |(h,y)::r=>if eqb k h=true then(k,x)::r else(h,y)::qCj eqb k x r
def qE5 {α β:Type} (eqb:α→α→Bool) (k:α):List (α×β)→Nat→Option (Nat×β)
 |[],_=>none
 |(h,x)::r,i=>if eqb k h=true then some (i,x) else qE5 eqb k r (i+1)
structure qQj {α β:Type} (P:Program) (mt kt et:TypeId) (kv:α→Value) (ev:β→Value) (z:β) (eqb:α→α→Bool):Prop where
 hm:P.underlying mt=some (.map kt et)
 chk:∀em k w,(Instr.checkKey em 10000 kt (kv k)).run P w=.ok () w
 fnd:∀k (l:List (α×β)) n w,(Instr.findKey kt (kv k) (qBH kv ev l n)).run P w=.ok ((qE5 eqb k l 0).map fun p=>(p.1,ev p.2)) w
 eqr:∀k h w,(Op.equal kt (kv k) (kv h)).run P w=.ok (eqb k h) w
 eqv:∀k h,eqb k h=true→Instr.sameBits 10000 (kv h) (kv k)=true
 zer:∀w,(zeroValue et).run P w=.ok (ev z) w
section
variable {α β:Type} {P:Program} {mt kt et:TypeId} {kv:α→Value} {ev:β→Value} {z:β} {eqb:α→α→Bool}
theorem qLx (eqr:∀(k h:α) w,(Op.equal kt (kv k) (kv h)).run P w=.ok (eqb k h) w) (k:α) (w:World):∀(l:List (α×β)) (n i:Nat),(Instr.findAsking kt (kv k) (qBH kv ev l n) i).run P w=.ok ((qE5 eqb k l i).map fun p=>(p.1,ev p.2)) w
 |[],_,_=>rfl
 |(h,x)::r,n,i=>by
  simp only[qBH,Instr.findAsking,Sem.run_bind,eqr,Result.andThen_ok,qE5]
  by_cases e:eqb k h=true
  ·rw[if_pos e,if_pos e];rfl
  ·rw[if_neg e,if_neg e];exact qLx eqr k w r (n+1) (i+1)
theorem qGC (M:qQj P mt kt et kv ev z eqb) (k:α) (w:World) (l:List (α×β)):(Instr.findKey kt (kv k) (qBH kv ev l 0)).run P w=.ok ((qE5 eqb k l 0).map fun p=>(p.1,ev p.2)) w:=by
 exact M.fnd k l 0 w
theorem qOr (k:α):∀(l:List (α×β)) (i:Nat),(qE5 eqb k l i).map (·.2)=qAr eqb k l
 |[],_=>rfl
 |(h,x)::r,i=>by
  simp only[qE5,qAr]
  split
  ·rfl
  ·exact qOr k r (i+1)
theorem qIU (k:α):∀(l:List (α×β)) (i j:Nat) (x:β),qE5 eqb k l i=some (j,x)→∃h,i≤j∧l[j-i]?=some (h,x)∧eqb k h=true
 |[],_,_,_,e=>by cases e
 |(h,y)::r,i,j,x,e=>by
  simp only[qE5] at e
  split at e
  ·rename_i he
   injection e with e;injection e with e1 e2;subst e1;subst e2
   exact⟨h,Nat.le_refl _,by simp,he⟩
  ·obtain⟨h',h1,h2,h3⟩:=qIU k r (i+1) j x e
   exact⟨h',by omega,by rw[show j-i=(j-(i+1))+1 by omega];simpa using h2,h3⟩
theorem qGv:∀(l:List (α×β)) (n j:Nat) (h:α) (x:β),l[j]?=some (h,x)→(qBH kv ev l n)[j]?=some ⟨kv h,ev x,n+j⟩
 |[],_,_,_,_,e=>by simp at e
 |(h0,x0)::r,n,0,h,x,e=>by
  simp at e;obtain⟨rfl,rfl⟩:=e;simp[qBH]
 |(h0,x0)::r,n,j+1,h,x,e=>by
  simp only[List.getElem?_cons_succ] at e
  simp only[qBH,List.getElem?_cons_succ]
  rw[qGv r (n+1) j h x e,show n+1+j=n+(j+1) by omega]
theorem qNf:∀(l:List (α×β)) (n:Nat),(qBH kv ev l n).length=l.length
 |[],_=>rfl
 | _ ::r,n=>by simp[qBH,qNf r]
theorem qJ5 (k:α) (x:β):∀(l:List (α×β)) (n i:Nat) (j:Nat) (y:β),qE5 eqb k l i=some (j,y)→
  (qBH kv ev l n).modify (j-i) (fun e=>{e with key:=kv k,val:=ev x})=qBH kv ev (qCj eqb k x l) n∧(qCj eqb k x l).length=l.length
 |[],_,_,_,_,e=>by cases e
 |(h,y0)::r,n,i,j,y,e=>by
  simp only[qE5] at e
  split at e
  ·rename_i he
   injection e with e;injection e with e1 e2;subst e1
   simp[qCj,he,qBH]
  ·rename_i he
   obtain⟨_,h1,_,_⟩:=qIU k r (i+1) j y e
   obtain⟨i1,i2⟩:=qJ5 k x r (n+1) (i+1) j y e
   rw[show j-i=(j-(i+1))+1 by omega]
   simp only[qCj,he,qBH]
   simp[i1,i2,qBH]
theorem qKQ (k:α) (x:β):∀(l:List (α×β)) (n i:Nat),qE5 eqb k l i=none→
  qBH kv ev l n++[⟨kv k,ev x,n+l.length⟩]=qBH kv ev (qCj eqb k x l) n∧(qCj eqb k x l).length=l.length+1
 |[],n,i,e=>by simp[qCj,qBH]
 |(h,y0)::r,n,i,e=>by
  simp only[qE5] at e
  split at e
  ·cases e
  ·rename_i he
   obtain⟨i1,i2⟩:=qKQ k x r (n+1) (i+1) e
   simp only[qCj,he,qBH]
   simp only[Bool.false_eq_true,if_false,qBH,List.cons_append,List.length_cons]
   refine⟨?_,by simp[i2]⟩
   rw[←i1,show n+(r.length+1)=n+1+r.length by omega]
def qKk (t:TypeId) (x k:Value) (ok:Bool):Sem Next:=do pure (.value (←Instr.lookup t x k ok))
theorem qSw (M:qQj P mt kt et kv ev z eqb) (b:Nat) (own:Bool) (l:List (α×β)) (k:α):
  qAz P (qKk mt (.map (some b)) (kv k) true) [⟨b,own,0,qPq kv ev l⟩] 0 (fun _=>.tuple #[ev ((qAr eqb k l).getD z),.bool (qAr eqb k l).isSome]) (fun _=>[none]):=by
 intro w hall ha
 have hb:=(hall _ (List.mem_singleton.2 rfl)).objm rfl
 refine⟨[],w,rfl,.inl (qAA ?_),⟨fun p c hpc=>?_,fun p p' c d hpp hc hd ho=>?_,⟨rfl,rfl,rfl,Nat.le_refl _,fun _ _ _=>rfl,fun j hj=>?_,fun p c hpc ho=>?_⟩⟩⟩
 ·simp only at hb
  unfold Instr.lookup
  simp only[Sem.run_bind,run_underlying M.hm,Result.andThen_ok,qKB hb,Sem.run_pure,M.chk,qGC M]
  have hE:=qOr (eqb:=eqb) k l 0
  cases hf:qE5 eqb k l 0 with
  |none=>
   rw[hf] at hE;simp only[Option.map_none] at hE
   rw[←hE]
   simp[M.zer]
  |some q=>
   rw[hf] at hE;simp only[Option.map_some] at hE
   rw[←hE]
   simp
 ·rcases p with _ |p<;>simp[lM] at hpc
 ·rcases p with _ |p<;>simp[lM] at hc
 ·obtain⟨p,c,hpc,_,_⟩:=hj
  rcases p with _ |p<;>simp[lM] at hpc
 ·rcases p with _ |p<;>simp[lM] at hpc
def qSy (t:TypeId) (x k v:Value):Sem Next:=do Instr.mapUpdate t x k v;pure .skip
theorem qQE {b:Nat} {es es':Array MapEntry} {c c':Nat} {w:World} (h:qAl ⟨b,true,0,.map es c⟩ w):
  qCL (lM ([⟨b,true,0,.map es c⟩].map some)) w (lM [some ⟨b,true,0,.map es' c'⟩]) {w with heap:=w.heap.setIfInBounds b (.map es' c')}:=by
 have hb:=h.objm rfl
 obtain⟨h1,h2⟩:=qKe (o':=.map es' c') hb
 refine⟨fun p q hpq=>?_,fun p p' q d hpp hc hd ho=>?_,⟨rfl,rfl,rfl,by simp,fun j hj hn=>h2 j fun e=>?_,fun j hj=>?_,fun p q hpq ho=>?_⟩⟩
 ·rcases p with _ |p
  ·injection hpq with hpq;subst hpq
   exact⟨by simpa using h.lt,(fun o v ho=>by cases ho),(fun _ o v ho=>by cases ho),h1⟩
  ·simp[lM] at hpq
 ·rcases p with _ |p
  ·rcases p' with _ |p'
   ·exact absurd rfl hpp
   ·simp[lM] at hd
  ·simp[lM] at hc
 ·subst e
  exact hn ⟨0,_,rfl,rfl,rfl⟩
 ·obtain⟨p,q,hpq,ho,hjk⟩:=hj
  rcases p with _ |p
  ·injection hpq with hpq;subst hpq;exact .inl ⟨0,_,rfl,rfl,hjk⟩
  ·simp[lM] at hpq
 ·rcases p with _ |p
  ·injection hpq with hpq;subst hpq;cases ho
  ·simp[lM] at hpq
theorem qGX (M:qQj P mt kt et kv ev z eqb) (b:Nat) (l:List (α×β)) (k:α) (x:β):
  qAz P (qSy mt (.map (some b)) (kv k) (ev x)) [⟨b,true,0,qPq kv ev l⟩] 0 (fun _=>undef) (fun _=>[some ⟨b,true,0,qPq kv ev (qCj eqb k x l)⟩]):=by
 intro w hall ha
 have hH:=hall _ (List.mem_singleton.2 rfl)
 have hb:=hH.objm rfl
 simp only at hb
 refine⟨[],_,rfl,.inr ⟨?_,rfl⟩,qQE hH⟩
 unfold qSy Instr.mapUpdate
 simp only[Sem.run_bind,run_underlying M.hm,Result.andThen_ok,qKB hb,M.chk,qGC M]
 cases hf:qE5 eqb k l 0 with
 |none=>
  obtain⟨i1,i2⟩:=qKQ (kv:=kv) (ev:=ev) k x l 0 0 hf
  simp only[Option.map_none,qPU _ hb,Sem.run_pure,Result.andThen_ok]
  congr 4
  ·rw[←i1];simp
  ·exact i2.symm
 |some q=>
  obtain⟨j,y⟩:=q
  obtain⟨h,_,h2,h3⟩:=qIU k l 0 j y hf
  obtain⟨i1,i2⟩:=qJ5 (kv:=kv) (ev:=ev) k x l 0 0 j y hf
  have hj:=qGv (kv:=kv) (ev:=ev) l 0 j h y (by simpa using h2)
  have hs:=M.eqv k h h3
  simp only[Option.map_some,List.getElem?_toArray,hj,Option.getD_some,Instr.keyThatStays,hs,if_true,Sem.run_pure,Result.andThen_ok,qPU _ hb]
  rw[i2,←i1]
  simp[qPU _ hb]
def jAW (t:TypeId):Sem Next:=do pure (.value (←Instr.makeMap t none))
theorem qGW (t:TypeId):qAz P (jAW t) [] 1 (fun ns=>.map (some (ns.getD 0 0))) (fun ns=>[some ⟨ns.getD 0 0,true,0,qPq kv ev []⟩]):=by
 intro w hall ha
 obtain⟨h1,h2⟩:=qFJ w (.map #[] 0)
 refine⟨[w.heap.size],w.alloc (.map #[] 0),rfl,.inl (qAA rfl),⟨fun p c hpc=>?_,fun p p' c d hpp hc hd ho=>?_,⟨rfl,rfl,rfl,by simp,fun j hj _=>h2 j hj,fun j hj=>?_,fun p c hpc ho=>?_⟩⟩⟩
 ·rcases p with _ |p
  ·injection hpc with hpc;subst hpc
   exact⟨by simp,(fun o v ho=>by cases ho),(fun _ o v ho=>by cases ho),h1⟩
  ·simp[lM] at hpc
 ·rcases p with _ |p
  ·rcases p' with _ |p'
   ·exact absurd rfl hpp
   ·simp[lM] at hd
  ·simp[lM] at hc
 ·obtain⟨p,c,hpc,ho,hjk⟩:=hj
  rcases p with _ |p
  ·injection hpc with hpc;subst hpc;exact .inr (Nat.le_of_eq hjk)
  ·simp[lM] at hpc
 ·rcases p with _ |p
  ·injection hpc with hpc;subst hpc;cases ho
  ·simp[lM] at hpc
end
def ev0 (_:Unit):Value:=.agg #[]
theorem qNR {P:Program} {e:TypeId} {k:IntKind} {cs:Array Value} {i:Nat} {v:Value} (w:World) (he:P.underlying e=some (.int k)) (hv:cs[i]?=some v):(part e cs i).run P w=.ok v w:=qAO (qGm he hv) w
end Go.Eng
end
section
namespace Go.Eng
open Go.RowKit Go.WideShapes Go.ChangeShapes Go.ChangeAt Go.Deep
theorem qBp.toF {F:Blk→Prop} {P:Program} {f:FuncId} {args:List Value} {bs:List Blk} {k:Nat} {v:List Nat→Value} {out:List Nat→List (Option Blk)} (h:qBp P f args bs k v out):qAt F P f args bs k v out:=
 fun w hb ha _=>h w hb ha
theorem qAt.mono {F F':Blk→Prop} {P:Program} {f:FuncId} {args:List Value} {bs:List Blk} {k:Nat} {v:List Nat→Value} {out:List Nat→List (Option Blk)} (hs:∀b,F b→F' b) (h:qAt F P f args bs k v out):qAt F' P f args bs k v out:=
 fun w hb ha hF=>h w hb ha fun b hb'=>hF b (hs b hb')
def qKa:List Blk→List (Option Blk)
 |[]=>[]
 | _ ::r=>none::qKa r
theorem qJ9:∀(l:List Blk) (p:Nat) (b:Blk),lM (qKa l) p≠some b
 |[],p,b=>by simp[qKa,lM]
 | _ ::r,0,b=>by simp[qKa,lM]
 | _ ::r,p+1,b=>qJ9 r p b
section
variable {P:Program} {t e:TypeId} {x ix:Operand}
theorem qBd {sz:Nat} (ht:P.underlying t=some (.slice e)) (he:qBZ P e=some sz) (b o n c i:Nat) (wa:Option Addr) (hwa:wa=some ⟨b,o,none⟩) (hi:i<n):qB0 P (.indexAddr t x ix) [.slice wa n c,nat i] (ptr b (o+i*sz)):=by
 subst hwa;exact qAf ht he b o n c i hi
end
theorem qR5 {F:Blk→Prop} {P:Program} {f:FuncId} {args:List Value} {bs:List Blk} {v:Value} {out:List Nat→List (Option Blk)} {W:World} (h:qAt F P f args bs 0 (fun _ =>v) out) (hb:∀b∈bs,qAl b W) (hro:∀b∈bs,b.own=false)
  (hF:∀b,F b→qAl b W∧b.own=false):Calls P f args.toArray W fun e w'=>e=.returned v∧Below W.heap.size W w':=by
 have hl:∀p b,lM (bs.map some) p=some b→b.own=false:=fun p b hp=>hro b (List.mem_of_getElem? (qAW.1 hp))
 refine Calls.mono (h W hb (fun p q x y _ hx _ ho=>?_) fun b hb=>⟨(hF b hb).1,(hF b hb).2,fun _ _ ⟨p,x,hp,ho,_⟩=>?_⟩) fun e w' ⟨ns,_,he,hp⟩=>⟨he,qM2 hp.adv hl⟩
 ·rw[hl p x hx] at ho;cases ho
 ·rw[hl p x hp] at ho;cases ho
def qBo (a:Option Addr) (cap i sz:Nat):Option Addr:=if cap=i then a else a.map (·.add (i*sz))
theorem qFa {P:Program} {t e:TypeId} {x y:Operand} (ht:P.underlying t=some (.slice e)) {sz:Nat} (hs:qBZ P e=some sz) (wa:Option Addr) (len cap i:Nat) (hi:i≤len∧len≤cap):qB0 P (.slice t x (some y) none none) [.slice wa len cap,nat i] (.slice (qBo wa cap i sz) (len-i) (cap-i)):=by
 intro ρ o' ho hv
 rw[ho] at hv
 have hv':[ρ x,ρ y]=[Value.slice wa len cap,nat i]:=hv
 injection hv' with h1 hv'
 injection hv' with h2 _
 unfold execOp
 rw[ho]
 simp only[Option.map]
 show qAa P (Sem.bind (Instr.sliceAt t (ρ x) (some (ρ y)) none none) fun v=>Sem.pure (Next.value v))=_
 rw[qAX,h1,h2]
 have hi':0≤(i:Int)∧(i:Int)≤(len:Int):=by omega
 have e:qAa P (Instr.sliceAt t (.slice wa len cap) (some (nat i)) none none)=some (.slice (qBo wa cap i sz) (len-i) (cap-i)):=by
  simp only[Instr.sliceAt,Instr.slice,Instr.sliceBounds,Instr.sliceBound,nat,qAi,asIntOf,qAa,pure,qAk ht,hi',and_self,if_true,qA4 hs,Int.toNat_natCast]
  rfl
 rw[e]
 rfl
def qCJ (F:Blk→Prop) (w:World):Prop:=∀b,F b→qAl b w∧b.own=false
theorem qAt.darkF {F:Blk→Prop} {P:Program} {f:FuncId} {args:List Value} {bs:List Blk} {k:Nat} {v:List Nat→Value} {out:List Nat→List (Option Blk)} (fl:List Bool) (h:qAt F P f args bs k v out):
  qAt F P f args bs k v (fun ns=>dkn fl (out ns)):=fun w hb ha hF=>Calls.mono (h w hb ha hF) fun _ _ ⟨ns,h1,h2,h3⟩=>⟨ns,h1,h2,h3.sub (qHx fl (out ns))⟩
theorem qH4 {P:Program} {t e:TypeId} {x y:Operand} (ht:P.underlying t=some (.slice e)) {sz:Nat} (hs:qBZ P e=some sz) (wa:Option Addr) (len cap i:Nat) (hi:i≤cap):qB0 P (.slice t x none (some y) none) [.slice wa len cap,nat i] (.slice wa i cap):=by
 intro ρ o' ho hv
 rw[ho] at hv
 have hv':[ρ x,ρ y]=[Value.slice wa len cap,nat i]:=hv
 injection hv' with h1 hv'
 injection hv' with h2 _
 unfold execOp
 rw[ho]
 simp only[Option.map]
 show qAa P (Sem.bind (Instr.sliceAt t (ρ x) none (some (ρ y)) none) fun v=>Sem.pure (Next.value v))=_
 rw[qAX,h1,h2]
 have hi':0≤(i:Int)∧(i:Int)≤(cap:Int):=by omega
 have e:qAa P (Instr.sliceAt t (.slice wa len cap) none (some (nat i)) none)=some (.slice wa i cap):=by
  simp only[Instr.sliceAt,Instr.slice,Instr.sliceBounds,Instr.sliceBound,nat,qAi,asIntOf,qAa,pure,qAk ht,hi',and_self,if_true,qA4 hs,Int.toNat_natCast]
  cases wa<;>simp[Addr.add]
 rw[e]
 rfl
end Go.Eng
end
section
namespace Go.Eng
structure BytL where
 wa:Option Addr
 wn:Nat
 wc:Nat
 wb:Nat
 wo:Nat
 wf:Nat→UInt8
def qAJ (q:BytL):Value:=.slice q.wa q.wn q.wc
def qK5 (q:BytL):Blk:=⟨q.wb,false,q.wo,qAd q.wn fun k=>u8 (q.wf k)⟩
structure OkB (q:BytL):Prop where
 cap:q.wn≤q.wc
 ad:0<q.wn→q.wa=some ⟨q.wb,q.wo,none⟩
 len:q.wn≤9223372036854775807
def qA2 (q:BytL) (b:Blk):Prop:=0<q.wn∧b=qK5 q
def qUR (x:BytL) (k:Nat):BytL:=⟨x.wa,k,x.wc,x.wb,x.wo,x.wf⟩
def qM3 (x:BytL) (k:Nat):BytL:=⟨qBo x.wa x.wc k 1,x.wn-k,x.wc-k,x.wb,x.wo+k,fun i=>x.wf (i+k)⟩
def qBB (nm n c:Nat) (f:Nat→UInt8):BytL:=⟨some ⟨nm,0,none⟩,n,c,nm,0,f⟩
def qAc (a:Option Addr) (c:Nat):BytL:=⟨a,0,c,0,0,fun _=>0⟩
theorem qXJ {x:BytL} {k:Nat} (h:OkB x) (hk:k≤x.wn):OkB (qUR x k):=⟨Nat.le_trans hk h.cap,fun h0=>h.ad (Nat.lt_of_lt_of_le h0 hk),Nat.le_trans hk h.len⟩
theorem qMT {x:BytL} {k:Nat} (h:OkB x) (hk:k≤x.wn):OkB (qM3 x k):=⟨Nat.sub_le_sub_right h.cap k,fun h0=>by
 have h1:0<x.wn-k:=h0
 show qBo x.wa x.wc k 1=some ⟨x.wb,x.wo+k,none⟩
 have hc:=h.cap
 unfold qBo
 rw[if_neg (by omega),h.ad (by omega)]
 simp[qBs],Nat.le_trans (Nat.sub_le _ _) h.len⟩
theorem qFB {nm n c:Nat} {f:Nat→UInt8} (h1:n≤c) (h2:n≤9223372036854775807):OkB (qBB nm n c f):=⟨h1,fun _=>rfl,h2⟩
theorem qGJ {a:Option Addr} {c:Nat}:OkB (qAc a c):=⟨Nat.zero_le _,fun h=>absurd h (Nat.lt_irrefl 0),Nat.zero_le _⟩
theorem qUe {nm o n k:Nat} {f:Nat→UInt8} {w:World} (h:qAl ⟨nm,false,o,qAd n fun k=>u8 (f k)⟩ w) (hk:k≤n):qAl ⟨nm,false,o,qAd k fun k=>u8 (f k)⟩ w:=
 h.recont rfl fun j v hj=>by
  by_cases hl:j<k
  ·rw[qAL hl] at hj
   rw[qAL (by omega)];exact hj
  ·rw[qA3 hl] at hj;cases hj
theorem qNP {nm o n k:Nat} {f:Nat→UInt8} {w:World} (h:qAl ⟨nm,false,o,qAd n fun k=>u8 (f k)⟩ w) (hk:k≤n):qAl ⟨nm,false,o+k,qAd (n-k) fun i=>u8 (f (i+k))⟩ w:=by
 refine⟨h.lt,fun j v hj=>?_,(fun hb=>by cases hb),qC9 rfl⟩
 by_cases hl:j<n-k
 ·rw[qAL hl] at hj
  have:=h.cell (k+j) v (by show(qAd n _).get (k+j)=_;rw[qAL (by omega)];rw[Nat.add_comm k j];exact hj)
  show w.cell? ⟨nm,o+k+j,none⟩=some v
  rw[Nat.add_assoc];exact this
 ·rw[qA3 hl] at hj;cases hj
theorem qEi {nm n c:Nat} {f:Nat→UInt8} {w:World} (h:qAl ⟨nm,false,0,qAd n fun k=>u8 (f k)⟩ w):qCJ (qA2 (qBB nm n c f)) w:=fun b hb=>by
 obtain⟨_,rfl⟩:=hb
 exact⟨h,rfl⟩
theorem qK6 {a:Option Addr} {c:Nat} {w:World}:qCJ (qA2 (qAc a c)) w:=fun b hb=>absurd hb.1 (Nat.lt_irrefl 0)
theorem qQh {x:BytL} {k:Nat} {w:World} (hk:k≤x.wn) (h:qCJ (qA2 x) w):qCJ (qA2 (qUR x k)) w:=fun b hb=>by
 obtain⟨h0,rfl⟩:=hb
 have h1:0<k:=h0
 obtain⟨h2,_⟩:=h (qK5 x) ⟨by omega,rfl⟩
 exact⟨qUe h2 hk,rfl⟩
theorem qI4 {x:BytL} {k:Nat} {w:World} (hk:k≤x.wn) (h:qCJ (qA2 x) w):qCJ (qA2 (qM3 x k)) w:=fun b hb=>by
 obtain⟨h0,rfl⟩:=hb
 have h1:0<x.wn-k:=h0
 obtain⟨h2,_⟩:=h (qK5 x) ⟨by omega,rfl⟩
 exact⟨qNP h2 hk,rfl⟩
theorem qKC {F G:Blk→Prop} {w:World} (hx:qCJ F w) (hy:qCJ G w):qCJ (fun b=>F b∨G b) w:=fun b hb=>by
 rcases hb with hb|hb
 ·exact hx b hb
 ·exact hy b hb
section
variable {P:Program} {t e t':TypeId} {x y z:Operand}
theorem qWy {n:Nat} (ht:P.underlying t=some (.array n e)) (hs:qBZ P e=some 1) (b o i:Nat) (k:IntKind) (hi:i≤n):
  qB0 P (.slice t x (some y) none none) [ptr b o,.int k (i:Int)] (.slice (some ⟨b,if n=i then o else o+i,none⟩) (n-i) (n-i)):=by
 intro ρ o' ho hv
 rw[ho] at hv
 have hv':[ρ x,ρ y]=[ptr b o,.int k (i:Int)]:=hv
 injection hv' with h1 hv'
 injection hv' with h2 _
 unfold execOp
 rw[ho]
 simp only[Option.map]
 show qAa P (Sem.bind (Instr.sliceAt t (ρ x) (some (ρ y)) none none) fun v=>Sem.pure (Next.value v))=_
 rw[qAX,h1,h2]
 have hi':0≤(i:Int)∧(i:Int)≤(n:Int):=by omega
 have e:qAa P (Instr.sliceAt t (ptr b o) (some (.int k (i:Int))) none none)=some (.slice (some ⟨b,if n=i then o else o+i,none⟩) (n-i) (n-i)):=by
  simp only[Instr.sliceAt,Instr.slice,ptr,Instr.sliceBounds,Instr.sliceBound,nat,qAi,asIntOf,qAa,pure,qAk ht,hi',and_self,if_true,qA4 hs,Int.toNat_natCast]
  by_cases h:n=i
  ·simp[h,Instr.sureAddr,qAa,pure]
  ·simp[h,Instr.sureAddr,qAa,pure,qBs,Nat.mul_one]
 rw[e]
 rfl
end
section
variable {P:Program} {t ty e:TypeId}
theorem qKJ {B:Nat} {z:Value} (ht:P.underlying t=some (.slice e)) (h1:qRZ P e z B) {α:Type} (K:α→Value) (g:Nat→α):
  qAz P (qJN t 0 #[]) [] 1 (fun ns=>.slice (some ⟨ns.getD 0 0,0,none⟩) 0 0) (fun ns=>[some ⟨ns.getD 0 0,true,0,spr (0+0) 0 (fun k=>K (g k)) z⟩]):=by
 obtain⟨i,hi,hz,hsz,hB,hzc⟩:=h1
 have h0:qAz P (qJN t 0 #[]) [] 1 (fun ns=>.slice (some ⟨ns.getD 0 0,0,none⟩) 0 0) (fun ns=>[some ⟨ns.getD 0 0,true,0,.lit (#[]:Array Value).toList⟩]):=qIl (e:=e) fun w=>by
  refine qAA ?_
  simp[Instr.buildSlice,run_underlying ht,sizeOf,typeInfo,hi,newRow,Instr.fill]
  exact congrArg (fun a=>w.alloc (Obj.cells a e)) (Array.eq_empty_of_size_eq_zero (by simp))
 exact h0.recont (C':=fun _=>spr (0+0) 0 (fun k=>K (g k)) z) (fun _=>rfl) fun ns o v ho=>by
  rw[spr,qA3 (by omega)] at ho;cases ho
theorem qRf {B:Nat} {z:Value} (ht:P.underlying t=some (.slice e)) (h1:qRZ P e z B) (b:Nat) (C:qAI) (al:Option Addr) (cl:Nat):
  qAz P (qB2 t ty (.slice (some ⟨b,0,none⟩) 0 (0+0)) (.slice al 0 cl)) [⟨b,true,0,C⟩] 1 (fun ns=>.slice (some ⟨ns.getD 0 0,0,none⟩) 0 (0+0)) (fun ns=>[some ⟨ns.getD 0 0,true,0,C⟩]):=by
 obtain⟨i,hi,hz,hsz,hB,hzc⟩:=h1
 intro w hall ha
 refine⟨[b],w,rfl,.inl (qAA ?_),qCL.refl (fun p c h=>?_) ha⟩
 ·cases al<;>simp[Builtin.append_,run_underlying ht,sizeOf,typeInfo,hi,Builtin.lenOf,Builtin.firstCells,storeCells,loadCells,loadCellsFrom]
 ·rcases p with _ |p
  ·cases h;exact hall _ (by simp)
  ·simp[lM] at h
end
theorem qI1 {P:Program} {dT sT ty e:TypeId} {n k od dl dc bs os sl sc:Nat} {D D' cs:List Value} {S:qAI}
  (hu:P.underlying dT=some (.slice e)) (hs:qBZ P e=some 1) (hcs:∀j,j<cs.length→S.get (os+j)=cs[j]?) (hlen:cs.length=min sl dl) (h1:cs.all Value.oneCell'=true)
  (hst:(qAI.lit D).store (.lit od) cs=some (.lit D')):
  qAz P (qK2 dT sT ty (.slice (some ⟨n,od,none⟩) dl dc) (.slice (some ⟨k,bs+os,none⟩) sl sc)) [⟨n,true,0,.lit D⟩,⟨k,false,bs,S⟩] 0 (fun _=>nat cs.length) (fun _=>[some ⟨n,true,0,.lit D'⟩,none]):=by
 intro w hm ha
 have hD:qAl ⟨n,true,0,.lit D⟩ w:=hm _ (by simp)
 have hS:qAl ⟨k,false,bs,S⟩ w:=hm _ (by simp)
 obtain⟨g1,g2⟩:=qAI.store_get hst trivial
 have hr:=run_copy_cells (P:=P) w dT sT ty e n od dl dc ⟨k,bs+os,none⟩ sl sc cs hu (by simpa[qBZ] using hs) (by rw[hlen])
  (fun j v hj=>by
   have hjl:j<cs.length:=(List.getElem?_eq_some_iff.1 hj).1
   have:=hS.cell (os+j) v (by rw[←hj];exact hcs j hjl)
   rw[show(⟨k,bs+os,none⟩:Addr).add j=⟨k,bs+(os+j),none⟩ by rw[←Nat.add_assoc];exact qBs k (bs+os) j]
   exact this)
  (fun j hj=>by
   obtain⟨u,hu⟩:=g1 j hj
   have:=hD.cell _ u hu
   simp only[qAI.off,Nat.zero_add] at this
   rw[this];rfl)
  (fun j hj=>by
   obtain⟨u,hu⟩:=g1 j hj
   have:=hD.free rfl _ u hu
   simpa[qAI.off] using this) (List.all_eq_true.1 h1)
 refine⟨[],w.setCells n od cs,rfl,.inl ?_,?_⟩
 ·show((Builtin.copy_ #[dT,sT] ty #[.slice (some ⟨n,od,none⟩) dl dc,.slice (some ⟨k,bs+os,none⟩) sl sc]).bind fun v=>Sem.pure (Next.value v)).run P w=_
  have:∀(s:Sem Value) (v:Value) (w':World),s.run P w=.ok v w'→(s.bind fun v=>Sem.pure (Next.value v)).run P w=.ok (Next.value v) w':=fun s v w' h=>by
   show(s >>= fun v=>Sem.pure (Next.value v)).run P w=_
   rw[Sem.run_bind,h];rfl
  exact this _ _ _ hr
 ·have hp:=qI3 (m:=lM ([⟨n,true,0,.lit D⟩,⟨k,false,bs,S⟩].map some)) (w:=w) (p:=0) (b:=⟨n,true,0,.lit D⟩) (l:=.lit od) (cs:=cs) (c:=.lit D')
   (fun p b hb=>hm b (List.mem_of_getElem? (qAW.1 hb))) ha rfl rfl hst trivial
  rw[show([⟨n,true,0,.lit D⟩,⟨k,false,bs,S⟩].map some:List (Option Blk))=[some ⟨n,true,0,.lit D⟩,some ⟨k,false,bs,S⟩] from rfl] at hp ⊢
  rw[qDz] at hp
  have hp2:qCL (lM [some ⟨n,true,0,.lit D⟩,some ⟨k,false,bs,S⟩]) w (lM [some ⟨n,true,0,.lit D'⟩,some ⟨k,false,bs,S⟩]) (w.setCells n od cs):=by simpa[qAI.off] using hp
  have hsub:∀p b,lM [some (⟨n,true,0,.lit D'⟩:Blk),none] p=some b→lM [some ⟨n,true,0,.lit D'⟩,some ⟨k,false,bs,S⟩] p=some b:=fun p b hpb=>by
   rcases p with _ | _ |p
   ·exact hpb
   ·cases hpb
   ·simp[lM] at hpb
  exact⟨fun p b hpb=>hp2.holds p b (hsub p b hpb),fun p q b c hpq hb hc=>hp2.apart p q b c hpq (hsub p b hb) (hsub q c hc),hp2.adv.weak hsub⟩
end Go.Eng
namespace Go.Eng
theorem qDo {a b:List (Option Blk)} {p:Nat} {x:Blk} (h:lM (a++b) p=some x):(p<a.length∧lM a p=some x)∨(a.length≤p∧lM b (p-a.length)=some x):=by
 unfold lM at h ⊢
 by_cases hp:p<a.length
 ·left;rw[List.getElem?_append_left hp] at h;exact⟨hp,h⟩
 ·right;rw[List.getElem?_append_right (by omega)] at h;exact⟨by omega,h⟩
theorem qBy {a b:List (Option Blk)} {p:Nat} (hp:p<a.length):lM (a++b) p=lM a p:=by
 unfold lM;rw[List.getElem?_append_left hp]
theorem qA7 {a b:List (Option Blk)} {p:Nat} (hp:a.length≤p):lM (a++b) p=lM b (p-a.length):=by
 unfold lM;rw[List.getElem?_append_right hp]
theorem qJi:∀cs:List Blk,(qKa cs).length=cs.length
 |[]=>rfl
 | _ ::r=>congrArg (·+1) (qJi r)
theorem qAt.lendG {F F':Blk→Prop} {P:Program} {f:FuncId} {args:List Value} {bs cs:List Blk} {k:Nat} {v:List Nat→Value} {o nw:List Nat→List (Option Blk)} (h:qAt F P f args bs k v (fun ns=>o ns++nw ns)) (ho:∀ns,(o ns).length=bs.length)
  (hF:∀w:World,qCJ F' w→(∀b∈cs,qAl b w)→qCJ F w) (hn:∀x,F x→∀j,x.has j→(∃y,F' y∧y.has j)∨∃c∈cs,c.has j) (hc:∀b∈cs,b.own=false):
  qAt F' P f args (bs++cs) k v (fun ns=>o ns++(qKa cs++nw ns)):=by
 intro w hm ha hF'
 have hsub:∀p b,lM (bs.map some) p=some b→p<bs.length∧lM ((bs++cs).map some) p=some b:=fun p b hp=>by
  have hl:p<bs.length:=by
   have:=(List.getElem?_eq_some_iff.1 (qAW.1 hp)).1
   simpa using this
  exact⟨hl,by rw[List.map_append,qBy (by simpa using hl)];exact hp⟩
 have ho1:∀k,qDc (lM (bs.map some)) k→qDc (lM ((bs++cs).map some)) k:=fun k ⟨p,b,h1,h2,h3⟩=>⟨p,b,(hsub p b h1).2,h2,h3⟩
 have hw:=hF w (fun b hb'=>⟨(hF' b hb').1,(hF' b hb').2.1⟩) (fun b hb'=>hm b (by simp[hb']))
 refine Calls.mono (h w (fun b hb'=>hm b (by simp[hb'])) (fun p q b c hpq hpb hqc hown=>ha p q b c hpq (hsub p b hpb).2 (hsub q c hqc).2 hown) (fun b hFb=>⟨(hw b hFb).1,(hw b hFb).2,fun j hj ⟨p,b',h1,h2,h3⟩=>?_⟩)) ?_
 ·obtain⟨hl,hp'⟩:=hsub p b' h1
  rcases hn b hFb j hj with⟨y,hy,he⟩|⟨c,hcm,he⟩
  ·exact(hF' y hy).2.2 j he ⟨p,b',hp',h2,h3⟩
  ·obtain⟨i,hi⟩:=List.getElem?_of_mem hcm
   have hq:lM ((bs++cs).map some) (bs.length+i)=some c:=by
    rw[List.map_append,qA7 (by simp)]
    simp[lM,hi]
   exact ha p (bs.length+i) b' c (by omega) hp' hq h2 j h3 he
 ·rintro e w' ⟨ns,hns,he,hp⟩
  have hout:∀p b,lM (o ns++(qKa cs++nw ns)) p=some b→(p<bs.length∧lM (o ns++nw ns) p=some b)∨(bs.length+cs.length≤p∧lM (o ns++nw ns) (p-cs.length)=some b):=fun p b hpb=>by
   rcases qDo hpb with⟨h1,h2⟩|⟨h1,h2⟩
   ·left;rw[ho] at h1;exact⟨h1,by rw[qBy (by rw[ho];exact h1)];exact h2⟩
   ·rw[ho] at h1 h2
    rcases qDo h2 with⟨h3,h4⟩|⟨h3,h4⟩
    ·exact absurd h4 (qJ9 _ _ _)
    ·right
     rw[qJi] at h3 h4
     refine⟨by omega,?_⟩
     rw[qA7 (by rw[ho];omega),ho,show p-cs.length-bs.length=p-bs.length-cs.length by omega];exact h4
  have hpos:∀p b,lM (o ns++(qKa cs++nw ns)) p=some b→∃p',lM (o ns++nw ns) p'=some b∧((p<bs.length∧p'=p)∨(bs.length+cs.length≤p∧p'=p-cs.length)):=fun p b hpb=>by
   rcases hout p b hpb with⟨h1,h2⟩|⟨h1,h2⟩
   ·exact⟨p,h2,.inl ⟨h1,rfl⟩⟩
   ·exact⟨p-cs.length,h2,.inr ⟨h1,rfl⟩⟩
  refine⟨ns,hns,he,⟨fun p b hpb=>?_,fun p q b c hpq hpb hqc=>?_,⟨hp.adv.os,hp.adv.output,hp.adv.tape,hp.adv.size,fun k hk hno=>hp.adv.heap k hk (fun hk'=>hno (ho1 k hk')),fun k ⟨p,b,h1,h2,h3⟩=>?_,fun p b hpb hob=>?_⟩⟩⟩
  ·obtain⟨p',h1,_⟩:=hpos p b hpb;exact hp.holds p' b h1
  ·obtain⟨p',h1,h2⟩:=hpos p b hpb
   obtain⟨q',h3,h4⟩:=hpos q c hqc
   exact hp.apart p' q' b c (by omega) h1 h3
  ·obtain⟨p',h4,_⟩:=hpos p b h1
   rcases hp.adv.names k ⟨p',b,h4,h2,h3⟩ with h5|h5
   ·exact .inl (ho1 k h5)
   ·exact .inr h5
  ·obtain⟨p',h1,h2⟩:=hpos p b hpb
   have h3:=hp.adv.ro p' b h1 hob
   obtain⟨h4,h5⟩:=hsub p' b h3
   rcases h2 with⟨_,rfl⟩|⟨h6,rfl⟩
   ·exact h5
   ·omega
end Go.Eng
namespace Go.Eng
theorem qBu {nm n r:Nat} {f:Nat→UInt8} {w:World} (h:qAl ⟨nm,false,0,spr (n+r) n (fun k=>u8 (f k)) (u8 0)⟩ w):qAl ⟨nm,false,0,qAd n fun k=>u8 (f k)⟩ w:=
 h.recont rfl fun j v hj=>by
  by_cases hl:j<n
  ·rw[qAL hl] at hj
   show(spr (n+r) n (fun k=>u8 (f k)) (u8 0)).get j=_
   rw[spr,qAL (by omega),if_pos hl];exact hj
  ·rw[qA3 hl] at hj;cases hj
theorem qBp.fam {F:Blk→Prop} {P:Program} {f:FuncId} {args:List Value} {B:Blk} {v:Value} {o:List (Option Blk)} (h:qBp P f args [B] 0 (fun _=>v) (fun _=>o)) (hB:F B):qAt F P f args [] 0 (fun _=>v) (fun _=>[]):=by
 intro w hm ha hF
 obtain⟨h1,h2,_⟩:=hF B hB
 have hno:∀k,¬qDc (lM ([B].map some)) k:=fun k ⟨p,b,hp,ho,_⟩=>by
  rcases p with _ |p
  ·cases hp;rw[h2] at ho;cases ho
  ·simp[lM] at hp
 refine Calls.mono (h w (fun b hb=>by simp at hb;subst hb;exact h1) (fun p q b c _ hb _ ho=>by
  rcases p with _ |p
  ·cases hb;rw[h2] at ho;cases ho
  ·simp[lM] at hb)) ?_
 rintro e w' ⟨ns,hns,he,hp⟩
 have hnil:∀p b,lM ([]:List (Option Blk)) p≠some b:=fun p b=>by simp[lM]
 exact⟨ns,hns,he,⟨fun p b hpb=>absurd hpb (hnil p b),fun p q b c _ hpb=>absurd hpb (hnil p b),⟨hp.adv.os,hp.adv.output,hp.adv.tape,hp.adv.size,fun k hk _=>hp.adv.heap k hk (hno k),fun k ⟨p,b,hpb,_⟩=>absurd hpb (hnil p b),fun p b hpb=>absurd hpb (hnil p b)⟩⟩⟩
section
variable {P:Program} {t e t':TypeId} {x y z:Operand}
theorem qPo (ht:P.underlying t=some (.slice e)) {sz:Nat} (hs:qBZ P e=some sz) (k1 k2:IntKind) (wa:Option Addr) (len cap i j:Nat) (hi:i≤j∧j≤cap):
  qB0 P (.slice t x (some y) (some z) none) [.slice wa len cap,.int k1 (i:Int),.int k2 (j:Int)] (.slice (qBo wa cap i sz) (j-i) (cap-i)):=by
 intro ρ o' ho hv
 rw[ho] at hv
 have hv':[ρ x,ρ y,ρ z]=[Value.slice wa len cap,.int k1 (i:Int),.int k2 (j:Int)]:=hv
 injection hv' with h1 hv'
 injection hv' with h2 hv'
 injection hv' with h3 _
 unfold execOp
 rw[ho]
 simp only[Option.map]
 show qAa P (Sem.bind (Instr.sliceAt t (ρ x) (some (ρ y)) (some (ρ z)) none) fun v=>Sem.pure (Next.value v))=_
 rw[qAX,h1,h2,h3]
 have hi':0≤(i:Int)∧(i:Int)≤(j:Int):=by omega
 have hj':0≤(j:Int)∧(j:Int)≤(cap:Int):=by omega
 have e:qAa P (Instr.sliceAt t (.slice wa len cap) (some (.int k1 (i:Int))) (some (.int k2 (j:Int))) none)=some (.slice (qBo wa cap i sz) (j-i) (cap-i)):=by
  simp only[Instr.sliceAt,Instr.slice,Instr.sliceBounds,Instr.sliceBound,nat,qAi,asIntOf,qAa,pure,qAk ht,hi',hj',and_self,if_true,qA4 hs,Int.toNat_natCast]
  rfl
 rw[e]
 rfl
theorem qOY (ht:P.underlying t=some (.slice e)) {sz:Nat} (hs:qBZ P e=some sz) (k:IntKind) (wa:Option Addr) (len cap i:Nat) (hi:i≤len∧len≤cap):qB0 P (.slice t x (some y) none none) [.slice wa len cap,.int k (i:Int)] (.slice (qBo wa cap i sz) (len-i) (cap-i)):=by
 intro ρ o' ho hv
 rw[ho] at hv
 have hv':[ρ x,ρ y]=[Value.slice wa len cap,.int k (i:Int)]:=hv
 injection hv' with h1 hv'
 injection hv' with h2 _
 unfold execOp
 rw[ho]
 simp only[Option.map]
 show qAa P (Sem.bind (Instr.sliceAt t (ρ x) (some (ρ y)) none none) fun v=>Sem.pure (Next.value v))=_
 rw[qAX,h1,h2]
 have hi':0≤(i:Int)∧(i:Int)≤(len:Int):=by omega
 have e:qAa P (Instr.sliceAt t (.slice wa len cap) (some (.int k (i:Int))) none none)=some (.slice (qBo wa cap i sz) (len-i) (cap-i)):=by
  simp only[Instr.sliceAt,Instr.slice,Instr.sliceBounds,Instr.sliceBound,nat,qAi,asIntOf,qAa,pure,qAk ht,hi',and_self,if_true,qA4 hs,Int.toNat_natCast]
  rfl
 rw[e]
 rfl
end
section
variable {P:Program} {t t':TypeId} {x y:Operand} (a b:UInt8)
theorem qSD:qB0 P (.binOp .add t x y t') [u8 a,u8 b] (u8 (a+b)):=qAv qAp (by
 show some (Value.int .u8 (IntKind.u8.wrap ((a.toNat:Int)+b.toNat)))=_
 rw[qL9,u8,UInt8.toNat_add];congr 2)
theorem qZq:qB0 P (.binOp .leq t x y t') [u8 a,u8 b] (.bool (decide (a.toNat≤b.toNat))):=qAv qAp (by
 show some (Value.bool (decide ((a.toNat:Int)≤(b.toNat:Int))))=_
 congr 2;exact decide_eq_decide.2 Int.ofNat_le)
theorem qS2:qB0 P (.binOp .gtr t x y t') [u8 a,u8 b] (.bool (decide (b.toNat<a.toNat))):=qAv qAp (by
 show some (Value.bool (decide ((b.toNat:Int)<(a.toNat:Int))))=_
 congr 2;exact decide_eq_decide.2 Int.ofNat_lt)
end
end Go.Eng
namespace Go.Eng
theorem qBp.famN {F:Blk→Prop} {P:Program} {f:FuncId} {args:List Value} {B:Blk} {k:Nat} {v:List Nat→Value} {x:List Nat→Option Blk} {nw:List Nat→List (Option Blk)} (h:qBp P f args [B] k v (fun ns=>x ns::nw ns)) (hB:F B):qAt F P f args [] k v nw:=by
 intro w hm ha hF
 obtain⟨h1,h2,_⟩:=hF B hB
 have hno:∀k,¬qDc (lM ([B].map some)) k:=fun k ⟨p,b,hp,ho,_⟩=>by
  rcases p with _ |p
  ·cases hp;rw[h2] at ho;cases ho
  ·simp[lM] at hp
 refine Calls.mono (h w (fun b hb=>by simp at hb;subst hb;exact h1) (fun p q b c _ hb _ ho=>by
  rcases p with _ |p
  ·cases hb;rw[h2] at ho;cases ho
  ·simp[lM] at hb)) ?_
 rintro e w' ⟨ns,hns,he,hp⟩
 have hs:∀p b,lM (nw ns) p=some b→lM (x ns::nw ns) (p+1)=some b:=fun p b h=>by simpa[lM] using h
 refine⟨ns,hns,he,⟨fun p b hpb=>hp.holds _ b (hs p b hpb),fun p q b c hpq hpb hqc=>hp.apart _ _ b c (by omega) (hs p b hpb) (hs q c hqc),⟨hp.adv.os,hp.adv.output,hp.adv.tape,hp.adv.size,fun k hk _=>hp.adv.heap k hk (hno k),fun k ⟨p,b,hpb,h3,h4⟩=>?_,fun p b hpb hob=>?_⟩⟩⟩
 ·rcases hp.adv.names k ⟨p+1,b,hs p b hpb,h3,h4⟩ with h5|h5
  ·exact absurd h5 (hno k)
  ·exact .inr h5
 ·have:=hp.adv.ro (p+1) b (hs p b hpb) hob
  simp[lM] at this
end Go.Eng
namespace Go.Eng
theorem qAt.lendP {F F':Blk→Prop} {P:Program} {f:FuncId} {args:List Value} {bs:List Blk} {k:Nat} {v:List Nat→Value} {out:List Nat→List (Option Blk)}
  (hF:∀w:World,qCJ F' w→qCJ F w) (hn:∀x,F x→∃y,F' y∧∀j,x.has j→y.has j) (h:qAt F P f args bs k v out):qAt F' P f args bs k v out:=fun w hb ha hF'=>h w hb ha fun b hb'=>by
 obtain⟨h1,h2⟩:=hF w (fun x hx=>⟨(hF' x hx).1,(hF' x hx).2.1⟩) b hb'
 obtain⟨y,hy,he⟩:=hn b hb'
 exact⟨h1,h2,fun j hj=>(hF' y hy).2.2 j (he j hj)⟩
theorem qCw {b c:BytL} {x:Blk} (h:0<c.wn→0<b.wn) (hx:qA2 c x) (hb:c.wb=b.wb:=by rfl):∃y,qA2 b y∧∀j,x.has j→y.has j:=by
 obtain⟨h0,rfl⟩:=hx
 exact⟨qK5 b,⟨h h0,rfl⟩,fun j hj=>hb.symm.trans hj⟩
end Go.Eng
namespace Go.Eng
section
variable {P:Program} {t t':TypeId} {x y:Operand}
theorem qY4 (a b:UInt8):qB0 P (.binOp .eql t x y t') [u8 a,u8 b] (.bool (a==b)):=qAv qAp (by
 show some (Value.bool ((a.toNat:Int)==(b.toNat:Int)))=_
 have:((a.toNat:Int)==(b.toNat:Int))=(a==b):=by
  rw[Bool.eq_iff_iff,beq_iff_eq,beq_iff_eq]
  constructor
  ·intro h;exact UInt8.toNat_inj.1 (by omega)
  ·intro h;rw[h]
 rw[this])
end
end Go.Eng
namespace Go.Eng
theorem qHe {α:Type} (K:α→Value) (g:Nat→α) (n k:Nat) (h:k<n):((List.range n).map fun j=>K (g j))[k]?=some (K (g k)):=by
 rw[List.getElem?_map,List.getElem?_range h];rfl
theorem qRb {nm:Nat} {l:List Value} {n:Nat} {f:Nat→UInt8} {w:World} (h:qAl ⟨nm,false,0,.lit l⟩ w) (hl:l=(List.range n).map fun k=>u8 (f k)):qAl ⟨nm,false,0,qAd n fun k=>u8 (f k)⟩ w:=by
 subst hl
 exact h.recont rfl fun j v hj=>by
  by_cases hl:j<n
  ·rw[qAL hl] at hj
   show((List.range n).map fun k=>u8 (f k))[j]?= _
   rw[qHe u8 f n j hl];exact hj
  ·rw[qA3 hl] at hj;cases hj
def qGc (x y:BytL) (b:Blk):Prop:=qA2 x b∨qA2 y b
end Go.Eng
namespace Go.Eng
theorem qAt.drop {F:Blk→Prop} {P:Program} {f:FuncId} {args:List Value} {bs:List Blk} {k:Nat} {v:List Nat→Value} {o nw:List Nat→List (Option Blk)} (h:qAt F P f args bs k v (fun ns=>o ns++nw ns)):qAt F P f args bs k v o:=fun w hb ha hF=>
 Calls.mono (h w hb ha hF) fun e w' ⟨ns,h1,h2,hp⟩=>by
  have hs:∀p b,lM (o ns) p=some b→lM (o ns++nw ns) p=some b:=fun p b h=>by
   have hl:p<(o ns).length:=(List.getElem?_eq_some_iff.1 (show(o ns)[p]?=some (some b) by
    unfold lM at h
    cases h3:(o ns)[p]?with
    |none=>rw[h3] at h;cases h
    |some x=>rw[h3] at h;simp at h;rw[h])).1
   rw[qBy hl];exact h
  exact⟨ns,h1,h2,⟨fun p b h=>hp.holds p b (hs p b h),fun p q b c hpq hb hc=>hp.apart p q b c hpq (hs p b hb) (hs q c hc),hp.adv.weak hs⟩⟩
theorem qAt.name1 {F:Blk→Prop} {P:Program} {f:FuncId} {args:List Value} {bs:List Blk} {v:Value} {o:List (Option Blk)} (h:qAt F P f args bs 0 (fun _=>v) (fun _=>o)):qAt F P f args bs 1 (fun _=>v) (fun _=>o):=fun w hb ha hF=>
 Calls.mono (h w hb ha hF) fun e w' ⟨ns,h1,h2,hp⟩=>⟨[0],rfl,h2,hp⟩
theorem qUl {c n:Nat} {f g:Nat→Value} {z:Value} (h:∀k,k<n→f k=g k):spr c n f z=spr c n g z:=by
 unfold spr
 congr 1
 funext k
 by_cases hk:k<n
 ·rw[if_pos hk,if_pos hk,h k hk]
 ·rw[if_neg hk,if_neg hk]
end Go.Eng
end
section
namespace Go.Eng
open Go.RowKit Go.WideShapes Go.ChangeShapes Go.ChangeAt Go.Deep
structure qBE where
 wa:Option Addr
 wn:Nat
 wc:Nat
 wb:Nat
 wo:Nat
 wf:Nat→BytL
def qJI (q:qBE):Blk:=⟨q.wb,false,q.wo,qAd q.wn fun k=>qAJ (q.wf k)⟩
structure OkS (q:qBE):Prop where
 cap:q.wn≤q.wc
 ad:0<q.wn→q.wa=some ⟨q.wb,q.wo,none⟩
 len:q.wn≤9223372036854775807
 el:∀k,k<q.wn→OkB (q.wf k)
def qFv (q:qBE) (b:Blk):Prop:=(0<q.wn∧b=qJI q)∨∃k,k<q.wn∧qA2 (q.wf k) b
section
variable {H:Type} {enc:TypeId×Value→H} {P:Program}
theorem qRa {W:World} {base:Nat} {sp:Nat→Bool} {held:Bool} {t e:TypeId} {v:Value} {fuel:Nat} {x:DataW H×List MemPlace} (ht:P.underlying t=some (.slice e)) (he:P.underlying e=some (.int .u8))
  (hc:P.cellsOf e=1) (hf:DataW.trod enc P W base sp held fuel t [v]=some x):∃q:BytL,v=qAJ q∧OkB q∧qCJ (qA2 q) W:=by
 rcases open_slice1 ht hc hf with⟨hcs,_⟩|⟨a,len,cap,m,n,V,D,Pl,hcs,_,hl,hm,hmm,_,hx⟩
 ·simp only[List.cons.injEq,and_true] at hcs
  subst hcs
  exact⟨qAc none 0,rfl,qGJ,qK6⟩
 ·simp only[List.cons.injEq,and_true] at hcs
  subst hcs
  by_cases h0:len=0
  ·subst h0
   exact⟨qAc (some a) cap,rfl,qGJ,qK6⟩
  have hlm:len≤m:=by rw[hmm];split<;>omega
  have hspot:a.spot=none:=World.cell?_spot (by
   have:=(hx 0 (by omega)).1
   rwa[show a.add 0=a from by cases a;simp[Addr.add]] at this)
  obtain⟨ab,ao,spot⟩:=a
  simp only at hspot
  subst hspot
  have hV:∀i,i<len→∃x:UInt8,V i=u8 x:=fun i hi=>by
   obtain⟨_,h2⟩:=hx i (by omega)
   obtain⟨x0,e0,_,w0⟩:=DataW.trod_int he h2
   simp at e0
   rw[e0]
   exact jCU w0
  obtain⟨f,hfV⟩:=choose_lt (α:=UInt8) (p:=fun i x=>V i=u8 x) hV
  refine⟨⟨some ⟨ab,ao,none⟩,len,cap,ab,ao,f⟩,rfl,⟨hl,fun _=>rfl,by unfold maxLen at hm;show len≤_;omega⟩,fun b hb=>?_⟩
  obtain⟨_,rfl⟩:=hb
  refine⟨⟨qFt (hx 0 (by omega)).1,fun o v ho=>?_,(fun h=>by cases h),qC9 rfl⟩,rfl⟩
  have ho':(qAd len fun k=>u8 (f k)).get o=some v:=ho
  by_cases hol:o<len
  ·rw[qAL hol] at ho'
   injection ho' with ho'
   have:=(hx o (by omega)).1
   rw[qBs] at this
   show W.cell? ⟨ab,ao+o,none⟩=some v
   rw[this,hfV o hol,ho']
  ·rw[qA3 hol] at ho';cases ho'
theorem qWJ {W:World} {base:Nat} {sp:Nat→Bool} {held:Bool} {i:TypeId} (hi:P.underlying i=some (.int .i64)) {c:Value} {fuel:Nat} {z:DataW H×List MemPlace} (h:DataW.trod enc P W base sp held fuel i [c]=some z):
  ∃x:Int,c=int x∧-9223372036854775808≤x∧x≤9223372036854775807:=by
 obtain⟨x0,e0,_,w0⟩:=DataW.trod_int hi h
 simp at e0
 have hx:-9223372036854775808≤x0∧x0≤9223372036854775807:=by simpa[Lit.wf,IntKind.min,IntKind.max,IntKind.signed,IntKind.bits] using w0
 exact⟨x0,e0,hx.1,hx.2⟩
theorem qP0 {W:World} {base:Nat} {sp:Nat→Bool} {held:Bool} {i:TypeId} (hi:P.underlying i=some (.int .u64)) {c:Value} {fuel:Nat} {z:DataW H×List MemPlace} (h:DataW.trod enc P W base sp held fuel i [c]=some z):
  ∃x:UInt64,c=u64 x:=by
 obtain⟨x0,e0,_,w0⟩:=DataW.trod_int hi h
 simp at e0
 obtain⟨x,hx⟩:=qXo w0
 exact⟨x,e0.trans hx⟩
theorem qOW {α:Type} [Inhabited α] (K:α→Value) (G:α→Prop) {W:World} {base:Nat} {sp:Nat→Bool} {held:Bool} {t e:TypeId} {v:Value} {fuel:Nat} {x:DataW H×List MemPlace} (ht:P.underlying t=some (.slice e))
  (hc:P.cellsOf e=1) (hel:∀n v x,DataW.trod enc P W base sp held n e [v]=some x→∃a,v=K a∧G a) (hf:DataW.trod enc P W base sp held fuel t [v]=some x):
  ∃(wa:Option Addr) (wn wc wb wo:Nat) (f:Nat→α),v=.slice wa wn wc∧wn≤wc∧(0<wn→wa=some ⟨wb,wo,none⟩)∧wn≤9223372036854775807∧(∀k,k<wn→G (f k))∧(0<wn→qAl ⟨wb,false,wo,qAd wn fun k=>K (f k)⟩ W):=by
 rcases open_slice1 ht hc hf with⟨hcs,_⟩|⟨a,len,cap,m,n,V,D,Pl,hcs,_,hl,hm,hmm,_,hx⟩
 ·simp only[List.cons.injEq,and_true] at hcs
  subst hcs
  exact⟨none,0,0,0,0,fun _=>default,rfl,Nat.le_refl _,fun h=>absurd h (Nat.lt_irrefl 0),Nat.zero_le _,fun k hk=>absurd hk (Nat.not_lt_zero k),fun h=>absurd h (Nat.lt_irrefl 0)⟩
 ·simp only[List.cons.injEq,and_true] at hcs
  subst hcs
  by_cases h0:len=0
  ·subst h0
   exact⟨some a,0,cap,0,0,fun _=>default,rfl,Nat.zero_le _,fun h=>absurd h (Nat.lt_irrefl 0),Nat.zero_le _,fun k hk=>absurd hk (Nat.not_lt_zero k),fun h=>absurd h (Nat.lt_irrefl 0)⟩
  have hlm:len≤m:=by rw[hmm];split<;>omega
  have hspot:a.spot=none:=World.cell?_spot (by
   have:=(hx 0 (by omega)).1
   rwa[show a.add 0=a from by cases a;simp[Addr.add]] at this)
  obtain⟨ab,ao,spot⟩:=a
  simp only at hspot
  subst hspot
  have hV:∀i,i<len→∃x:α,V i=K x∧G x:=fun i hi=>by
   obtain⟨_,h2⟩:=hx i (by omega)
   exact hel _ _ _ h2
  obtain⟨f,hfV⟩:=choose_lt (α:=α) (p:=fun i x=>V i=K x∧G x) hV
  refine⟨some ⟨ab,ao,none⟩,len,cap,ab,ao,f,rfl,hl,fun _=>rfl,by unfold maxLen at hm;omega,fun k hk=>(hfV k hk).2,fun _=>⟨qFt (hx 0 (by omega)).1,fun o v ho=>?_,(fun h=>by cases h),qC9 rfl⟩⟩
  have ho':(qAd len fun k=>K (f k)).get o=some v:=ho
  by_cases hol:o<len
  ·rw[qAL hol] at ho'
   injection ho' with ho'
   have:=(hx o (by omega)).1
   rw[qBs] at this
   show W.cell? ⟨ab,ao+o,none⟩=some v
   rw[this,(hfV o hol).1,ho']
  ·rw[qA3 hol] at ho';cases ho'
instance:Inhabited BytL:=⟨qAc none 0⟩
end
end Go.Eng
end
section
namespace Go.Eng
structure Grw (α:Type) where
 z:Bool
 nm:Nat
 n:Nat
 r:Nat
 f:Nat→α
def grO {α:Type} (K:α→Value) (zv:Value) (A:Grw α):Option Blk:=match A.z with
 |true=>none
 |false=>some ⟨A.nm,true,0,spr (A.n+A.r) A.n (fun k=>K (A.f k)) zv⟩
section
variable {α:Type} {K:α→Value} {zv:Value} {A:Grw α}
theorem qZt (h:A.z=true):grO K zv A=none:=by unfold grO;rw[h]
theorem qMK (h:A.z=false):grO K zv A=some ⟨A.nm,true,0,spr (A.n+A.r) A.n (fun k=>K (A.f k)) zv⟩:=by unfold grO;rw[h]
end
section
variable {P:Program} {t ty e:TypeId}
theorem qJz {sz:Nat} (ht:P.underlying t=some (.slice e)) (hs:qBZ P e=some sz) (a:Option Addr) (n c:Nat) (hn:n≤c) (al:Option Addr) (cl:Nat):
  qAz P (qB2 t ty (.slice a n c) (.slice al 0 cl)) [] 0 (fun _=>.slice a n c) (fun _=>[]):=by
 intro w hall ha
 obtain⟨i,hi,hi2⟩:∃i,P.info? e=some i∧i.size=sz:=by
  unfold qBZ at hs
  cases h:P.info? e with
  |none=>simp[h] at hs
  |some i=>simp[h] at hs;exact⟨i,rfl,hs⟩
 refine⟨[],w,rfl,.inl (qAA ?_),qCL.refl (fun p c h=>by cases h) ha⟩
 have hn':¬c<n:=by omega
 cases al<;>cases a<;>simp[Builtin.append_,run_underlying ht,sizeOf,typeInfo,hi,hn',Builtin.lenOf,Builtin.firstCells,storeCells,loadCells,loadCellsFrom]
end
end Go.Eng
namespace Go.Eng
theorem qIE {P:Program} {t ty e:TypeId} {sz:Nat} (ht:P.underlying t=some (.slice e)) (hs:qBZ P e=some sz) (a:Option Addr) (n c:Nat) (hn:n≤c) (al:Option Addr) (m cl:Nat) (hm:m=0):
  qAz P (qB2 t ty (.slice a n c) (.slice al m cl)) [] 0 (fun _=>.slice a n c) (fun _=>[]):=by
 subst hm;exact qJz ht hs a n c hn al cl
theorem qCL.conv {m m' n n':Nat→Option Blk} {w w':World} (hp:qCL m w m' w') (h0:∀k,qDc m k→qDc n k) (π:Nat→Nat)
  (hπ:∀p q b c,n' p=some b→n' q=some c→π p=π q→p=q)
  (h2:∀p b,n' p=some b→b.own=true∧∃b',m' (π p)=some b'∧(∀k,b.has k→b'.has k)∧b'.own=true∧∀w,qAl b' w→qAl b w):qCL n w n' w' where
 holds p b hb:=by obtain⟨_,b',h3,_,_,h6⟩:=h2 p b hb;exact h6 _ (hp.holds _ _ h3)
 apart p q b c hpq hb hc ho:=by
  obtain⟨_,b',h3,h4,h5,_⟩:=h2 p b hb
  obtain⟨_,c',k3,k4,k5,_⟩:=h2 q c hc
  exact fun k l1 l2=>hp.apart _ _ b' c' (fun e=>hpq (hπ p q b c hb hc e)) h3 k3 h5 k (h4 k l1) (k4 k l2)
 adv:=⟨hp.adv.os,hp.adv.output,hp.adv.tape,hp.adv.size,fun k hk hn=>hp.adv.heap k hk fun ho=>hn (h0 k ho),fun k ⟨p,b,hb,ho,hk⟩=>by
   obtain⟨_,b',h3,h4,h5,_⟩:=h2 p b hb
   rcases hp.adv.names k ⟨π p,b',h3,h5,h4 k hk⟩ with h6|h6
   ·exact .inl (h0 k h6)
   ·exact .inr h6,fun p b hb ho=>by
   have:=(h2 p b hb).1
   rw[ho] at this;cases this⟩
structure Suf (bs bs':List (Option Blk)) (ρ:Nat→Nat):Prop where
 inj:∀p q b c,lM bs p=some b→lM bs q=some c→ρ p=ρ q→p=q
 sub:∀p b,lM bs p=some b→∃b',lM bs' (ρ p)=some b'∧(∀k,b.has k→b'.has k)∧b'.own=b.own∧∀w,qAl b' w→qAl b w
theorem Suf.owns {bs bs':List (Option Blk)} {ρ:Nat→Nat} (h:Suf bs bs' ρ) (k:Nat):qDc (lM bs) k→qDc (lM bs') k:=fun⟨p,b,hb,ho,hk⟩=>by
 obtain⟨b',h1,h2,h3,_⟩:=h.sub p b hb
 exact⟨ρ p,b',h1,by rw[h3,ho],h2 k hk⟩
theorem Suf.holds {bs bs':List (Option Blk)} {ρ:Nat→Nat} (h:Suf bs bs' ρ) {w:World} (hm:∀p b,lM bs' p=some b→qAl b w):∀p b,lM bs p=some b→qAl b w:=fun p b hb=>by
 obtain⟨b',h1,_,_,h4⟩:=h.sub p b hb
 exact h4 w (hm _ _ h1)
theorem Suf.apart {bs bs':List (Option Blk)} {ρ:Nat→Nat} (h:Suf bs bs' ρ) (ha:qCs (lM bs')):qCs (lM bs):=fun p q b c hpq hb hc ho=>by
 obtain⟨b',h1,h2,h3,_⟩:=h.sub p b hb
 obtain⟨c',k1,k2,k3,_⟩:=h.sub q c hc
 exact fun k l1 l2=>ha _ _ b' c' (fun e=>hpq (h.inj p q b c hb hc e)) h1 k1 (by rw[h3,ho]) k (h2 k l1) (k2 k l2)
theorem Suf.fam {F:Blk→Prop} {bs bs':List (Option Blk)} {ρ:Nat→Nat} (h:Suf bs bs' ρ) {w:World} (hF:Fam F (lM bs') w):Fam F (lM bs) w:=fun b hb=>by
 obtain⟨h1,h2,h3⟩:=hF b hb
 exact⟨h1,h2,fun k hk ho=>h3 k hk (h.owns _ ho)⟩
def qXr (out out':List (Option Blk)) (π:Nat→Nat):Prop:=
 (∀p q b c,lM out' p=some b→lM out' q=some c→π p=π q→p=q)∧
 ∀p b,lM out' p=some b→b.own=true∧∃b',lM out (π p)=some b'∧(∀k,b.has k→b'.has k)∧b'.own=true∧∀w,qAl b' w→qAl b w
theorem qE4.conv {P:Program} {s:Sem Next} {bs bs':List (Option Blk)} {k k':Nat} {v v':List Nat→Value} {out out':List Nat→List (Option Blk)} (h:qE4 P s bs k v out)
  (ρ:Nat→Nat) (h1:Suf bs bs' ρ) (π:Nat→Nat) (σ:List Nat→List Nat) (hσ:∀ns,ns.length=k→(σ ns).length=k'∧v' (σ ns)=v ns∧qXr (out ns) (out' (σ ns)) π):qE4 P s bs' k' v' out':=by
 intro w hm ha
 obtain⟨ns,w',hns,he,hp⟩:=h w (h1.holds hm) (h1.apart ha)
 obtain⟨h3,h4,h5,h6⟩:=hσ ns hns
 exact⟨σ ns,w',h3,by rw[h4];exact he,hp.conv h1.owns π h5 h6⟩
theorem qAt.toO {F:Blk→Prop} {P:Program} {f:FuncId} {args:List Value} {bs:List Blk} {k:Nat} {v:List Nat→Value} {out:List Nat→List (Option Blk)} (h:qAt F P f args bs k v out):qAb F P f args (bs.map some) k v out:=
 fun w hm ha hF=>h w (fun b hb=>by obtain⟨i,hi⟩:=List.getElem?_of_mem hb;exact hm i b (qAW.2 hi)) ha hF
theorem qBp.toO {F:Blk→Prop} {P:Program} {f:FuncId} {args:List Value} {bs:List Blk} {k:Nat} {v:List Nat→Value} {out:List Nat→List (Option Blk)} (h:qBp P f args bs k v out):qAb F P f args (bs.map some) k v out:=h.toF.toO
theorem qAz.toO {P:Program} {s:Sem Next} {bs:List Blk} {k:Nat} {v:List Nat→Value} {out:List Nat→List (Option Blk)} (h:qAz P s bs k v out):qE4 P s (bs.map some) k v out:=
 fun w hm ha=>h w (fun b hb=>by obtain⟨i,hi⟩:=List.getElem?_of_mem hb;exact hm i b (qAW.2 hi)) ha
theorem qAb.toF {F:Blk→Prop} {P:Program} {f:FuncId} {args:List Value} {bs:List Blk} {k:Nat} {v:List Nat→Value} {out:List Nat→List (Option Blk)} (h:qAb F P f args (bs.map some) k v out):qAt F P f args bs k v out:=
 fun w hm ha hF=>h w (fun i b hb=>hm b (List.mem_of_getElem? (qAW.1 hb))) ha hF
theorem lm0 {o:Option Blk} {r:List (Option Blk)}:lM (o::r) 0=o:=rfl
theorem lm1 {o:Option Blk} {r:List (Option Blk)} (p:Nat):lM (o::r) (p+1)=lM r p:=by simp[lM]
theorem lmN (p:Nat):lM ([]:List (Option Blk)) p=none:=by simp[lM]
inductive Sub:List (Option Blk)→List (Option Blk)→Prop where
 |zz (l:List (Option Blk)):Sub [] l
 |dr {l l':List (Option Blk)} (o:Option Blk):Sub l l'→Sub (none::l) (o::l')
 |kp {l l':List (Option Blk)} (b b':Blk) (h:(∀k,b.has k→b'.has k)∧b'.own=b.own∧∀w,qAl b' w→qAl b w):Sub l l'→Sub (some b::l) (some b'::l')
 |gp {l l':List (Option Blk)} (o:Option Blk):Sub l l'→Sub l (o::l')
 |dn {l l':List (Option Blk)}:Sub l l'→Sub (none::l) l'
theorem Sub.at {l l':List (Option Blk)} (h:Sub l l'):∃ρ,Suf l l' ρ:=by
 induction h with
 |zz l=>exact⟨id,⟨fun p q b c hb=>(by rw[lmN] at hb;cases hb),fun p b hb=>(by rw[lmN] at hb;cases hb)⟩⟩
 |@dr l l' o _ ih=>
  obtain⟨ρ,h1,h2⟩:=ih
  refine⟨fun p=>match p with|0=>0|p+1=>ρ p+1,⟨fun p q b c hb hc e=>?_,fun p b hb=>?_⟩⟩
  ·cases p with
   |zero=>cases hb
   |succ p=>cases q with
    |zero=>cases hc
    |succ q=>rw[lm1] at hb hc;simp only at e;have:=h1 p q b c hb hc (by omega);omega
  ·cases p with
   |zero=>cases hb
   |succ p=>rw[lm1] at hb;simp only[lm1];exact h2 p b hb
 |@kp l l' b0 b0' h0 _ ih=>
  obtain⟨ρ,h1,h2⟩:=ih
  refine⟨fun p=>match p with|0=>0|p+1=>ρ p+1,⟨fun p q b c hb hc e=>?_,fun p b hb=>?_⟩⟩
  ·cases p with
   |zero=>cases q with
    |zero=>rfl
    |succ q=>simp only at e;omega
   |succ p=>cases q with
    |zero=>simp only at e;omega
    |succ q=>rw[lm1] at hb hc;simp only at e;have:=h1 p q b c hb hc (by omega);omega
  ·cases p with
   |zero=>rw[lm0] at hb;injection hb with hb;subst hb;exact⟨b0',rfl,h0⟩
   |succ p=>rw[lm1] at hb;simp only[lm1];exact h2 p b hb
 |dn _ ih=>
  obtain⟨ρ,h1,h2⟩:=ih
  refine⟨fun p=>match p with|0=>0|p+1=>ρ p,⟨fun p q b c hb hc e=>?_,fun p b hb=>?_⟩⟩
  ·cases p with
   |zero=>cases hb
   |succ p=>cases q with
    |zero=>cases hc
    |succ q=>rw[lm1] at hb hc;simp only at e;have:=h1 p q b c hb hc e;omega
  ·cases p with
   |zero=>cases hb
   |succ p=>rw[lm1] at hb;simp only;exact h2 p b hb
 |gp _ _ ih=>
  obtain⟨ρ,h1,h2⟩:=ih
  exact⟨fun p=>ρ p+1,⟨fun p q b c hb hc e=>h1 p q b c hb hc (by omega),fun p b hb=>by simp only[lm1];exact h2 p b hb⟩⟩
def qR1:List (Option Blk)→Prop
 |[]=>True
 |none::r=>qR1 r
 |some b::r=>b.own=true∧qR1 r
theorem qOu:∀{l:List (Option Blk)},qR1 l→∀p b,lM l p=some b→b.own=true
 |[],_,p,b,hb=>by rw[lmN] at hb;cases hb
 |none::r,h,0,b,hb=>by cases hb
 |some c::r,h,0,b,hb=>by rw[lm0] at hb;injection hb with hb;subst hb;exact h.1
 |none::r,h,p+1,b,hb=>by rw[lm1] at hb;exact qOu (l:=r) h p b hb
 |some c::r,h,p+1,b,hb=>by rw[lm1] at hb;exact qOu h.2 p b hb
theorem Sub.leaves {l l':List (Option Blk)} (h:Sub l' l) (ho:qR1 l'):∃π,qXr l l' π:=by
 obtain⟨ρ,h1,h2⟩:=h.at
 refine⟨ρ,h1,fun p b hb=>?_⟩
 have hown:=qOu ho p b hb
 obtain⟨b',k1,k2,k3,k4⟩:=h2 p b hb
 exact⟨hown,b',k1,k2,by rw[k3,hown],k4⟩
theorem qAb.as {F:Blk→Prop} {P:Program} {f:FuncId} {args:List Value} {bs bs':List (Option Blk)} {k k':Nat} {v v':List Nat→Value} {out out':List Nat→List (Option Blk)} (h:qAb F P f args bs k v out)
  (h1:Sub bs bs') (σ:List Nat→List Nat) (hσ:∀ns,ns.length=k→(σ ns).length=k'∧v' (σ ns)=v ns∧Sub (out' (σ ns)) (out ns)∧qR1 (out' (σ ns))):qAb F P f args bs' k' v' out':=by
 obtain⟨ρ,hρ⟩:=h1.at
 intro w hm ha hF
 refine Calls.mono (h w (hρ.holds hm) (hρ.apart ha) (hρ.fam hF)) ?_
 rintro e w' ⟨ns,hns,he,hp⟩
 obtain⟨h3,h4,h5,h6⟩:=hσ ns hns
 obtain⟨π,h7,h8⟩:=h5.leaves h6
 exact⟨σ ns,h3,by rw[h4,he],hp.conv hρ.owns π h7 h8⟩
theorem qE4.as {P:Program} {s:Sem Next} {bs bs':List (Option Blk)} {k k':Nat} {v v':List Nat→Value} {out out':List Nat→List (Option Blk)} (h:qE4 P s bs k v out)
  (h1:Sub bs bs') (σ:List Nat→List Nat) (hσ:∀ns,ns.length=k→(σ ns).length=k'∧v' (σ ns)=v ns∧Sub (out' (σ ns)) (out ns)∧qR1 (out' (σ ns))):qE4 P s bs' k' v' out':=by
 obtain⟨ρ,hρ⟩:=h1.at
 intro w hm ha
 obtain⟨ns,w',hns,he,hp⟩:=h w (hρ.holds hm) (hρ.apart ha)
 obtain⟨h3,h4,h5,h6⟩:=hσ ns hns
 obtain⟨π,h7,h8⟩:=h5.leaves h6
 exact⟨σ ns,w',h3,by rw[h4];exact he,hp.conv hρ.owns π h7 h8⟩
theorem Sub.refl:∀(l:List (Option Blk)),Sub l l
 |[]=>.zz _
 |none::r=>.dr _ (Sub.refl r)
 |some b::r=>.kp b b ⟨fun _ h=>h,rfl,fun _ h=>h⟩ (Sub.refl r)
theorem Sub.cons {l l':List (Option Blk)} (o:Option Blk) (h:Sub l l'):Sub (o::l) (o::l'):=match o with
 |none=>.dr _ h
 |some b=>.kp b b ⟨fun _ h=>h,rfl,fun _ h=>h⟩ h
theorem qAl.retab {b:Blk} {c:qAI} (hnm:c.isMap=false) (hbm:b.cont.isMap=false) (hc:∀o v,c.get o=some v→b.cont.get o=some v):(∀k,Blk.has {b with cont:=c} k→b.has k)∧b.own=b.own∧∀w,qAl b w→qAl {b with cont:=c} w:=
 ⟨fun k hk=>(qBk hbm).2 ((qBk (b:={b with cont:=c}) hnm).1 hk),rfl,fun _ h=>h.recont hnm hc⟩
theorem qAb.mono {F F':Blk→Prop} {P:Program} {f:FuncId} {args:List Value} {bs:List (Option Blk)} {k:Nat} {v:List Nat→Value} {out:List Nat→List (Option Blk)} (hs:∀b,F b→F' b) (h:qAb F P f args bs k v out):qAb F' P f args bs k v out:=
 fun w hm ha hF=>h w hm ha fun b hb=>hF b (hs b hb)
theorem qAb.frame {F:Blk→Prop} {P:Program} {f:FuncId} {args:List Value} {bs:List (Option Blk)} {ps:List (Nat×Bool)} {k k':Nat} {v v':List Nat→Value} {out out':List Nat→List (Option Blk)}
  (h:qAb F P f args (qB1 (lM bs) ps) k v out) (hn:qBg ps=true) (σ:List Nat→List Nat)
  (hσ:∀ns,ns.length=k→(σ ns).length=k'∧v' (σ ns)=v ns∧ps.length≤(out ns).length∧∀p b,lM (out' (σ ns)) p=some b→qAD (lM bs) (qAx ps bs.length (out ns)) p=some b):qAb F P f args bs k' v' out':=by
 intro w hm ha hF
 refine Calls.mono (h w (qDh hm) (qDb ha hn) (qH3 hF)) ?_
 rintro e w' ⟨ns,hns,he,hp⟩
 obtain⟨h1,h2,h3,h4⟩:=hσ ns hns
 exact⟨σ ns,h1,by rw[h2,he],(qDg hm ha h3 hp).sub h4⟩
theorem qAb.reads {F:Blk→Prop} {P:Program} {f:FuncId} {args:List Value} {bs:List (Option Blk)} (ps:List (Nat×Bool)) {k:Nat} {v0:Value} {out:List Nat→List (Option Blk)}
  (h:qAb F P f args (qB1 (lM bs) ps) 0 (fun _=>v0) out) (hn:qBg ps=true) (hr:ps.all (fun x=>x.2)=true):qAb F P f args bs k (fun _=>v0) (fun _=>bs):=by
 have hout:∀(qs:List (Nat×Bool)) (nx:Nat) (m:Nat),qs.all (fun x=>x.2)=true→qAx qs nx (List.replicate qs.length none)=[]:=by
  intro qs
  induction qs with
  |nil=>intro nx m _;rfl
  |cons x r ih=>
   obtain⟨p,ro⟩:=x
   intro nx m hx
   simp only[List.all_cons,Bool.and_eq_true] at hx
   have:ro=true:=hx.1
   subst this
   simp only[List.length_cons,List.replicate_succ,qAx]
   exact ih nx m hx.2
 have h':qAb F P f args (qB1 (lM bs) ps) 0 (fun _=>v0) (fun _=>List.replicate ps.length none):=fun w hm ha hF=>Calls.mono (h w hm ha hF) fun e w' ⟨ns,h1,h2,h3⟩=>⟨ns,h1,h2,h3.sub fun p b hb=>by
  have:∀(n p:Nat),lM (List.replicate n (none:Option Blk)) p=none:=fun n p=>by
   simp only[lM,List.getElem?_replicate]
   split<;>simp_all
  rw[this] at hb;cases hb⟩
 refine h'.frame hn (fun _=>List.replicate k 0) fun ns _=>⟨by simp,rfl,by simp,fun p b hb=>?_⟩
 rw[hout ps bs.length 0 hr]
 exact hb
section
variable {α:Type}
def gsA (A:Grw α):Option Addr:=match A.z with
 |true=>none
 |false=>some ⟨A.nm,0,none⟩
def gsC (A:Grw α):Nat:=match A.z with
 |true=>0
 |false=>A.n+A.r
def gsV (A:Grw α):Value:=.slice (gsA A) A.n (gsC A)
def gsE (C:α→List Value) (zc:List Value) (sz:Nat) (A:Grw α):Option Blk:=match A.z with
 |true=>none
 |false=>some ⟨A.nm,true,0,qF8 sz (A.n+A.r) A.n (fun k=>C (A.f k)) zc⟩
def Grw.ok (A:Grw α):Prop:=A.z=true→A.n=0
def Grw.cat (A:Grw α) (m:Nat) (h:Nat→α) (nm r:Nat):Grw α:=⟨decide (m=0)&&A.z,nm,A.n+m,r,qAs A.f A.n h⟩
def qAE (S:Nat) (F:Nat→α) (a r:Nat):Grw α:=⟨decide (S=0),a,S,r,F⟩
theorem qBt (S:Nat) (F:Nat→α) (a r:Nat):(qAE S F a r).ok:=fun h=>of_decide_eq_true h
variable {A:Grw α} {C:α→List Value} {zc:List Value} {sz:Nat} {K:α→Value} {zv:Value}
theorem qTC (h:A.z=true):gsA A=none:=by unfold gsA;rw[h]
theorem qYZ (h:A.z=true):gsC A=0:=by unfold gsC;rw[h]
theorem qPp (h:A.z=true):gsE C zc sz A=none:=by unfold gsE;rw[h]
theorem qHN (h:A.z=false):gsA A=some ⟨A.nm,0,none⟩:=by unfold gsA;rw[h]
theorem qTg (h:A.z=false):gsC A=A.n+A.r:=by unfold gsC;rw[h]
theorem qDJ (h:A.z=false):gsE C zc sz A=some ⟨A.nm,true,0,qF8 sz (A.n+A.r) A.n (fun k=>C (A.f k)) zc⟩:=by unfold gsE;rw[h]
theorem qUw (h:A.z=true) (hk:A.ok):gsV A=.slice none 0 0:=by unfold gsV;rw[qTC h,qYZ h,hk h]
theorem qHv (h:A.z=false):gsV A=.slice (some ⟨A.nm,0,none⟩) A.n (A.n+A.r):=by unfold gsV;rw[qHN h,qTg h]
theorem Grw.ok.pos (hk:A.ok) (h:0<A.n):A.z=false:=by
 cases hz:A.z with
 |false=>rfl
 |true=>have:=hk hz;omega
theorem qPN {c n:Nat} {f g:Nat→α} (hg:∀k,k<n→f k=g k):qF8 sz c n (fun k=>C (f k)) zc=qF8 sz c n (fun k=>C (g k)) zc:=by
 unfold qF8
 congr 1;funext k
 by_cases h:k<n
 ·rw[if_pos h,if_pos h];show C (f k)=C (g k);rw[hg k h]
 ·rw[if_neg h,if_neg h]
theorem qO4 {A':Grw α} (h1:A'.z=A.z) (h2:A'.nm=A.nm) (h3:A'.n=A.n) (h4:A'.r=A.r) (h5:∀k,k<A.n→A'.f k=A.f k):gsE C zc sz A'=gsE C zc sz A:=by
 obtain⟨z,nm,n,r,f⟩:=A;obtain⟨z',nm',n',r',f'⟩:=A'
 simp only at h1 h2 h3 h4 h5;subst h1;subst h2;subst h3;subst h4
 unfold gsE
 cases z'<;>simp only[qPN h5]
theorem qDI {S:Nat} {F:Nat→α} (h1:A.n=S) (h2:A.z=decide (S=0)) (h3:∀j,j<S→A.f j=F j):
  gsV A=gsV (qAE S F A.nm A.r)∧gsE C zc sz A=gsE C zc sz (qAE S F A.nm A.r):=by
 subst h1
 refine⟨?_,qO4 h2 rfl rfl rfl h3⟩
 unfold gsV gsA gsC qAE
 simp only[h2]
theorem qU1 {r:List (Option Blk)} (h:qR1 r):qR1 (gsE C zc sz A::r):=by
 unfold gsE
 cases A.z with
 |true=>exact h
 |false=>exact⟨rfl,h⟩
section
variable {P:Program} {t ty e:TypeId} {B:Nat}
theorem qTJ (h1:qV4 P e zc sz B):qBZ P e=some sz:=by
 obtain⟨i,z,hi,_,hsz,_⟩:=h1
 simp[qBZ,hi,hsz]
theorem qEO (ht:P.underlying t=some (.slice e)) (h1:qV4 P e zc sz B) (A:Grw α) (hA:A.ok) (hC:∀a,(C a).length=sz∧(C a).all Value.oneCell'=true) (h:Nat→α) (m:Nat) (adr:Option Addr) (cc:Nat) (ob:Option Blk)
  (hs:0<m→∃k bo os S,adr=some ⟨k,bo+os,none⟩∧ob=some ⟨k,false,bo,S⟩∧∀j,j<m*sz→S.get (os+j)=some (cf sz (fun k=>C (h k)) j))
  (hb:(A.n+m)*B≤140737488355328∧A.n+m≤9223372036854775807):
  qE4 P (qB2 t ty (gsV A) (.slice adr m cc)) [gsE C zc sz A,ob] 2 (fun ns=>gsV (A.cat m h (ns.getD 0 0) (ns.getD 1 0))) (fun ns=>[gsE C zc sz (A.cat m h (ns.getD 0 0) (ns.getD 1 0)),none]):=by
 rcases Nat.eq_zero_or_pos m with hm|hm
 ·subst hm
  have hcap:A.n≤gsC A:=by
   unfold gsC;cases hz:A.z with
   |true=>rw[hA hz];exact Nat.zero_le _
   |false=>simp only;omega
  have key:=(qIE (P:=P) (t:=t) (ty:=ty) ht (qTJ h1) (gsA A) A.n (gsC A) hcap adr 0 cc rfl).toO
  intro w hm ha
  obtain⟨ns,w',hns,he,hp⟩:=key w (fun p b hb=>by cases p<;>cases hb) (fun p q b c _ hb=>by cases p<;>cases hb)
  refine⟨[A.nm,A.r],w',rfl,?_,?_⟩
  ·have ec:A.cat 0 h A.nm A.r=⟨A.z,A.nm,A.n,A.r,qAs A.f A.n h⟩:=by
    unfold Grw.cat;rw[show(decide (0=0)&&A.z)=A.z from by simp];rfl
   have e:gsV (A.cat 0 h A.nm A.r)=.slice (gsA A) A.n (gsC A):=by rw[ec];rfl
   show _∨_
   simp only[List.getD_cons_zero,List.getD_cons_succ,e]
   exact he
  ·have e:gsE C zc sz (A.cat 0 h A.nm A.r)=gsE C zc sz A:=qO4 (by simp[Grw.cat]) rfl rfl rfl fun k hk=>by simp[Grw.cat,qAs,hk]
   simp only[List.getD_cons_zero,List.getD_cons_succ,e]
   have hnil:∀p:Nat,lM (List.map some ([]:List Blk)) p=none:=fun p=>by simp[lM]
   have hadv:=hp.adv
   have hw:∀k,k<w.heap.size→w'.heap[k]?=w.heap[k]?:=fun k hk=>hadv.heap k hk fun⟨p,b,hb,_⟩=>by rw[hnil] at hb;cases hb
   have hsub:∀p b,lM [gsE C zc sz A,none] p=some b→p=0∧gsE C zc sz A=some b:=fun p b hb=>by
    rcases p with _ | _ |p
    ·exact⟨rfl,hb⟩
    ·cases hb
    ·simp[lM] at hb
   refine⟨fun p b hb=>?_,fun p q b c hpq hb hc ho=>?_,⟨hadv.os,hadv.output,hadv.tape,hadv.size,fun k hk _=>hw k hk,fun k ⟨p,b,hb,ho,hk⟩=>?_,fun p b hb ho=>?_⟩⟩
   ·obtain⟨rfl,h2⟩:=hsub p b hb
    have:=hm 0 b h2
    exact this.of_heap hadv.size fun k hk=>hw _ (this.has_lt hk)
   ·obtain⟨rfl,_⟩:=hsub p b hb
    obtain⟨rfl,_⟩:=hsub q c hc
    exact absurd rfl hpq
   ·obtain⟨rfl,h2⟩:=hsub p b hb
    exact .inl ⟨0,b,h2,ho,hk⟩
   ·obtain⟨rfl,h2⟩:=hsub p b hb
    cases hz:A.z with
    |true=>rw[qPp hz] at h2;cases h2
    |false=>rw[qDJ hz] at h2;exact absurd (by injection h2 with h2;rw[←h2]) (show¬b.own=true from by rw[ho];decide)
 ·obtain⟨k,bo,os,S,rfl,rfl,hS⟩:=hs hm
  have hmz:decide (m=0)=false:=decide_eq_false (by omega)
  cases hz:A.z with
  |true=>
   have hn:=hA hz
   rw[qUw hz hA,qPp hz]
   have key:=(qLm (P:=P) (t:=t) (ty:=ty) ht h1 k bo os m cc C hC h S hS ⟨hm,by rw[hn,Nat.zero_add] at hb;exact hb.1,by omega⟩).toO
   have e1:∀ns:List Nat,gsV (A.cat m h (ns.getD 0 0) (ns.getD 1 0))=.slice (some ⟨ns.getD 0 0,0,none⟩) m (m+ns.getD 1 0):=fun ns=>by
    rw[qHv (by simp[Grw.cat,hmz])];simp only[Grw.cat,hn,Nat.zero_add]
   have e2:∀ns:List Nat,gsE C zc sz (A.cat m h (ns.getD 0 0) (ns.getD 1 0))=some ⟨ns.getD 0 0,true,0,qF8 sz (m+ns.getD 1 0) m (fun k=>C (h k)) zc⟩:=fun ns=>by
    rw[qDJ (by simp[Grw.cat,hmz])];simp only[Grw.cat,hn,Nat.zero_add]
    rw[qPN (g:=h) fun k _=>by simp[qAs]]
   refine key.conv (fun p=>p+1) ⟨fun p q b c _ _ e=>Nat.succ.inj e,fun p b hb=>⟨b,by rw[lm1];exact hb,fun _ h=>h,rfl,fun _ h=>h⟩⟩ (fun p=>p+1) id fun ns hns=>⟨hns,e1 ns,fun p q b c _ _ e=>Nat.succ.inj e,fun p b hb=>?_⟩
   rcases p with _ | _ |p
   ·rw[lm0] at hb;simp only[id,e2] at hb;injection hb with hb;subst hb
    exact⟨rfl,_,rfl,fun _ h=>h,rfl,fun _ h=>h⟩
   ·cases hb
   ·simp[lM] at hb
  |false=>
   rw[qHv hz,qDJ hz]
   have key:=(qQQ (P:=P) (t:=t) (ty:=ty) ht h1 A.nm A.n A.r k bo os m cc C hC A.f h S hS hb).toO
   refine key.as (.refl _) id fun ns _=>⟨by assumption,?_,?_,?_⟩
   ·show gsV _=_
    rw[qHv (by simp[Grw.cat,hmz])];simp only[Grw.cat,id]
   ·rw[qDJ (by simp[Grw.cat,hmz])]
    simp only[Grw.cat,id]
    exact .kp _ _ ⟨fun _ h=>h,rfl,fun w hw=>hw⟩ (.dr _ (.zz _))
   ·rw[qDJ (by simp[Grw.cat,hmz])];exact⟨rfl,trivial⟩
end
theorem qYN (hA:A.ok):A.n≤gsC A:=by
 unfold gsC;cases hz:A.z with
 |true=>rw[hA hz];exact Nat.zero_le _
 |false=>simp only;omega
end
theorem qAb.darkO {F:Blk→Prop} {P:Program} {f:FuncId} {args:List Value} {bs:List (Option Blk)} {k:Nat} {v:List Nat→Value} {out:List Nat→List (Option Blk)} (fl:List Bool) (h:qAb F P f args bs k v out):
  qAb F P f args bs k v (fun ns=>dkn fl (out ns)):=fun w hb ha hF=>Calls.mono (h w hb ha hF) fun _ _ ⟨ns,h1,h2,h3⟩=>⟨ns,h1,h2,h3.sub (qHx fl (out ns))⟩
end Go.Eng
end
section
namespace Go.Eng
open Go.RowKit Go.WideShapes Go.ChangeShapes Go.ChangeAt Go.Deep
theorem qSE (f g:Nat→UInt8):qAs f 0 g=g:=by funext k;unfold qAs;rw[if_neg (by omega)];rfl
def u8C (x:UInt8):List Value:=[u8 x]
theorem qJl (A:Grw UInt8):gsE u8C [u8 0] 1 A=grO u8 (u8 0) A:=by
 unfold gsE grO
 cases A.z with
 |true=>rfl
 |false=>
  simp only
  congr 2
  unfold qF8 spr qAd
  congr 1
  funext k
  by_cases h:k<A.n
  ·show _=[if k<A.n then u8 (A.f k) else u8 0]
   rw[if_pos h,if_pos h];rfl
  ·show _=[if k<A.n then u8 (A.f k) else u8 0]
   rw[if_neg h,if_neg h]
theorem jBh {α:Type} {C:α→List Value} {zc:List Value} {sz:Nat} (A:Grw α) (hA:A.ok) (hsz:0<sz) (hC:∀a,(C a).length=sz) (hz:zc.length=sz):
  0<A.n→∃k bo os S,gsA A=some ⟨k,bo+os,none⟩∧roO (gsE C zc sz A)=some ⟨k,false,bo,S⟩∧∀j,j<A.n*sz→S.get (os+j)=some (cf sz (fun k=>C (A.f k)) j):=fun h0=>by
 have hz':=hA.pos h0
 refine⟨A.nm,0,0,qF8 sz (A.n+A.r) A.n (fun k=>C (A.f k)) zc,qHN hz',by rw[qDJ hz'];rfl,fun j hj=>?_⟩
 have h1:j<(A.n+A.r)*sz:=by rw[Nat.add_mul];omega
 rw[Nat.zero_add]
 unfold qF8
 rw[qS3 hsz (fun k _=>by split;exact hC _;exact hz) h1,qNc hj]
theorem qTD {P:Program} {t ty e:TypeId} (ht:P.underlying t=some (.slice e)) (h1:qV4 P e [u8 0] 1 1) (b:Nat) (x:UInt8) (D:Grw UInt8) (hD:D.ok) (hb:D.n+1≤140737488355328):
  qE4 P (qB2 t ty (.slice (some ⟨b,0,none⟩) 1 1) (gsV D)) [some ⟨b,true,0,.lit [u8 x]⟩,roO (gsE u8C [u8 0] 1 D)] 2 (fun ns=>gsV (⟨false,ns.getD 0 0,1+D.n,ns.getD 1 0,qAs (fun _=>x) 1 D.f⟩:Grw UInt8)) (fun ns=>[gsE u8C [u8 0] 1 (⟨false,ns.getD 0 0,1+D.n,ns.getD 1 0,qAs (fun _=>x) 1 D.f⟩:Grw UInt8),none]):=by
 have h:=qEO (P:=P) (t:=t) (ty:=ty) (e:=e) ht h1 (⟨false,b,1,0,fun _=>x⟩:Grw UInt8) (fun h=>by cases h) (C:=u8C) (fun _=>⟨rfl,rfl⟩) D.f D.n (gsA D) (gsC D) (roO (gsE u8C [u8 0] 1 D)) (jBh D hD (by decide) (fun _=>rfl) rfl) (show(1+D.n)*1≤140737488355328∧1+D.n≤9223372036854775807 by omega)
 have e0:∀a r,Grw.cat (⟨false,b,1,0,fun _=>x⟩:Grw UInt8) D.n D.f a r=⟨false,a,1+D.n,r,qAs (fun _=>x) 1 D.f⟩:=fun a r=>by
  unfold Grw.cat
  rw[Bool.and_false]
 simp only[e0] at h
 refine h.as ?_ id fun ns hns=>⟨hns,rfl,.refl _,?_⟩
 ·refine .kp _ _ ⟨fun _ h=>h,rfl,fun w hw=>hw.recont (b:=⟨b,true,0,.lit [u8 x]⟩) rfl fun o v hv=>?_⟩ (.refl _)
  by_cases ho:o<1
  ·have h0:o=0:=by omega
   subst h0
   exact hv
  ·have:(qF8 1 (1+0) 1 (fun k=>u8C ((fun _=>x) k)) [u8 0]).get o=none:=qJP (by omega)
   rw[this] at hv;cases hv
 ·exact⟨rfl,trivial⟩
end Go.Eng
end
section
namespace Go.Eng
section words32
variable {P:Program} {t t':TypeId} {x y:Operand} (a b:UInt32)
theorem qCP:qB0 P (.binOp .add t x y t') [u32 a,u32 b] (u32 (a+b)):=qAv qAp (by
 show some (Value.int .u32 (IntKind.u32.wrap ((a.toNat:Int)+b.toNat)))=_
 rw[qFQ,u32,UInt32.toNat_add];congr 2)
theorem qHA (a:UInt32):BitVec.ofInt 32 (a.toNat:Int)=a.toBitVec:=by
 apply BitVec.eq_of_toNat_eq
 simp
theorem qIg:qB0 P (.binOp .and t x y t') [u32 a,u32 b] (u32 (a&&&b)):=qAv qAp (by
 show some (Value.int .u32 (IntKind.u32.wrap (((BitVec.ofInt 32 (a.toNat:Int))&&&(BitVec.ofInt 32 (b.toNat:Int))).toNat)))=_
 rw[qFQ,qHA,qHA,u32];congr 2
 have:=(a&&&b).toNat_lt
 have h:(a.toBitVec&&&b.toBitVec).toNat=(a&&&b).toNat:=rfl
 rw[h];omega)
theorem qD3:qB0 P (.binOp .or t x y t') [u32 a,u32 b] (u32 (a|||b)):=qAv qAp (by
 show some (Value.int .u32 (IntKind.u32.wrap (((BitVec.ofInt 32 (a.toNat:Int))|||(BitVec.ofInt 32 (b.toNat:Int))).toNat)))=_
 rw[qFQ,qHA,qHA,u32];congr 2
 have:=(a|||b).toNat_lt
 have h:(a.toBitVec|||b.toBitVec).toNat=(a|||b).toNat:=rfl
 rw[h];omega)
theorem qCM:qB0 P (.binOp .xor t x y t') [u32 a,u32 b] (u32 (a^^^b)):=qAv qAp (by
 show some (Value.int .u32 (IntKind.u32.wrap (((BitVec.ofInt 32 (a.toNat:Int))^^^(BitVec.ofInt 32 (b.toNat:Int))).toNat)))=_
 rw[qFQ,qHA,qHA,u32];congr 2
 have:=(a^^^b).toNat_lt
 have h:(a.toBitVec^^^b.toBitVec).toNat=(a^^^b).toNat:=rfl
 rw[h];omega)
def qBw (a:UInt32) (n:Nat):UInt32:=.ofNat (a.toNat*2^n)
def qBi (a:UInt32) (n:Nat):UInt32:=.ofNat (a.toNat/2^n)
theorem qO9 (n:Nat):(qBw a n).toNat=a.toNat*2^n%4294967296:=by
 simp[qBw,UInt32.toNat_ofNat']
theorem qOG (n:Nat):(qBi a n).toNat=a.toNat/2^n:=by
 have h:a.toNat/2^n<4294967296:=Nat.lt_of_le_of_lt (Nat.div_le_self _ _) a.toNat_lt
 simp[qBi,UInt32.toNat_ofNat',Nat.mod_eq_of_lt h]
theorem qCY (k:IntKind) (n:Nat):qB0 P (.binOp .shl t x y t') [u32 a,.int k (n:Int)] (u32 (qBw a n)):=qAv qAp (by
 show qAa P (Op.shift .shl .u32 (a.toNat:Int) k (n:Int))=_
 unfold Op.shift
 rw[if_neg (by omega)]
 show some (Value.int .u32 (IntKind.u32.wrap ((a.toNat:Int)*2^min (n:Int).toNat 32)))=_
 rw[qFQ,u32,qO9]
 congr 2
 rw[Int.toNat_natCast]
 by_cases h:n≤32
 ·rw[Nat.min_eq_left h];rw[Int.natCast_emod,Int.natCast_mul,Int.natCast_pow];rfl
 ·rw[Nat.min_eq_right (by omega)]
  have e:n=32+(n-32):=by omega
  have h1:a.toNat*2^n%4294967296=0:=by
   rw[e,Nat.pow_add,Nat.mul_comm (2^32),←Nat.mul_assoc]
   exact Nat.mul_mod_left _ _
  rw[h1]
  have h2:((a.toNat:Int)*2^32)%4294967296=0:=Int.mul_emod_left _ _
  exact h2)
theorem qCr (k:IntKind) (n:Nat):qB0 P (.binOp .shr t x y t') [u32 a,.int k (n:Int)] (u32 (qBi a n)):=qAv qAp (by
 show qAa P (Op.shift .shr .u32 (a.toNat:Int) k (n:Int))=_
 unfold Op.shift
 rw[if_neg (by omega)]
 show some (Value.int .u32 (Int.fdiv (a.toNat:Int) (2^min (n:Int).toNat 32)))=_
 rw[u32,qOG]
 congr 2
 rw[Int.toNat_natCast]
 have key:∀m:Nat,Int.fdiv (a.toNat:Int) (2^m)=((a.toNat/2^m:Nat):Int):=fun m=>by
  rw[Int.fdiv_eq_ediv_of_nonneg _ (Int.pow_nonneg (by omega))]
  push_cast;rfl
 rw[key]
 congr 1
 by_cases h:n≤32
 ·rw[Nat.min_eq_left h]
 ·rw[Nat.min_eq_right (by omega)]
  have hlt:=a.toNat_lt
  rw[Nat.div_eq_of_lt hlt,Nat.div_eq_of_lt]
  exact Nat.lt_of_lt_of_le hlt (Nat.pow_le_pow_right (by omega) (by omega)))
theorem qWE:qB0 P (.unOp .xor t x) [u32 a] (u32 (~~~a)):=qX9 (by
 show some (Value.int .u32 (IntKind.u32.wrap (((BitVec.ofInt 32 (4294967295:Int))^^^(BitVec.ofInt 32 (a.toNat:Int))).toNat)))=_
 rw[qFQ,qHA,u32];congr 2
 have h1:(BitVec.ofInt 32 4294967295^^^a.toBitVec)=(~~~a).toBitVec:=by
  show _ = ~~~a.toBitVec
  rw[←BitVec.allOnes_xor];rfl
 rw[h1]
 have:=(~~~a).toNat_lt
 have h:((~~~a).toBitVec).toNat=(~~~a).toNat:=rfl
 rw[h];omega)
end words32
section
variable {P:Program} {s d:TypeId} {x:Operand}
theorem qOU (hs:P.underlying s=some (.int .u8)) (hd:P.underlying d=some (.int .u32)) (a:UInt8):qB0 P (.convert s d x) [u8 a] (u32 a.toUInt32):=by
 have h:=qDP (x:=x) hs hd a.toNat
 rw[qFQ] at h
 have:((a.toNat:Int)%4294967296)=(a.toUInt32.toNat:Int):=by have:=a.toNat_lt;simp;omega
 rw[this] at h;exact h
theorem qOS (hs:P.underlying s=some (.int .u32)) (hd:P.underlying d=some (.int .u8)) (a:UInt32):qB0 P (.convert s d x) [u32 a] (u8 a.toUInt8):=by
 have h:=qDP (x:=x) hs hd a.toNat
 rw[qL9] at h
 have:((a.toNat:Int)%256)=(a.toUInt8.toNat:Int):=by simp
 rw[this] at h;exact h
end
end Go.Eng
namespace Go.Eng
def rot (x:UInt32) (n:Nat):UInt32:=qBw x (32-n)|||qBi x n
structure W8 where
 a:UInt32
 b:UInt32
 c:UInt32
 d:UInt32
 e:UInt32
 f:UInt32
 g:UInt32
 h:UInt32
def w8V (s:W8):Value:=.agg #[u32 s.a,u32 s.b,u32 s.c,u32 s.d,u32 s.e,u32 s.f,u32 s.g,u32 s.h]
def jD4 (s:W8) (add:UInt32):UInt32:=s.h+(rot s.e 6^^^rot s.e 11^^^rot s.e 25)+(s.e&&&s.f^^^~~~s.e&&&s.g)+add
def jEm (s:W8):UInt32:=(rot s.a 2^^^rot s.a 13^^^rot s.a 22)+(s.a&&&s.b^^^s.a&&&s.c^^^s.b&&&s.c)
def jC4 (s:W8) (add:UInt32):W8:=⟨jD4 s add+jEm s,s.a,s.b,s.c,s.d+jD4 s add,s.e,s.f,s.g⟩
end Go.Eng
namespace Go.Eng
section
variable {P:Program} {t e:TypeId} {x y:Operand}
theorem qV9 {len:Nat} (ht:P.underlying t=some (.array len e)) (hs:qBZ P e=some 1) (he:∃k,P.underlying e=some (.int k)) (g:Nat→Value) (i:Nat) (hi:i<len):
  qB0 P (.index t x y) [qCt len g,nat i] (g i):=by
 intro ρ o ho hv
 rw[ho] at hv
 simp only[Op.operands,List.map_cons,List.map_nil,List.cons.injEq,and_true] at hv
 obtain⟨h1,h2⟩:=hv
 obtain⟨k,he⟩:=he
 unfold execOp
 rw[ho]
 simp only
 show qAa P (Sem.bind (Instr.index t (ρ x) (ρ y)) fun v=>Sem.pure (Next.value v))=_
 rw[qAX,h1,h2]
 have hi':(0:Int)≤(i:Int)∧(i:Int)<(len:Int):=by omega
 have hg:(((List.range len).map g).toArray)[i]?=some (g i):=by
  simp[hi]
 have e':qAa P (Instr.index t (qCt len g) (nat i))=some (g i):=by
  simp only[Instr.index,qCt,nat,qAi,asIntOf,qAa,pure,qAk ht,hi',and_self,if_true,qA4 hs,Int.toNat_natCast,Nat.mul_one,part,isAgg,qAk he,hg]
  first|rfl|simp[hg,qAa]
 rw[e']
 rfl
end
end Go.Eng
namespace Go.Eng
def sp1 (b:Nat→UInt8):Nat→(Nat→UInt32)
 |0=>fun _=>0
 |i+1=>upd (sp1 b i) (i/4) (qBw (sp1 b i (i/4)) 8|||(b i).toUInt32)
def sg0 (x:UInt32):UInt32:=rot x 7^^^rot x 18^^^qBi x 3
def sg1 (x:UInt32):UInt32:=rot x 17^^^rot x 19^^^qBi x 10
def sp2 (b:Nat→UInt8):Nat→(Nat→UInt32)
 |0=>sp1 b 64
 |j+1=>upd (sp2 b j) (j+16) (sp2 b j (j+16-16)+sp2 b j (j+16-7)+sg0 (sp2 b j (j+16-15))+sg1 (sp2 b j (j+16-2)))
def qJs (b:Nat→UInt8):Nat→UInt32:=sp2 b 48
theorem qZx {b:Nat→UInt8} {j:Nat} {v:Nat→UInt32} (h:16≤j) (hv:v=sp2 b (j-16)):
  upd v j (v (j-16)+v (j-7)+(rot (v (j-15)) 7^^^rot (v (j-15)) 18^^^qBi (v (j-15)) 3)+(rot (v (j-2)) 17^^^rot (v (j-2)) 19^^^qBi (v (j-2)) 10))=sp2 b (j+1-16):=by
 subst hv
 obtain⟨k,rfl⟩:∃k,j=k+16:=⟨j-16,by omega⟩
 rw[show k+16+1-16=k+1 by omega,show k+16-16=k by omega,sp2,show k+16-16=k by omega]
 rfl
end Go.Eng
namespace Go.Eng
def W8.get (s:W8):Nat→UInt32
 |0=>s.a
 |1=>s.b
 |2=>s.c
 |3=>s.d
 |4=>s.e
 |5=>s.f
 |6=>s.g
 | _=>s.h
def w8F (s:Nat→UInt32):W8:=⟨s 0,s 1,s 2,s 3,s 4,s 5,s 6,s 7⟩
def qYY (s:Nat→UInt32) (add:UInt32):Nat→UInt32:=(jC4 (w8F s) add).get
def jBY:List Nat:=[1116352408,1899447441,3049323471,3921009573,961987163,1508970993,2453635748,2870763221,3624381080,310598401,607225278,1426881987,1925078388,2162078206,2614888103,3248222580,3835390401,4022224774,264347078,604807628,770255983,1249150122,1555081692,1996064986,2554220882,2821834349,2952996808,3210313671,3336571891,3584528711,113926993,338241895,666307205,773529912,1294757372,1396182291,1695183700,1986661051,2177026350,2456956037,2730485921,2820302411,3259730800,3345764771,3516065817,3600352804,4094571909,275423344,430227734,506948616,659060556,883997877,958139571,1322822218,1537002063,1747873779,1955562222,2024104815,2227730452,2361852424,2428436474,2756734187,3204031479,3329325298]
def qTt (i:Nat):UInt32:=.ofNat (jBY.getD i 0)
def qUS (s w:Nat→UInt32):Nat→(Nat→UInt32)
 |0=>s
 |i+1=>qYY (qUS s w i) (qTt i+w i)
def qZK (s t:Nat→UInt32):Nat→(Nat→UInt32)
 |0=>t
 |i+1=>upd (qZK s t i) i (qZK s t i i+s i)
def qJA (s:Nat→UInt32) (b:Nat→UInt8):Nat→UInt32:=qZK s (qUS s (qJs b) 64) 8
def jBs:List Nat:=[1779033703,3144134277,1013904242,2773480762,1359893119,2600822924,528734635,1541459225]
def qSH (i:Nat):UInt32:=.ofNat (jBs.getD i 0)
def jDG:Blk:=⟨1,false,0,qDL 8 fun k=>u32 (qSH k)⟩
def jDz:Blk:=⟨2,false,0,qAd 64 fun k=>u32 (qTt k)⟩
def qIo (b:Blk):Prop:=b=jDG∨b=jDz
structure HS where
 s:Nat→UInt32
 l:Nat→UInt8
 n:UInt64
def qGq (H:HS):List Value:=(List.range 8).map (fun k=>u32 (H.s k))++((List.range 64).map (fun k=>u8 (H.l k))++[u64 H.n])
def qAQ (H:HS):qAI:=.lit (qGq H)
theorem qBN (H:HS):(qGq H).length=73:=by simp[qGq]
theorem qC1 (H:HS) (k:Nat):(qGq H)[k]?=if k<8 then some (u32 (H.s k)) else if k<72 then some (u8 (H.l (k-8))) else if k=72 then some (u64 H.n) else none:=by
 unfold qGq
 by_cases h1:k<8
 ·rw[if_pos h1,List.getElem?_append_left (by simpa using h1),List.getElem?_map,List.getElem?_range h1];rfl
 rw[if_neg h1,List.getElem?_append_right (by simp;omega)]
 simp only[List.length_map,List.length_range]
 by_cases h2:k<72
 ·rw[if_pos h2,List.getElem?_append_left (by simp;omega),List.getElem?_map,List.getElem?_range (by omega)];rfl
 rw[if_neg h2,List.getElem?_append_right (by simp;omega)]
 simp only[List.length_map,List.length_range]
 by_cases h3:k=72
 ·subst h3;rfl
 ·rw[if_neg h3]
  rw[List.getElem?_eq_none (by simp;omega)]
def qKE {α:Type} (l:Nat→α) (i n:Nat) (g:Nat→α):Nat→α:=fun k=>if i≤k∧k<i+n then g (k-i) else l k
theorem qUK {α:Type} (l:Nat→α) (i:Nat) (g:Nat→α):qKE l i 0 g=l:=by
 funext k;unfold qKE;rw[if_neg (by omega)]
theorem qM5 {α:Type} (l:Nat→α) (i n:Nat) (g:Nat→α):upd (qKE l i n g) (i+n) (g n)=qKE l i (n+1) g:=by
 funext k;unfold upd qKE
 by_cases h:k=i+n
 ·subst h;rw[if_pos rfl,if_pos (by omega),Nat.add_sub_cancel_left]
 ·rw[if_neg h]
  by_cases h2:i≤k∧k<i+n
  ·rw[if_pos h2,if_pos (by omega)]
  ·rw[if_neg h2,if_neg (by omega)]
theorem qJ6 (H:HS) (i n:Nat) (g:Nat→UInt8) (h:i+n≤64):qHd (qGq H) (8+i) ((List.range n).map fun j=>u8 (g j))=qGq ⟨H.s,qKE H.l i n g,H.n⟩:=by
 apply List.ext_getElem?
 intro k
 rw[qFh _ _ _ (by rw[qBN];simp;omega),qC1,qC1]
 simp only[List.length_map,List.length_range]
 by_cases h1:8+i≤k∧k<8+i+n
 ·rw[if_pos h1,qHe u8 g n _ (by omega),if_neg (by omega),if_pos (by omega)]
  simp only[qKE]
  rw[if_pos (by omega),show k-8-i=k-(8+i) by omega]
 ·rw[if_neg h1]
  by_cases h2:k<8
  ·rw[if_pos h2,if_pos h2]
  ·rw[if_neg h2,if_neg h2]
   by_cases h3:k<72
   ·rw[if_pos h3,if_pos h3]
    simp only[qKE]
    rw[if_neg (by omega)]
   ·rw[if_neg h3,if_neg h3]
theorem qJf (H:HS) (g:Nat→UInt32):qHd (qGq H) 0 ((List.range 8).map fun j=>u32 (g j))=qGq ⟨g,H.l,H.n⟩:=by
 apply List.ext_getElem?
 intro k
 rw[qFh _ _ _ (by rw[qBN];simp),qC1,qC1]
 simp only[List.length_map,List.length_range,Nat.zero_add,Nat.zero_le,true_and,Nat.sub_zero]
 by_cases h1:k<8
 ·rw[if_pos h1,qHe u32 g 8 _ h1,if_pos h1]
 ·rw[if_neg h1,if_neg h1,if_neg h1]
theorem qRe (H:HS) (m:UInt64):qHd (qGq H) 72 [u64 m]=qGq ⟨H.s,H.l,m⟩:=by
 apply List.ext_getElem?
 intro k
 rw[qFh _ _ _ (by rw[qBN];simp),qC1,qC1]
 simp only[List.length_singleton]
 by_cases h1:72≤k∧k<72+1
 ·obtain rfl:k=72:=by omega
  rfl
 ·rw[if_neg h1]
  by_cases h2:k<8
  ·rw[if_pos h2,if_pos h2]
  ·rw[if_neg h2,if_neg h2]
   by_cases h3:k<72
   ·rw[if_pos h3,if_pos h3]
   ·rw[if_neg h3,if_neg h3,if_neg (by omega),if_neg (by omega)]
theorem qOA {α:Type} (K:α→Value) (hK:∀a,Value.oneCell' (K a)=true) (g:Nat→α) (n:Nat):((List.range n).map fun j=>K (g j)).all Value.oneCell'=true:=by
 rw[List.all_eq_true];intro x hx;obtain⟨j,_,rfl⟩:=List.mem_map.1 hx;exact hK _
theorem qGn {D cs D':List Value} {o:Nat} (h:o+cs.length≤D.length) (he:qHd D o cs=D'):(qAI.lit D).store (.lit o) cs=some (.lit D'):=by
 show(match Nat.ble (o+cs.length) D.length with
  |true=>some (qAI.lit (qHd D o cs))
  |false=>none)=_
 rw[Nat.ble_eq_true_of_le h,he]
theorem qME (H:HS) (g:Nat→UInt32):(qAQ H).store (.lit 0) (qCt 8 fun k=>u32 (g k)).cells.toList=some (qAQ ⟨g,H.l,H.n⟩):=
 qGn (by rw[qBN];exact Nat.le_of_ble_eq_true rfl) (qJf H g)
theorem qXw (H:HS) (m:UInt64):(qAQ H).store (.lit 72) (u64 m).cells.toList=some (qAQ ⟨H.s,H.l,m⟩):=
 qGn (by rw[qBN];exact Nat.le_of_ble_eq_true rfl) (qRe H m)
section
variable {P:Program} {dT sT ty e:TypeId}
theorem qOm (hu:P.underlying dT=some (.slice e)) (hs:qBZ P e=some 1) (H:HS) (g:Nat→UInt8) (b k bs os i sl sc dc:Nat) (N:Nat) (hi:i<64) (hN:os+sl≤N):
  qAz P (qK2 dT sT ty (.slice (some ⟨b,8+i,none⟩) (64-i) dc) (.slice (some ⟨k,bs+os,none⟩) sl sc)) [⟨b,true,0,qAQ H⟩,⟨k,false,bs,qAd N fun j=>u8 (g j)⟩] 0 (fun _=>nat (min sl (64-i)))
   (fun _=>[some ⟨b,true,0,qAQ ⟨H.s,qKE H.l i (min sl (64-i)) (fun j=>g (os+j)),H.n⟩⟩,none]):=by
 have h:=qI1 (P:=P) (dT:=dT) (sT:=sT) (ty:=ty) (e:=e) (n:=b) (k:=k) (od:=8+i) (dl:=64-i) (dc:=dc) (bs:=bs) (os:=os) (sl:=sl) (sc:=sc)
  (D:=qGq H) (cs:=(List.range (min sl (64-i))).map fun j=>u8 (g (os+j))) (S:=qAd N fun j=>u8 (g j)) hu hs (fun j hj=>by
   have hj':j<min sl (64-i):=by simpa using hj
   rw[qAL (by omega),qHe u8 (fun j=>g (os+j)) _ _ hj']) (by simp) (qOA u8 (fun _=>rfl) _ _)
  (qGn (by rw[qBN];simp;omega) (qJ6 H i (min sl (64-i)) (fun j=>g (os+j)) (by omega)))
 rw[show((List.range (min sl (64-i))).map fun j=>u8 (g (os+j))).length=min sl (64-i) by simp] at h
 exact h
theorem qM6 (hu:P.underlying dT=some (.slice e)) (hs:qBZ P e=some 1) (H G:HS) (b k:Nat):
  qAz P (qK2 dT sT ty (.slice (some ⟨b,0,none⟩) 8 8) (.slice (some ⟨k,0,none⟩) 8 8)) [⟨b,true,0,qAQ H⟩,⟨k,false,0,qAQ G⟩] 0 (fun _=>nat 8)
   (fun _=>[some ⟨b,true,0,qAQ ⟨G.s,H.l,H.n⟩⟩,none]):=
 qI1 (P:=P) (dT:=dT) (sT:=sT) (ty:=ty) (e:=e) (n:=b) (k:=k) (od:=0) (dl:=8) (dc:=8) (bs:=0) (os:=0) (sl:=8) (sc:=8)
  (D:=qGq H) (cs:=(List.range 8).map fun j=>u32 (G.s j)) (S:=qAQ G) hu hs (fun j hj=>by
   have hj':j<8:=by simpa using hj
   rw[qHe u32 G.s _ _ hj'];show(qGq G)[0+j]?= _;rw[qC1,if_pos (by omega),Nat.zero_add]) (by simp) (qOA u32 (fun _=>rfl) _ _)
  (qGn (by rw[qBN];simp) (qJf H G.s))
theorem qNX (hu:P.underlying dT=some (.slice e)) (hs:qBZ P e=some 1) (H G:HS) (b k:Nat):
  qAz P (qK2 dT sT ty (.slice (some ⟨b,8,none⟩) 64 64) (.slice (some ⟨k,8,none⟩) 64 64)) [⟨b,true,0,qAQ H⟩,⟨k,false,0,qAQ G⟩] 0 (fun _=>nat 64)
   (fun _=>[some ⟨b,true,0,qAQ ⟨H.s,qKE H.l 0 64 G.l,H.n⟩⟩,none]):=
 qI1 (P:=P) (dT:=dT) (sT:=sT) (ty:=ty) (e:=e) (n:=b) (k:=k) (od:=8) (dl:=64) (dc:=64) (bs:=0) (os:=8) (sl:=64) (sc:=64)
  (D:=qGq H) (cs:=(List.range 64).map fun j=>u8 (G.l j)) (S:=qAQ G) hu hs (fun j hj=>by
   have hj':j<64:=by simpa using hj
   rw[qHe u8 G.l _ _ hj'];show(qGq G)[8+j]?= _;rw[qC1,if_neg (by omega),if_pos (by omega),Nat.add_sub_cancel_left]) (by simp) (qOA u8 (fun _=>rfl) _ _)
  (qGn (by rw[qBN];simp) (qJ6 H 0 64 G.l (by omega)))
theorem qNa {t:TypeId} {x y:Operand} {n:Nat} (ht:P.underlying t=some (.array n e)) (hs:qBZ P e=some 1) (b o i:Nat) (k:IntKind) (hi:i<n):
  qB0 P (.slice t x (some y) none none) [ptr b o,.int k (i:Int)] (.slice (some ⟨b,o+i,none⟩) (n-i) (n-i)):=by
 have h:=qWy (x:=x) (y:=y) ht hs b o i k (by omega)
 rwa[if_neg (by omega)] at h
end
def put (H:HS) (x:UInt8):HS:=
 if(H.n+1)%64=0 then⟨qJA H.s (upd H.l (H.n%64).toNat x),upd H.l (H.n%64).toNat x,H.n+1⟩ else⟨H.s,upd H.l (H.n%64).toNat x,H.n+1⟩
def qE8 (H:HS) (f:Nat→UInt8):Nat→HS
 |0=>H
 |k+1=>put (qE8 H f k) (f k)
theorem qJ3 (H:HS) (f:Nat→UInt8) (a:Nat):∀b,qE8 H f (a+b)=qE8 (qE8 H f a) (fun k=>f (a+k)) b
 |0=>rfl
 |b+1=>by show put (qE8 H f (a+b)) (f (a+b))=put _ (f (a+b));rw[qJ3 H f a b]
theorem qG0 (H:HS) {f g:Nat→UInt8}:∀{n:Nat},(∀k,k<n→f k=g k)→qE8 H f n=qE8 H g n
 |0,_=>rfl
 |n+1,h=>by rw[qE8,qE8,qG0 H (fun k hk=>h k (by omega)),h n (by omega)]
theorem qDv (n:UInt64):(n%64).toNat<64:=by
 rw[UInt64.toNat_mod];exact Nat.mod_lt _ (by decide)
theorem qMS (n:UInt64) (k:Nat) (h:(n%64).toNat+k<64):((n+UInt64.ofNat k)%64).toNat=(n%64).toNat+k:=by
 have h1:(64:UInt64).toNat=64:=rfl
 rw[UInt64.toNat_mod,h1] at h
 rw[UInt64.toNat_mod,UInt64.toNat_mod,h1]
 rw[UInt64.toNat_add,UInt64.toNat_ofNat']
 have:=n.toNat_lt
 omega
theorem qTE (n:UInt64) (k:Nat) (h:(n%64).toNat+k=64):(n+UInt64.ofNat k)%64=0:=by
 apply UInt64.toNat_inj.1
 have h1:(64:UInt64).toNat=64:=rfl
 rw[UInt64.toNat_mod,h1] at h ⊢
 rw[UInt64.toNat_add,UInt64.toNat_ofNat']
 have:=n.toNat_lt
 show _=0
 omega
theorem qS4 (n:UInt64) (k:Nat):n+UInt64.ofNat k+1=n+UInt64.ofNat (k+1):=by
 apply UInt64.toNat_inj.1
 simp only[UInt64.toNat_add,UInt64.toNat_ofNat']
 have h1:(1:UInt64).toNat=1:=rfl
 rw[h1]
 omega
theorem qMa (H:HS) (g:Nat→UInt8):∀{k:Nat},(H.n%64).toNat+k<64→qE8 H g k=⟨H.s,qKE H.l (H.n%64).toNat k g,H.n+UInt64.ofNat k⟩
 |0,_=>by
  rw[qE8,qUK]
  show H=⟨H.s,H.l,H.n+0⟩
  rw[UInt64.add_zero]
 |k+1,h=>by
  have hz:¬(H.n+UInt64.ofNat (k+1))%64=0:=fun e=>by
   have h1:=qMS H.n (k+1) (by omega)
   rw[e] at h1
   have h2:(0:UInt64).toNat=0:=rfl
   omega
  rw[qE8,qMa H g (by omega),put]
  simp only[qS4]
  rw[if_neg hz,qMS H.n k (by omega),qM5]
theorem qPP (H:HS) (g:Nat→UInt8) {k:Nat} (h:(H.n%64).toNat+k=64):qE8 H g k=⟨qJA H.s (qKE H.l (H.n%64).toNat k g),qKE H.l (H.n%64).toNat k g,H.n+UInt64.ofNat k⟩:=by
 have:=qDv H.n
 obtain⟨k,rfl⟩:∃j,k=j+1:=⟨k-1,by omega⟩
 rw[qE8,qMa H g (by omega),put]
 simp only[qS4]
 rw[if_pos (qTE H.n (k+1) h),qMS H.n k (by omega),qM5]
theorem qVL {H:HS} {g:Nat→UInt8} {k m:Nat} (hk:k=min m (64-(H.n%64).toNat)) (h:((H.n+UInt64.ofNat k)%64==0)=false):(HS.mk H.s (qKE H.l (H.n%64).toNat k g) (H.n+UInt64.ofNat k))=qE8 H g k:=by
 have:=qDv H.n
 rw[qMa]
 rcases Nat.lt_or_ge ((H.n%64).toNat+k) 64 with h1|h1
 ·exact h1
 ·rw[qTE H.n k (by omega)] at h
  cases h
theorem qPV {H:HS} {g:Nat→UInt8} {k m:Nat} (hm:0<m) (hk:k=min m (64-(H.n%64).toNat)) (h:((H.n+UInt64.ofNat k)%64==0)=true):(HS.mk (qJA H.s (qKE H.l (H.n%64).toNat k g)) (qKE H.l (H.n%64).toNat k g) (H.n+UInt64.ofNat k))=qE8 H g k:=by
 have:=qDv H.n
 rw[qPP]
 rcases Nat.lt_or_ge ((H.n%64).toNat+k) 64 with h1|h1
 ·exfalso
  have h2:=qMS H.n k h1
  rw[beq_iff_eq.1 h] at h2
  have h3:(0:UInt64).toNat=0:=rfl
  omega
 ·omega
def qER (H:HS):HS:=if(H.n==0)=true then⟨qSH,H.l,H.n⟩ else H
def wrH (H:HS) (f:Nat→UInt8) (n:Nat):HS:=qE8 (qER H) f n
def qJy (b:BytL) (x:Blk):Prop:=qIo x∨qA2 b x
theorem qTQ (H:HS) (z:Nat→UInt8):qAQ ⟨H.s,qKE z 0 64 H.l,H.n⟩=qAQ H:=by
 refine congrArg qAI.lit (List.ext_getElem? fun k=>?_)
 rw[qC1,qC1]
 by_cases h2:k<8
 ·rw[if_pos h2,if_pos h2]
 ·rw[if_neg h2,if_neg h2]
  by_cases h3:k<72
  ·rw[if_pos h3,if_pos h3]
   simp only[qKE]
   rw[if_pos (by omega),Nat.sub_zero]
  ·rw[if_neg h3,if_neg h3]
def qJ2:HS:=⟨fun _=>0,fun _=>0,0⟩
section
variable {P:Program} {t ty e:TypeId}
def jCQ (t:TypeId) (x:Value):Sem Next:=do pure (.value (←Instr.loadAt t x))
theorem qWB (ha:qVr P t=some false) (H:HS) (b i:Nat) (hi:i<8):qAz P (jCQ t (.pointer (some ⟨b,0+i*1,none⟩))) [⟨b,false,0,qAQ H⟩] 0 (fun _=>u32 (H.s i)) (fun _=>[none]):=by
 intro w hm hap
 have hS:qAl ⟨b,false,0,qAQ H⟩ w:=hm _ (by simp)
 have hc:=hS.cell i (u32 (H.s i)) (by show(qGq H)[i]?= _;rw[qC1,if_pos hi])
 refine⟨[],w,rfl,.inl ?_,?_⟩
 ·have hr:=qCv (P:=P) (t:=t) (w:=w) (b:=b) (o:=0+i*1) (v:=u32 (H.s i)) ha (by rw[Nat.mul_one];exact hc)
  show(Instr.loadAt t _ >>= fun v=>Sem.pure (Next.value v)).run P w=_
  rw[Sem.run_bind,hr];rfl
 ·exact⟨fun p b hpb=>by rcases p with _ |p<;>simp[lM] at hpb,fun p q b c _ hpb=>by rcases p with _ |p<;>simp[lM] at hpb,(Adv.refl _ _).weak fun p b hpb=>by rcases p with _ |p<;>simp[lM] at hpb⟩
theorem qPh {B:Nat} {z:Value} (ht:P.underlying t=some (.slice e)) (h1:qRZ P e z B) (n c:Nat) (k1 k2:IntKind) (hn:n≤c) (hb:(B:Int)*(c:Int)≤281474976710656∧c≤9223372036854775807) {α:Type} (K:α→Value) (a:α) (hz:K a=z):
  qAz P (qKu t (.int k1 (n:Int)) (.int k2 (c:Int))) [] 1 (fun ns=>.slice (some ⟨ns.getD 0 0,0,none⟩) n (n+(c-n))) (fun ns=>[some ⟨ns.getD 0 0,true,0,spr (n+(c-n)) n (fun _=>K a) z⟩]):=by
 subst hz
 obtain⟨i,hi,hz,hsz,hB,hzc⟩:=h1
 subst hB
 rw[show n+(c-n)=c by omega]
 refine(qIl (P:=P) (e:=e) (s:=qKu t (.int k1 (n:Int)) (.int k2 (c:Int))) (cs:=madeCells (K a).cells (c*i.size)) (len:=n) (cap:=c) fun w=>?_).recont (fun _=>rfl) fun ns o v ho=>?_
 ·refine qAA ?_
  have:=run_make (P:=P) w t e i (K a) ht hi hz k1 k2 (n:Int) (c:Int) (by omega) (by omega) hb.1 (by omega)
  simpa using this
 ·by_cases hon:o<c
  ·rw[spr,qAL hon] at ho
   rw[hzc,hsz]
   simp[qAI.get,madeCells,hon,Nat.mod_one]
   simpa using ho
  ·rw[spr,qA3 hon] at ho;cases ho
end
theorem qT9 {α:Type} (c n:Nat) (K:α→Value) (f:Nat→α) (z:Value) (i:Nat) (v:α) (hi:i<n):(spr c n (fun k=>K (f k)) z).store (.tab i 0) [K v]=some (spr c n (fun k=>K (upd f i v k)) z):=by
 show some (qAI.tab c 1 fun k=>if k=i then[K v] else[if k<n then K (f k) else z])=_
 unfold spr qAd
 congr 2
 funext k
 by_cases h:k=i
 ·subst h;simp[upd,hi]
 ·simp[upd,h]
def qLf (n:UInt64):UInt64:=(119-n%64)%64
def qBU (n:UInt64):Nat:=(1+qLf n).toNat
def jEi (n:UInt64) (i:Nat):UInt8:=(qAe (8*n) (56-8*i)).toUInt8
def qES (n:UInt64):Nat→UInt8:=fun k=>if k=0 then 128 else if k<qBU n then 0 else jEi n (k-qBU n)
theorem qQi (n:UInt64):(qLf n).toNat<64:=qDv _
theorem qNi (n:UInt64):qBU n=1+(qLf n).toNat:=by
 unfold qBU
 rw[UInt64.toNat_add]
 have:=qQi n
 have h1:(1:UInt64).toNat=1:=rfl
 omega
theorem qS9 (n:UInt64):(n.toNat+(qLf n).toNat)%64=55:=by
 unfold qLf
 have h64:(64:UInt64).toNat=64:=rfl
 have h119:(119:UInt64).toNat=119:=rfl
 have h1:=qDv n
 have h2:(n%64).toNat=n.toNat%64:=by rw[UInt64.toNat_mod,h64]
 rw[UInt64.toNat_mod,h64,UInt64.toNat_sub_of_le _ _ (by rw[UInt64.le_iff_toNat_le];omega),h119]
 omega
theorem qVU (n:UInt64):(n.toNat+(qBU n+8))%64=0:=by
 have:=qS9 n
 rw[qNi];omega
def jAi (s:Nat→UInt32) (i:Nat):UInt8:=(qBi (s (i/4)) (24-i%4*8)).toUInt8
def qPG (s:Nat→UInt32) (i:Nat):Nat→UInt8:=fun k=>if k<i then jAi s k else 0
theorem qUG (s:Nat→UInt32) (i:Nat):upd (qPG s i) i (jAi s i)=qPG s (i+1):=by
 funext k;unfold upd qPG
 by_cases h:k=i
 ·subst h;rw[if_pos rfl,if_pos (by omega)]
 ·rw[if_neg h]
  by_cases h2:k<i
  ·rw[if_pos h2,if_pos (by omega)]
  ·rw[if_neg h2,if_neg (by omega)]
def jD3 (H:HS):HS:=wrH H (qES H.n) (qBU H.n+8)
def qR2 (H:HS):Nat→UInt8:=jAi (jD3 H).s
theorem qVW (s:Nat→UInt32):qCt 32 (fun k=>u8 (qPG s 32 k))=qCt 32 fun k=>u8 (jAi s k):=
 qVq fun k hk=>by rw[qPG,if_pos hk]
theorem qAt.lendW {F F':Blk→Prop} {P:Program} {f:FuncId} {args:List Value} {b0:Blk} {cs:List Blk} {v:Value} {o:Blk} (h:qAt F P f args [b0] 0 (fun _ =>v) (fun _ =>[some o]))
  (hF:∀w:World,qCJ F' w→(∀b∈cs,qAl b w)→qCJ F w) (hn:∀x,F x→∀j,x.has j→(∃y,F' y∧y.has j)∨∃c∈cs,c.has j) (hb0:b0.own=true) (hc:∀b∈cs,b.own=false):
  qAt F' P f args (b0::cs) 0 (fun _=>v) (fun _=>some o::qKa cs):=by
 intro w hm ha hF'
 have hsub:∀p b,lM ([b0].map some) p=some b→p=0∧b=b0:=fun p b hp=>by
  rcases p with _ |p
  ·cases hp;exact⟨rfl,rfl⟩
  ·simp[lM] at hp
 have ho1:∀k,qDc (lM ([b0].map some)) k→qDc (lM ((b0::cs).map some)) k:=fun k ⟨p,b,h1,h2,h3⟩=>by
  obtain⟨rfl,rfl⟩:=hsub p b h1
  exact⟨0,b,rfl,h2,h3⟩
 have hapart:∀c∈cs,∀k,b0.has k→¬c.has k:=fun c hcm=>by
  obtain⟨i,hi⟩:=List.getElem?_of_mem hcm
  exact ha 0 (i+1) b0 c (by omega) rfl (by show lM (some b0::cs.map some) (i+1)=some c;simp[lM,hi]) hb0
 have hw:=hF w (fun b hb'=>⟨(hF' b hb').1,(hF' b hb').2.1⟩) (fun b hb'=>hm b (by simp[hb']))
 refine Calls.mono (h w (fun b hb'=>hm b (by simp at hb';simp[hb'])) (fun p q b c hpq hpb hqc ho=>?_) (fun b hFb=>⟨(hw b hFb).1,(hw b hFb).2,fun j hj ⟨p,b',h1,h2,h3⟩=>?_⟩)) ?_
 ·obtain⟨rfl,_⟩:=hsub p b hpb
  obtain⟨rfl,_⟩:=hsub q c hqc
  exact absurd rfl hpq
 ·obtain⟨rfl,rfl⟩:=hsub p b' h1
  rcases hn b hFb j hj with⟨y,hy,he⟩|⟨c,hcm,he⟩
  ·exact(hF' y hy).2.2 j he (ho1 _ ⟨0,b',rfl,h2,h3⟩)
  ·exact hapart c hcm j h3 he
 ·rintro e w' ⟨ns,hns,he,hp⟩
  have hout:∀p b,lM (some o::qKa cs) p=some b→lM [some o] p=some b:=fun p b hpb=>by
   rcases p with _ |p
   ·exact hpb
   ·exact absurd (show lM (qKa cs) p=some b by simpa[lM] using hpb) (qJ9 _ _ _)
  exact⟨ns,hns,he,⟨fun p b hpb=>hp.holds p b (hout p b hpb),fun p q b c hpq hpb hqc=>hp.apart p q b c hpq (hout p b hpb) (hout q c hqc),
   ⟨hp.adv.os,hp.adv.output,hp.adv.tape,hp.adv.size,fun k hk hno=>hp.adv.heap k hk (fun hk'=>hno (ho1 k hk')),fun k ⟨p,b,h1,h2,h3⟩=>by
    rcases hp.adv.names k ⟨p,b,hout p b h1,h2,h3⟩ with h4|h4
    ·exact .inl (ho1 k h4)
    ·exact .inr h4,fun p b hpb hob=>by
    have h1:=hp.adv.ro p b (hout p b hpb) hob
    obtain⟨rfl,rfl⟩:=hsub p b h1
    exact rfl⟩⟩⟩
end Go.Eng
namespace Go.Eng
theorem qJn {P:Program} {dT sT ty e:TypeId} (hu:P.underlying dT=some (.slice e)) (hs:qBZ P e=some 1) (H:HS) (g:Nat→UInt8) (b k bs os i sl sc dc:Nat) (N:Nat) (hi:i<64) (hN:os+sl≤N) {A:Option Addr} (hA:A=some ⟨k,bs+os,none⟩):
  qAz P (qK2 dT sT ty (.slice (some ⟨b,8+i,none⟩) (64-i) dc) (.slice A sl sc)) [⟨b,true,0,qAQ H⟩,⟨k,false,bs,qAd N fun j=>u8 (g j)⟩] 0 (fun _=>nat (min sl (64-i)))
   (fun _=>[some ⟨b,true,0,qAQ ⟨H.s,qKE H.l i (min sl (64-i)) (fun j=>g (os+j)),H.n⟩⟩,none]):=by
 subst hA;exact qOm hu hs H g b k bs os i sl sc dc N hi hN
theorem qSN {H G:HS} {b:BytL} (hb:OkB b) (hG:G=qER H):b.wn≤b.wn∧b.wn≤b.wc∧G=qE8 (qER H) b.wf (b.wn-b.wn)∧(0<b.wn→b.wa=some ⟨b.wb,b.wo+(b.wn-b.wn),none⟩)∧b.wc≤b.wc:=by
 rw[Nat.sub_self]
 exact⟨Nat.le_refl _,hb.cap,hG,hb.ad,Nat.le_refl _⟩
theorem qGz {H G G':HS} {b:BytL} {A:Option Addr} {m q k i:Nat} (hm:0<m) (h0:m≤b.wn) (h1:m≤q) (h2:G=qE8 (qER H) b.wf (b.wn-m)) (h3:0<m→A=some ⟨b.wb,b.wo+(b.wn-m),none⟩) (h4:q≤b.wc)
  (hG:G'=qE8 G (fun j=>b.wf (b.wn-m+j)) k) (hk:k=min m (64-i)) (hi:i<64):
  (m-k≤b.wn∧m-k≤q-k∧G'=qE8 (qER H) b.wf (b.wn-(m-k))∧(0<m-k→qBo A q k 1=some ⟨b.wb,b.wo+(b.wn-(m-k)),none⟩)∧q-k≤b.wc)∧m-k<m:=by
 refine⟨⟨by omega,by omega,?_,fun h5=>?_,by omega⟩,by omega⟩
 ·rw[hG,h2,show b.wn-(m-k)=(b.wn-m)+k by omega,qJ3]
 ·rw[h3 hm]
  unfold qBo
  rw[if_neg (by omega)]
  simp[qBs]<;>omega
theorem qXT {H G:HS} {b:BytL} {m:Nat} (h:G=qE8 (qER H) b.wf (b.wn-m)) (hm:¬0<m):qAQ G=qAQ (wrH H b.wf b.wn):=by
 rw[h,show b.wn-m=b.wn by omega];rfl
end Go.Eng
namespace Go.Eng
theorem qFR (n:UInt64):0<(1+(119-n%64)%64).toNat∧(1+(119-n%64)%64).toNat≤64:=by
 have h:=qNi n
 have h2:=qQi n
 unfold qBU qLf at h
 unfold qLf at h2
 omega
theorem qWA (n:UInt64) (k:Nat) (hk:k<(1+(119-n%64)%64).toNat+8) {z:Nat} (hz:z=(1+(119-n%64)%64).toNat):
  qAs (qAs (qAs (qAs (qAs (qAs (qAs (qAs (upd (fun _=>0) 0 128) z (fun _=>(qAe (8*n) 56).toUInt8)) (z+1) (fun _=>(qAe (8*n) 48).toUInt8)) (z+1+1) (fun _=>(qAe (8*n) 40).toUInt8)) (z+1+1+1) (fun _=>(qAe (8*n) 32).toUInt8)) (z+1+1+1+1) (fun _=>(qAe (8*n) 24).toUInt8)) (z+1+1+1+1+1) (fun _=>(qAe (8*n) 16).toUInt8)) (z+1+1+1+1+1+1) (fun _=>(qAe (8*n) 8).toUInt8)) (z+1+1+1+1+1+1+1) (fun _=>(qAe (8*n) 0).toUInt8) k=qES n k:=by
 have h0:=qFR n
 have e:qBU n=z:=hz.symm
 unfold qES
 rw[e]
 rw[←hz] at hk h0
 by_cases h1:k<z
 ·have:∀j,k<z+j:=fun j=>by omega
  simp only[qAs,upd]
  rw[if_pos (by omega),if_pos (by omega),if_pos (by omega),if_pos (by omega),if_pos (by omega),if_pos (by omega),if_pos (by omega),if_pos h1,if_pos h1]
 ·obtain⟨j,rfl⟩:∃j,k=z+j:=⟨k-z,by omega⟩
  rw[if_neg (by omega),if_neg h1,Nat.add_sub_cancel_left]
  rcases j with _ | _ | _ | _ | _ | _ | _ | _ |j
  ·simp only[qAs];rw[if_pos (by omega),if_pos (by omega),if_pos (by omega),if_pos (by omega),if_pos (by omega),if_pos (by omega),if_pos (by omega),if_neg (by omega)];rfl
  ·simp only[qAs];rw[if_pos (by omega),if_pos (by omega),if_pos (by omega),if_pos (by omega),if_pos (by omega),if_pos (by omega),if_neg (by omega)];rfl
  ·simp only[qAs];rw[if_pos (by omega),if_pos (by omega),if_pos (by omega),if_pos (by omega),if_pos (by omega),if_neg (by omega)];rfl
  ·simp only[qAs];rw[if_pos (by omega),if_pos (by omega),if_pos (by omega),if_pos (by omega),if_neg (by omega)];rfl
  ·simp only[qAs];rw[if_pos (by omega),if_pos (by omega),if_pos (by omega),if_neg (by omega)];rfl
  ·simp only[qAs];rw[if_pos (by omega),if_pos (by omega),if_neg (by omega)];rfl
  ·simp only[qAs];rw[if_pos (by omega),if_neg (by omega)];rfl
  ·simp only[qAs];rw[if_neg (by omega)];rfl
  ·omega
theorem qTX (s:Nat→UInt32):(fun _=>0)=qPG s 0:=by
 funext k;unfold qPG;rw[if_neg (by omega)]
theorem qUp {F:Blk→Prop} (hT:∀x,qIo x→F x) {nm n cc:Nat} {f:Nat→UInt8} {B:Blk} (hH:∀w:World,qAl B w→qAl ⟨nm,false,0,qAd n fun k=>u8 (f k)⟩ w):
  ∀w:World,qCJ F w→(∀b∈[B],qAl b w)→qCJ (qJy (qBB nm n cc f)) w:=fun w hF hb x hx=>by
 rcases hx with hx|hx
 ·exact hF x (hT x hx)
 ·exact qEi (hH w (hb B (by simp))) x hx
theorem qPd {F:Blk→Prop} (hT:∀x,qIo x→F x) {nm n cc:Nat} {f:Nat→UInt8} {B:Blk} (hn:B.has nm):
  ∀x,qJy (qBB nm n cc f) x→∀j,x.has j→(∃y,F y∧y.has j)∨∃c∈[B],c.has j:=fun x hx j hj=>by
 rcases hx with hx|⟨_,rfl⟩
 ·exact .inl ⟨x,hT x hx,hj⟩
 ·have hj:nm=j:=hj
  subst hj
  exact .inr ⟨B,by simp,hn⟩
end Go.Eng
namespace Go.Eng
theorem qTr {s:Nat→UInt32} {d:Nat→UInt8} {i:Nat} (h:d=qPG s i):upd d i ((qBi (s (i/4)) (24-i%4*8)).toUInt8)=qPG s (i+1):=by
 subst h;exact qUG s i
theorem qZT (H:HS) {d:Nat→UInt8} {i:Nat} (h:d=qPG (wrH H (qES H.n) (qBU H.n+8)).s i) (hi:i=32):qCt 32 (fun k=>u8 (d k))=qCt 32 fun k=>u8 (qR2 H k):=by
 subst h hi;exact qVW _
end Go.Eng
namespace Go.Eng
theorem qRr {s:Nat→UInt32} {f g:Nat→UInt8} (h:∀k,k<64→f k=g k):qJA s f=qJA s g:=by
 have h1:sp1 f 64=sp1 g 64:=by
  have:∀n,n≤64→sp1 f n=sp1 g n:=fun n=>by
   induction n with
   |zero=>intro _;rfl
   |succ n ih=>intro hn;rw[sp1,sp1,ih (by omega),h n (by omega)]
  exact this 64 (Nat.le_refl _)
 have h2:∀n,sp2 f n=sp2 g n:=fun n=>by
  induction n with
  |zero=>exact h1
  |succ n ih=>rw[sp2,sp2,ih]
 unfold qJA qJs
 rw[h2]
def qUc (f:Nat→UInt8):Nat→(Nat→UInt32)
 |0=>qSH
 |j+1=>qJA (qUc f j) (fun k=>f (64*j+k))
def qTP:HS:=⟨qSH,fun _=>0,0⟩
theorem qVJ:qER qJ2=qTP:=by unfold qER qJ2;rw[if_pos (by rfl)];rfl
theorem qQa (H:HS) (f:Nat→UInt8):∀n,(qE8 H f n).n=H.n+UInt64.ofNat n
 |0=>by show H.n=H.n+0;rw[UInt64.add_zero]
 |n+1=>by
  rw[qE8,put,←qS4,←qQa H f n]
  split<;>rfl
theorem qNm (f:Nat→UInt8):∀j,(qE8 qTP f (64*j)).s=qUc f j
 |0=>rfl
 |j+1=>by
  have hn:((qE8 qTP f (64*j)).n%64).toNat=0:=by
   rw[qQa]
   have h1:(64:UInt64).toNat=64:=rfl
   show((0+UInt64.ofNat (64*j))%64).toNat=0
   rw[UInt64.zero_add,UInt64.toNat_mod,UInt64.toNat_ofNat',h1]
   omega
  rw[show 64*(j+1)=64*j+64 by omega,qJ3,qPP _ _ (k:=64) (by omega),qUc,←qNm f j]
  exact qRr fun k hk=>by
   unfold qKE
   rw[hn,if_pos (by omega),Nat.sub_zero]
structure qC5 (H:HS) (f:Nat→UInt8) (n:Nat):Prop where
 wake:qER H=qE8 qTP f n
 num:H.n=UInt64.ofNat n
theorem qRo (f:Nat→UInt8):qC5 qJ2 f 0:=⟨qVJ,rfl⟩
theorem qSX (f:Nat→UInt8) {n:Nat} (h:n<18446744073709551616):qER (qE8 qTP f n)=qE8 qTP f n:=by
 rcases Nat.eq_zero_or_pos n with h0|h0
 ·subst h0;rfl
 ·unfold qER
  have:(qE8 qTP f n).n≠0:=fun e=>by
   rw[qQa] at e
   have h2:=congrArg UInt64.toNat e
   rw[show qTP.n=0 from rfl,UInt64.zero_add,UInt64.toNat_ofNat',Nat.mod_eq_of_lt h] at h2
   have h3:(0:UInt64).toNat=0:=rfl
   omega
  rw[if_neg (by simpa using this)]
theorem qC5.wr {H:HS} {f:Nat→UInt8} {n:Nat} (h:qC5 H f n) (g:Nat→UInt8) (m:Nat):wrH H g m=qE8 qTP (qAs f n g) (n+m):=by
 unfold wrH
 rw[h.wake,qJ3 qTP (qAs f n g) n m,qG0 qTP (f:=f) (g:=qAs f n g) (fun k hk=>by unfold qAs;rw[if_pos hk])]
 exact qG0 _ fun k hk=>by unfold qAs;rw[if_neg (by omega),Nat.add_sub_cancel_left]
theorem qC5.write {H:HS} {f g:Nat→UInt8} {n m:Nat} (h:qC5 H f n) (hm:n+m<18446744073709551616):qC5 (wrH H g m) (qAs f n g) (n+m):=by
 have e:=h.wr g m
 refine⟨?_,?_⟩
 ·rw[e,qSX _ hm]
 ·rw[e,qQa];show 0+_=_;rw[UInt64.zero_add]
theorem qC5.congr {H:HS} {f g:Nat→UInt8} {n:Nat} (h:qC5 H f n) (hfg:∀k,k<n→f k=g k):qC5 H g n:=
 ⟨by rw[h.wake];exact qG0 _ hfg,h.num⟩
def jDX (f:Nat→UInt8) (n:Nat):Nat→UInt8:=qAs f n (qES (UInt64.ofNat n))
def qSg (f:Nat→UInt8) (n:Nat):Nat→UInt8:=jAi (qUc (jDX f n) ((n+(qBU (UInt64.ofNat n)+8))/64))
theorem qC5.sum {H:HS} {f:Nat→UInt8} {n:Nat} (h:qC5 H f n) (hn:n<18446744073709551616-128):qR2 H=qSg f n:=by
 have hz:=qFR (UInt64.ofNat n)
 have hz2:qBU (UInt64.ofNat n)≤64:=hz.2
 have hm:=qVU (UInt64.ofNat n)
 rw[UInt64.toNat_ofNat',Nat.mod_eq_of_lt (show n<2^64 by omega)] at hm
 unfold qR2 qSg jD3
 rw[h.num]
 refine congrArg jAi ?_
 have e:=h.wr (qES (UInt64.ofNat n)) (qBU (UInt64.ofNat n)+8)
 have hq:64*((n+(qBU (UInt64.ofNat n)+8))/64)=n+(qBU (UInt64.ofNat n)+8):=by omega
 rw[e]
 show _=qUc (jDX f n) _
 rw[←qNm,hq];rfl
end Go.Eng
namespace Go.Eng
def jBp (nm at_ n c:Nat) (f:Nat→UInt8):BytL:=⟨some ⟨nm,at_,none⟩,n,c,nm,at_,fun k=>f (at_+k)⟩
theorem qWV {nm at_ n c:Nat} {f:Nat→UInt8} (h1:n≤c) (h2:n≤9223372036854775807):OkB (jBp nm at_ n c f):=⟨h1,fun _=>rfl,h2⟩
end Go.Eng
end
section
namespace Go.Proofs.YtmdpendnbkajdaaDoor
open Go Go.Eng
theorem qVp:qRZ TP 30 (u64 0) 8:=qOq (by kernel_rfl) rfl
def qFI (p:Nat) (o:Nat) (n:Nat) (c:Nat) (f:Nat→UInt64) (n1:Nat) (n2:Nat) (x1:Nat×N4):St:=⟨[(2,.v (ptr n1 0)),(3,.v (ptr n2 0)),(6,.v (vS (some ⟨p,o,none⟩) n c)),(7,.v (nat n)),(8,.v (nat x1.1))],[(0,some ⟨p,false,o,(qAd n (fun k=>u64 (f k)))⟩),(1,some ⟨n1,true,0,(.lit [(u64 0),(u64 0),(u64 0),(u64 0)])⟩),(2,some ⟨n2,true,0,(.lit [(u64 x1.2.a),(u64 x1.2.b),(u64 x1.2.c),(u64 x1.2.d)])⟩)],3⟩
def qCT (p:Nat) (o:Nat) (n:Nat) (c:Nat) (f:Nat→UInt64) (n1:Nat) (n2:Nat) (x1:Nat×N4):Prop:=(x1.1≤n)∧(x1.2=qBm f x1.1)
def qDq (p:Nat) (o:Nat) (n:Nat) (c:Nat) (f:Nat→UInt64) (n1:Nat) (n2:Nat) (x1:Nat×N4):Nat:=n-x1.1
theorem qLK (p o n c:Nat) (f:Nat→UInt64) (hn:n≤9223372036854775807):qBp TP 26 [(Value.slice (some ⟨p,o,none⟩) n c)] [⟨p,false,o,(qAd n (fun k=>u64 (f k)))⟩] 0 (fun _=>qG7 (qBm f n)) (fun _=>[some ⟨p,false,o,(qAd n (fun k=>u64 (f k)))⟩]):=
 qAh mix Tryd.func26 rfl rfl 400 (.regn (rg [.new]) (more (fun n1=>fun _=>(.regn (rg [.new]) (more (fun n2=>fun _=>(.reg (rg [.g,(.as (nat n)),.g]) (.inv [2,3,6,7,8] [0,1,2] 3 (qCT p o n c f n1 n2) (qFI p o n c f n1 n2) (qDq p o n c f n1 n2) ((0,(N4.mk 0 0 0 0)):Nat×N4) (fun(x1:Nat×N4)=>(.reg (rg [(.as (vB (decide (x1.1<n))))]) (.br (.reg (rg [(.as (ptr p (o+x1.1*1))),(.ld 0 (.tab x1.1 0)),.g]) (.reg (rg [(.ld 2 (.lit 0)),.g,(.call [] 0 0 (fun _=>(Value.agg #[(u64 (f x1.1)),(u64 0),(u64 0),(u64 0)])) (fun _=>[])),(.call [] 0 0 (fun _=>(vT #[(qG7 (qSI x1.2 (N4.mk (f x1.1) 0 0 0))),(u64 (b2u (qRm x1.2 (N4.mk (f x1.1) 0 0 0))))])) (fun _=>[])),.g,.g,.g,(.st 2 (.lit 0))]) (.reg (rg [(.as (nat (x1.1+1))),.g]) .done))) (.reg (rg [(.ld 2 (.lit 0)),(.st 1 (.lit 0))]) .done)))))))))))) [(1,0)] [] rfl
  (Eq.mp (by kernel_rfl) (fun(n1:Nat)=>aI kV1 (fun(n2:Nat)=>aI kV1 (aI (sk (aI (aT (@qAw TP 22 30 (.tmp 6) (by kernel_rfl) (some ⟨p,o,none⟩) n c)) kV1)) (aI (show(qCT p o n c f n1 n2) ((0,(N4.mk 0 0 0 0)):Nat×N4) from(show(0≤n)∧((N4.mk 0 0 0 0)=qBm f 0) from by exact⟨by omega,rfl⟩)) (aI (@rfl St ((qFI p o n c f n1 n2) ((0,(N4.mk 0 0 0 0)):Nat×N4))) (fun(x1:Nat×N4) (hx1:(qCT p o n c f n1 n2) x1)=>have B0:x1.1≤n:=hx1.1;have B1:x1.2=qBm f x1.1:=hx1.2;aI (aI (aT (@qAN TP 3 3 (.tmp 8) (.tmp 7)  x1.1 n)) tV) (aT (aI (fun(h1:(decide (x1.1<n))=true)=>have f3:=(oT h1);aI (aI (aT (@qAf TP 22 30 (.tmp 6) (.tmp 8) 1 (by kernel_rfl) (by kernel_rfl) p o n c x1.1 (show x1.1<n from by omega))) (aI (aT (aI (show x1.1<n from by omega) (@rfl Value (ptr p (o+x1.1*1))))) kV1)) (aI (aI (aT (ad n2 0)) (sk (aI (aT (qFr (f x1.1))) (aI (aT (qWe x1.2 (N4.mk (f x1.1) 0 0 0))) (sK3 (aI (aT (ad n2 0)) tV)))))) (aI (aI (aT (@qAg TP 3 3 (.tmp 8) (.const (.int .i64 1))  x1.1 1 (show x1.1+1≤9223372036854775807 from by omega))) kV1) ((rnd (qCT p o n c f n1 n2) (qFI p o n c f n1 n2) (qDq p o n c f n1 n2) x1 ((x1.1+1,(qSI x1.2 (N4.mk (f x1.1) 0 0 0))):Nat×N4) (show(qCT p o n c f n1 n2) ((x1.1+1,(qSI x1.2 (N4.mk (f x1.1) 0 0 0))):Nat×N4)∧(qDq p o n c f n1 n2) ((x1.1+1,(qSI x1.2 (N4.mk (f x1.1) 0 0 0))):Nat×N4)<(qDq p o n c f n1 n2) x1 from(show(((x1.1+1)≤n)∧((qSI x1.2 (N4.mk (f x1.1) 0 0 0))=qBm f (x1.1+1)))∧(n-(x1.1+1))<(n-x1.1) from by exact⟨⟨by omega,by rw[B1]<;>rfl⟩,by omega⟩))))))) (fun(h1:(decide (x1.1<n))=false)=>have f3:=(oF h1);aI (aI (aT (ad n2 0)) (aI (aT (ad n1 0)) tV)) (aI (aI (@rfl Value (ptr n1 0)) tV) (eX (fun(ns:List Nat)=>ns.length=0∧((qG7 x1.2):Value)=(fun _=>qG7 (qBm f n)) ns∧([some ⟨p,false,o,(qAd n (fun k=>u64 (f k)))⟩]:List (Option Blk))=(fun _=>[some ⟨p,false,o,(qAd n (fun k=>u64 (f k)))⟩]) ns) [] (aI (@rfl Nat 0) (aI ((show(qG7 x1.2)=qG7 (qBm f n) from by have e:x1.1=n:=(by omega);rw[e] at B1;rw[←B1]<;>rfl)) (@rfl (List (Option Blk)) [some ⟨p,false,o,(qAd n (fun k=>u64 (f k)))⟩])))))))))))))))
theorem qT1 (p o n c:Nat) (f:Nat→UInt64) (hn:0<n∧n≤40):qBp TP 16 [(Value.slice (some ⟨p,o,none⟩) n c)] [⟨p,false,o,(qAd n (fun k=>u64 (f k)))⟩] 2 (fun(ns:List Nat)=>(Value.slice (some ⟨(ns.getD 0 0),0,none⟩) (0+n) (0+n+(ns.getD 1 0)))) (fun(ns:List Nat)=>[some ⟨p,false,o,(qAd n (fun k=>u64 (f k)))⟩,some ⟨(ns.getD 0 0),true,0,(spr (0+n+(ns.getD 1 0)) (0+n) (fun k=>u64 (qAs (fun _=>0) 0 f k)) (u64 0))⟩]):=
 qAh mix Tryd.func16 rfl rfl 400 (.reg (rg [.g]) (.reg (rg [.g,.g]) (.no (.regn (rg [(.oth [] 1 1 (fun ns=>vS (some ⟨ns.getD 0 0,0,none⟩) 0 0) (fun ns=>[some ⟨ns.getD 0 0,true,0,(spr (0+0) 0 (fun k=>u64 ((fun _=>0) k)) (u64 0))⟩])),.g,(.oth [(1,false),(0,true)] 2 0 (fun ns=>vS (some ⟨(g0 ns),0,none⟩) (0+n) (0+n+(g1 ns))) (fun ns=>[some ⟨(g0 ns),true,0,(spr (0+n+(g1 ns)) (0+n) (fun k=>u64 (qAs (fun _=>0) 0 f k)) (u64 0))⟩,none])),.g]) (more (fun n1=>more (fun n2=>more (fun n3=>fun _=>.done)))))))) [] [1] rfl
  (Eq.mp (by kernel_rfl) (aI kV1 (aI kV2 (aT (aI (@rfl Bool false) (fun(n1 n2 n3:Nat)=>aI (aI (aT (qKJ (P:=TP) (t:=22) (e:=30) (by kernel_rfl) qVp u64 (fun _=>0))) (sk (aI (aT (qAz.dark [false,true] (qB6 (P:=TP) (t:=22) (ty:=22) (e:=30) (by kernel_rfl) qVp n1 0 0 p o 0 n c u64 (fun _=>0) f (qAd n (fun k=>u64 (f k))) (fun j hj=>by rw[Nat.zero_add];exact qAL hj) (fun _=>rfl) (show(0+n)*8≤140737488355328∧0+n≤9223372036854775807 from by omega)))) kV1))) (aT (eX (fun(ns:List Nat)=>ns.length=2∧((vS (some ⟨n2,0,none⟩) (0+n) (0+n+n3)):Value)=(fun(ns:List Nat)=>(vS (some ⟨(g0 ns),0,none⟩) (0+n) (0+n+(g1 ns)))) ns∧([some ⟨p,false,o,(qAd n (fun k=>u64 (f k)))⟩,some ⟨n2,true,0,(spr (0+n+n3) (0+n) (fun k=>u64 (qAs (fun _=>0) 0 f k)) (u64 0))⟩]:List (Option Blk))=(fun(ns:List Nat)=>[some ⟨p,false,o,(qAd n (fun k=>u64 (f k)))⟩,some ⟨(g0 ns),true,0,(spr (0+n+(g1 ns)) (0+n) (fun k=>u64 (qAs (fun _=>0) 0 f k)) (u64 0))⟩]) ns) [n2,n3] (aI (@rfl Nat 2) (aI (@rfl Value (vS (some ⟨n2,0,none⟩) (0+n) (0+n+n3))) (@rfl (List (Option Blk)) [some ⟨p,false,o,(qAd n (fun k=>u64 (f k)))⟩,some ⟨n2,true,0,(spr (0+n+n3) (0+n) (fun k=>u64 (qAs (fun _=>0) 0 f k)) (u64 0))⟩])))))))))))
theorem qKd (p o n c:Nat) (f:Nat→UInt64) (hn:0<n∧n≤40):qBp TP 16 [.slice (some ⟨p,o,none⟩) n c] [⟨p,false,o,qAd n fun k=>u64 (f k)⟩] 2 (fun ns=>.slice (some ⟨ns.getD 0 0,0,none⟩) n (n+ns.getD 1 0)) (fun ns=>[some ⟨p,false,o,qAd n fun k=>u64 (f k)⟩,some ⟨ns.getD 0 0,true,0,qAd n fun k=>u64 (f k)⟩]):=by
 have h:=qT1 p o n c f hn
 simp only[Nat.zero_add] at h
 exact h.weak fun ns q x hq=>by
  rcases q with _ | _ |q
  ·cases hq;exact⟨_,rfl,rfl,rfl,rfl,fun _=>rfl,.inl rfl⟩
  ·cases hq;exact⟨_,rfl,rfl,rfl,rfl,(fun h=>by cases h),.inr ⟨rfl,rfl,qQ5 (g:=f) (g':=qAs (fun _=>0) 0 f) (by omega) fun k _=>rfl⟩⟩
  ·simp[lM] at hq
end Go.Proofs.YtmdpendnbkajdaaDoor
end
section
namespace Go.Eng
def lpB (q:Nat) (ow:Bool) (L:List (Nat×qAU)):Blk:=⟨q,ow,0,.pile L.length fun i=>L[i]?⟩
def lpO (q:Nat) (L:List (Nat×qAU)):Option Blk:=some (lpB q true L)
def qCl (ow:Bool) (x:Nat×qAU):Blk:=⟨x.1,ow,0,x.2.cont⟩
theorem qH6 {ow:Bool} {x:Nat×qAU} {k:Nat}:(qCl ow x).has k↔x.1=k:=by
 obtain⟨n,pc⟩:=x
 cases pc with
 |row=>exact qBk rfl
 |obj es c=>exact qPa (es:=es) (c:=c) rfl
theorem qEg {q:Nat} {ow:Bool} {L:List (Nat×qAU)} {k:Nat}:(lpB q ow L).has k↔∃(i:Nat) (x:Nat×qAU),L[i]?=some x∧x.1=k:=by
 constructor
 ·rintro⟨i,p,_,h⟩;exact⟨i,(k,p),h,rfl⟩
 ·rintro⟨i,⟨n,p⟩,h,rfl⟩;exact⟨i,p,(List.getElem?_eq_some_iff.1 h).1,h⟩
theorem qXU {q:Nat} {ow:Bool} {L:List (Nat×qAU)} {w:World} (h:qAl (lpB q ow L) w):(∀i k p,i<L.length→L[i]?=some (k,p)→qEr k ow p w)∧jCX L.length (fun i=>L[i]?):=h.obj
theorem qGx {q:Nat} {ow:Bool} {L:List (Nat×qAU)} {w:World} (h:qAl (lpB q ow L) w) {j:Nat} {x:Nat×qAU} (hj:L[j]?=some x):qEr x.1 ow x.2 w:=
 (qXU h).1 j x.1 x.2 (List.getElem?_eq_some_iff.1 hj).1 hj
theorem qOL {q:Nat} {ow:Bool} {L:List (Nat×qAU)} {w:World} (h:qAl (lpB q ow L) w) {i j:Nat} {x y:Nat×qAU} (hi:L[i]?=some x) (hj:L[j]?=some y) (e:x.1=y.1):i=j:=
 (qXU h).2 i j x.1 x.2 y.2 (List.getElem?_eq_some_iff.1 hi).1 (List.getElem?_eq_some_iff.1 hj).1 hi (show L[j]?=some (x.1,y.2) by rw[hj,e])
theorem qNU {ow:Bool} {x:Nat×qAU} {w:World} (h:qEr x.1 ow x.2 w):qAl (qCl ow x) w where
 lt:=h.lt
 cell:=h.cell
 free:=h.free
 obj:=by
  have:=h.obj
  show x.2.cont.ObjOk x.1 ow w
  cases e:x.2 with
  |row=>exact qC9 rfl
  |obj es c=>exact this es c e
theorem qNV {ow:Bool} {x:Nat×qAU} {w:World} (h:qAl (qCl ow x) w):qEr x.1 ow x.2 w where
 lt:=h.lt
 cell:=h.cell
 free:=h.free
 obj es c e:=by
  have:=h.obj
  change x.2.cont.ObjOk x.1 ow w at this
  rw[e] at this;exact this
structure Foc (m m1:Nat→Option Blk) (p0:Nat) (X Y:Blk):Prop where
 x:m p0=some X
 y:m1 p0=some Y
 o:∀p,p≠p0→m p=m1 p
theorem Foc.inn {m m1:Nat→Option Blk} {p0 q j:Nat} {o1 o2:Bool} {L:List (Nat×qAU)} {x:Nat×qAU} {w:World} (h:Foc m m1 p0 (qCl o1 x) (lpB q o2 L)) (hj:L[j]?=some x) (ho:o1=true→o2=true)
  (hm:∀p b,m1 p=some b→qAl b w) (ha:qCs m1):(∀p b,m p=some b→qAl b w)∧qCs m∧∀k,qDc m k→qDc m1 k:=by
 have hY:=hm p0 _ h.y
 have hX:qAl (qCl o1 x) w:=by
  have:=qNU (qGx hY hj)
  cases o1 with
  |true=>rw[ho rfl] at this;exact this
  |false=>exact this.ro
 have hx:∀k,(qCl o1 x).has k→(lpB q o2 L).has k:=fun k hk=>qEg.2 ⟨j,x,hj,qH6.1 hk⟩
 refine⟨fun p b hb=>?_,fun p r b c hpr hb hc hown k hk1 hk2=>?_,fun k ⟨p,b,h1,h2,h3⟩=>?_⟩
 ·by_cases e:p=p0
  ·subst e;rw[h.x] at hb;injection hb with hb;subst hb;exact hX
  ·rw[h.o p e] at hb;exact hm p b hb
 ·by_cases e:p=p0
  ·subst e
   rw[h.x] at hb;injection hb with hb;subst hb
   have e2:r≠p:=fun z=>hpr z.symm
   rw[h.o r e2] at hc
   exact ha p r _ c hpr h.y hc (ho hown) k (hx k hk1) hk2
  ·rw[h.o p e] at hb
   by_cases e2:r=p0
   ·subst e2
    rw[h.x] at hc;injection hc with hc;subst hc
    exact ha p r b _ hpr hb h.y hown k hk1 (hx k hk2)
   ·rw[h.o r e2] at hc
    exact ha p r b c hpr hb hc hown k hk1 hk2
 ·by_cases e:p=p0
  ·subst e;rw[h.x] at h1;injection h1 with h1;subst h1
   exact⟨p,_,h.y,ho h2,hx k h3⟩
  ·rw[h.o p e] at h1;exact⟨p,b,h1,h2,h3⟩
theorem Foc.rest {m m1:Nat→Option Blk} {p0 q j:Nat} {o1:Bool} {L:List (Nat×qAU)} {x:Nat×qAU} {w:World} (h:Foc m m1 p0 (qCl o1 x) (lpB q true L)) (hj:L[j]?=some x)
  (hY:qAl (lpB q true L) w) (ha:qCs m1) {i:Nat} {y:Nat×qAU} (hi:L[i]?=some y) (hij:o1=true→i≠j):¬qDc m y.1:=fun⟨p,b,h1,h2,h3⟩=>by
 by_cases e:p=p0
 ·subst e
  rw[h.x] at h1;injection h1 with h1;subst h1
  exact hij h2 (qOL hY hi hj (qH6.1 h3).symm)
 ·rw[h.o p e] at h1
  exact ha p0 p _ b (fun z=>e z.symm) h.y h1 rfl y.1 (qEg.2 ⟨i,y,hi,rfl⟩) h3
theorem qSS {L:List (Nat×qAU)} {j k:Nat} {pc pc':qAU} (hj:L[j]?=some (k,pc)) (q:Nat) (ow:Bool) (n:Nat):(lpB q ow (L.set j (k,pc'))).has n↔(lpB q ow L).has n:=by
 have hlt:j<L.length:=(List.getElem?_eq_some_iff.1 hj).1
 rw[qEg,qEg]
 constructor
 ·rintro⟨i,x,hi,rfl⟩
  rw[List.getElem?_set] at hi
  by_cases e:j=i
  ·subst e;rw[if_pos rfl,if_pos hlt] at hi;injection hi with hi;subst hi;exact⟨j,_,hj,rfl⟩
  ·rw[if_neg e] at hi;exact⟨i,x,hi,rfl⟩
 ·rintro⟨i,x,hi,rfl⟩
  by_cases e:j=i
  ·subst e;rw[hj] at hi;injection hi with hi;subst hi
   exact⟨j,(k,pc'),by rw[List.getElem?_set,if_pos rfl,if_pos hlt],rfl⟩
  ·exact⟨i,x,by rw[List.getElem?_set,if_neg e];exact hi,rfl⟩
theorem Foc.out {m m1 mo mo1:Nat→Option Blk} {p0 q j k:Nat} {L:List (Nat×qAU)} {pc pc':qAU} {w w':World} (h:Foc m m1 p0 (qCl true (k,pc)) (lpB q true L)) (h':Foc mo mo1 p0 (qCl true (k,pc')) (lpB q true (L.set j (k,pc')))) (hj:L[j]?=some (k,pc))
  (hm:∀p b,m1 p=some b→qAl b w) (ha:qCs m1) (hp:qCL m w mo w'):qCL m1 w mo1 w':=by
 have hlt:j<L.length:=(List.getElem?_eq_some_iff.1 hj).1
 have hY:=hm p0 _ h.y
 obtain⟨_,_,hown⟩:=h.inn hj id hm ha
 have hX':=qNV (hp.holds p0 _ h'.x)
 have hrest:∀(i:Nat) (y:Nat×qAU),L[i]?=some y→i≠j→¬qDc m y.1:=fun i y hi hij=>h.rest hj hY ha hi fun _=>hij
 have hsep:∀r c,r≠p0→mo r=some c→∀n,(lpB q true L).has n→¬c.has n:=fun r c hr hc n hn hcn=>by
  obtain⟨i,y,hi,rfl⟩:=qEg.1 hn
  by_cases e:i=j
  ·subst e
   rw[hj] at hi;injection hi with hi;subst hi
   exact hp.apart p0 r _ c (fun z=>hr z.symm) h'.x hc rfl k (qH6.2 rfl) hcn
  ·cases hco:c.own with
   |true=>
    rcases hp.adv.names y.1 ⟨r,c,hc,hco,hcn⟩ with h5|h5
    ·exact hrest i y hi e h5
    ·have:=(qGx hY hi).lt;omega
   |false=>
    have h5:=hp.adv.ro r c hc hco
    rw[h.o r hr] at h5
    exact ha p0 r _ c (fun z=>hr z.symm) h.y h5 rfl y.1 (qEg.2 ⟨i,y,hi,rfl⟩) hcn
 refine⟨fun p b hb=>?_,fun p r b c hpr hb hc ho n hn1 hn2=>?_,⟨hp.adv.os,hp.adv.output,hp.adv.tape,hp.adv.size,fun n hn hno=>hp.adv.heap n hn fun z=>hno (hown n z),fun n ⟨p,b,h1,h2,h3⟩=>?_,fun p b hb ho=>?_⟩⟩
 ·by_cases e:p=p0
  ·subst e
   rw[h'.y] at hb;injection hb with hb;subst hb
   refine⟨Nat.lt_of_lt_of_le hY.lt hp.adv.size,(fun o v hv=>by cases hv),(fun _ o v hv=>by cases hv),⟨fun i n pc2 hi hg=>?_,fun i i' n pc2 pc3 hi hi' hg hg'=>?_⟩⟩
   ·change(L.set j (k,pc'))[i]?=some (n,pc2) at hg
    rw[List.getElem?_set] at hg
    by_cases e:j=i
    ·subst e;rw[if_pos rfl,if_pos hlt] at hg;injection hg with hg;injection hg with h1 h2;subst h1;subst h2;exact hX'
    ·rw[if_neg e] at hg
     have h1:=qGx hY hg
     exact h1.of_heap hp.adv.size (hp.adv.heap n h1.lt (hrest i _ hg fun z=>e z.symm))
   ·change(L.set j (k,pc'))[i]?=some (n,pc2) at hg
    change(L.set j (k,pc'))[i']?=some (n,pc3) at hg'
    have key:∀(a:Nat) (pc4:qAU),(L.set j (k,pc'))[a]?=some (n,pc4)→∃pc5,L[a]?=some (n,pc5):=fun a pc4 ha=>by
     rw[List.getElem?_set] at ha
     by_cases e:j=a
     ·subst e;rw[if_pos rfl,if_pos hlt] at ha;injection ha with ha;injection ha with h1 h2;subst h1;exact⟨_,hj⟩
     ·rw[if_neg e] at ha;exact⟨_,ha⟩
    obtain⟨_,k1⟩:=key i pc2 hg
    obtain⟨_,k2⟩:=key i' pc3 hg'
    exact qOL hY k1 k2 rfl
  ·rw[←h'.o p e] at hb;exact hp.holds p b hb
 ·by_cases e:p=p0
  ·subst e
   rw[h'.y] at hb;injection hb with hb;subst hb
   have e2:r≠p:=fun z=>hpr z.symm
   rw[←h'.o r e2] at hc
   exact hsep r c e2 hc n ((qSS hj q true n).1 hn1) hn2
  ·rw[←h'.o p e] at hb
   by_cases e2:r=p0
   ·subst e2
    rw[h'.y] at hc;injection hc with hc;subst hc
    exact hsep p b e hb n ((qSS hj q true n).1 hn2) hn1
   ·rw[←h'.o r e2] at hc
    exact hp.apart p r b c hpr hb hc ho n hn1 hn2
 ·by_cases e:p=p0
  ·subst e
   rw[h'.y] at h1;injection h1 with h1;subst h1
   exact .inl ⟨p,_,h.y,rfl,(qSS hj q true n).1 h3⟩
  ·rw[←h'.o p e] at h1
   rcases hp.adv.names n ⟨p,b,h1,h2,h3⟩ with h5|h5
   ·exact .inl (hown n h5)
   ·exact .inr h5
 ·by_cases e:p=p0
  ·subst e;rw[h'.y] at hb;injection hb with hb;subst hb;cases ho
  ·rw[←h'.o p e] at hb
   rw[←h.o p e];exact hp.adv.ro p b hb ho
theorem qBI (bs cs:List (Option Blk)) (x:Option Blk):lM (bs++x::cs) bs.length=x:=by
 rw[qA7 (Nat.le_refl _),Nat.sub_self];unfold lM;cases x<;>rfl
theorem qFx (bs cs:List (Option Blk)) (x y:Option Blk) {p:Nat} (h:p≠bs.length):lM (bs++x::cs) p=lM (bs++y::cs) p:=by
 by_cases h1:p<bs.length
 ·rw[qBy h1,qBy h1]
 ·rw[qA7 (by omega),qA7 (by omega)]
  obtain⟨s,hs⟩:∃s,p-bs.length=s+1:=⟨p-bs.length-1,by omega⟩
  rw[hs];unfold lM;rfl
theorem qAb.focus {F:Blk→Prop} {P:Program} {f:FuncId} {args:List Value} {bs cs:List (Option Blk)} {n:Nat} {v:List Nat→Value} {o r:List Nat→List (Option Blk)} {q j k:Nat} {L:List (Nat×qAU)} {pc:qAU} {pc':List Nat→qAU}
  (h:qAb F P f args (bs++some (qCl true (k,pc))::cs) n v (fun ns=>o ns++some (qCl true (k,pc' ns))::r ns)) (hj:L[j]?=some (k,pc)) (ho:∀ns,(o ns).length=bs.length):
  qAb F P f args (bs++lpO q L::cs) n v (fun ns=>o ns++lpO q (L.set j (k,pc' ns))::r ns):=by
 intro w hm ha hF
 have hf:Foc (lM (bs++some (qCl true (k,pc))::cs)) (lM (bs++lpO q L::cs)) bs.length (qCl true (k,pc)) (lpB q true L):=⟨qBI ..,qBI ..,fun p hp=>qFx _ _ _ _ hp⟩
 obtain⟨h1,h2,h3⟩:=hf.inn hj id hm ha
 refine Calls.mono (h w h1 h2 fun b hb=>⟨(hF b hb).1,(hF b hb).2.1,fun k hk ho=>(hF b hb).2.2 k hk (h3 k ho)⟩) ?_
 rintro e w' ⟨ns,hns,he,hp⟩
 refine⟨ns,hns,he,hf.out (mo:=lM (o ns++some (qCl true (k,pc' ns))::r ns)) (pc':=pc' ns) ⟨?_,?_,fun p hp=>?_⟩ hj hm ha hp⟩
 ·rw[←ho ns];exact qBI ..
 ·rw[←ho ns];exact qBI ..
 ·rw[←ho ns] at hp;exact qFx _ _ _ _ hp
theorem qAb.focusL {F:Blk→Prop} {P:Program} {f:FuncId} {args:List Value} {bs cs:List (Option Blk)} {n:Nat} {v:List Nat→Value} {o r:List Nat→List (Option Blk)} {q j:Nat} {ow:Bool} {L:List (Nat×qAU)} {x:Nat×qAU}
  (h:qAb F P f args (bs++some (qCl false x)::cs) n v (fun ns=>o ns++none::r ns)) (hj:L[j]?=some x) (ho:∀ns,(o ns).length=bs.length):
  qAb F P f args (bs++some (lpB q ow L)::cs) n v (fun ns=>o ns++none::r ns):=by
 intro w hm ha hF
 have hf:Foc (lM (bs++some (qCl false x)::cs)) (lM (bs++some (lpB q ow L)::cs)) bs.length (qCl false x) (lpB q ow L):=⟨qBI ..,qBI ..,fun p hp=>qFx _ _ _ _ hp⟩
 obtain⟨h1,h2,h3⟩:=hf.inn hj (fun z=>by cases z) hm ha
 refine Calls.mono (h w h1 h2 fun b hb=>⟨(hF b hb).1,(hF b hb).2.1,fun k hk ho=>(hF b hb).2.2 k hk (h3 k ho)⟩) ?_
 rintro e w' ⟨ns,hns,he,hp⟩
 refine⟨ns,hns,he,hp.holds,hp.apart,⟨hp.adv.os,hp.adv.output,hp.adv.tape,hp.adv.size,fun k hk hno=>hp.adv.heap k hk fun z=>hno (h3 k z),fun k hk=>?_,fun p b hb hob=>?_⟩⟩
 ·rcases hp.adv.names k hk with h5|h5
  ·exact .inl (h3 k h5)
  ·exact .inr h5
 ·have h5:=hp.adv.ro p b hb hob
  by_cases e:p=bs.length
  ·subst e
   have:lM (o ns++none::r ns) bs.length=none:=by rw[←ho ns];exact qBI ..
   rw[this] at hb;cases hb
  ·rw[hf.o p e] at h5;exact h5
theorem qCL.gather {m mo mo1:Nat→Option Blk} {p0 p1 q:Nat} {L:List (Nat×qAU)} {x:Nat×qAU} {w w':World} (h01:p0≠p1) (h0:mo p0=some (lpB q true L)) (h1:mo p1=some (qCl true x)) (h2:mo1 p0=some (lpB q true (L++[x]))) (h3:mo1 p1=none)
  (ho:∀p,p≠p0→p≠p1→mo1 p=mo p) (hp:qCL m w mo w'):qCL m w mo1 w':=by
 have hY:=hp.holds p0 _ h0
 have hX:=qNV (hp.holds p1 _ h1)
 have hcat:∀(i:Nat) (y:Nat×qAU),(L++[x])[i]?=some y→L[i]?=some y∨(i=L.length∧y=x):=fun i y hi=>by
  rw[List.getElem?_append] at hi
  split at hi
  ·exact .inl hi
  ·rename_i hlt
   have:i-L.length=0:=by
    have:=(List.getElem?_eq_some_iff.1 hi).1
    simp at this;omega
   rw[this] at hi
   simp at hi
   exact .inr ⟨by omega,hi.symm⟩
 have hsep:∀(i:Nat) (y:Nat×qAU),L[i]?=some y→y.1≠x.1:=fun i y hi e=>
  hp.apart p0 p1 _ _ h01 h0 h1 rfl x.1 (qEg.2 ⟨i,y,hi,e⟩) (qH6.2 rfl)
 have hfrom:∀k,(lpB q true (L++[x])).has k→(lpB q true L).has k∨(qCl true x).has k:=fun k hk=>by
  obtain⟨i,y,hi,rfl⟩:=qEg.1 hk
  rcases hcat i y hi with h5|⟨_,rfl⟩
  ·exact .inl (qEg.2 ⟨i,y,h5,rfl⟩)
  ·exact .inr (qH6.2 rfl)
 have hat:∀p b,mo1 p=some b→(p=p0∧b=lpB q true (L++[x]))∨(p≠p0∧p≠p1∧mo p=some b):=fun p b hb=>by
  by_cases e:p=p0
  ·subst e;rw[h2] at hb;injection hb with hb;exact .inl ⟨rfl,hb.symm⟩
  ·by_cases e2:p=p1
   ·subst e2;rw[h3] at hb;cases hb
   ·exact .inr ⟨e,e2,by rw[←ho p e e2];exact hb⟩
 refine⟨fun p b hb=>?_,fun p r b c hpr hb hc hown k hk1 hk2=>?_,⟨hp.adv.os,hp.adv.output,hp.adv.tape,hp.adv.size,hp.adv.heap,fun k ⟨p,b,k1,k2,k3⟩=>?_,fun p b hb hob=>?_⟩⟩
 ·rcases hat p b hb with⟨_,rfl⟩|⟨_,_,h5⟩
  ·refine⟨hY.lt,(fun o v hv=>by cases hv),(fun _ o v hv=>by cases hv),⟨fun i k pc hi hg=>?_,fun i j k pc pc' hi hj hg hg'=>?_⟩⟩
   ·rcases hcat i _ hg with h5|⟨_,h5⟩
    ·exact qGx hY h5
    ·rw[←h5] at hX;exact hX
   ·rcases hcat i _ hg with h5|⟨h5,h6⟩
    ·rcases hcat j _ hg' with h7|⟨h7,h8⟩
     ·exact qOL hY h5 h7 rfl
     ·exact(hsep i (k,pc) h5 (show k=x.1 from congrArg Prod.fst h8)).elim
    ·rcases hcat j _ hg' with h7|⟨h7,h8⟩
     ·exact(hsep j (k,pc') h7 (show k=x.1 from congrArg Prod.fst h6)).elim
     ·omega
  ·exact hp.holds p b h5
 ·rcases hat p b hb with⟨e,rfl⟩|⟨k1,k2,h5⟩
  ·rcases hat r c hc with⟨e2,_⟩|⟨k3,k4,h6⟩
   ·exact hpr (e.trans e2.symm)
   ·rcases hfrom k hk1 with h7|h7
    ·exact hp.apart p0 r _ c (fun z=>k3 z.symm) h0 h6 rfl k h7 hk2
    ·exact hp.apart p1 r _ c (fun z=>k4 z.symm) h1 h6 rfl k h7 hk2
  ·rcases hat r c hc with⟨e2,rfl⟩|⟨k3,k4,h6⟩
   ·rcases hfrom k hk2 with h7|h7
    ·exact hp.apart p p0 b _ k1 h5 h0 hown k hk1 h7
    ·exact hp.apart p p1 b _ k2 h5 h1 hown k hk1 h7
   ·exact hp.apart p r b c hpr h5 h6 hown k hk1 hk2
 ·rcases hat p b k1 with⟨_,rfl⟩|⟨_,_,h5⟩
  ·rcases hfrom k k3 with h7|h7
   ·exact hp.adv.names k ⟨p0,_,h0,rfl,h7⟩
   ·exact hp.adv.names k ⟨p1,_,h1,rfl,h7⟩
  ·exact hp.adv.names k ⟨p,b,h5,k2,k3⟩
 ·rcases hat p b hb with⟨_,rfl⟩|⟨_,_,h5⟩
  ·cases hob
  ·exact hp.adv.ro p b h5 hob
theorem qAb.gather {F:Blk→Prop} {P:Program} {f:FuncId} {args:List Value} {bs:List (Option Blk)} {n:Nat} {v:List Nat→Value} {o r t:List Nat→List (Option Blk)} {q:Nat} {L:List Nat→List (Nat×qAU)} {x:List Nat→Nat×qAU}
  (h:qAb F P f args bs n v (fun ns=>o ns++lpO q (L ns)::(r ns++some (qCl true (x ns))::t ns))):
  qAb F P f args bs n v (fun ns=>o ns++lpO q (L ns++[x ns])::(r ns++none::t ns)):=by
 refine fun w hm ha hF=>(h w hm ha hF).mono ?_
 rintro e w' ⟨ns,hns,he,hp⟩
 refine⟨ns,hns,he,hp.gather (p0:=(o ns).length) (p1:=(o ns).length+((r ns).length+1)) (by omega) (qBI ..) ?_ (qBI ..) ?_ fun p k1 k2=>?_⟩
 ·rw[qA7 (by omega),Nat.add_sub_cancel_left,lm1];exact qBI ..
 ·rw[qA7 (by omega),Nat.add_sub_cancel_left,lm1];exact qBI ..
 ·by_cases h1:p<(o ns).length
  ·rw[qBy h1,qBy h1]
  ·rw[qA7 (by omega),qA7 (by omega)]
   obtain⟨s,hs⟩:∃s,p-(o ns).length=s+1:=⟨p-(o ns).length-1,by omega⟩
   rw[hs,lm1,lm1]
   exact qFx _ _ _ _ (by omega)
theorem qAb.pile0 {F:Blk→Prop} {P:Program} {f:FuncId} {args:List Value} {bs:List (Option Blk)} {n:Nat} {v:List Nat→Value} {o:List Nat→List (Option Blk)} {q:List Nat→Nat} (h:qAb F P f args bs n v o) (hq:∀ns,∃p b,lM (o ns) p=some b∧b.name=q ns):
  qAb F P f args bs n v (fun ns=>o ns++[lpO (q ns) []]):=by
 refine fun w hm ha hF=>(h w hm ha hF).mono ?_
 rintro e w' ⟨ns,hns,he,hp⟩
 obtain⟨p1,b1,h1,h2⟩:=hq ns
 have hlt:q ns<w'.heap.size:=by rw[←h2];exact(hp.holds p1 b1 h1).lt
 have hno:∀k,¬(lpB (q ns) true []).has k:=fun k hk=>by
  obtain⟨i,x,hi,_⟩:=qEg.1 hk;simp at hi
 have hat:∀p b,lM (o ns++[lpO (q ns) []]) p=some b→b=lpB (q ns) true []∨lM (o ns) p=some b:=fun p b hb=>by
  rcases qDo hb with⟨_,h5⟩|⟨_,h5⟩
  ·exact .inr h5
  ·unfold lM at h5
   cases hz:p-(o ns).length with
   |zero=>rw[hz] at h5;exact .inl (by injection h5 with h5;exact h5.symm)
   |succ s=>rw[hz] at h5;simp at h5
 refine⟨ns,hns,he,fun p b hb=>?_,fun p r b c hpr hb hc hown k hk1 hk2=>?_,⟨hp.adv.os,hp.adv.output,hp.adv.tape,hp.adv.size,hp.adv.heap,fun k ⟨p,b,k1,k2,k3⟩=>?_,fun p b hb hob=>?_⟩⟩
 ·rcases hat p b hb with rfl|h5
  ·exact⟨hlt,(fun o v hv=>by cases hv),(fun _ o v hv=>by cases hv),⟨fun i k pc hi hg=>(by cases hi),fun i j k pc pc' hi=>(by cases hi)⟩⟩
  ·exact hp.holds p b h5
 ·rcases hat p b hb with rfl|h5
  ·exact hno k hk1
  ·rcases hat r c hc with rfl|h6
   ·exact hno k hk2
   ·exact hp.apart p r b c hpr h5 h6 hown k hk1 hk2
 ·rcases hat p b k1 with rfl|h5
  ·exact absurd k3 (hno k)
  ·exact hp.adv.names k ⟨p,b,h5,k2,k3⟩
 ·rcases hat p b hb with rfl|h5
  ·cases hob
  ·exact hp.adv.ro p b h5 hob
theorem qZH {q:Nat} {ow:Bool} {L:List (Nat×qAU)} {j:Nat} {x:Nat×qAU} (hj:L[j]?=some x) {w:World} (hb:∀b,roO (some (lpB q ow L))=some b→qAl b w):qAl (qCl false x) w:=
 qNU (qGx (q:=q) (ow:=false) (hb _ rfl) hj)
theorem qTY {α:Type} (cs:List α) (p:Nat) (b:Blk):lM (cs.map fun _=>(none:Option Blk)) p≠some b:=fun h=>by
 unfold lM at h
 rw[List.getElem?_map] at h
 cases hc:cs[p]?<;>rw[hc] at h<;>simp at h
theorem qAb.lendQ {F F':Blk→Prop} {P:Program} {f:FuncId} {args:List Value} {bs cs:List (Option Blk)} {k:Nat} {v:List Nat→Value} {o nw:List Nat→List (Option Blk)} (h:qAb F P f args bs k v (fun ns=>o ns++nw ns)) (ho:∀ns,(o ns).length=bs.length)
  (hF:∀w:World,qCJ F' w→(∀b,some b∈cs→qAl b w)→qCJ F w) (hn:∀x,F x→∀j,x.has j→(∃y,F' y∧y.has j)∨∃c,some c∈cs∧c.has j):
  qAb F' P f args (bs++cs) k v (fun ns=>o ns++(cs.map (fun _=>none)++nw ns)):=by
 intro w hm ha hF'
 have hin:∀(l:List (Option Blk)) p b,lM l p=some b→p<l.length∧some b∈l:=fun l p b hp=>by
  unfold lM at hp
  cases hc:l[p]?with
  |none=>rw[hc] at hp;cases hp
  |some x=>
   rw[hc] at hp
   obtain⟨h1,h2⟩:=List.getElem?_eq_some_iff.1 hc
   have h3:x=some b:=hp
   exact⟨h1,by rw[←h3,←h2];exact List.getElem_mem h1⟩
 have hsub:∀p b,lM bs p=some b→p<bs.length∧lM (bs++cs) p=some b:=fun p b hp=>by
  have hl:=(hin bs p b hp).1
  exact⟨hl,by rw[qBy hl];exact hp⟩
 have hcs:∀b,some b∈cs→∃q,bs.length≤q∧lM (bs++cs) q=some b:=fun b hb=>by
  obtain⟨i,hi⟩:=List.getElem?_of_mem hb
  refine⟨bs.length+i,by omega,?_⟩
  rw[qA7 (by omega),Nat.add_sub_cancel_left]
  unfold lM;rw[hi]
 have ho1:∀k,qDc (lM bs) k→qDc (lM (bs++cs)) k:=fun k ⟨p,b,h1,h2,h3⟩=>⟨p,b,(hsub p b h1).2,h2,h3⟩
 have hw:=hF w (fun b hb'=>⟨(hF' b hb').1,(hF' b hb').2.1⟩) (fun b hb'=>by
  obtain⟨q,_,hq⟩:=hcs b hb'
  exact hm q b hq)
 refine Calls.mono (h w (fun p b hp=>hm p b (hsub p b hp).2) (fun p q b c hpq hpb hqc hown=>ha p q b c hpq (hsub p b hpb).2 (hsub q c hqc).2 hown) (fun b hFb=>⟨(hw b hFb).1,(hw b hFb).2,fun j hj ⟨p,b',h1,h2,h3⟩=>?_⟩)) ?_
 ·obtain⟨hl,hp'⟩:=hsub p b' h1
  rcases hn b hFb j hj with⟨y,hy,he⟩|⟨c,hcm,he⟩
  ·exact(hF' y hy).2.2 j he ⟨p,b',hp',h2,h3⟩
  ·obtain⟨q,hq1,hq⟩:=hcs c hcm
   exact ha p q b' c (by omega) hp' hq h2 j h3 he
 ·rintro e w' ⟨ns,hns,he,hp⟩
  have hpos:∀p b,lM (o ns++(cs.map (fun _=>none)++nw ns)) p=some b→∃p',lM (o ns++nw ns) p'=some b∧((p<bs.length∧p'=p)∨(bs.length+cs.length≤p∧p'=p-cs.length)):=fun p b hpb=>by
   rcases qDo hpb with⟨h1,h2⟩|⟨h1,h2⟩
   ·rw[ho] at h1
    exact⟨p,by rw[qBy (by rw[ho];exact h1)];exact h2,.inl ⟨h1,rfl⟩⟩
   ·rw[ho] at h1 h2
    rcases qDo h2 with⟨h3,h4⟩|⟨h3,h4⟩
    ·exact absurd h4 (qTY _ _ _)
    ·rw[List.length_map] at h3 h4
     refine⟨p-cs.length,?_,.inr ⟨by omega,rfl⟩⟩
     rw[qA7 (by rw[ho];omega),ho,show p-cs.length-bs.length=p-bs.length-cs.length by omega];exact h4
  refine⟨ns,hns,he,⟨fun p b hpb=>?_,fun p q b c hpq hpb hqc=>?_,⟨hp.adv.os,hp.adv.output,hp.adv.tape,hp.adv.size,fun k hk hno=>hp.adv.heap k hk (fun hk'=>hno (ho1 k hk')),fun k ⟨p,b,h1,h2,h3⟩=>?_,fun p b hpb hob=>?_⟩⟩⟩
  ·obtain⟨p',h1,_⟩:=hpos p b hpb
   exact hp.holds p' b h1
  ·obtain⟨p',h1,h2⟩:=hpos p b hpb
   obtain⟨q',h3,h4⟩:=hpos q c hqc
   exact hp.apart p' q' b c (by omega) h1 h3
  ·obtain⟨p',h4,_⟩:=hpos p b h1
   rcases hp.adv.names k ⟨p',b,h4,h2,h3⟩ with h5|h5
   ·exact .inl (ho1 k h5)
   ·exact .inr h5
  ·obtain⟨p',h1,h2⟩:=hpos p b hpb
   have h3:=hp.adv.ro p' b h1 hob
   exact(hsub p' b h3).2|>fun h4=>by
    rcases h2 with⟨_,rfl⟩|⟨h5,rfl⟩
    ·exact h4
    ·have:=(hsub _ b h3).1
     omega
section
variable {α:Type} {lt:α→α→Bool}
structure En (f:Nat→α) (n:Nat) (S:α→Prop):Prop where
 mem:∀k,k<n→S (f k)
 sur:∀x,S x→∃k,k<n∧f k=x
 inj:∀j k,j<n→k<n→f j=f k→j=k
theorem En.none {f:Nat→α}:En f 0 fun _=>False:=⟨fun k h=>absurd h (Nat.not_lt_zero k),fun _ h=>h.elim,fun j k h=>absurd h (Nat.not_lt_zero j)⟩
def HpB (lt:α→α→Bool) (b:Nat) (f:Nat→α) (n:Nat):Prop:=∀k,0<k→k<n→b≤(k-1)/2→lt (f k) (f ((k-1)/2))=false
end
structure TmR where
 a:UInt64
 i:Int
 n:UInt64
deriving DecidableEq
def ltT (a b:TmR):Bool:=qA1 (decide (a.a<b.a)) true (qA1 (a.a==b.a) (decide (a.n<b.n)) false)
structure Std (F:Nat→TmR) (n:Nat) (L:List TmR):Prop where
 hp:HpB ltT 0 F n
 en:En F n (·∈L)
 up:L.Pairwise fun x y=>ltT x y=true
 len:L.length=n
theorem qJE {n a r:Nat} {f:Nat→UInt8}:gsE u8C [u8 0] 1 (⟨false,a,n,r,f⟩:Grw UInt8)=some ⟨a,true,0,spr (n+r) n (fun k=>u8 (f k)) (u8 0)⟩:=by rw[qJl];rfl
end Go.Eng
namespace Go.Eng
def qKX (n p:Nat):Nat:=if p<n then p else p+1
theorem qVg {n p q:Nat} (h:qKX n p=qKX n q):p=q:=by
 unfold qKX at h
 split at h<;>split at h<;>omega
theorem qJK {l r:List (Option Blk)} {x:Option Blk} {n p:Nat} (hn:l.length=n):lM (l++x::r) (qKX n p)=lM (l++r) p:=by
 subst hn
 unfold qKX
 by_cases h:p<l.length
 ·rw[if_pos h];unfold lM
  rw[List.getElem?_append_left h,List.getElem?_append_left h]
 ·rw[if_neg h];unfold lM
  rw[List.getElem?_append_right (by omega),List.getElem?_append_right (by omega),show p+1-l.length=(p-l.length)+1 by omega,List.getElem?_cons_succ]
theorem qWu {l r:List (Option Blk)} {x:Option Blk} {n q:Nat} (hn:l.length=n) (hq:q≠n):∃p,q=qKX n p:=by
 by_cases h:q<n
 ·exact⟨q,by unfold qKX;rw[if_pos h]⟩
 ·exact⟨q-1,by unfold qKX;rw[if_neg (by omega)];omega⟩
theorem qAb.famI {F:Blk→Prop} {P:Program} {f:FuncId} {args:List Value} {l r:List (Option Blk)} {B:Blk} {k:Nat} {v:List Nat→Value} {ol nw:List Nat→List (Option Blk)} {x:List Nat→Option Blk} (h:qAb F P f args (l++some B::r) k v (fun ns=>ol ns++x ns::nw ns)) (hl:∀ns,(ol ns).length=l.length) (hB:F B):
  qAb F P f args (l++r) k v (fun ns=>ol ns++nw ns):=by
 intro w hm ha hF
 obtain⟨h1,h2,h3⟩:=hF B hB
 have hmid:lM (l++some B::r) l.length=some B:=by
  unfold lM;rw[List.getElem?_append_right (Nat.le_refl _)];simp
 have hpos:∀q b,lM (l++some B::r) q=some b→(q=l.length∧b=B)∨∃p,q=qKX l.length p∧lM (l++r) p=some b:=fun q b hq=>by
  by_cases hq2:q=l.length
  ·subst hq2;rw[hmid] at hq;cases hq;exact .inl ⟨rfl,rfl⟩
  ·obtain⟨p,rfl⟩:=qWu (l:=l) (r:=r) (x:=none) rfl hq2
   rw[qJK rfl] at hq
   exact .inr ⟨p,rfl,hq⟩
 have hown:∀j,qDc (lM (l++some B::r)) j→qDc (lM (l++r)) j:=fun j ⟨q,b,k1,k2,k3⟩=>by
  rcases hpos q b k1 with⟨_,rfl⟩|⟨p,_,hp⟩
  ·rw[h2] at k2;cases k2
  ·exact⟨p,b,hp,k2,k3⟩
 have hown2:∀j,qDc (lM (l++r)) j→qDc (lM (l++some B::r)) j:=fun j ⟨p,b,k1,k2,k3⟩=>⟨qKX l.length p,b,by rw[qJK rfl];exact k1,k2,k3⟩
 refine Calls.mono (h w (fun q b hq=>?_) (fun q q' b c hqq hb hc ho=>?_) fun b hb=>?_) ?_
 ·rcases hpos q b hq with⟨_,rfl⟩|⟨p,_,hp⟩
  ·exact h1
  ·exact hm p b hp
 ·rcases hpos q b hb with⟨_,rfl⟩|⟨p,rfl,hp⟩
  ·rw[h2] at ho;cases ho
  ·rcases hpos q' c hc with⟨_,rfl⟩|⟨p',rfl,hp'⟩
   ·exact fun j k1 k2=>h3 j k2 ⟨p,b,hp,ho,k1⟩
   ·exact ha p p' b c (fun e=>hqq (by rw[e])) hp hp' ho
 ·obtain⟨k1,k2,k3⟩:=hF b hb
  exact⟨k1,k2,fun j hj hj2=>k3 j hj (hown j hj2)⟩
 ·rintro e w' ⟨ns,hns,he,hp⟩
  have hs:∀p b,lM (ol ns++nw ns) p=some b→lM (ol ns++x ns::nw ns) (qKX l.length p)=some b:=fun p b hb=>by rw[qJK (hl ns)];exact hb
  refine⟨ns,hns,he,⟨fun p b hb=>hp.holds _ b (hs p b hb),fun p q b c hpq hb hc=>hp.apart _ _ b c (fun e=>hpq (qVg e)) (hs p b hb) (hs q c hc),⟨hp.adv.os,hp.adv.output,hp.adv.tape,hp.adv.size,fun j hj hno=>hp.adv.heap j hj fun h'=>hno (hown j h'),fun j ⟨p,b,k1,k2,k3⟩=>?_,fun p b hb ho=>?_⟩⟩⟩
  ·rcases hp.adv.names j ⟨_,b,hs p b k1,k2,k3⟩ with k4|k4
   ·exact .inl (hown j k4)
   ·exact .inr k4
  ·have:=hp.adv.ro _ b (hs p b hb) ho
   rw[qJK rfl] at this
   exact this
end Go.Eng
namespace Go.Eng
theorem qWz {A:Grw UInt8} {b:Blk} (h:gsE u8C [u8 0] 1 A=some b):b.own=true:=by
 unfold gsE at h
 cases hz:A.z with
 |true=>rw[hz] at h;cases h
 |false=>rw[hz] at h;injection h with h;rw[←h]
def reB (A:Grw UInt8) (n:Nat) (f:Nat→UInt8):Grw UInt8:=⟨A.z,A.nm,n,A.r,f⟩
theorem jBP {A:Grw UInt8} (h:A.ok) {n:Nat} {f:Nat→UInt8} (hn:n=A.n):(reB A n f).ok:=by subst hn;exact h
theorem jDy {A:Grw UInt8} {n:Nat} {f:Nat→UInt8} (hn:n=A.n):gsV A=gsV (reB A n f):=by subst hn;rfl
theorem jDp {A:Grw UInt8} {n:Nat} {f:Nat→UInt8} (hn:n=A.n) (h:∀k,k<A.n→f k=A.f k):gsE u8C [u8 0] 1 A=gsE u8C [u8 0] 1 (reB A n f):=by
 subst hn;exact(qO4 (A:=A) (A':=reB A A.n f) rfl rfl rfl rfl h).symm
def smA (x:UInt64):N4:=⟨x,0,0,0⟩
theorem qKR (x:UInt64):(smA x).val=x.toNat:=by
 show x.toNat+_=_
 simp[smA]
def szU (x:UInt64):Nat:=(qEe (smA x)+7)/8
end Go.Eng
namespace Go.Eng
theorem qLS (x:UInt64):szU x≤8:=by
 unfold szU
 rw[qIe,qKR]
 have:=qBG (n:=x.toNat) (k:=64) x.toNat_lt
 omega
theorem qSR (x:UInt64):x.toNat<256^szU x:=by
 rw[qLw]
 refine Nat.lt_of_lt_of_le (qHT _) (Nat.pow_le_pow_right (by omega) ?_)
 unfold szU
 rw[qIe,qKR];omega
theorem qXM {x:UInt64} (h:szU x≠0):256^(szU x-1)≤x.toNat:=by
 have h0:x.toNat≠0:=fun e=>h (by unfold szU;rw[qIe,qKR,e];rfl)
 rw[qLw]
 refine Nat.le_trans (Nat.pow_le_pow_right (by omega) ?_) (qNl h0)
 unfold szU
 rw[qIe,qKR];omega
def smN (x:UInt64):Nat:=szU x+1
def smB (x:UInt64):Nat→UInt8:=fun k=>if k=0 then UInt8.ofNat (szU x) else qAT (smA x) (32-szU x+(k-1))
theorem qO5 (x:UInt64) {k:Nat} (h:0<k) (h2:k≤szU x):smB x k=UInt8.ofNat (dig x.toNat (szU x-k)):=by
 have:=qLS x
 unfold smB qAT
 rw[if_neg (by omega),if_pos (by omega),qKR]
 congr 2;omega
theorem qVZ {α:Type} (f g:Nat→α):qAs f 0 g=g:=by
 funext k;unfold qAs;rw[if_neg (by omega),Nat.sub_zero]
end Go.Eng
namespace Go.Eng
def smV (f:Nat→UInt8):UInt64:=(ofN (fun k=>f (k+1)) ((1+f 0).toNat-1)).a
def wrE (f:Nat→UInt8) (n:Nat) (limit:UInt64):Int:=
 if n=0 then 3 else if(f 0).toNat≤8∧n-1<(f 0).toNat then 3 else if 8<(f 0).toNat∨(0<(f 0).toNat∧(f 1==0)=true) then 31 else if limit<smV f then 2 else 0
def qBR (e e2:Int):Int:=if e=0 then e2 else e
theorem qP6 {x:UInt8} (h:x.toNat≤254):(1+x).toNat=1+x.toNat:=by
 rw[UInt8.toNat_add]
 have:(1:UInt8).toNat=1:=rfl
 omega
theorem qQd {f:Nat→UInt8} {n:Nat} {l:UInt64} (h:wrE f n l=0):0<n∧(f 0).toNat≤8∧(f 0).toNat+1≤n∧(1+f 0).toNat=1+(f 0).toNat∧¬l<smV f∧¬(0<(f 0).toNat∧(f 1==0)=true):=by
 unfold wrE at h
 by_cases h1:n=0
 ·rw[if_pos h1] at h;cases h
 rw[if_neg h1] at h
 by_cases h2:(f 0).toNat≤8∧n-1<(f 0).toNat
 ·rw[if_pos h2] at h;cases h
 rw[if_neg h2] at h
 by_cases h3:8<(f 0).toNat∨(0<(f 0).toNat∧(f 1==0)=true)
 ·rw[if_pos h3] at h;cases h
 rw[if_neg h3] at h
 by_cases h4:l<smV f
 ·rw[if_pos h4] at h;cases h
 have h5:(f 0).toNat≤8:=by omega
 exact⟨by omega,h5,by omega,qP6 (by omega),h4,fun h=>h3 (.inr h)⟩
def rsE (q:BytL) (e:Int) (l:UInt64):Int:=qBR e (wrE q.wf q.wn l)
def rsQ (q:BytL) (e:Int) (l:UInt64):BytL:=if rsE q e l=0 then qM3 q (1+q.wf 0).toNat else q
def rsV (q:BytL) (e:Int) (l:UInt64):UInt64:=if rsE q e l=0 then smV q.wf else 0
theorem qIK {e e2:Int} (h:qBR e e2=0):e=0∧e2=0:=by
 unfold qBR at h
 by_cases h1:e=0
 ·rw[if_pos h1] at h;exact⟨h1,h⟩
 ·rw[if_neg h1] at h;exact absurd h h1
theorem qHB {q:BytL} {e:Int} {l:UInt64} (h:rsE q e l=0):0<q.wn∧(q.wf 0).toNat≤8∧(q.wf 0).toNat+1≤q.wn∧(1+q.wf 0).toNat=1+(q.wf 0).toNat:=by
 obtain⟨a,b,c,d,_⟩:=qQd (qIK h).2
 exact⟨a,b,c,d⟩
def qSk (n:Nat) (e:Int):Int:=if e=0∧0<n then 30 else e
end Go.Eng
namespace Go.Eng
theorem qXA (x:UInt64):smN x≤9:=by have:=qLS x;unfold smN;omega
def byN (n:Nat):Nat:=smN (UInt64.ofNat n)+n
def byB (f:Nat→UInt8) (n:Nat):Nat→UInt8:=qAs (smB (UInt64.ofNat n)) (smN (UInt64.ofNat n)) f
theorem qFY (x:UInt64):1≤smN x∧smN x≤9:=⟨by unfold smN;omega,qXA x⟩
theorem qS8 (n:Nat):1≤byN n∧byN n≤n+9:=by have:=qFY (UInt64.ofNat n);unfold byN;omega
end Go.Eng
namespace Go.Eng
theorem jAq {f:Nat→UInt8} {n:Nat} {l:UInt64} (h:n=0∨((f 0).toNat≤8∧n-1<(f 0).toNat)):(3:Int)=wrE f n l:=by
 unfold wrE
 by_cases h1:n=0
 ·rw[if_pos h1]
 ·rw[if_neg h1,if_pos (by omega)]
theorem jDI {f:Nat→UInt8} {n:Nat} {l:UInt64} (h1:n≠0) (h2:¬((f 0).toNat≤8∧n-1<(f 0).toNat)) (h3:8<(f 0).toNat∨(0<(f 0).toNat∧(f 1==0)=true)):(31:Int)=wrE f n l:=by
 unfold wrE;rw[if_neg h1,if_neg h2,if_pos h3]
theorem jB9 {f:Nat→UInt8} {n:Nat} {l:UInt64} (h1:n≠0) (h2:¬((f 0).toNat≤8∧n-1<(f 0).toNat)) (h3:¬(8<(f 0).toNat∨(0<(f 0).toNat∧(f 1==0)=true))) (h4:l<smV f):(2:Int)=wrE f n l:=by
 unfold wrE;rw[if_neg h1,if_neg h2,if_neg h3,if_pos h4]
theorem jAl {f:Nat→UInt8} {n:Nat} {l:UInt64} (h1:n≠0) (h2:¬((f 0).toNat≤8∧n-1<(f 0).toNat)) (h3:¬(8<(f 0).toNat∨(0<(f 0).toNat∧(f 1==0)=true))) (h4:¬l<smV f):(0:Int)=wrE f n l:=by
 unfold wrE;rw[if_neg h1,if_neg h2,if_neg h3,if_neg h4]
theorem qSe (f:Nat→UInt8):ofN f 0=⟨0,0,0,0⟩∧ofE 0=0:=⟨(show ofN f 0=N4.ofNat 0 from rfl).trans (N4.ext_val (by rw[N4.val_ofNat];rfl)),rfl⟩
end Go.Eng
namespace Go.Eng
theorem qNu {f:Nat→UInt8} {n:Nat} {l:UInt64} (h1:n≠0) (h2:¬((f 0).toNat≤8∧n-1<(f 0).toNat)) (h3:qA1 (decide (8<(f 0).toNat)) true (qA1 (decide (0<(f 0).toNat)) (f 1==0) false)=true):(31:Int)=wrE f n l:=by
 refine jDI h1 h2 ?_
 simpa[qCX,qDU] using h3
theorem qHa {f:Nat→UInt8} (h3:qA1 (decide (8<(f 0).toNat)) true (qA1 (decide (0<(f 0).toNat)) (f 1==0) false)=false):¬(8<(f 0).toNat∨(0<(f 0).toNat∧(f 1==0)=true)):=by
 intro h
 rw[←Bool.not_eq_true] at h3
 exact h3 (by simpa[qCX,qDU] using h)
theorem qQL {q:BytL} {e:Int} {l:UInt64} (h:rsE q e l≠0):rsQ q e l=q∧rsV q e l=0:=⟨if_neg h,if_neg h⟩
theorem qZQ {q:BytL} {e:Int} {l:UInt64} (h:rsE q e l=0):rsQ q e l=qM3 q (1+q.wf 0).toNat∧rsV q e l=smV q.wf:=⟨if_pos h,if_pos h⟩
theorem qXN {q:BytL} (hq:OkB q) (e:Int) (l:UInt64):OkB (rsQ q e l):=by
 unfold rsQ
 split
 ·rename_i h
  obtain⟨a,b,c,d⟩:=qHB h
  exact qMT hq (by omega)
 ·exact hq
theorem qQF {q:BytL} {e:Int} {l:UInt64} {w:World} (h:qCJ (qA2 q) w):qCJ (qA2 (rsQ q e l)) w:=by
 unfold rsQ
 split
 ·rename_i h0
  obtain⟨a,b,c,d⟩:=qHB h0
  exact qI4 (by omega) h
 ·exact h
end Go.Eng
namespace Go.Eng
theorem jBB {q:BytL} {e:Int} {l:UInt64}:(rsQ q e l).wb=q.wb:=by unfold rsQ;split<;>rfl
def qDl (m:Int):UInt64:=UInt64.ofNat (m%18446744073709551616).toNat
theorem qJg {P:Program} {s d:TypeId} {x:Operand} (hs:P.underlying s=some (.int .i64)) (hd:P.underlying d=some (.int .u64)) (m:Int):qB0 P (.convert s d x) [int m] (u64 (qDl m)):=by
 have h:=qDP (x:=x) hs hd m
 have e:(IntKind.u64.wrap m)=((qDl m).toNat:Int):=by
  unfold qDl
  rw[UInt64.toNat_ofNat']
  have h0:IntKind.u64.wrap m=m%18446744073709551616:=by simp[IntKind.wrap,IntKind.signed,IntKind.bits]
  rw[h0]
  omega
 rw[e] at h;exact h
theorem qQt {m:Int} (h:0≤m) (h2:m≤9223372036854775807):(qDl m).toNat=m.toNat:=by
 unfold qDl;rw[UInt64.toNat_ofNat'];omega
theorem qXI {q:BytL} {e:Int} {l:UInt64} (h:e≠0):rsE q e l=e:=if_neg h
theorem qKn (q:BytL) (e:Int) (l:UInt64):(rsV q e l).toNat≤l.toNat:=by
 unfold rsV
 split
 ·rename_i h
  obtain⟨_,_,_,_,h5,_⟩:=qQd (qIK h).2
  rw[UInt64.lt_iff_toNat_lt] at h5
  omega
 ·exact Nat.zero_le _
def qCK (e m:Int):Int:=if m<0 then qBR e 2 else e
def ctV (q:BytL) (e m:Int):Nat:=(rsV q (qCK e m) (qDl m)).toNat
def ctQ (q:BytL) (e m:Int):BytL:=rsQ q (qCK e m) (qDl m)
def ctE (q:BytL) (e m:Int) (z:Nat):Int:=if(ctQ q e m).wn/z<ctV q e m then qBR (rsE q (qCK e m) (qDl m)) 3 else rsE q (qCK e m) (qDl m)
def ctN (q:BytL) (e m:Int) (z:Nat):Nat:=if(ctQ q e m).wn/z<ctV q e m then 0 else ctV q e m
theorem qSp {e m:Int} (h:m<0):qCK e m≠0:=by
 unfold qCK qBR;rw[if_pos h];split<;>omega
theorem jBV {q:BytL} {e m:Int} (h2:m≤9223372036854775807):ctV q e m≤9223372036854775807:=by
 unfold ctV
 by_cases h:m<0
 ·have h1:rsV q (qCK e m) (qDl m)=0:=if_neg (by rw[qXI (qSp h)];exact qSp h)
  rw[h1];exact Nat.zero_le _
 ·have h3:=qKn q (qCK e m) (qDl m)
  rw[qQt (by omega) h2] at h3
  omega
theorem qNT (q:BytL) (e:Int) (l:UInt64):(rsQ q e l).wn≤q.wn:=by
 unfold rsQ
 split
 ·exact Nat.sub_le _ _
 ·exact Nat.le_refl _
theorem qJk (q:BytL) (e m:Int):(ctQ q e m).wn≤q.wn:=qNT _ _ _
def tkE (q:BytL) (e:Int) (n:Nat):Int:=if q.wn<n then qBR e 3 else e
def tkQ (q:BytL) (e:Int) (n:Nat):BytL:=if tkE q e n=0 then qM3 q n else q
theorem qMx {q:BytL} {e:Int} {n:Nat} (h:tkE q e n=0):e=0∧n≤q.wn:=by
 unfold tkE at h
 by_cases h1:q.wn<n
 ·rw[if_pos h1] at h;exact absurd (qIK h).2 (by decide)
 ·rw[if_neg h1] at h;exact⟨h,by omega⟩
theorem qTV {q:BytL} {e:Int} {n:Nat} (h:tkE q e n=0):tkQ q e n=qM3 q n:=if_pos h
theorem qXm {q:BytL} {e:Int} {n:Nat} (h:tkE q e n≠0):tkQ q e n=q:=if_neg h
theorem jAP {q:BytL} (hq:OkB q) (e:Int) (n:Nat):OkB (tkQ q e n):=by
 unfold tkQ
 split
 ·rename_i h;exact qMT hq (qMx h).2
 ·exact hq
theorem qVo {q:BytL} {e:Int} {n:Nat} {w:World} (h:qCJ (qA2 q) w):qCJ (qA2 (tkQ q e n)) w:=by
 unfold tkQ
 split
 ·rename_i h0;exact qI4 (qMx h0).2 h
 ·exact h
theorem jDx {q:BytL} {e:Int} {n:Nat}:(tkQ q e n).wb=q.wb:=by unfold tkQ;split<;>rfl
theorem jA7 (q:BytL) (e:Int) (n:Nat):(tkQ q e n).wn≤q.wn:=by
 unfold tkQ
 split
 ·exact Nat.sub_le _ _
 ·exact Nat.le_refl _
def zA (b:Bool) (n:Nat):Option Addr:=match b with
 |true=>none
 |false=>some ⟨n,0,none⟩
def zV (b:Bool) (n:Nat):Value:=.slice (zA b n) 0 0
def rbN (q:BytL) (e m:Int):Nat:=if tkE (ctQ q e m) (ctE q e m 1) (ctN q e m 1)=0 then ctN q e m 1 else 0
def rbE (q:BytL) (e m:Int):Int:=tkE (ctQ q e m) (ctE q e m 1) (ctN q e m 1)
def rbQ (q:BytL) (e m:Int):BytL:=tkQ (ctQ q e m) (ctE q e m 1) (ctN q e m 1)
end Go.Eng
namespace Go.Eng
theorem qM1 {q:BytL} {e m:Int} {z:Nat} (h:(rsQ q (qCK e m) (qDl m)).wn/z<(rsV q (qCK e m) (qDl m)).toNat):ctE q e m z=qBR (rsE q (qCK e m) (qDl m)) 3∧ctN q e m z=0:=⟨if_pos h,if_pos h⟩
theorem qJm {q:BytL} {e m:Int} {z:Nat} (h:¬(rsQ q (qCK e m) (qDl m)).wn/z<(rsV q (qCK e m) (qDl m)).toNat):ctE q e m z=rsE q (qCK e m) (qDl m)∧ctN q e m z=(rsV q (qCK e m) (qDl m)).toNat:=⟨if_neg h,if_neg h⟩
theorem qQw {q:BytL} (hq:OkB q) (e m:Int):OkB (ctQ q e m):=qXN hq _ _
theorem qJY {q:BytL} {e m:Int} {w:World} (h:qCJ (qA2 q) w):qCJ (qA2 (ctQ q e m)) w:=qQF h
theorem qV0 {q:BytL} {e m:Int}:(ctQ q e m).wb=q.wb:=jBB
theorem jCj (q:BytL) (e m:Int):(rbQ q e m).wn≤q.wn:=Nat.le_trans (jA7 _ _ _) (qJk _ _ _)
theorem jBb {q:BytL} (hq:OkB q) (e m:Int):OkB (rbQ q e m):=jAP (qQw hq e m) _ _
theorem qWt {q:BytL} {e m:Int} {w:World} (h:qCJ (qA2 q) w):qCJ (qA2 (rbQ q e m)) w:=qVo (qJY h)
theorem jDt {q:BytL} {e m:Int}:(rbQ q e m).wb=q.wb:=jDx.trans qV0
end Go.Eng
namespace Go.Eng
def rbZ (q:BytL) (e m:Int):Bool:=if rbE q e m=0 then(ctQ q e m).wa.isNone else true
theorem qXc {q:BytL} {e m:Int} (h:tkE (ctQ q e m) (ctE q e m 1) (ctN q e m 1)≠0):rbN q e m=0∧rbZ q e m=true:=⟨if_neg h,if_neg h⟩
theorem qOH {q:BytL} {e m:Int} (h:tkE (ctQ q e m) (ctE q e m 1) (ctN q e m 1)=0):rbN q e m=ctN q e m 1∧rbZ q e m=(ctQ q e m).wa.isNone:=⟨if_pos h,if_pos h⟩
end Go.Eng
namespace Go.Eng
theorem qNJ {q:BytL} {A:Option Addr} {k:Nat} (hA:q.wa=A):qAJ (qM3 q k)=.slice (qBo A q.wc k 1) (q.wn-k) (q.wc-k):=by subst hA;rfl
end Go.Eng
end
section
namespace Go.Eng
open Go.RowKit Go.WideShapes Go.ChangeShapes Go.ChangeAt Go.Deep
theorem qPA {e x:Int} (h:e≠0):qBR e x=e:=if_neg h
theorem jBt {q:BytL} {e:Int} {n:Nat} (h:e≠0):tkE q e n=e:=by
 unfold tkE;split
 ·exact qPA h
 ·rfl
theorem qND {e m:Int} (h:e≠0):qCK e m=e:=by
 unfold qCK;split
 ·exact qPA h
 ·rfl
theorem qI0 {q:BytL} {e:Int} {l:UInt64} (h:e≠0):rsE q e l=e∧rsV q e l=0:=by
 have h1:=qXI (q:=q) (l:=l) h
 exact⟨h1,if_neg (by rw[h1];exact h)⟩
theorem qYK {q:BytL} {e m:Int} {z:Nat} (h:e≠0):ctE q e m z=e∧ctN q e m z=0:=by
 have h1:qCK e m≠0:=by rw[qND h];exact h
 have h2:=qI0 (q:=q) (l:=qDl m) h1
 have h3:ctV q e m=0:=by unfold ctV;rw[h2.2];rfl
 unfold ctE ctN
 rw[h3,if_neg (Nat.not_lt_zero _),if_neg (Nat.not_lt_zero _),h2.1,qND h]
 exact⟨rfl,rfl⟩
theorem qUs {q:BytL} {e m:Int} (h:e≠0):rbE q e m=e∧rbN q e m=0:=by
 have h1:=qYK (q:=q) (m:=m) (z:=1) h
 have h2:rbE q e m=e:=by unfold rbE;rw[h1.1];exact jBt h
 exact⟨h2,if_neg (show rbE q e m≠0 by rw[h2];exact h)⟩
end Go.Eng
end
section
namespace Go.Eng
theorem qYJ {f:Nat→UInt8} (h:(f 0).toNat≤8):(smV f).toNat=beN (fun k=>f (k+1)) (f 0).toNat (f 0).toNat:=by
 have h1:=qP6 (x:=f 0) (by omega)
 unfold smV
 rw[h1,show 1+(f 0).toNat-1=(f 0).toNat by omega]
 have hlt:beN (fun k=>f (k+1)) (f 0).toNat (f 0).toNat<2^64:=Nat.lt_of_lt_of_le (qXa _ _ _) (by rw[qLw];exact Nat.pow_le_pow_right (by omega) (by omega))
 have h2:(ofN (fun k=>f (k+1)) (f 0).toNat)=N4.ofNat (beN (fun k=>f (k+1)) (f 0).toNat (f 0).toNat):=by
  unfold ofN
  rw[show decide (32<(f 0).toNat)=false from decide_eq_false (by omega)]
 have h3:(N4.ofNat (beN (fun k=>f (k+1)) (f 0).toNat (f 0).toNat)).val=beN (fun k=>f (k+1)) (f 0).toNat (f 0).toNat:=by
  rw[N4.val_ofNat,Nat.mod_eq_of_lt (Nat.lt_trans hlt (by decide))]
 rw[h2]
 generalize N4.ofNat (beN (fun k=>f (k+1)) (f 0).toNat (f 0).toNat)=a at h3
 have ha:=a.a.toNat_lt
 unfold N4.val at h3
 omega
theorem jBE (x:UInt64):(smB x 0).toNat=szU x:=by
 have:=qLS x
 unfold smB
 rw[if_pos rfl,UInt8.toNat_ofNat',Nat.mod_eq_of_lt (by omega)]
theorem jC3 {x:UInt64} (h:0<szU x):0<(smB x 1).toNat:=by
 rw[qO5 x (by omega) (by omega),UInt8.toNat_ofNat',Nat.mod_eq_of_lt (qUN _ _)]
 have h1:=qXM (x:=x) (by omega)
 have h2:=qSR x
 unfold dig
 have hp:0<256^(szU x-1):=Nat.pow_pos (by omega)
 have h3:1≤x.toNat/256^(szU x-1):=(Nat.le_div_iff_mul_le hp).2 (by omega)
 have h4:x.toNat/256^(szU x-1)<256:=by
  rw[Nat.div_lt_iff_lt_mul hp,Nat.mul_comm,←Nat.pow_succ]
  show _ <256^(szU x-1+1)
  rw[show szU x-1+1=szU x by omega]
  exact h2
 rw[Nat.mod_eq_of_lt h4]
 omega
theorem qRJ {x:UInt64} {f:Nat→UInt8} {n:Nat} {l:UInt64} (hf:∀k,k<smN x→f k=smB x k) (hn:smN x≤n) (hl:¬l<x):wrE f n l=0∧smV f=x∧(1+f 0).toNat=smN x:=by
 have hz:=qLS x
 have h0:(f 0).toNat=szU x:=by rw[hf 0 (qFY x).1,jBE]
 have hs:smN x=szU x+1:=rfl
 have hv:smV f=x:=UInt64.toNat_inj.1 (by
  rw[qYJ (by omega),h0]
  have h1:beN (fun k=>f (k+1)) (szU x) (szU x)=qIH (dig x.toNat) (szU x):=qKI fun j hj=>by
   show(f (szU x-1-j+1)).toNat=_
   rw[hf _ (by omega),qO5 x (by omega) (by omega),UInt8.toNat_ofNat',Nat.mod_eq_of_lt (qUN _ _),show szU x-(szU x-1-j+1)=j by omega]
  rw[h1,qNd,Nat.mod_eq_of_lt (qSR x)])
 refine⟨(jAl (by omega) (by omega) ?_ (by rw[hv];exact hl)).symm,hv,by rw[qP6 (by omega)];omega⟩
 rintro(h1|⟨h1,h2⟩)
 ·omega
 ·have h3:=jC3 (x:=x) (by omega)
  rw[←hf 1 (by omega)] at h3
  rw[beq_iff_eq] at h2
  rw[h2] at h3
  exact absurd h3 (by decide)
theorem qOB {x:UInt64} {f:Nat→UInt8} {n:Nat} {l:UInt64} (hf:∀k,k<n→f k=smB x k) (hn:n<smN x):wrE f n l=3:=by
 have hz:=qLS x
 have hs:smN x=szU x+1:=rfl
 refine(jAq ?_).symm
 rcases Nat.eq_zero_or_pos n with h0|h0
 ·exact .inl h0
 ·have h1:(f 0).toNat=szU x:=by rw[hf 0 h0,jBE]
  exact .inr ⟨by omega,by omega⟩
def FwS (Q Q':BytL) (E':Int) (n:Nat) (V:Prop):Prop:=(n≤Q.wn∧E'=0∧Q'.wn+n=Q.wn∧(∀k,Q'.wf k=Q.wf (n+k))∧V)∨(Q.wn<n∧E'=3)
def At (Q:BytL) (n:Nat) (g:Nat→UInt8):Prop:=∀k,k<n→k<Q.wn→Q.wf k=g k
theorem qL7 {Q:BytL} {x l:UInt64} (h:At Q (smN x) (smB x)) (hl:¬l<x):FwS Q (rsQ Q 0 l) (rsE Q 0 l) (smN x) (rsV Q 0 l=x):=by
 rcases Nat.lt_or_ge Q.wn (smN x) with h1|h1
 ·exact .inr ⟨h1,by show qBR 0 _=3;rw[show qBR 0 (wrE Q.wf Q.wn l)=wrE Q.wf Q.wn l from if_pos rfl];exact qOB (fun k hk=>h k (by omega) hk) h1⟩
 ·obtain⟨a,b,c⟩:=qRJ (f:=Q.wf) (n:=Q.wn) (l:=l) (fun k hk=>h k hk (by omega)) h1 hl
  have hE:rsE Q 0 l=0:=by show qBR 0 _=0;rw[a];rfl
  obtain⟨e1,e2⟩:=qZQ hE
  rw[e1,e2,c]
  refine .inl ⟨h1,hE,?_,fun k=>?_,b⟩
  ·show Q.wn-smN x+smN x=_;omega
  ·show Q.wf (k+smN x)=_;rw[Nat.add_comm]
theorem qWD {Q:BytL} {n z:Nat} {m:Int} (hz:0<z) (hm:0≤m) (hm2:m≤9223372036854775807) (hn:n≤m.toNat) (h:At Q (smN (UInt64.ofNat n)) (smB (UInt64.ofNat n))):
  (smN (UInt64.ofNat n)+n*z≤Q.wn∧ctE Q 0 m z=0∧ctN Q 0 m z=n∧(ctQ Q 0 m).wn+smN (UInt64.ofNat n)=Q.wn∧∀k,(ctQ Q 0 m).wf k=Q.wf (smN (UInt64.ofNat n)+k))∨
  (Q.wn<smN (UInt64.ofNat n)+n*z∧ctE Q 0 m z=3∧ctN Q 0 m z=0):=by
 have e1:qCK 0 m=0:=by unfold qCK;rw[if_neg (by omega)]
 have hx:(UInt64.ofNat n).toNat=n:=by rw[UInt64.toNat_ofNat'];omega
 have hl:¬qDl m<UInt64.ofNat n:=by
  rw[UInt64.lt_iff_toNat_lt,hx,qQt hm hm2];omega
 rcases qL7 h hl with⟨h1,h2,h3,h4,h5⟩|⟨h1,h2⟩
 ·have hv:ctV Q 0 m=n:=by unfold ctV;rw[e1,h5,hx]
  have hq:ctQ Q 0 m=rsQ Q 0 (qDl m):=by unfold ctQ;rw[e1]
  rw[←hq] at h3 h4
  by_cases hd:(ctQ Q 0 m).wn/z<n
  ·refine .inr ⟨?_,?_,?_⟩
   ·have:=(Nat.div_lt_iff_lt_mul hz).1 hd
    omega
   ·unfold ctE;rw[hv,if_pos hd,e1,h2];rfl
   ·unfold ctN;rw[hv,if_pos hd]
  ·refine .inl ⟨?_,?_,?_,h3,h4⟩
   ·have:=(Nat.le_div_iff_mul_le hz).1 (Nat.le_of_not_lt hd)
    omega
   ·unfold ctE;rw[hv,if_neg hd,e1,h2]
   ·unfold ctN;rw[hv,if_neg hd]
 ·have hv:ctV Q 0 m=0:=by
   unfold ctV
   rw[e1,(qQL (by rw[h2];decide)).2];rfl
  refine .inr ⟨by omega,?_,?_⟩
  ·unfold ctE;rw[hv,if_neg (Nat.not_lt_zero _),e1,h2]
  ·unfold ctN;rw[hv,if_neg (Nat.not_lt_zero _)]
theorem qWS {Q:BytL} {n m:Nat} {f g:Nat→UInt8} (h:At Q (n+m) (qAs f n g)):At Q n f:=fun k hk hq=>by
 rw[h k (by omega) hq];unfold qAs;rw[if_pos hk]
theorem qZF {Q Q':BytL} {n m:Nat} {f g:Nat→UInt8} (h:At Q (n+m) (qAs f n g)) (hn:Q'.wn+n=Q.wn) (hf:∀k,Q'.wf k=Q.wf (n+k)):At Q' m g:=fun k hk hq=>by
 rw[hf,h _ (by omega) (by omega)]
 unfold qAs
 rw[if_neg (by omega),show n+k-n=k by omega]
theorem qW5 {Q:BytL} {n:Nat} {B:Nat→UInt8} {m:Int} (hm:0≤m) (hm2:m≤9223372036854775807) (hn:n≤m.toNat) (h:At Q (byN n) (byB B n)):
  FwS Q (rbQ Q 0 m) (rbE Q 0 m) (byN n) (rbN Q 0 m=n∧∀k,k<n→(ctQ Q 0 m).wf k=B k):=by
 rcases qWD (z:=1) (by decide) hm hm2 hn (qWS h) with⟨h1,h2,h3,h4,h5⟩|⟨h1,h2,h3⟩
 ·have hat:=qZF h h4 h5
  have hE:tkE (ctQ Q 0 m) (ctE Q 0 m 1) (ctN Q 0 m 1)=0:=by rw[h2,h3];unfold tkE;rw[if_neg (by omega)]
  refine .inl ⟨by unfold byN;omega,hE,?_,fun k=>?_,?_,fun k hk=>hat k hk (by omega)⟩
  ·unfold rbQ byN;rw[qTV hE,h3]
   show(ctQ Q 0 m).wn-n+_=_
   omega
  ·unfold rbQ byN;rw[qTV hE,h3]
   show(ctQ Q 0 m).wf (k+n)=_
   rw[h5];congr 1;omega
  ·rw[(qOH hE).1,h3]
 ·refine .inr ⟨by unfold byN;omega,?_⟩
  unfold rbE;rw[h2,h3];unfold tkE;rw[if_neg (Nat.not_lt_zero _)]
end Go.Eng
namespace Go.Eng
theorem qYi {x:UInt64} {c:Nat} (h:x.toNat/256^c=0) (h2:c≠0→x.toNat/256^(c-1)≠0):c=szU x:=by
 have hp:0<256^c:=Nat.pow_pos (by omega)
 have h3:x.toNat<256^c:=by
  rcases Nat.lt_or_ge x.toNat (256^c) with h4|h4
  ·exact h4
  ·have:=Nat.div_pos h4 hp;omega
 have hl:=qSR x
 rcases Nat.lt_trichotomy c (szU x) with h4|h4|h4
 ·exfalso
  have h5:=qXM (x:=x) (by omega)
  have h6:256^c≤256^(szU x-1):=Nat.pow_le_pow_right (by omega) (by omega)
  omega
 ·exact h4
 ·exfalso
  have h6:256^szU x≤256^(c-1):=Nat.pow_le_pow_right (by omega) (by omega)
  exact h2 (by omega) (Nat.div_eq_of_lt (by omega))
theorem qVn {x c:Nat} {f:Nat→UInt8} (hf:∀k,k<c→f k=UInt8.ofNat (dig x (c-1-k))) (k:Nat) (hk:k<c+1):qAs (fun _=>UInt8.ofNat (x/256^c%256)) 1 f k=UInt8.ofNat (dig x (c+1-1-k)):=by
 unfold qAs
 by_cases h:k<1
 ·rw[if_pos h,show c+1-1-k=c by omega];rfl
 ·rw[if_neg h,hf _ (by omega),show c-1-(k-1)=c+1-1-k by omega]
structure NatL where
 la:Option Addr
 ln:Nat
 lc:Nat
 lb:Nat
 lo:Nat
 lf:Nat→N4
instance:Inhabited NatL:=⟨⟨none,0,0,0,0,fun _=>N4.mk 0 0 0 0⟩⟩
section
open Go.RowKit Go.WideShapes Go.ChangeShapes Go.ChangeAt Go.Deep
variable {H:Type} {enc:TypeId×Value→H} {P:Program}
end
def qDG (D:Grw UInt8):BytL:=⟨gsA D,D.n,gsC D,D.nm,0,D.f⟩
theorem qZP {D:Grw UInt8} (h:D.ok) (hl:D.n≤9223372036854775807):OkB (qDG D):=⟨qYN h,fun h0=>qHN (h.pos h0),hl⟩
theorem qVs {D:Grw UInt8} (h:D.ok) {w:World} (hb:∀b,roO (gsE u8C [u8 0] 1 D)=some b→qAl b w):qCJ (qA2 (qDG D)) w:=fun b hb'=>by
 obtain⟨h0,rfl⟩:=hb'
 have hz:=h.pos h0
 have h1:=hb ⟨D.nm,false,0,spr (D.n+D.r) D.n (fun k=>u8 (D.f k)) (u8 0)⟩ (by rw[qJl,qMK hz];rfl)
 exact⟨qBu h1,rfl⟩
theorem jBC {c:Option Blk}:∀b,roO c=some b→b.own=false:=fun b hb=>by
 cases c with
 |none=>cases hb
 |some x=>injection hb with hb;rw[←hb]
end Go.Eng
end
section
namespace Go.Proofs.YtmdpendnbkajdaaDoor
open Go Go.Eng
abbrev qS5 (a:BytL):=decide (8<(a.wf 0).toNat)
abbrev qQO (a:BytL):=decide ((a.wf 0).toNat≤8)
abbrev jCH (a:BytL):=qA1 (sB (qS5 a) false) (sB (decide (0<(a.wf 0).toNat)) true) false
abbrev qRT (a:BytL):=ptr a.wb (a.wo+0*1)
abbrev qVK (a:BytL):=Value.slice a.wa a.wn a.wc
abbrev qTu:=List (Option Blk)
abbrev jDT (a:BytL):=qA1 (qS5 a) true (qA1 (decide (0<(a.wf 0).toNat)) ((a.wf 1)==0) false)
theorem qKO (b o n c:Nat) (f:Nat→UInt8) (h0:0<n) (hl:n≤140737488355328):qBp TP 21 [(Value.slice (some ⟨b,o,none⟩) n c)] [⟨b,false,o,(qAd n (fun k=>u8 (f k)))⟩] 2 (fun(ns:List Nat)=>(Value.slice (some ⟨(ns.getD 0 0),0,none⟩) (0+n) (0+n+(ns.getD 1 0)))) (fun(ns:List Nat)=>[some ⟨b,false,o,(qAd n (fun k=>u8 (f k)))⟩,some ⟨(ns.getD 0 0),true,0,(spr (0+n+(ns.getD 1 0)) (0+n) (fun k=>u8 (qAs (fun _=>0) 0 f k)) (u8 0))⟩]):=
 qAh mix Tryd.func21 rfl rfl 400 (.reg (rg [.g]) (.reg (rg [.g,.g]) (.no (.regn (rg [(.oth [] 1 1 (fun ns=>vS (some ⟨ns.getD 0 0,0,none⟩) 0 0) (fun ns=>[some ⟨ns.getD 0 0,true,0,(spr (0+0) 0 (fun k=>u8 ((fun _=>0) k)) (u8 0))⟩])),.g,(.oth [(1,false),(0,true)] 2 0 (fun ns=>vS (some ⟨(g0 ns),0,none⟩) (0+n) (0+n+(g1 ns))) (fun ns=>[some ⟨(g0 ns),true,0,(spr (0+n+(g1 ns)) (0+n) (fun k=>u8 (qAs (fun _=>0) 0 f k)) (u8 0))⟩,none])),.g]) (more (fun n1=>more (fun n2=>more (fun n3=>fun _=>.done)))))))) [] [1] rfl
  (Eq.mp (by kernel_rfl) (aI kV1 (aI kV2 (aT (aI (@rfl Bool false) (fun(n1 n2 n3:Nat)=>aI (aI (aT (qKJ (P:=TP) (t:=23) (e:=5) (by kernel_rfl) qIu u8 (fun _=>0))) (sk (aI (aT (qAz.dark [false,true] (qB6 (P:=TP) (t:=23) (ty:=23) (e:=5) (by kernel_rfl) qIu n1 0 0 b o 0 n c u8 (fun _=>0) f (qAd n (fun k=>u8 (f k))) (fun j hj=>by rw[Nat.zero_add];exact qAL hj) (fun _=>rfl) (show(0+n)*1≤140737488355328∧0+n≤9223372036854775807 from by omega)))) kV1))) (aT (eX (fun(ns:List Nat)=>ns.length=2∧((vS (some ⟨n2,0,none⟩) (0+n) (0+n+n3)):Value)=(fun(ns:List Nat)=>(vS (some ⟨(g0 ns),0,none⟩) (0+n) (0+n+(g1 ns)))) ns∧([some ⟨b,false,o,(qAd n (fun k=>u8 (f k)))⟩,some ⟨n2,true,0,(spr (0+n+n3) (0+n) (fun k=>u8 (qAs (fun _=>0) 0 f k)) (u8 0))⟩]:List (Option Blk))=(fun(ns:List Nat)=>[some ⟨b,false,o,(qAd n (fun k=>u8 (f k)))⟩,some ⟨(g0 ns),true,0,(spr (0+n+(g1 ns)) (0+n) (fun k=>u8 (qAs (fun _=>0) 0 f k)) (u8 0))⟩]) ns) [n2,n3] (aI (@rfl Nat 2) (aI (@rfl Value (vS (some ⟨n2,0,none⟩) (0+n) (0+n+n3))) (@rfl (qTu) [some ⟨b,false,o,(qAd n (fun k=>u8 (f k)))⟩,some ⟨n2,true,0,(spr (0+n+n3) (0+n) (fun k=>u8 (qAs (fun _=>0) 0 f k)) (u8 0))⟩])))))))))))
theorem qQ6 (b o n c:Nat) (f:Nat→UInt8) (h0:0<n) (hl:n≤140737488355328):qBp TP 21 [.slice (some ⟨b,o,none⟩) n c] [⟨b,false,o,qAd n (fun k=>u8 (f k))⟩] 2 (fun ns=>.slice (some ⟨ns.getD 0 0,0,none⟩) n (n+ns.getD 1 0)) (fun ns=>[some ⟨b,false,o,qAd n (fun k=>u8 (f k))⟩,some ⟨ns.getD 0 0,true,0,spr (n+ns.getD 1 0) n (fun k=>u8 (f k)) (u8 0)⟩]):=by
 have h:=qKO b o n c f h0 hl
 simp only[Nat.zero_add,qVZ] at h
 exact h
theorem qIp (q:BytL) (hq:OkB q) (h0:0<q.wn) (hl:q.wn≤140737488355328):qAt (qA2 q) TP 21 [qAJ q] [] 2 (fun ns=>.slice (some ⟨ns.getD 0 0,0,none⟩) q.wn (q.wn+ns.getD 1 0)) (fun ns=>[some ⟨ns.getD 0 0,true,0,spr (q.wn+ns.getD 1 0) q.wn (fun k=>u8 (q.wf k)) (u8 0)⟩]):=by
 have e:qAJ q=.slice (some ⟨q.wb,q.wo,none⟩) q.wn q.wc:=by unfold qAJ;rw[hq.ad h0]
 rw[e]
 exact(qQ6 q.wb q.wo q.wn q.wc q.wf h0 hl).famN ⟨h0,rfl⟩
theorem qIS (A:Addr) (c:Nat):qBp TP 21 [(Value.slice (some A) 0 c)] [] 1 (fun(ns:List Nat)=>(Value.slice (some ⟨(ns.getD 0 0),0,none⟩) 0 (0+0))) (fun(ns:List Nat)=>[some ⟨(ns.getD 0 0),true,0,(spr (0+0) 0 (fun k=>u8 ((fun _=>0) k)) (u8 0))⟩]):=
 qAh mix Tryd.func21 rfl rfl 400 (.reg (rg [.g]) (.reg (rg [.g,.g]) (.no (.regn (rg [(.oth [] 1 1 (fun ns=>vS (some ⟨ns.getD 0 0,0,none⟩) 0 0) (fun ns=>[some ⟨ns.getD 0 0,true,0,(spr (0+0) 0 (fun k=>u8 ((fun _=>0) k)) (u8 0))⟩])),.g,(.oth [(0,false)] 1 0 (fun ns=>vS (some ⟨(g0 ns),0,none⟩) 0 (0+0)) (fun ns=>[some ⟨(g0 ns),true,0,(spr (0+0) 0 (fun k=>u8 ((fun _=>0) k)) (u8 0))⟩])),.g]) (more (fun n1=>more (fun n2=>fun _=>.done))))))) [] [0] rfl
  (Eq.mp (by kernel_rfl) (aI kV1 (aI kV2 (aT (aI (@rfl Bool false) (fun(n1 n2:Nat)=>aI (aI (aT (qKJ (P:=TP) (t:=23) (e:=5) (by kernel_rfl) qIu u8 (fun _=>0))) (sk (aI (aT (qAz.dark [false] (qRf (P:=TP) (t:=23) (ty:=23) (e:=5) (by kernel_rfl) qIu n1 (spr (0+0) 0 (fun k=>u8 ((fun _=>0) k)) (u8 0)) (some A) c))) kV1))) (aT (eX (fun(ns:List Nat)=>ns.length=1∧((vS (some ⟨n2,0,none⟩) 0 (0+0)):Value)=(fun(ns:List Nat)=>(vS (some ⟨(g0 ns),0,none⟩) 0 (0+0))) ns∧([some ⟨n2,true,0,(spr (0+0) 0 (fun k=>u8 ((fun _=>0) k)) (u8 0))⟩]:List (Option Blk))=(fun(ns:List Nat)=>[some ⟨(g0 ns),true,0,(spr (0+0) 0 (fun k=>u8 ((fun _=>0) k)) (u8 0))⟩]) ns) [n2] (aI (@rfl Nat 1) (aI (@rfl Value (vS (some ⟨n2,0,none⟩) 0 (0+0))) (@rfl (qTu) [some ⟨n2,true,0,(spr (0+0) 0 (fun k=>u8 ((fun _=>0) k)) (u8 0))⟩])))))))))))
theorem jAV (q:BytL) (hq:OkB q):qAt (qA2 q) TP 69 [qAJ q] [] 0 (fun _=>.tuple #[qG7 (ofN q.wf q.wn),int (ofE q.wn)]) (fun _=>[]):=by
 rcases Nat.eq_zero_or_pos q.wn with h0|h0
 ·have e:qAJ q=.slice q.wa 0 q.wc:=by unfold qAJ;rw[h0]
  rw[e,h0,(qSe q.wf).1,(qSe q.wf).2]
  exact(jAH q.wa q.wc).toF
 ·have e:qAJ q=.slice (some ⟨q.wb,q.wo,none⟩) q.wn q.wc:=by unfold qAJ;rw[hq.ad h0]
  rw[e]
  exact(qX0 q.wb q.wo q.wn q.wc q.wf hq.len).fam ⟨h0,rfl⟩
theorem qN5 (q:BytL) (hq:OkB q) (hl:q.wn≤100000) (h0:0<q.wn) (h8:(q.wf 0).toNat≤8) (h9:(q.wf 0).toNat+1≤q.wn):qAt (qA2 q) TP 51 [(Value.slice q.wa q.wn q.wc)] [] 0 (fun _=>u64 (smV q.wf)) (fun _=>[]):=
 qAm (F:=(qA2 q)) mix Tryd.func51 rfl rfl 400 (.reg (rg [.g]) (.openr (qK5 q) (.regn (rg [.g,.g,(.as (qRT q)),(.ld 0 (.tab 0 0)),(.as (u8 (1+(q.wf 0)))),(.as (vS (qBo q.wa q.wc 1 1) (((1+(q.wf 0)).toNat)-1) (q.wc-1))),(.callF [] 0 0 (fun _=>(vT #[(qG7 (ofN (qM3 (qUR q ((1+(q.wf 0)).toNat)) 1).wf (qM3 (qUR q ((1+(q.wf 0)).toNat)) 1).wn)),(int (ofE (qM3 (qUR q ((1+(q.wf 0)).toNat)) 1).wn))])) (fun _=>[])),.g,.g,.g,.new,(.st 1 (.lit 0)),.g]) (more (fun n1=>fun _=>(.reg (rg [.g,(.ld 1 (.lit 0)),.g]) .done)))))) [] [] rfl
  (have f1:=hq.cap;have f5:(1+q.wf 0).toNat=1+(q.wf 0).toNat:=(qP6 (Nat.le_trans h8 (by decide)));Eq.mp (by kernel_rfl) (aI kV1 (aI (⟨(show 0<q.wn from by omega),rfl⟩:qA2 q (qK5 q)) (fun(n1:Nat)=>aI (sK2 (aI (aT (@qBd TP 23 5 (.tmp 7) (.const (.int .i64 0)) 1 (by kernel_rfl) (by kernel_rfl) q.wb q.wo q.wn q.wc 0 q.wa (hq.ad (show 0<q.wn from by omega)) (show 0<q.wn from by omega))) (aI (aT (aI (show 0<q.wn from by omega) (@rfl Value (qRT q)))) (aI (aT (@qSD TP 5 5 (.const (.int .u8 1)) (.tmp 9) 1 (q.wf 0))) (aI (aT (qPo (P:=TP) (t:=23) (e:=5) (x:=(.tmp 6)) (y:=(.const (.int .i64 1))) (z:=(.tmp 10)) (by kernel_rfl) (sz:=1) (by kernel_rfl) .i64 .u8 q.wa q.wn q.wc 1 (1+(q.wf 0)).toNat (show 1≤(1+(q.wf 0)).toNat∧(1+(q.wf 0)).toNat≤q.wc from by omega))) (aI (aT (qAt.lendP (fun w hF=>qI4 (show 1≤((1+(q.wf 0)).toNat) from by omega) (qQh (show((1+(q.wf 0)).toNat)≤q.wn from by omega) hF)) (fun x hx=>qCw (show 0<(1+(q.wf 0)).toNat-1→0<q.wn from by omega) hx) (jAV (qM3 (qUR q (1+(q.wf 0)).toNat) 1) (qMT (qXJ hq (show((1+(q.wf 0)).toNat)≤q.wn from by omega)) (show 1≤((1+(q.wf 0)).toNat) from by omega))))) (sK4 (aI (aT (ad n1 0)) kV1)))))))) (aI (sk (aI (aT (ad n1 0)) kV1)) (aT (eX (fun(ns:List Nat)=>ns.length=0∧((u64 ((ofN (qM3 (qUR q (1+(q.wf 0)).toNat) 1).wf (qM3 (qUR q (1+(q.wf 0)).toNat) 1).wn).a)):Value)=(fun _=>u64 (smV q.wf)) ns∧([]:List (Option Blk))=(fun _=>[]) ns) [] (aI (@rfl Nat 0) (aI (@rfl Value (u64 (smV q.wf))) (@rfl (qTu) []))))))))))
theorem qSj (q:BytL) (l:UInt64) (hq:OkB q) (hl:q.wn≤100000):qAt (qA2 q) TP 50 [(Value.slice q.wa q.wn q.wc),(u64 l)] [] 0 (fun _=>int (wrE q.wf q.wn l)) (fun _=>[]):=
 qAm (F:=(qA2 q)) mix Tryd.func50 rfl rfl 400 (.reg (rg [.g]) (.reg (rg [.g,(.as (nat q.wn)),(.as (vB (decide (q.wn=0)))),.g]) (.br (.reg (rg [.g]) .done) (.openr (qK5 q) (.reg (rg [.g,(.as (qRT q)),(.ld 0 (.tab 0 0)),(.as (vB (qQO q))),.g,(.opt .g),(.opt (.as (nat q.wn))),(.opt (.as (nat (q.wn-1)))),(.opt .g),(.opt (.as (qRT q))),(.opt (.ld 0 (.tab 0 0))),(.opt (.as (nat (q.wf 0).toNat))),(.opt (.as (vB (decide ((q.wn-1)<(q.wf 0).toNat))))),.pk,.g]) (.br (.reg (rg [.g]) .done) (.openr (qK5 q) (.reg (rg [.g,(.as (qRT q)),(.ld 1 (.tab 0 0)),(.as (vB (qS5 q))),.g,(.opt .g),(.opt (.as (qRT q))),(.opt (.ld 1 (.tab 0 0))),(.opt (.as (vB (decide (0<(q.wf 0).toNat))))),(.opt .g),(.opt .g),(.opt (.as (ptr q.wb (q.wo+1*1)))),(.opt (.ld 1 (.tab 1 0))),(.opt (.as (vB ((q.wf 1)==0)))),(.opt .pk),.pk,.g]) (.br (.reg (rg [.g]) .done) (.reg (rg [.g,(.callF [] 0 0 (fun _=>(u64 (smV q.wf))) (fun _=>[])),.g,(.as (vB (decide (l<(smV q.wf))))),.g]) (.br (.reg (rg [.g]) .done) (.reg (rg [.g]) .done)))))))))))) [] [] rfl
  (have f1:=hq.cap;Eq.mp (by kernel_rfl) (aI kV1 (aI (sk (aI (aT (@qAw TP 23 5 (.tmp 6) (by kernel_rfl) q.wa q.wn q.wc)) (aI (aT (@qEn TP 3 3 (.tmp 7) (.const (.int .i64 0))  q.wn 0)) kV1))) (aT (aI (fun(h1:(decide (q.wn=0))=true)=>have f2:=(oT h1);aI kV1 (aT (eX (fun(ns:List Nat)=>ns.length=0∧((int 3):Value)=(fun _=>int (wrE q.wf q.wn l)) ns∧([]:List (Option Blk))=(fun _=>[]) ns) [] (aI (@rfl Nat 0) (aI ((show(int 3)=int (wrE q.wf q.wn l) from congrArg int (by have hhh1:=h1;first|exact jAq (by omega)|exact qNu (by omega) (by omega) (by assumption)|exact jB9 (by omega) (by omega) (qHa (by assumption)) (by assumption)|exact jAl (by omega) (by omega) (qHa (by assumption)) (by assumption)))) (@rfl (qTu) [])))))) (fun(h1:(decide (q.wn=0))=false)=>have f2:=(oF h1);aI (⟨(show 0<q.wn from by omega),rfl⟩:qA2 q (qK5 q)) (aI (sk (aI (aT (@qBd TP 23 5 (.tmp 10) (.const (.int .i64 0)) 1 (by kernel_rfl) (by kernel_rfl) q.wb q.wo q.wn q.wc 0 q.wa (hq.ad (show 0<q.wn from by omega)) (show 0<q.wn from by omega))) (aI (aT (aI (show 0<q.wn from by omega) (@rfl Value (qRT q)))) (aI (aT (@qZq TP 5 5 (.tmp 12) (.const (.int .u8 8)) (q.wf 0) 8)) (sk (aI (fun(hg:(sB (qQO q) true)=true)=>t2) (aI (fun(hg:(sB (qQO q) true)=true)=>have f3:((q.wf 0).toNat≤8):=(oT (qAo hg));(aI (aI hg tV) (@qAw TP 23 5 (.tmp 15) (by kernel_rfl) q.wa q.wn q.wc))) (aI (fun(hg:(sB (qQO q) true)=true)=>have f3:((q.wf 0).toNat≤8):=(oT (qAo hg));(aI (aI hg tV) (@qAH TP 3 3 (.tmp 16) (.const (.int .i64 1))  q.wn 1 (show 1≤q.wn∧q.wn-1≤9223372036854775807 from by omega)))) (aI (fun(hg:(sB (qQO q) true)=true)=>t2) (aI (fun(hg:(sB (qQO q) true)=true)=>have f3:((q.wf 0).toNat≤8):=(oT (qAo hg));(aI (aI hg tV) (@qBd TP 23 5 (.tmp 18) (.const (.int .i64 0)) 1 (by kernel_rfl) (by kernel_rfl) q.wb q.wo q.wn q.wc 0 q.wa (hq.ad (show 0<q.wn from by omega)) (show 0<q.wn from by omega)))) (aI (fun(hg:(sB (qQO q) true)=true)=>have f3:((q.wf 0).toNat≤8):=(oT (qAo hg));(aI (aI hg tV) (aI (show 0<q.wn from by omega) (@rfl Value (qRT q))))) (aI (fun(hg:(sB (qQO q) true)=true)=>have f3:((q.wf 0).toNat≤8):=(oT (qAo hg));(aI (aI hg tV) (@qKw TP 5 3 (.tmp 20) (by kernel_rfl) (by kernel_rfl) (q.wf 0)))) (aI (fun(hg:(sB (qQO q) true)=true)=>(aI (aI hg (aI hg tV)) (@qAN TP 3 3 (.tmp 17) (.tmp 21)  (q.wn-1) (q.wf 0).toNat))) (aI (aT (aI (fun(hp:(qQO q)=true)=>(qBr hp)) (fun(_:(qQO q)=false)=>tV))) kV1)))))))))))))) (aT (aI (fun(h2:(qA1 (qQO q) (decide ((q.wn-1)<(q.wf 0).toNat)) false)=true)=>have f3:((q.wf 0).toNat≤8):=(oT (qB9 h2));have f4:((q.wn-1)<(q.wf 0).toNat):=(oT (qCg h2));aI kV1 (aT (eX (fun(ns:List Nat)=>ns.length=0∧((int 3):Value)=(fun _=>int (wrE q.wf q.wn l)) ns∧([]:List (Option Blk))=(fun _=>[]) ns) [] (aI (@rfl Nat 0) (aI ((show(int 3)=int (wrE q.wf q.wn l) from congrArg int (by have hhh1:=h1;have hhh2:=h2;first|exact jAq (by omega)|exact qNu (by omega) (by omega) (by assumption)|exact jB9 (by omega) (by omega) (qHa (by assumption)) (by assumption)|exact jAl (by omega) (by omega) (qHa (by assumption)) (by assumption)))) (@rfl (qTu) [])))))) (fun(h2:(qA1 (qQO q) (decide ((q.wn-1)<(q.wf 0).toNat)) false)=false)=>have f3:(¬((q.wf 0).toNat≤8))∨(¬((q.wn-1)<(q.wf 0).toNat)):=(Or.imp (fun h=>(oF h)) (fun h=>(oF h)) (qCA h2));aI (⟨(show 0<q.wn from by omega),rfl⟩:qA2 q (qK5 q)) (aI (sk (aI (aT (@qBd TP 23 5 (.tmp 25) (.const (.int .i64 0)) 1 (by kernel_rfl) (by kernel_rfl) q.wb q.wo q.wn q.wc 0 q.wa (hq.ad (show 0<q.wn from by omega)) (show 0<q.wn from by omega))) (aI (aT (aI (show 0<q.wn from by omega) (@rfl Value (qRT q)))) (aI (aT (@qS2 TP 5 5 (.tmp 27) (.const (.int .u8 8)) (q.wf 0) 8)) (sk (aI (fun(hg:(sB (qS5 q) false)=true)=>t2) (aI (fun(hg:(sB (qS5 q) false)=true)=>have f4:¬(8<(q.wf 0).toNat):=(oF (qBF hg));(aI (aI hg tV) (@qBd TP 23 5 (.tmp 30) (.const (.int .i64 0)) 1 (by kernel_rfl) (by kernel_rfl) q.wb q.wo q.wn q.wc 0 q.wa (hq.ad (show 0<q.wn from by omega)) (show 0<q.wn from by omega)))) (aI (fun(hg:(sB (qS5 q) false)=true)=>have f4:¬(8<(q.wf 0).toNat):=(oF (qBF hg));(aI (aI hg tV) (aI (show 0<q.wn from by omega) (@rfl Value (qRT q))))) (aI (fun(hg:(sB (qS5 q) false)=true)=>(aI (aI hg tV) (@qS2 TP 5 5 (.tmp 32) (.const (.int .u8 0)) (q.wf 0) 0))) (aI (fun(hg:(sB (qS5 q) false)=true)=>(aI (aI hg tV) tV)) (aI (fun(hg:(jCH q)=true)=>t2) (aI (fun(hg:(jCH q)=true)=>have f4:¬(8<(q.wf 0).toNat):=(oF (qBF (qWj hg)));have f5:(0<(q.wf 0).toNat):=(oT (qAo (qVC hg)));(aI (aI hg tV) (@qBd TP 23 5 (.tmp 35) (.const (.int .i64 1)) 1 (by kernel_rfl) (by kernel_rfl) q.wb q.wo q.wn q.wc 1 q.wa (hq.ad (show 0<q.wn from by omega)) (show 1<q.wn from by omega)))) (aI (fun(hg:(jCH q)=true)=>have f4:¬(8<(q.wf 0).toNat):=(oF (qBF (qWj hg)));have f5:(0<(q.wf 0).toNat):=(oT (qAo (qVC hg)));(aI (aI hg tV) (aI (show 1<q.wn from by omega) (@rfl Value (ptr q.wb (q.wo+1*1)))))) (aI (fun(hg:(jCH q)=true)=>(aI (aI hg tV) (@qY4 TP 5 5 (.tmp 37) (.const (.int .u8 0)) (q.wf 1) 0))) (aI (fun(hg:(sB (qS5 q) false)=true)=>(aI hg (aI (fun(hp:(decide (0<(q.wf 0).toNat))=true)=>(qZ0 hg (qBr hp))) (fun(_:(decide (0<(q.wf 0).toNat))=false)=>tV)))) (aI (aT (aI (fun(_:(qS5 q)=true)=>tV) (fun(hp:(qS5 q)=false)=>(qBf hp)))) kV1)))))))))))))))) (aT (aI (fun(h3:(jDT q)=true)=>aI kV1 (aT (eX (fun(ns:List Nat)=>ns.length=0∧((int 31):Value)=(fun _=>int (wrE q.wf q.wn l)) ns∧([]:List (Option Blk))=(fun _=>[]) ns) [] (aI (@rfl Nat 0) (aI ((show(int 31)=int (wrE q.wf q.wn l) from congrArg int (by have hhh1:=h1;have hhh2:=h2;have hhh3:=h3;first|exact jAq (by omega)|exact qNu (by omega) (by omega) (by assumption)|exact jB9 (by omega) (by omega) (qHa (by assumption)) (by assumption)|exact jAl (by omega) (by omega) (qHa (by assumption)) (by assumption)))) (@rfl (qTu) [])))))) (fun(h3:(jDT q)=false)=>have f4:¬(8<(q.wf 0).toNat):=(oF (qFu h3));have f5:(¬(0<(q.wf 0).toNat))∨(((q.wf 1)==0)=false):=(Or.imp (fun h=>(oF h)) (fun h=>h) (qCA (qFf h3)));aI (sk (aI (aT (qN5 q hq (show q.wn≤100000 from by omega) (show 0<q.wn from by omega) (show(q.wf 0).toNat≤8 from by omega) (show(q.wf 0).toNat+1≤q.wn from by omega))) (sk (aI (aT (@qMD TP 30 30 (.tmp 43) (.tmp 44) (smV q.wf) l)) kV1)))) (aT (aI (fun(h4:(decide (l<(smV q.wf)))=true)=>have f6:=(oT h4);aI kV1 (aT (eX (fun(ns:List Nat)=>ns.length=0∧((int 2):Value)=(fun _=>int (wrE q.wf q.wn l)) ns∧([]:List (Option Blk))=(fun _=>[]) ns) [] (aI (@rfl Nat 0) (aI ((show(int 2)=int (wrE q.wf q.wn l) from congrArg int (by have hhh1:=h1;have hhh2:=h2;have hhh3:=h3;have hhh4:=h4;first|exact jAq (by omega)|exact qNu (by omega) (by omega) (by assumption)|exact jB9 (by omega) (by omega) (qHa (by assumption)) (by assumption)|exact jAl (by omega) (by omega) (qHa (by assumption)) (by assumption)))) (@rfl (qTu) [])))))) (fun(h4:(decide (l<(smV q.wf)))=false)=>have f6:=(oF h4);aI kV1 (aT (eX (fun(ns:List Nat)=>ns.length=0∧((int 0):Value)=(fun _=>int (wrE q.wf q.wn l)) ns∧([]:List (Option Blk))=(fun _=>[]) ns) [] (aI (@rfl Nat 0) (aI ((show(int 0)=int (wrE q.wf q.wn l) from congrArg int (by have hhh1:=h1;have hhh2:=h2;have hhh3:=h3;have hhh4:=h4;first|exact jAq (by omega)|exact qNu (by omega) (by omega) (by assumption)|exact jB9 (by omega) (by omega) (qHa (by assumption)) (by assumption)|exact jAl (by omega) (by omega) (qHa (by assumption)) (by assumption)))) (@rfl (qTu) []))))))))))))))))))))))
theorem qGs (r:Nat) (V:Value) (e e2:Int):qBp TP 49 [(ptr r 0),(int e2)] [⟨r,true,0,(.lit [V,(int e)])⟩] 0 (fun _=>Value.tuple #[]) (fun _=>[some ⟨r,true,0,(.lit [V,(int (qBR e e2))])⟩]):=
 qAh mix Tryd.func49 rfl rfl 400 (.reg (rg [.g,.g,.g,(.ld 0 (.lit 1)),.g]) (.br (.reg (rg [.g,.g,.g,.g,(.st 0 (.lit 1))]) .done) .done)) [] [] rfl
  (Eq.mp (by kernel_rfl) (aI (sK3 (aI (aT (ad r 1)) kV1)) (aT (aI (fun(h1:((e:Int)==0)=true)=>aI (sK4 (aI (aT (ad r 1)) tV)) (aT (eX (fun(ns:List Nat)=>ns.length=0∧((vT #[]):Value)=(fun _=>vT #[]) ns∧([some ⟨r,true,0,(.lit [V,(int e2)])⟩]:List (Option Blk))=(fun _=>[some ⟨r,true,0,(.lit [V,(int (qBR e e2))])⟩]) ns) [] (aI (@rfl Nat 0) (aI (@rfl Value (vT #[])) ((show([some ⟨r,true,0,(.lit [V,(int e2)])⟩]:List (Option Blk))=[some ⟨r,true,0,(.lit [V,(int (qBR e e2))])⟩] from by have hhh1:=h1;have hxh1:=(by simpa using h1:_);unfold qBR;first|rw[if_pos (by assumption)]|rw[if_neg (by assumption)]))))))) (fun(h1:((e:Int)==0)=false)=>aT (eX (fun(ns:List Nat)=>ns.length=0∧((vT #[]):Value)=(fun _=>vT #[]) ns∧([some ⟨r,true,0,(.lit [V,(int e)])⟩]:List (Option Blk))=(fun _=>[some ⟨r,true,0,(.lit [V,(int (qBR e e2))])⟩]) ns) [] (aI (@rfl Nat 0) (aI (@rfl Value (vT #[])) ((show([some ⟨r,true,0,(.lit [V,(int e)])⟩]:List (Option Blk))=[some ⟨r,true,0,(.lit [V,(int (qBR e e2))])⟩] from by have hhh1:=h1;have hxh1:=(by simpa using h1:_);unfold qBR;first|rw[if_pos (by assumption)]|rw[if_neg (by assumption)]))))))))))
theorem qCF (r:Nat) (q:BytL) (e:Int) (l:UInt64) (hq:OkB q) (hl:q.wn≤100000):qAt (qA2 q) TP 32 [(ptr r 0),(u64 l)] [⟨r,true,0,(.lit [(Value.slice q.wa q.wn q.wc),(int e)])⟩] 0 (fun _=>u64 (rsV q e l)) (fun _=>[some ⟨r,true,0,(.lit [(qAJ (rsQ q e l)),(int (rsE q e l))])⟩]):=
 qAm (F:=(qA2 q)) mix Tryd.func32 rfl rfl 400 (.reg (rg [.g]) (.reg (rg [.g,.g,.g,.g,(.ld 0 (.lit 0)),.g,(.callF [] 0 0 (fun _=>(int (wrE q.wf q.wn l))) (fun _=>[])),(.call [(0,false)] 0 0 (fun _=>(vT #[])) (fun _=>[some ⟨r,true,0,(.lit [(qVK q),(int (qBR e (wrE q.wf q.wn l)))])⟩]))]) (.reg (rg [.g,.g,.g,(.ld 0 (.lit 1)),.g]) (.br (.reg (rg [.g]) .done) (.reg (rg [.g,.g,.g,(.ld 0 (.lit 0)),(.callF [] 0 0 (fun _=>(u64 (smV q.wf))) (fun _=>[])),.g]) (.openr (qK5 q) (.reg (rg [.g,.g,.g,.g,(.ld 0 (.lit 0)),.g,.g,.g,(.ld 0 (.lit 0)),(.as (qRT q)),(.ld 1 (.tab 0 0)),(.as (u8 (1+(q.wf 0)))),(.as (vS (qBo q.wa q.wc (1+(q.wf 0)).toNat 1) (q.wn-(1+(q.wf 0)).toNat) (q.wc-(1+(q.wf 0)).toNat))),.g,.g,(.st 0 (.lit 0))]) (.reg (rg [.g,.g]) .done)))))))) [] [] rfl
  (have f1:=hq.cap;Eq.mp (by kernel_rfl) (aI kV1 (aI (sK4 (aI (aT (ad r 0)) (sk (aI (aT (qSj q l hq (show q.wn≤100000 from by omega))) (aI (aT (qBp.dark [false] (qGs r (qVK q) e (wrE q.wf q.wn l)))) tV))))) (aI (sK3 (aI (aT (ad r 1)) kV1)) (aT (aI (fun(h1:(((qBR e (wrE q.wf q.wn l)):Int)!=0)=true)=>aI kV1 (aT (eX (fun(ns:List Nat)=>ns.length=0∧((u64 0):Value)=(fun _=>u64 (rsV q e l)) ns∧([some ⟨r,true,0,(.lit [(qVK q),(int (qBR e (wrE q.wf q.wn l)))])⟩]:List (Option Blk))=(fun _=>[some ⟨r,true,0,(.lit [(qAJ (rsQ q e l)),(int (rsE q e l))])⟩]) ns) [] (aI (@rfl Nat 0) (aI ((show(u64 0)=u64 (rsV q e l) from congrArg u64 (by have hh:=h1;rw[(qQL (q:=q) (e:=e) (l:=l) (by have h5:=hh;simp at h5;exact h5)).2]))) ((show([some ⟨r,true,0,(.lit [(vS q.wa q.wn q.wc),(int (qBR e (wrE q.wf q.wn l)))])⟩]:List (Option Blk))=[some ⟨r,true,0,(.lit [(qAJ (rsQ q e l)),(int (rsE q e l))])⟩] from by have hh:=h1;rw[(qQL (q:=q) (e:=e) (l:=l) (by have h5:=hh;simp at h5;exact h5)).1]<;>rfl))))))) (fun(h1:(((qBR e (wrE q.wf q.wn l)):Int)!=0)=false)=>aI (sK3 (aI (aT (ad r 0)) (aI (aT (qN5 q hq (show q.wn≤100000 from by have g0:=(qHB (q:=q) (e:=e) (l:=l) (by have h5:=h1;simp at h5;exact h5));omega) (show 0<q.wn from by have g0:=(qHB (q:=q) (e:=e) (l:=l) (by have h5:=h1;simp at h5;exact h5));omega) (show(q.wf 0).toNat≤8 from by have g0:=(qHB (q:=q) (e:=e) (l:=l) (by have h5:=h1;simp at h5;exact h5));omega) (show(q.wf 0).toNat+1≤q.wn from by have g0:=(qHB (q:=q) (e:=e) (l:=l) (by have h5:=h1;simp at h5;exact h5));omega))) kV1))) ((have g0:=(qHB (q:=q) (e:=e) (l:=l) (by have h5:=h1;simp at h5;exact h5));aI (⟨(show 0<q.wn from by omega),rfl⟩:qA2 q (qK5 q)) (aI (sK4 (aI (aT (ad r 0)) (sK3 (aI (aT (ad r 0)) (aI (aT (@qBd TP 23 5 (.tmp 32) (.const (.int .i64 0)) 1 (by kernel_rfl) (by kernel_rfl) q.wb q.wo q.wn q.wc 0 q.wa (hq.ad (show 0<q.wn from by omega)) (show 0<q.wn from by omega))) (aI (aT (aI (show 0<q.wn from by omega) (@rfl Value (qRT q)))) (aI (aT (@qSD TP 5 5 (.const (.int .u8 1)) (.tmp 34) 1 (q.wf 0))) (aI (aT (qOY (P:=TP) (t:=23) (e:=5) (x:=(.tmp 28)) (y:=(.tmp 35)) (by kernel_rfl) (sz:=1) (by kernel_rfl) .u8 q.wa q.wn q.wc (1+(q.wf 0)).toNat (show(1+(q.wf 0)).toNat≤q.wn∧q.wn≤q.wc from by omega))) (sK2 (aI (aT (ad r 0)) tV)))))))))) (aI kV2 (aT (eX (fun(ns:List Nat)=>ns.length=0∧((u64 (smV q.wf)):Value)=(fun _=>u64 (rsV q e l)) ns∧([some ⟨r,true,0,(.lit [(vS (qBo q.wa q.wc (1+(q.wf 0)).toNat 1) (q.wn-(1+(q.wf 0)).toNat) (q.wc-(1+(q.wf 0)).toNat)),(int (qBR e (wrE q.wf q.wn l)))])⟩]:List (Option Blk))=(fun _=>[some ⟨r,true,0,(.lit [(qAJ (rsQ q e l)),(int (rsE q e l))])⟩]) ns) [] (aI (@rfl Nat 0) (aI ((show(u64 (smV q.wf))=u64 (rsV q e l) from congrArg u64 (by have hh:=h1;rw[(qZQ (q:=q) (e:=e) (l:=l) (by have h5:=hh;simp at h5;exact h5)).2]))) ((show([some ⟨r,true,0,(.lit [(vS (qBo q.wa q.wc (1+(q.wf 0)).toNat 1) (q.wn-(1+(q.wf 0)).toNat) (q.wc-(1+(q.wf 0)).toNat)),(int (qBR e (wrE q.wf q.wn l)))])⟩]:List (Option Blk))=[some ⟨r,true,0,(.lit [(qAJ (rsQ q e l)),(int (rsE q e l))])⟩] from by have hh:=h1;rw[(qZQ (q:=q) (e:=e) (l:=l) (by have h5:=hh;simp at h5;exact h5)).1]<;>rfl)))))))))))))))))
theorem qS1 (r:Nat) (q:BytL) (e:Int):qBp TP 34 [(ptr r 0)] [⟨r,false,0,(.lit [(Value.slice q.wa q.wn q.wc),(int e)])⟩] 0 (fun _=>int (qSk q.wn e)) (fun _=>[some ⟨r,false,0,(.lit [(Value.slice q.wa q.wn q.wc),(int e)])⟩]):=
 qAh mix Tryd.func34 rfl rfl 400 (.reg (rg [.g]) (.reg (rg [.g,.g,.g,(.ld 0 (.lit 1)),.g,.g,(.opt .g),(.opt .g),(.opt .g),(.opt (.ld 0 (.lit 0))),(.opt (.as (nat q.wn))),(.opt (.as (vB (decide (0<q.wn))))),.pk]) (.br (.reg (rg [.g]) .done) (.reg (rg [.g,.g,.g,(.ld 0 (.lit 1)),.g]) .done)))) [] [] rfl
  (Eq.mp (by kernel_rfl) (aI kV1 (aI (sK3 (aI (aT (ad r 1)) (sK2 (aI (fun(hg:(sB ((e:Int)==0) true)=true)=>t2) (aI (fun(hg:(sB ((e:Int)==0) true)=true)=>(aI (aI hg tV) tV)) (aI (fun(hg:(sB ((e:Int)==0) true)=true)=>(aI (aI hg tV) tV)) (aI (fun(hg:(sB ((e:Int)==0) true)=true)=>(aI (aI hg tV) (ad r 0))) (aI (fun(hg:(sB ((e:Int)==0) true)=true)=>have f0:((e:Int)==0)=true:=(qAo hg);(aI (aI hg tV) (@qAw TP 23 5 (.tmp 12) (by kernel_rfl) q.wa q.wn q.wc))) (aI (fun(hg:(sB ((e:Int)==0) true)=true)=>(aI (aI hg tV) (@qA5 TP 3 3 (.tmp 13) (.const (.int .i64 0))  q.wn 0))) (aI (aT (aI (fun(hp:((e:Int)==0)=true)=>(qBr hp)) (fun(_:((e:Int)==0)=false)=>tV))) tV)))))))))) (aT (aI (fun(h1:(qA1 ((e:Int)==0) (decide (0<q.wn)) false)=true)=>have f0:((e:Int)==0)=true:=(qB9 h1);have f1:(0<q.wn):=(oT (qCg h1));aI kV1 (aT (eX (fun(ns:List Nat)=>ns.length=0∧((int 30):Value)=(fun _=>int (qSk q.wn e)) ns∧([some ⟨r,false,0,(.lit [(qVK q),(int e)])⟩]:List (Option Blk))=(fun _=>[some ⟨r,false,0,(.lit [(qVK q),(int e)])⟩]) ns) [] (aI (@rfl Nat 0) (aI ((show(int 30)=int (qSk q.wn e) from congrArg int (by have hhh1:=(by simpa[qDU] using h1:_);unfold qSk;first|rw[if_pos (by omega)]|rw[if_neg (by omega)]))) (@rfl (qTu) [some ⟨r,false,0,(.lit [(qVK q),(int e)])⟩])))))) (fun(h1:(qA1 ((e:Int)==0) (decide (0<q.wn)) false)=false)=>have f0:(((e:Int)==0)=false)∨(¬(0<q.wn)):=(Or.imp (fun h=>h) (fun h=>(oF h)) (qCA h1));aI (sK3 (aI (aT (ad r 1)) kV1)) (aT (eX (fun(ns:List Nat)=>ns.length=0∧((int e):Value)=(fun _=>int (qSk q.wn e)) ns∧([some ⟨r,false,0,(.lit [(qVK q),(int e)])⟩]:List (Option Blk))=(fun _=>[some ⟨r,false,0,(.lit [(qVK q),(int e)])⟩]) ns) [] (aI (@rfl Nat 0) (aI ((show(int e)=int (qSk q.wn e) from congrArg int (by have hhh1:=(by simpa[qDU] using h1:_);unfold qSk;first|rw[if_pos (by omega)]|rw[if_neg (by omega)]))) (@rfl (qTu) [some ⟨r,false,0,(.lit [(qVK q),(int e)])⟩])))))))))))
theorem qYP (q:BytL) (hq:OkB q) (h0:0<q.wn) (hl:q.wn≤140737488355328):qAt (qA2 q) TP 31 [(Value.slice q.wa q.wn q.wc)] [] 3 (fun(ns:List Nat)=>(ptr (ns.getD 0 0) 0)) (fun(ns:List Nat)=>[some ⟨(ns.getD 0 0),true,0,(.lit [(Value.slice (some ⟨(ns.getD 1 0),0,none⟩) q.wn (q.wn+(ns.getD 2 0))),(int 0)])⟩,some ⟨(ns.getD 1 0),true,0,(spr (q.wn+(ns.getD 2 0)) q.wn (fun k=>u8 (q.wf k)) (u8 0))⟩]):=
 qAm (F:=(qA2 q)) mix Tryd.func31 rfl rfl 400 (.reg (rg [.g]) (.regn (rg [.g,(.callF [] 2 1 (fun ns=>vS (some ⟨(g0 ns),0,none⟩) (q.wn) (q.wn+(g1 ns))) (fun ns=>[some ⟨(g0 ns),true,0,(spr (q.wn+(g1 ns)) q.wn (fun k=>u8 (q.wf k)) (u8 0))⟩])),.g,.new,.g]) (more (fun n1=>more (fun n2=>more (fun n3=>fun _=>.done)))))) [] [1,0] rfl
  (Eq.mp (by kernel_rfl) (aI kV1 (fun(n1 n2 n3:Nat)=>aI (sk (aI (aT (qAt.mono (fun x hx=>hx) (qIp q hq (show 0<q.wn from by omega) (show q.wn≤140737488355328 from by omega)))) kV3)) (aT (eX (fun(ns:List Nat)=>ns.length=3∧((ptr n3 0):Value)=(fun(ns:List Nat)=>(ptr (g0 ns) 0)) ns∧([some ⟨n3,true,0,(.lit [(vS (some ⟨n1,0,none⟩) q.wn (q.wn+n2)),(int 0)])⟩,some ⟨n1,true,0,(spr (q.wn+n2) q.wn (fun k=>u8 (q.wf k)) (u8 0))⟩]:List (Option Blk))=(fun(ns:List Nat)=>[some ⟨(g0 ns),true,0,(.lit [(vS (some ⟨(g1 ns),0,none⟩) q.wn (q.wn+(g2 ns))),(int 0)])⟩,some ⟨(g1 ns),true,0,(spr (q.wn+(g2 ns)) q.wn (fun k=>u8 (q.wf k)) (u8 0))⟩]) ns) [n3,n1,n2] (aI (@rfl Nat 3) (aI (@rfl Value (ptr n3 0)) (@rfl (qTu) [some ⟨n3,true,0,(.lit [(vS (some ⟨n1,0,none⟩) q.wn (q.wn+n2)),(int 0)])⟩,some ⟨n1,true,0,(spr (q.wn+n2) q.wn (fun k=>u8 (q.wf k)) (u8 0))⟩]))))))))
def qHF (x:BytL) (y:BytL) (x1:Nat):St:=⟨[(0,.v (vS x.wa x.wn x.wc)),(1,.v (vS y.wa y.wn y.wc)),(5,.v (nat x1))],[],0⟩
def qEl (x:BytL) (y:BytL) (x1:Nat):Prop:=(x1≤x.wn)∧(∀k,k<x1→x.wf k=y.wf k)
def qED (x:BytL) (y:BytL) (x1:Nat):Nat:=x.wn-x1
theorem qMJ (x y:BytL) (hx:OkB x) (hy:OkB y):qAt (qGc x y) TP 12 [(Value.slice x.wa x.wn x.wc),(Value.slice y.wa y.wn y.wc)] [] 0 (fun _=>Value.bool (qCH x.wf x.wn y.wf y.wn)) (fun _=>[]):=
 qAm (F:=(qGc x y)) mix Tryd.func12 rfl rfl 400 (.reg (rg [.g]) (.reg (rg [.g,(.as (nat x.wn)),.g,(.as (nat y.wn)),(.as (vB (!(decide (x.wn=y.wn)))))]) (.br (.reg (rg [.g]) .done) (.reg (rg [.g]) (.inv [0,1,5] [] 0 (qEl x y) (qHF x y) (qED x y) (0:Nat) (fun(x1:Nat)=>(.reg (rg [.g,.g,(.as (nat x.wn)),(.as (vB (decide (x1<x.wn))))]) (.br (.openr (qK5 x) (.openr (qK5 y) (.reg (rg [.g,.g,(.as (ptr x.wb (x.wo+x1*1))),(.ld 0 (.tab x1 0)),.g,.g,(.as (ptr y.wb (y.wo+x1*1))),(.ld 1 (.tab x1 0)),(.as (vB (!((x.wf x1)==(y.wf x1)))))]) (.br (.reg (rg [.g]) .done) (.reg (rg [.g,(.as (nat (x1+1))),.g]) .done))))) (.reg (rg [.g]) .done))))))))) [] [] rfl
  (have f0:=hx.len;have f1:=hy.len;Eq.mp (by kernel_rfl) (aI kV1 (aI (sk (aI (aT (@qAw TP 23 5 (.tmp 6) (by kernel_rfl) x.wa x.wn x.wc)) (sk (aI (aT (@qAw TP 23 5 (.tmp 8) (by kernel_rfl) y.wa y.wn y.wc)) (aI (aT (@qO1 TP 3 3 (.tmp 7) (.tmp 9)  x.wn y.wn)) tV))))) (aT (aI (fun(h1:(!(decide (x.wn=y.wn)))=true)=>have f2:¬(x.wn=y.wn):=(oF (qBh h1));aI kV1 (aT (eX (fun(ns:List Nat)=>ns.length=0∧((vB false):Value)=(fun _=>vB (qCH x.wf x.wn y.wf y.wn)) ns∧([]:List (Option Blk))=(fun _=>[]) ns) [] (aI (@rfl Nat 0) (aI ((show(vB false)=vB (qCH x.wf x.wn y.wf y.wn) from congrArg vB (by first|exact qQn (by omega)|exact qQx (by omega) (qTa (by assumption))))) (@rfl (List (Option Blk)) [])))))) (fun(h1:(!(decide (x.wn=y.wn)))=false)=>have f2:(x.wn=y.wn):=(oT (qAY h1));aI kV1 (aI (show(qEl x y) (0:Nat) from(show(0≤x.wn)∧(∀k,k<0→x.wf k=y.wf k) from by exact⟨by omega,fun k hk=>absurd hk (by omega)⟩)) (aI (@rfl St ((qHF x y) (0:Nat))) (fun(x1:Nat) (hx1:(qEl x y) x1)=>have B0:x1≤x.wn:=hx1.1;have B1:∀k,k<x1→x.wf k=y.wf k:=hx1.2;aI (sK2 (aI (aT (@qAw TP 23 5 (.tmp 12) (by kernel_rfl) x.wa x.wn x.wc)) (aI (aT (@qAN TP 3 3 (.tmp 11) (.tmp 13)  x1 x.wn)) tV))) (aT (aI (fun(h2:(decide (x1<x.wn))=true)=>have f5:=(oT h2);aI (Or.inl ⟨(show 0<x.wn from by omega),rfl⟩:qGc x y (qK5 x)) (aI (Or.inr ⟨(show 0<y.wn from by omega),rfl⟩:qGc x y (qK5 y)) (aI (sK2 (aI (aT (@qBd TP 23 5 (.tmp 17) (.tmp 18) 1 (by kernel_rfl) (by kernel_rfl) x.wb x.wo x.wn x.wc x1 x.wa (hx.ad (show 0<x.wn from by omega)) (show x1<x.wn from by omega))) (aI (aT (aI (show x1<x.wn from by omega) (@rfl Value (ptr x.wb (x.wo+x1*1))))) (sK2 (aI (aT (@qBd TP 23 5 (.tmp 21) (.tmp 22) 1 (by kernel_rfl) (by kernel_rfl) y.wb y.wo y.wn y.wc x1 y.wa (hy.ad (show 0<y.wn from by omega)) (show x1<y.wn from by omega))) (aI (aT (aI (show x1<y.wn from by omega) (@rfl Value (ptr y.wb (y.wo+x1*1))))) (aI (aT (@qZu TP 5 5 (.tmp 20) (.tmp 24) (x.wf x1) (y.wf x1))) tV))))))) (aT (aI (fun(h3:(!((x.wf x1)==(y.wf x1)))=true)=>have f6:((x.wf x1)==(y.wf x1))=false:=(qBh h3);aI kV1 (aT (eX (fun(ns:List Nat)=>ns.length=0∧((vB false):Value)=(fun _=>vB (qCH x.wf x.wn y.wf y.wn)) ns∧([]:List (Option Blk))=(fun _=>[]) ns) [] (aI (@rfl Nat 0) (aI ((show(vB false)=vB (qCH x.wf x.wn y.wf y.wn) from congrArg vB (by first|exact qQn (by omega)|exact qQx (by omega) (qTa (by assumption))))) (@rfl (List (Option Blk)) [])))))) (fun(h3:(!((x.wf x1)==(y.wf x1)))=false)=>have f6:((x.wf x1)==(y.wf x1))=true:=(qAY h3);aI (sk (aI (aT (@qAg TP 3 3 (.tmp 15) (.const (.int .i64 1))  x1 1 (show x1+1≤9223372036854775807 from by omega))) kV1)) ((rnd (qEl x y) (qHF x y) (qED x y) x1 (x1+1:Nat) (show(qEl x y) (x1+1:Nat)∧(qED x y) (x1+1:Nat)<(qED x y) x1 from(show(((x1+1)≤x.wn)∧(∀k,k<(x1+1)→x.wf k=y.wf k))∧(x.wn-(x1+1))<(x.wn-x1) from by exact⟨⟨by omega,qUB B1 (by assumption)⟩,by omega⟩)))))))))) (fun(h2:(decide (x1<x.wn))=false)=>have f5:=(oF h2);aI kV1 (aT (eX (fun(ns:List Nat)=>ns.length=0∧((vB true):Value)=(fun _=>vB (qCH x.wf x.wn y.wf y.wn)) ns∧([]:List (Option Blk))=(fun _=>[]) ns) [] (aI (@rfl Nat 0) (aI ((show(vB true)=vB (qCH x.wf x.wn y.wf y.wn) from congrArg vB (by exact qW4 (by omega) (by omega) B1))) (@rfl (List (Option Blk)) [])))))))))))))))))
abbrev qXh (a:BytL) (b c:Int):=Value.slice ((rsQ a (qCK b c) (qDl c)).wa) ((rsQ a (qCK b c) (qDl c)).wn) ((rsQ a (qCK b c) (qDl c)).wc)
abbrev qM4 (a:BytL) (b c:Int):=rsQ a (qCK b c) (qDl c)
abbrev qRY (a:BytL) (b c:Int):=rsV a (qCK b c) (qDl c)
abbrev qQH (a:BytL):=Value.slice a.wa a.wn a.wc
abbrev qRU (a:BytL) (b c:Int):=tkQ (ctQ a b c) (ctE a b c 1) (ctN a b c 1)
abbrev qL0:=Value.slice none 0 0
abbrev qUP (a:BytL) (b c:Int):=rsE a (qCK b c) (qDl c)
abbrev jAe (a:BytL) (b c:Int):=decide ((((qM4 a b c).wn)/1)<((qRY a b c).toNat))
abbrev jAt (a:BytL) (b c:Int):=tkE (ctQ a b c) (ctE a b c 1) (ctN a b c 1)
theorem qOD (r:Nat) (q:BytL) (e m:Int) (hq:OkB q) (hl:q.wn≤100000) (hm:m≤9223372036854775807):qAt (qA2 q) TP 53 [(ptr r 0),(int m),(int 1)] [⟨r,true,0,(.lit [(Value.slice q.wa q.wn q.wc),(int e)])⟩] 0 (fun _=>nat (ctN q e m 1)) (fun _=>[some ⟨r,true,0,(.lit [(qAJ (ctQ q e m)),(int (ctE q e m 1))])⟩]):=
 qAm (F:=(qA2 q)) mix Tryd.func53 rfl rfl 400 (.reg (rg [.g]) (.reg (rg [.g,.g]) (.br (.reg (rg [.g,(.call [(0,false)] 0 0 (fun _=>(vT #[])) (fun _=>[some ⟨r,true,0,(.lit [(qQH q),(int (qBR e 2))])⟩]))]) (.keep [0,1,2,6,8,9,10,11] [0] 1 (.told ⟨[(0,.v (ptr r 0)),(1,.v (int m)),(2,.v (int 1)),(6,.v (int 0)),(8,.v (int m)),(9,.v (vB (decide ((m:Int)<0)))),(10,.v (ptr r 0)),(11,.v (vT #[]))],[(0,some ⟨r,true,0,(.lit [(qQH q),(int (qCK e m))])⟩)],1⟩ (.reg (rg [.g,.g,(.as (u64 (qDl m))),(.callF [(0,false)] 0 0 (fun _=>(u64 (qRY q e m))) (fun _=>[some ⟨r,true,0,(.lit [(qAJ (qM4 q e m)),(int (qUP q e m))])⟩])),(.as (nat (qRY q e m).toNat)),.g]) (.reg (rg [.g,.g,.g,.g,(.ld 0 (.lit 0)),(.as (nat (qM4 q e m).wn)),.g,(.as (nat ((qM4 q e m).wn/1))),(.as (vB (jAe q e m)))]) (.br (.reg (rg [.g,(.call [(0,false)] 0 0 (fun _=>(vT #[])) (fun _=>[some ⟨r,true,0,(.lit [(qXh q e m),(int (qBR (qUP q e m) 3))])⟩]))]) (.reg (rg [.g]) .done)) (.reg (rg [.g,.g]) .done))))))) (.keep [0,1,2,6,8,9] [0] 1 (.told ⟨[(0,.v (ptr r 0)),(1,.v (int m)),(2,.v (int 1)),(6,.v (int 0)),(8,.v (int m)),(9,.v (vB (decide ((m:Int)<0))))],[(0,some ⟨r,true,0,(.lit [(qQH q),(int (qCK e m))])⟩)],1⟩ (.reg (rg [.g,.g,(.as (u64 (qDl m))),(.callF [(0,false)] 0 0 (fun _=>(u64 (qRY q e m))) (fun _=>[some ⟨r,true,0,(.lit [(qAJ (qM4 q e m)),(int (qUP q e m))])⟩])),(.as (nat (qRY q e m).toNat)),.g]) (.reg (rg [.g,.g,.g,.g,(.ld 0 (.lit 0)),(.as (nat (qM4 q e m).wn)),.g,(.as (nat ((qM4 q e m).wn/1))),(.as (vB (jAe q e m)))]) (.br (.reg (rg [.g,(.call [(0,false)] 0 0 (fun _=>(vT #[])) (fun _=>[some ⟨r,true,0,(.lit [(qXh q e m),(int (qBR (qUP q e m) 3))])⟩]))]) (.reg (rg [.g]) .done)) (.reg (rg [.g,.g]) .done))))))))) [] [] rfl
  (have f1:=hq.cap;have f2:(qRY q e m).toNat≤9223372036854775807:=(jBV hm);Eq.mp (by kernel_rfl) (aI kV1 (aI kV2 (aT (aI (fun(h1:(decide ((m:Int)<0))=true)=>have f3:=(oT h1);aI (sk (aI (aT (qBp.dark [false] (qGs r (qQH q) e 2))) tV)) (aI (show(⟨[(0,.v (ptr r 0)),(1,.v (int m)),(2,.v (int 1)),(6,.v (int 0)),(8,.v (int m)),(9,.v (vB (decide ((m:Int)<0)))),(10,.v (ptr r 0)),(11,.v (vT #[]))],[(0,some ⟨r,true,0,(.lit [(vS q.wa q.wn q.wc),(int (qBR e 2))])⟩)],1⟩:St)=⟨[(0,.v (ptr r 0)),(1,.v (int m)),(2,.v (int 1)),(6,.v (int 0)),(8,.v (int m)),(9,.v (vB (decide ((m:Int)<0)))),(10,.v (ptr r 0)),(11,.v (vT #[]))],[(0,some ⟨r,true,0,(.lit [(vS q.wa q.wn q.wc),(int (qCK e m))])⟩)],1⟩ from by have ee:qBR e 2=qCK e m:=(by unfold qCK;first|rw[if_pos (by omega)]|rw[if_neg (by omega)]);rw[ee]) (aI (sK2 (aI (aT (@qJg TP 3 30 (.tmp 13) (by kernel_rfl) (by kernel_rfl) m)) (aI (aT (qAt.lendP (F':=(qA2 q)) (fun w hF=>hF) (fun x hx=>qCw (show 0<q.wn→0<q.wn from by omega) hx rfl) (qCF r q (qCK e m) (qDl m) hq (show q.wn≤100000 from by omega)))) (aI (aT (@qGi TP 30 3 (.tmp 15) (by kernel_rfl) (by kernel_rfl) (qRY q e m) (show(rsV q (qCK e m) (qDl m)).toNat≤9223372036854775807 from by omega))) kV1)))) (aI (sK4 (aI (aT (ad r 0)) (aI (aT (@qAw TP 23 5 (.tmp 21) (by kernel_rfl) (qM4 q e m).wa (qM4 q e m).wn (qM4 q e m).wc)) (sk (aI (aT (@qC2 TP 3 3 (.tmp 22) (.tmp 23)  (qM4 q e m).wn 1 (show 0<1∧((rsQ q (qCK e m) (qDl m)).wn)≤9223372036854775807 from by have:=qNT  q (qCK e m) (qDl m);omega))) (aI (aT (@qA5 TP 3 3 (.tmp 17) (.tmp 24)  (qRY q e m).toNat ((qM4 q e m).wn/1))) tV)))))) (aT (aI (fun(h2:(jAe q e m)=true)=>have f4:=(oT h2);aI (sk (aI (aT (qBp.dark [false] (qGs r (qXh q e m) (qUP q e m) 3))) tV)) (aI kV1 (aT (eX (fun(ns:List Nat)=>ns.length=0∧((int 0):Value)=(fun _=>nat (ctN q e m 1)) ns∧([some ⟨r,true,0,(.lit [(qXh q e m),(int (qBR (qUP q e m) 3))])⟩]:List (Option Blk))=(fun _=>[some ⟨r,true,0,(.lit [(qAJ (ctQ q e m)),(int (ctE q e m 1))])⟩]) ns) [] (aI (@rfl Nat 0) (aI ((show(int 0)=nat (ctN q e m 1) from by first|rw[(qM1 (by assumption)).2]<;>rfl|rw[(qJm (by assumption)).2]<;>rfl)) ((show([some ⟨r,true,0,(.lit [(vS (rsQ q (qCK e m) (qDl m)).wa (rsQ q (qCK e m) (qDl m)).wn (rsQ q (qCK e m) (qDl m)).wc),(int (qBR (rsE q (qCK e m) (qDl m)) 3))])⟩]:List (Option Blk))=[some ⟨r,true,0,(.lit [(qAJ (ctQ q e m)),(int (ctE q e m 1))])⟩] from by first|(rw[(qM1 (z:=1) (by assumption)).1]<;>rfl)|(rw[(qJm (z:=1) (by assumption)).1]<;>rfl))))))))) (fun(h2:(jAe q e m)=false)=>have f4:=(oF h2);aI kV2 (aT (eX (fun(ns:List Nat)=>ns.length=0∧((nat (qRY q e m).toNat):Value)=(fun _=>nat (ctN q e m 1)) ns∧([some ⟨r,true,0,(.lit [(qXh q e m),(int (qUP q e m))])⟩]:List (Option Blk))=(fun _=>[some ⟨r,true,0,(.lit [(qAJ (ctQ q e m)),(int (ctE q e m 1))])⟩]) ns) [] (aI (@rfl Nat 0) (aI ((show(nat (rsV q (qCK e m) (qDl m)).toNat)=nat (ctN q e m 1) from by first|rw[(qM1 (by assumption)).2]<;>rfl|rw[(qJm (by assumption)).2]<;>rfl)) ((show([some ⟨r,true,0,(.lit [(vS (rsQ q (qCK e m) (qDl m)).wa (rsQ q (qCK e m) (qDl m)).wn (rsQ q (qCK e m) (qDl m)).wc),(int (rsE q (qCK e m) (qDl m)))])⟩]:List (Option Blk))=[some ⟨r,true,0,(.lit [(qAJ (ctQ q e m)),(int (ctE q e m 1))])⟩] from by first|(rw[(qM1 (z:=1) (by assumption)).1]<;>rfl)|(rw[(qJm (z:=1) (by assumption)).1]<;>rfl)))))))))))))) (fun(h1:(decide ((m:Int)<0))=false)=>have f3:=(oF h1);aI (show(⟨[(0,.v (ptr r 0)),(1,.v (int m)),(2,.v (int 1)),(6,.v (int 0)),(8,.v (int m)),(9,.v (vB (decide ((m:Int)<0))))],[(0,some ⟨r,true,0,(.lit [(vS q.wa q.wn q.wc),(int e)])⟩)],1⟩:St)=⟨[(0,.v (ptr r 0)),(1,.v (int m)),(2,.v (int 1)),(6,.v (int 0)),(8,.v (int m)),(9,.v (vB (decide ((m:Int)<0))))],[(0,some ⟨r,true,0,(.lit [(vS q.wa q.wn q.wc),(int (qCK e m))])⟩)],1⟩ from congrArg (fun zz=>(⟨[(0,.v (ptr r 0)),(1,.v (int m)),(2,.v (int 1)),(6,.v (int 0)),(8,.v (int m)),(9,.v (vB (decide ((m:Int)<0))))],[(0,some ⟨r,true,0,(.lit [(vS q.wa q.wn q.wc),(int zz)])⟩)],1⟩:St)) (show e=qCK e m from by unfold qCK;first|rw[if_pos (by omega)]|rw[if_neg (by omega)])) (aI (sK2 (aI (aT (@qJg TP 3 30 (.tmp 13) (by kernel_rfl) (by kernel_rfl) m)) (aI (aT (qAt.lendP (F':=(qA2 q)) (fun w hF=>hF) (fun x hx=>qCw (show 0<q.wn→0<q.wn from by omega) hx rfl) (qCF r q (qCK e m) (qDl m) hq (show q.wn≤100000 from by omega)))) (aI (aT (@qGi TP 30 3 (.tmp 15) (by kernel_rfl) (by kernel_rfl) (qRY q e m) (show(rsV q (qCK e m) (qDl m)).toNat≤9223372036854775807 from by omega))) kV1)))) (aI (sK4 (aI (aT (ad r 0)) (aI (aT (@qAw TP 23 5 (.tmp 21) (by kernel_rfl) (qM4 q e m).wa (qM4 q e m).wn (qM4 q e m).wc)) (sk (aI (aT (@qC2 TP 3 3 (.tmp 22) (.tmp 23)  (qM4 q e m).wn 1 (show 0<1∧((rsQ q (qCK e m) (qDl m)).wn)≤9223372036854775807 from by have:=qNT  q (qCK e m) (qDl m);omega))) (aI (aT (@qA5 TP 3 3 (.tmp 17) (.tmp 24)  (qRY q e m).toNat ((qM4 q e m).wn/1))) tV)))))) (aT (aI (fun(h3:(jAe q e m)=true)=>have f4:=(oT h3);aI (sk (aI (aT (qBp.dark [false] (qGs r (qXh q e m) (qUP q e m) 3))) tV)) (aI kV1 (aT (eX (fun(ns:List Nat)=>ns.length=0∧((int 0):Value)=(fun _=>nat (ctN q e m 1)) ns∧([some ⟨r,true,0,(.lit [(qXh q e m),(int (qBR (qUP q e m) 3))])⟩]:List (Option Blk))=(fun _=>[some ⟨r,true,0,(.lit [(qAJ (ctQ q e m)),(int (ctE q e m 1))])⟩]) ns) [] (aI (@rfl Nat 0) (aI ((show(int 0)=nat (ctN q e m 1) from by first|rw[(qM1 (by assumption)).2]<;>rfl|rw[(qJm (by assumption)).2]<;>rfl)) ((show([some ⟨r,true,0,(.lit [(vS (rsQ q (qCK e m) (qDl m)).wa (rsQ q (qCK e m) (qDl m)).wn (rsQ q (qCK e m) (qDl m)).wc),(int (qBR (rsE q (qCK e m) (qDl m)) 3))])⟩]:List (Option Blk))=[some ⟨r,true,0,(.lit [(qAJ (ctQ q e m)),(int (ctE q e m 1))])⟩] from by first|(rw[(qM1 (z:=1) (by assumption)).1]<;>rfl)|(rw[(qJm (z:=1) (by assumption)).1]<;>rfl))))))))) (fun(h3:(jAe q e m)=false)=>have f4:=(oF h3);aI kV2 (aT (eX (fun(ns:List Nat)=>ns.length=0∧((nat (qRY q e m).toNat):Value)=(fun _=>nat (ctN q e m 1)) ns∧([some ⟨r,true,0,(.lit [(qXh q e m),(int (qUP q e m))])⟩]:List (Option Blk))=(fun _=>[some ⟨r,true,0,(.lit [(qAJ (ctQ q e m)),(int (ctE q e m 1))])⟩]) ns) [] (aI (@rfl Nat 0) (aI ((show(nat (rsV q (qCK e m) (qDl m)).toNat)=nat (ctN q e m 1) from by first|rw[(qM1 (by assumption)).2]<;>rfl|rw[(qJm (by assumption)).2]<;>rfl)) ((show([some ⟨r,true,0,(.lit [(vS (rsQ q (qCK e m) (qDl m)).wa (rsQ q (qCK e m) (qDl m)).wn (rsQ q (qCK e m) (qDl m)).wc),(int (rsE q (qCK e m) (qDl m)))])⟩]:List (Option Blk))=[some ⟨r,true,0,(.lit [(qAJ (ctQ q e m)),(int (ctE q e m 1))])⟩] from by first|(rw[(qM1 (z:=1) (by assumption)).1]<;>rfl)|(rw[(qJm (z:=1) (by assumption)).1]<;>rfl))))))))))))))))))
theorem qVx (r:Nat) (q:BytL) (e:Int) (n:Nat) (hq:OkB q) (hl:q.wn≤100000) (h:tkE q e n≠0):qAt (qA2 q) TP 52 [(ptr r 0),(nat n)] [⟨r,true,0,(.lit [(Value.slice q.wa q.wn q.wc),(int e)])⟩] 0 (fun _=>(Value.slice none 0 0)) (fun _=>[some ⟨r,true,0,(.lit [(qAJ (tkQ q e n)),(int (tkE q e n))])⟩]):=
 qAm (F:=(qA2 q)) mix Tryd.func52 rfl rfl 400 (.reg (rg [.g]) (.reg (rg [.g,.g,.g,(.ld 0 (.lit 0)),(.as (nat q.wn)),.g,(.as (vB (decide (q.wn<n))))]) (.br (.reg (rg [.g,(.call [(0,false)] 0 0 (fun _=>(vT #[])) (fun _=>[some ⟨r,true,0,(.lit [(qQH q),(int (qBR e 3))])⟩]))]) (.keep [0,1,4,6,7,8,9,10,11,12,13,14] [0] 1 (.told ⟨[(0,.v (ptr r 0)),(1,.v (nat n)),(4,.v (qL0)),(6,.v (ptr r 0)),(7,.v (ptr r 0)),(8,.v (ptr r 0)),(9,.v (qQH q)),(10,.v (nat q.wn)),(11,.v (nat n)),(12,.v (vB (decide (q.wn<n)))),(13,.v (ptr r 0)),(14,.v (vT #[]))],[(0,some ⟨r,true,0,(.lit [(qQH q),(int (tkE q e n))])⟩)],1⟩ (.reg (rg [.g,.g,.g,(.ld 0 (.lit 1)),.g]) (.yes (.reg (rg [.g]) .done)))))) (.keep [0,1,4,6,7,8,9,10,11,12] [0] 1 (.told ⟨[(0,.v (ptr r 0)),(1,.v (nat n)),(4,.v (qL0)),(6,.v (ptr r 0)),(7,.v (ptr r 0)),(8,.v (ptr r 0)),(9,.v (qQH q)),(10,.v (nat q.wn)),(11,.v (nat n)),(12,.v (vB (decide (q.wn<n))))],[(0,some ⟨r,true,0,(.lit [(qQH q),(int (tkE q e n))])⟩)],1⟩ (.reg (rg [.g,.g,.g,(.ld 0 (.lit 1)),.g]) (.yes (.reg (rg [.g]) .done)))))))) [] [] rfl
  (have f1:=hq.cap;Eq.mp (by kernel_rfl) (aI kV1 (aI (sK3 (aI (aT (ad r 0)) (aI (aT (@qAw TP 23 5 (.tmp 9) (by kernel_rfl) q.wa q.wn q.wc)) (sk (aI (aT (@qAN TP 3 3 (.tmp 10) (.tmp 11)  q.wn n)) tV))))) (aT (aI (fun(h1:(decide (q.wn<n))=true)=>have f2:=(oT h1);aI (sk (aI (aT (qBp.dark [false] (qGs r (qQH q) e 3))) tV)) (aI (show(⟨[(0,.v (ptr r 0)),(1,.v (nat n)),(4,.v (vS none 0 0)),(6,.v (ptr r 0)),(7,.v (ptr r 0)),(8,.v (ptr r 0)),(9,.v (vS q.wa q.wn q.wc)),(10,.v (nat q.wn)),(11,.v (nat n)),(12,.v (vB (decide (q.wn<n)))),(13,.v (ptr r 0)),(14,.v (vT #[]))],[(0,some ⟨r,true,0,(.lit [(vS q.wa q.wn q.wc),(int (qBR e 3))])⟩)],1⟩:St)=⟨[(0,.v (ptr r 0)),(1,.v (nat n)),(4,.v (vS none 0 0)),(6,.v (ptr r 0)),(7,.v (ptr r 0)),(8,.v (ptr r 0)),(9,.v (vS q.wa q.wn q.wc)),(10,.v (nat q.wn)),(11,.v (nat n)),(12,.v (vB (decide (q.wn<n)))),(13,.v (ptr r 0)),(14,.v (vT #[]))],[(0,some ⟨r,true,0,(.lit [(vS q.wa q.wn q.wc),(int (tkE q e n))])⟩)],1⟩ from by have ee:qBR e 3=tkE q e n:=(by unfold tkE;first|rw[if_pos (by omega)]|rw[if_neg (by omega)]);rw[ee]) (aI (sK3 (aI (aT (ad r 1)) kV1)) ((fun(hp2:(((tkE q e n):Int)!=0)=true)=>aT (aI hp2 (aI kV1 (aT (eX (fun(ns:List Nat)=>ns.length=0∧((qL0):Value)=(fun _=>(qL0)) ns∧([some ⟨r,true,0,(.lit [(qQH q),(int (tkE q e n))])⟩]:List (Option Blk))=(fun _=>[some ⟨r,true,0,(.lit [(qAJ (tkQ q e n)),(int (tkE q e n))])⟩]) ns) [] (aI (@rfl Nat 0) (aI (@rfl Value (qL0)) ((show([some ⟨r,true,0,(.lit [(vS q.wa q.wn q.wc),(int (tkE q e n))])⟩]:List (Option Blk))=[some ⟨r,true,0,(.lit [(qAJ (tkQ q e n)),(int (tkE q e n))])⟩] from by rw[qXm h]<;>rfl))))))))) (show(((tkE q e n):Int)!=0)=true from by simpa using h))))) (fun(h1:(decide (q.wn<n))=false)=>have f2:=(oF h1);aI (show(⟨[(0,.v (ptr r 0)),(1,.v (nat n)),(4,.v (vS none 0 0)),(6,.v (ptr r 0)),(7,.v (ptr r 0)),(8,.v (ptr r 0)),(9,.v (vS q.wa q.wn q.wc)),(10,.v (nat q.wn)),(11,.v (nat n)),(12,.v (vB (decide (q.wn<n))))],[(0,some ⟨r,true,0,(.lit [(vS q.wa q.wn q.wc),(int e)])⟩)],1⟩:St)=⟨[(0,.v (ptr r 0)),(1,.v (nat n)),(4,.v (vS none 0 0)),(6,.v (ptr r 0)),(7,.v (ptr r 0)),(8,.v (ptr r 0)),(9,.v (vS q.wa q.wn q.wc)),(10,.v (nat q.wn)),(11,.v (nat n)),(12,.v (vB (decide (q.wn<n))))],[(0,some ⟨r,true,0,(.lit [(vS q.wa q.wn q.wc),(int (tkE q e n))])⟩)],1⟩ from congrArg (fun zz=>(⟨[(0,.v (ptr r 0)),(1,.v (nat n)),(4,.v (vS none 0 0)),(6,.v (ptr r 0)),(7,.v (ptr r 0)),(8,.v (ptr r 0)),(9,.v (vS q.wa q.wn q.wc)),(10,.v (nat q.wn)),(11,.v (nat n)),(12,.v (vB (decide (q.wn<n))))],[(0,some ⟨r,true,0,(.lit [(vS q.wa q.wn q.wc),(int zz)])⟩)],1⟩:St)) (show e=tkE q e n from by unfold tkE;first|rw[if_pos (by omega)]|rw[if_neg (by omega)])) (aI (sK3 (aI (aT (ad r 1)) kV1)) ((fun(hp3:(((tkE q e n):Int)!=0)=true)=>aT (aI hp3 (aI kV1 (aT (eX (fun(ns:List Nat)=>ns.length=0∧((qL0):Value)=(fun _=>(qL0)) ns∧([some ⟨r,true,0,(.lit [(qQH q),(int (tkE q e n))])⟩]:List (Option Blk))=(fun _=>[some ⟨r,true,0,(.lit [(qAJ (tkQ q e n)),(int (tkE q e n))])⟩]) ns) [] (aI (@rfl Nat 0) (aI (@rfl Value (qL0)) ((show([some ⟨r,true,0,(.lit [(vS q.wa q.wn q.wc),(int (tkE q e n))])⟩]:List (Option Blk))=[some ⟨r,true,0,(.lit [(qAJ (tkQ q e n)),(int (tkE q e n))])⟩] from by rw[qXm h]<;>rfl))))))))) (show(((tkE q e n):Int)!=0)=true from by simpa using h)))))))))
theorem qWl (r:Nat) (q:BytL) (e:Int) (n:Nat) (hq:OkB q) (hl:q.wn≤100000) (h:tkE q e n=0) (h0:0<n):qAt (qA2 q) TP 52 [(ptr r 0),(nat n)] [⟨r,true,0,(.lit [(Value.slice q.wa q.wn q.wc),(int e)])⟩] 2 (fun(ns:List Nat)=>(Value.slice (some ⟨(ns.getD 0 0),0,none⟩) n (n+(ns.getD 1 0)))) (fun(ns:List Nat)=>[some ⟨r,true,0,(.lit [(qAJ (tkQ q e n)),(int (tkE q e n))])⟩,some ⟨(ns.getD 0 0),true,0,(spr (n+(ns.getD 1 0)) n (fun k=>u8 (q.wf k)) (u8 0))⟩]):=
 qAm (F:=(qA2 q)) mix Tryd.func52 rfl rfl 400 (.reg (rg [.g]) (.reg (rg [.g,.g,.g,(.ld 0 (.lit 0)),(.as (nat q.wn)),.g,(.as (vB (decide (q.wn<n))))]) (.no (.keep [0,1,4,6,7,8,9,10,11,12] [0] 1 (.told ⟨[(0,.v (ptr r 0)),(1,.v (nat n)),(4,.v (qL0)),(6,.v (ptr r 0)),(7,.v (ptr r 0)),(8,.v (ptr r 0)),(9,.v (qQH q)),(10,.v (nat q.wn)),(11,.v (nat n)),(12,.v (vB (decide (q.wn<n))))],[(0,some ⟨r,true,0,(.lit [(qQH q),(int (tkE q e n))])⟩)],1⟩ (.reg (rg [.g,.g,.g,(.ld 0 (.lit 1)),.g]) (.no (.regn (rg [.g,.g,.g,(.ld 0 (.lit 0)),.g,(.as (vS q.wa n q.wc)),(.callF [] 2 1 (fun ns=>vS (some ⟨(g0 ns),0,none⟩) n (n+(g1 ns))) (fun ns=>[some ⟨(g0 ns),true,0,(spr (n+(g1 ns)) n (fun k=>u8 (q.wf k)) (u8 0))⟩])),.g]) (more (fun n1=>more (fun n2=>fun _=>(.reg (rg [.g,.g,.g,.g,(.ld 0 (.lit 0)),.g,(.as (vS (qBo q.wa q.wc n 1) (q.wn-n) (q.wc-n))),.g,.g,(.st 0 (.lit 0))]) (.reg (rg [.g,.g]) .done))))))))))))) [] [1] rfl
  (have f1:=hq.cap;have f3:n≤q.wn:=(qMx h).2;Eq.mp (by kernel_rfl) (aI kV1 (aI (sK3 (aI (aT (ad r 0)) (aI (aT (@qAw TP 23 5 (.tmp 9) (by kernel_rfl) q.wa q.wn q.wc)) (sk (aI (aT (@qAN TP 3 3 (.tmp 10) (.tmp 11)  q.wn n)) tV))))) ((fun(hp1:(decide (q.wn<n))=false)=>have f4:=(oF hp1);aT (aI hp1 (aI (show(⟨[(0,.v (ptr r 0)),(1,.v (nat n)),(4,.v (vS none 0 0)),(6,.v (ptr r 0)),(7,.v (ptr r 0)),(8,.v (ptr r 0)),(9,.v (vS q.wa q.wn q.wc)),(10,.v (nat q.wn)),(11,.v (nat n)),(12,.v (vB (decide (q.wn<n))))],[(0,some ⟨r,true,0,(.lit [(vS q.wa q.wn q.wc),(int e)])⟩)],1⟩:St)=⟨[(0,.v (ptr r 0)),(1,.v (nat n)),(4,.v (vS none 0 0)),(6,.v (ptr r 0)),(7,.v (ptr r 0)),(8,.v (ptr r 0)),(9,.v (vS q.wa q.wn q.wc)),(10,.v (nat q.wn)),(11,.v (nat n)),(12,.v (vB (decide (q.wn<n))))],[(0,some ⟨r,true,0,(.lit [(vS q.wa q.wn q.wc),(int (tkE q e n))])⟩)],1⟩ from congrArg (fun zz=>(⟨[(0,.v (ptr r 0)),(1,.v (nat n)),(4,.v (vS none 0 0)),(6,.v (ptr r 0)),(7,.v (ptr r 0)),(8,.v (ptr r 0)),(9,.v (vS q.wa q.wn q.wc)),(10,.v (nat q.wn)),(11,.v (nat n)),(12,.v (vB (decide (q.wn<n))))],[(0,some ⟨r,true,0,(.lit [(vS q.wa q.wn q.wc),(int zz)])⟩)],1⟩:St)) (show e=tkE q e n from by unfold tkE;first|rw[if_pos (by omega)]|rw[if_neg (by omega)])) (aI (sK3 (aI (aT (ad r 1)) kV1)) ((fun(hp2:(((tkE q e n):Int)!=0)=false)=>aT (aI hp2 (fun(n1 n2:Nat)=>aI (sK3 (aI (aT (ad r 0)) (sk (aI (aT (@qH4 TP 23 5 (.tmp 23) (.tmp 24) (by kernel_rfl) 1 (by kernel_rfl) q.wa q.wn q.wc n (show n≤q.wc from by omega))) (aI (aT (qAt.lendP (F':=(qA2 q)) (fun w hF=>(qQh (show n≤q.wn from by omega) hF)) (fun x hx=>qCw (show 0<n→0<q.wn from by omega) hx (show(qUR q n).wb=_ from rfl)) (qIp (qUR q n) (qXJ hq (show n≤q.wn from by omega)) (show 0<n from by omega) (show n≤140737488355328 from by omega)))) kV1))))) (aI (sK4 (aI (aT (ad r 0)) (sk (aI (aT (@qFa TP 23 5 (.tmp 31) (.tmp 32) (by kernel_rfl) 1 (by kernel_rfl) q.wa q.wn q.wc n (show n≤q.wn∧q.wn≤q.wc from by omega))) (sK2 (aI (aT (ad r 0)) tV)))))) (aI kV2 (aT (eX (fun(ns:List Nat)=>ns.length=2∧((vS (some ⟨n1,0,none⟩) n (n+n2)):Value)=(fun(ns:List Nat)=>(vS (some ⟨(g0 ns),0,none⟩) n (n+(g1 ns)))) ns∧([some ⟨r,true,0,(.lit [(vS (qBo q.wa q.wc n 1) (q.wn-n) (q.wc-n)),(int (tkE q e n))])⟩,some ⟨n1,true,0,(spr (n+n2) n (fun k=>u8 (q.wf k)) (u8 0))⟩]:List (Option Blk))=(fun(ns:List Nat)=>[some ⟨r,true,0,(.lit [(qAJ (tkQ q e n)),(int (tkE q e n))])⟩,some ⟨(g0 ns),true,0,(spr (n+(g1 ns)) n (fun k=>u8 (q.wf k)) (u8 0))⟩]) ns) [n1,n2] (aI (@rfl Nat 2) (aI (@rfl Value (vS (some ⟨n1,0,none⟩) n (n+n2))) ((show([some ⟨r,true,0,(.lit [(vS (qBo q.wa q.wc n 1) (q.wn-n) (q.wc-n)),(int (tkE q e n))])⟩,some ⟨n1,true,0,(spr (n+n2) n (fun k=>u8 (q.wf k)) (u8 0))⟩]:List (Option Blk))=[some ⟨r,true,0,(.lit [(qAJ (tkQ q e n)),(int (tkE q e n))])⟩,some ⟨n1,true,0,(spr (n+n2) n (fun k=>u8 (q.wf k)) (u8 0))⟩] from by rw[qTV h]<;>rfl))))))))))) (show(((tkE q e n):Int)!=0)=false from by simpa using h)))))) (show(decide (q.wn<n))=false from by simp only[qDU,qCX,Bool.or_eq_true,Bool.or_eq_false_iff,Bool.and_eq_true,Bool.and_eq_false_iff,decide_eq_true_eq,decide_eq_false_iff_not];omega)))))
theorem qGU (c:Nat):qEs TP 21 [(Value.slice none 0 c)] (Value.slice none 0 0):=
 qAj mix Tryd.func21 rfl rfl 400 (.reg (rg [.g]) (.reg (rg [.g,.g]) (.yes (.reg (rg [.g]) .done)))) []
  (Eq.mp (by kernel_rfl) (aI kV1 (aI kV2 (aT (aI (@rfl Bool true) (aI kV1 (aT (@rfl Value (qL0)))))))))
theorem qYQ (r:Nat) (q:BytL) (e:Int) (hq:OkB q) (hl:q.wn≤100000) (hA:q.wa=none) (h:tkE q e 0=0):qAt (qA2 q) TP 52 [(ptr r 0),(int 0)] [⟨r,true,0,(.lit [(Value.slice none q.wn q.wc),(int e)])⟩] 0 (fun _=>(Value.slice none 0 0)) (fun _=>[some ⟨r,true,0,(.lit [(qAJ (tkQ q e 0)),(int (tkE q e 0))])⟩]):=
 qAm (F:=(qA2 q)) mix Tryd.func52 rfl rfl 400 (.reg (rg [.g]) (.reg (rg [.g,.g,.g,(.ld 0 (.lit 0)),(.as (nat q.wn)),.g,(.as (vB (decide (q.wn<0))))]) (.no (.keep [0,1,4,6,7,8,9,10,11,12] [0] 1 (.told ⟨[(0,.v (ptr r 0)),(1,.v (int 0)),(4,.v (qL0)),(6,.v (ptr r 0)),(7,.v (ptr r 0)),(8,.v (ptr r 0)),(9,.v (vS none q.wn q.wc)),(10,.v (nat q.wn)),(11,.v (int 0)),(12,.v (vB (decide (q.wn<0))))],[(0,some ⟨r,true,0,(.lit [(vS none q.wn q.wc),(int (tkE q e 0))])⟩)],1⟩ (.reg (rg [.g,.g,.g,(.ld 0 (.lit 1)),.g]) (.no (.reg (rg [.g,.g,.g,(.ld 0 (.lit 0)),.g,(.as (vS none 0 q.wc)),(.call [] 0 0 (fun _=>(qL0)) (fun _=>[])),.g]) (.reg (rg [.g,.g,.g,.g,(.ld 0 (.lit 0)),.g,(.as (vS (qBo none q.wc 0 1) (q.wn-0) (q.wc-0))),.g,.g,(.st 0 (.lit 0))]) (.reg (rg [.g,.g]) .done)))))))))) [] [] rfl
  (have f1:=hq.cap;Eq.mp (by kernel_rfl) (aI kV1 (aI (sK3 (aI (aT (ad r 0)) (aI (aT (@qAw TP 23 5 (.tmp 9) (by kernel_rfl) none q.wn q.wc)) (sk (aI (aT (@qAN TP 3 3 (.tmp 10) (.tmp 11)  q.wn 0)) tV))))) ((fun(hp1:(decide (q.wn<0))=false)=>have f2:=(oF hp1);aT (aI hp1 (aI (show(⟨[(0,.v (ptr r 0)),(1,.v (int 0)),(4,.v (vS none 0 0)),(6,.v (ptr r 0)),(7,.v (ptr r 0)),(8,.v (ptr r 0)),(9,.v (vS none q.wn q.wc)),(10,.v (nat q.wn)),(11,.v (int 0)),(12,.v (vB (decide (q.wn<0))))],[(0,some ⟨r,true,0,(.lit [(vS none q.wn q.wc),(int e)])⟩)],1⟩:St)=⟨[(0,.v (ptr r 0)),(1,.v (int 0)),(4,.v (vS none 0 0)),(6,.v (ptr r 0)),(7,.v (ptr r 0)),(8,.v (ptr r 0)),(9,.v (vS none q.wn q.wc)),(10,.v (nat q.wn)),(11,.v (int 0)),(12,.v (vB (decide (q.wn<0))))],[(0,some ⟨r,true,0,(.lit [(vS none q.wn q.wc),(int (tkE q e 0))])⟩)],1⟩ from congrArg (fun zz=>(⟨[(0,.v (ptr r 0)),(1,.v (int 0)),(4,.v (vS none 0 0)),(6,.v (ptr r 0)),(7,.v (ptr r 0)),(8,.v (ptr r 0)),(9,.v (vS none q.wn q.wc)),(10,.v (nat q.wn)),(11,.v (int 0)),(12,.v (vB (decide (q.wn<0))))],[(0,some ⟨r,true,0,(.lit [(vS none q.wn q.wc),(int zz)])⟩)],1⟩:St)) (show e=tkE q e 0 from by unfold tkE;first|rw[if_pos (by omega)]|rw[if_neg (by omega)])) (aI (sK3 (aI (aT (ad r 1)) kV1)) ((fun(hp2:(((tkE q e 0):Int)!=0)=false)=>aT (aI hp2 (aI (sK3 (aI (aT (ad r 0)) (sk (aI (aT (@qH4 TP 23 5 (.tmp 23) (.tmp 24) (by kernel_rfl) 1 (by kernel_rfl) none q.wn q.wc 0 (show 0≤q.wc from by omega))) (aI (aT (qGU q.wc)) kV1))))) (aI (sK4 (aI (aT (ad r 0)) (sk (aI (aT (@qFa TP 23 5 (.tmp 31) (.tmp 32) (by kernel_rfl) 1 (by kernel_rfl) none q.wn q.wc 0 (show 0≤q.wn∧q.wn≤q.wc from by omega))) (sK2 (aI (aT (ad r 0)) tV)))))) (aI kV2 (aT (eX (fun(ns:List Nat)=>ns.length=0∧((qL0):Value)=(fun _=>(qL0)) ns∧([some ⟨r,true,0,(.lit [(vS (qBo none q.wc 0 1) (q.wn-0) (q.wc-0)),(int (tkE q e 0))])⟩]:List (Option Blk))=(fun _=>[some ⟨r,true,0,(.lit [(qAJ (tkQ q e 0)),(int (tkE q e 0))])⟩]) ns) [] (aI (@rfl Nat 0) (aI (@rfl Value (qL0)) ((show([some ⟨r,true,0,(.lit [(vS (qBo none q.wc 0 1) (q.wn-0) (q.wc-0)),(int (tkE q e 0))])⟩]:List (Option Blk))=[some ⟨r,true,0,(.lit [(qAJ (tkQ q e 0)),(int (tkE q e 0))])⟩] from by rw[qTV h,qNJ hA]<;>rfl))))))))))) (show(((tkE q e 0):Int)!=0)=false from by simpa using h)))))) (show(decide (q.wn<0))=false from by simp only[qDU,qCX,Bool.or_eq_true,Bool.or_eq_false_iff,Bool.and_eq_true,Bool.and_eq_false_iff,decide_eq_true_eq,decide_eq_false_iff_not];omega)))))
theorem qZg (r:Nat) (q:BytL) (e:Int) (A:Addr) (hq:OkB q) (hl:q.wn≤100000) (hA:q.wa=some A) (h:tkE q e 0=0):qAt (qA2 q) TP 52 [(ptr r 0),(int 0)] [⟨r,true,0,(.lit [(Value.slice (some A) q.wn q.wc),(int e)])⟩] 1 (fun(ns:List Nat)=>(Value.slice (some ⟨(ns.getD 0 0),0,none⟩) 0 (0+0))) (fun(ns:List Nat)=>[some ⟨r,true,0,(.lit [(qAJ (tkQ q e 0)),(int (tkE q e 0))])⟩,some ⟨(ns.getD 0 0),true,0,(spr (0+0) 0 (fun k=>u8 ((fun _=>0) k)) (u8 0))⟩]):=
 qAm (F:=(qA2 q)) mix Tryd.func52 rfl rfl 400 (.reg (rg [.g]) (.reg (rg [.g,.g,.g,(.ld 0 (.lit 0)),(.as (nat q.wn)),.g,(.as (vB (decide (q.wn<0))))]) (.no (.keep [0,1,4,6,7,8,9,10,11,12] [0] 1 (.told ⟨[(0,.v (ptr r 0)),(1,.v (int 0)),(4,.v (qL0)),(6,.v (ptr r 0)),(7,.v (ptr r 0)),(8,.v (ptr r 0)),(9,.v (vS (some A) q.wn q.wc)),(10,.v (nat q.wn)),(11,.v (int 0)),(12,.v (vB (decide (q.wn<0))))],[(0,some ⟨r,true,0,(.lit [(vS (some A) q.wn q.wc),(int (tkE q e 0))])⟩)],1⟩ (.reg (rg [.g,.g,.g,(.ld 0 (.lit 1)),.g]) (.no (.regn (rg [.g,.g,.g,(.ld 0 (.lit 0)),.g,(.as (vS (some A) 0 q.wc)),(.call [] 1 1 (fun ns=>vS (some ⟨(g0 ns),0,none⟩) 0 (0+0)) (fun ns=>[some ⟨(g0 ns),true,0,(spr (0+0) 0 (fun k=>u8 ((fun _=>0) k)) (u8 0))⟩])),.g]) (more (fun n1=>fun _=>(.reg (rg [.g,.g,.g,.g,(.ld 0 (.lit 0)),.g,(.as (vS (qBo (some A) q.wc 0 1) (q.wn-0) (q.wc-0))),.g,.g,(.st 0 (.lit 0))]) (.reg (rg [.g,.g]) .done)))))))))))) [] [1] rfl
  (have f1:=hq.cap;Eq.mp (by kernel_rfl) (aI kV1 (aI (sK3 (aI (aT (ad r 0)) (aI (aT (@qAw TP 23 5 (.tmp 9) (by kernel_rfl) (some A) q.wn q.wc)) (sk (aI (aT (@qAN TP 3 3 (.tmp 10) (.tmp 11)  q.wn 0)) tV))))) ((fun(hp1:(decide (q.wn<0))=false)=>have f2:=(oF hp1);aT (aI hp1 (aI (show(⟨[(0,.v (ptr r 0)),(1,.v (int 0)),(4,.v (vS none 0 0)),(6,.v (ptr r 0)),(7,.v (ptr r 0)),(8,.v (ptr r 0)),(9,.v (vS (some A) q.wn q.wc)),(10,.v (nat q.wn)),(11,.v (int 0)),(12,.v (vB (decide (q.wn<0))))],[(0,some ⟨r,true,0,(.lit [(vS (some A) q.wn q.wc),(int e)])⟩)],1⟩:St)=⟨[(0,.v (ptr r 0)),(1,.v (int 0)),(4,.v (vS none 0 0)),(6,.v (ptr r 0)),(7,.v (ptr r 0)),(8,.v (ptr r 0)),(9,.v (vS (some A) q.wn q.wc)),(10,.v (nat q.wn)),(11,.v (int 0)),(12,.v (vB (decide (q.wn<0))))],[(0,some ⟨r,true,0,(.lit [(vS (some A) q.wn q.wc),(int (tkE q e 0))])⟩)],1⟩ from congrArg (fun zz=>(⟨[(0,.v (ptr r 0)),(1,.v (int 0)),(4,.v (vS none 0 0)),(6,.v (ptr r 0)),(7,.v (ptr r 0)),(8,.v (ptr r 0)),(9,.v (vS (some A) q.wn q.wc)),(10,.v (nat q.wn)),(11,.v (int 0)),(12,.v (vB (decide (q.wn<0))))],[(0,some ⟨r,true,0,(.lit [(vS (some A) q.wn q.wc),(int zz)])⟩)],1⟩:St)) (show e=tkE q e 0 from by unfold tkE;first|rw[if_pos (by omega)]|rw[if_neg (by omega)])) (aI (sK3 (aI (aT (ad r 1)) kV1)) ((fun(hp2:(((tkE q e 0):Int)!=0)=false)=>aT (aI hp2 (fun(n1:Nat)=>aI (sK3 (aI (aT (ad r 0)) (sk (aI (aT (@qH4 TP 23 5 (.tmp 23) (.tmp 24) (by kernel_rfl) 1 (by kernel_rfl) (some A) q.wn q.wc 0 (show 0≤q.wc from by omega))) (aI (aT (qIS A q.wc)) kV1))))) (aI (sK4 (aI (aT (ad r 0)) (sk (aI (aT (@qFa TP 23 5 (.tmp 31) (.tmp 32) (by kernel_rfl) 1 (by kernel_rfl) (some A) q.wn q.wc 0 (show 0≤q.wn∧q.wn≤q.wc from by omega))) (sK2 (aI (aT (ad r 0)) tV)))))) (aI kV2 (aT (eX (fun(ns:List Nat)=>ns.length=1∧((vS (some ⟨n1,0,none⟩) 0 (0+0)):Value)=(fun(ns:List Nat)=>(vS (some ⟨(g0 ns),0,none⟩) 0 (0+0))) ns∧([some ⟨r,true,0,(.lit [(vS (qBo (some A) q.wc 0 1) (q.wn-0) (q.wc-0)),(int (tkE q e 0))])⟩,some ⟨n1,true,0,(spr (0+0) 0 (fun k=>u8 ((fun _=>0) k)) (u8 0))⟩]:List (Option Blk))=(fun(ns:List Nat)=>[some ⟨r,true,0,(.lit [(qAJ (tkQ q e 0)),(int (tkE q e 0))])⟩,some ⟨(g0 ns),true,0,(spr (0+0) 0 (fun k=>u8 ((fun _=>0) k)) (u8 0))⟩]) ns) [n1] (aI (@rfl Nat 1) (aI (@rfl Value (vS (some ⟨n1,0,none⟩) 0 (0+0))) ((show([some ⟨r,true,0,(.lit [(vS (qBo (some A) q.wc 0 1) (q.wn-0) (q.wc-0)),(int (tkE q e 0))])⟩,some ⟨n1,true,0,(spr (0+0) 0 (fun k=>u8 ((fun _=>0) k)) (u8 0))⟩]:List (Option Blk))=[some ⟨r,true,0,(.lit [(qAJ (tkQ q e 0)),(int (tkE q e 0))])⟩,some ⟨n1,true,0,(spr (0+0) 0 (fun k=>u8 ((fun _=>0) k)) (u8 0))⟩] from by rw[qTV h,qNJ hA]<;>rfl))))))))))) (show(((tkE q e 0):Int)!=0)=false from by simpa using h)))))) (show(decide (q.wn<0))=false from by simp only[qDU,qCX,Bool.or_eq_true,Bool.or_eq_false_iff,Bool.and_eq_true,Bool.and_eq_false_iff,decide_eq_true_eq,decide_eq_false_iff_not];omega)))))
theorem qUn (r:Nat) (q:BytL) (e:Int) (n:Nat) (hq:OkB q) (hl:q.wn≤100000) (hn:n=0) (h:tkE q e n=0):qAt (qA2 q) TP 52 [ptr r 0,nat n] [⟨r,true,0,.lit [qAJ q,int e]⟩] 1 (fun ns=>zV q.wa.isNone (ns.getD 0 0)) (fun _=>[some ⟨r,true,0,.lit [qAJ (tkQ q e n),int (tkE q e n)]⟩]):=by
 subst hn
 cases hA:q.wa with
 |none=>
  have e1:qAJ q=.slice none q.wn q.wc:=by unfold qAJ;rw[hA]
  rw[e1]
  exact(qYQ r q e hq hl hA h).name1
 |some A=>
  have e1:qAJ q=.slice (some A) q.wn q.wc:=by unfold qAJ;rw[hA]
  rw[e1]
  exact qAt.drop (o:=fun _=>[some ⟨r,true,0,.lit [qAJ (tkQ q e 0),int (tkE q e 0)]⟩]) (qZg r q e A hq hl hA h)
theorem qRD (r:Nat) (q:BytL) (e m:Int) (hq:OkB q) (hl:q.wn≤100000) (hm:m≤9223372036854775807) (h:tkE (ctQ q e m) (ctE q e m 1) (ctN q e m 1)≠0):qAt (qA2 q) TP 33 [(ptr r 0),(int m)] [⟨r,true,0,(.lit [(Value.slice q.wa q.wn q.wc),(int e)])⟩] 0 (fun _=>(Value.slice none 0 0)) (fun _=>[some ⟨r,true,0,(.lit [(qAJ (rbQ q e m)),(int (rbE q e m))])⟩]):=
 qAm (F:=(qA2 q)) mix Tryd.func33 rfl rfl 400 (.reg (rg [.g]) (.reg (rg [.g,.g,.g,(.callF [(0,false)] 0 0 (fun _=>(nat (ctN q e m 1))) (fun _=>[some ⟨r,true,0,(.lit [(qAJ (ctQ q e m)),(int (ctE q e m 1))])⟩])),(.callF [(0,false)] 0 0 (fun _=>(qL0)) (fun _=>[some ⟨r,true,0,(.lit [(qAJ (qRU q e m)),(int (jAt q e m))])⟩])),.g]) .done)) [] [] rfl
  (have f1:=hq.cap;Eq.mp (by kernel_rfl) (aI kV1 (aI (sK3 (aI (aT (qAt.lendP (F':=(qA2 q)) (fun w hF=>hF) (fun x hx=>qCw (show 0<q.wn→0<q.wn from by omega) hx rfl) (qOD r q e m hq (show q.wn≤100000 from by omega) (show m≤9223372036854775807 from by omega)))) (aI (aT (qAt.lendP (F':=(qA2 q)) (fun w hF=>(qJY hF)) (fun x hx=>qCw (show 0<(ctQ q e m).wn→0<q.wn from by have:=qJk  q e m;omega) hx (qV0.trans rfl)) (qVx r (ctQ q e m) (ctE q e m 1) (ctN q e m 1) (qQw hq e m) (show(ctQ q e m).wn≤100000 from by have:=qJk  q e m;omega) h))) kV1))) (aT (eX (fun(ns:List Nat)=>ns.length=0∧((qL0):Value)=(fun _=>(qL0)) ns∧([some ⟨r,true,0,(.lit [(vS (qRU q e m).wa (qRU q e m).wn (qRU q e m).wc),(int (jAt q e m))])⟩]:List (Option Blk))=(fun _=>[some ⟨r,true,0,(.lit [(qAJ (rbQ q e m)),(int (rbE q e m))])⟩]) ns) [] (aI (@rfl Nat 0) (aI (@rfl Value (qL0)) (@rfl (List (Option Blk)) [some ⟨r,true,0,(.lit [(qAJ (rbQ q e m)),(int (rbE q e m))])⟩]))))))))
theorem qQ8 (r:Nat) (q:BytL) (e m:Int) (hq:OkB q) (hl:q.wn≤100000) (hm:m≤9223372036854775807) (h:tkE (ctQ q e m) (ctE q e m 1) (ctN q e m 1)=0) (h0:0<ctN q e m 1):qAt (qA2 q) TP 33 [(ptr r 0),(int m)] [⟨r,true,0,(.lit [(Value.slice q.wa q.wn q.wc),(int e)])⟩] 2 (fun(ns:List Nat)=>(Value.slice (some ⟨(ns.getD 0 0),0,none⟩) (ctN q e m 1) ((ctN q e m 1)+(ns.getD 1 0)))) (fun(ns:List Nat)=>[some ⟨r,true,0,(.lit [(qAJ (rbQ q e m)),(int (rbE q e m))])⟩,some ⟨(ns.getD 0 0),true,0,(spr ((ctN q e m 1)+(ns.getD 1 0)) (ctN q e m 1) (fun k=>u8 ((ctQ q e m).wf k)) (u8 0))⟩]):=
 qAm (F:=(qA2 q)) mix Tryd.func33 rfl rfl 400 (.reg (rg [.g]) (.regn (rg [.g,.g,.g,(.callF [(0,false)] 0 0 (fun _=>(nat (ctN q e m 1))) (fun _=>[some ⟨r,true,0,(.lit [(qAJ (ctQ q e m)),(int (ctE q e m 1))])⟩])),(.callF [(0,false)] 2 1 (fun ns=>vS (some ⟨(g0 ns),0,none⟩) (ctN q e m 1) ((ctN q e m 1)+(g1 ns))) (fun ns=>[some ⟨r,true,0,(.lit [(qAJ (qRU q e m)),(int (jAt q e m))])⟩,some ⟨(g0 ns),true,0,(spr ((ctN q e m 1)+(g1 ns)) (ctN q e m 1) (fun k=>u8 ((ctQ q e m).wf k)) (u8 0))⟩])),.g]) (more (fun n1=>more (fun n2=>fun _=>.done))))) [] [1] rfl
  (have f1:=hq.cap;Eq.mp (by kernel_rfl) (aI kV1 (fun(n1 n2:Nat)=>aI (sK3 (aI (aT (qAt.lendP (F':=(qA2 q)) (fun w hF=>hF) (fun x hx=>qCw (show 0<q.wn→0<q.wn from by omega) hx rfl) (qOD r q e m hq (show q.wn≤100000 from by omega) (show m≤9223372036854775807 from by omega)))) (aI (aT (qAt.lendP (F':=(qA2 q)) (fun w hF=>(qJY hF)) (fun x hx=>qCw (show 0<(ctQ q e m).wn→0<q.wn from by have:=qJk  q e m;omega) hx (qV0.trans rfl)) (qWl r (ctQ q e m) (ctE q e m 1) (ctN q e m 1) (qQw hq e m) (show(ctQ q e m).wn≤100000 from by have:=qJk  q e m;omega) h h0))) kV1))) (aT (eX (fun(ns:List Nat)=>ns.length=2∧((vS (some ⟨n1,0,none⟩) (ctN q e m 1) ((ctN q e m 1)+n2)):Value)=(fun(ns:List Nat)=>(vS (some ⟨(g0 ns),0,none⟩) (ctN q e m 1) ((ctN q e m 1)+(g1 ns)))) ns∧([some ⟨r,true,0,(.lit [(vS (qRU q e m).wa (qRU q e m).wn (qRU q e m).wc),(int (jAt q e m))])⟩,some ⟨n1,true,0,(spr ((ctN q e m 1)+n2) (ctN q e m 1) (fun k=>u8 ((ctQ q e m).wf k)) (u8 0))⟩]:List (Option Blk))=(fun(ns:List Nat)=>[some ⟨r,true,0,(.lit [(qAJ (rbQ q e m)),(int (rbE q e m))])⟩,some ⟨(g0 ns),true,0,(spr ((ctN q e m 1)+(g1 ns)) (ctN q e m 1) (fun k=>u8 ((ctQ q e m).wf k)) (u8 0))⟩]) ns) [n1,n2] (aI (@rfl Nat 2) (aI (@rfl Value (vS (some ⟨n1,0,none⟩) (ctN q e m 1) ((ctN q e m 1)+n2))) (@rfl (List (Option Blk)) [some ⟨r,true,0,(.lit [(qAJ (rbQ q e m)),(int (rbE q e m))])⟩,some ⟨n1,true,0,(spr ((ctN q e m 1)+n2) (ctN q e m 1) (fun k=>u8 ((ctQ q e m).wf k)) (u8 0))⟩]))))))))
theorem qOO (r:Nat) (q:BytL) (e m:Int) (hq:OkB q) (hl:q.wn≤100000) (hm:m≤9223372036854775807) (h:tkE (ctQ q e m) (ctE q e m 1) (ctN q e m 1)=0) (h0:¬0<ctN q e m 1):qAt (qA2 q) TP 33 [(ptr r 0),(int m)] [⟨r,true,0,(.lit [(Value.slice q.wa q.wn q.wc),(int e)])⟩] 1 (fun(ns:List Nat)=>(Value.slice (zA (ctQ q e m).wa.isNone (ns.getD 0 0)) 0 0)) (fun(ns:List Nat)=>[some ⟨r,true,0,(.lit [(qAJ (rbQ q e m)),(int (rbE q e m))])⟩]):=
 qAm (F:=(qA2 q)) mix Tryd.func33 rfl rfl 400 (.reg (rg [.g]) (.regn (rg [.g,.g,.g,(.callF [(0,false)] 0 0 (fun _=>(nat (ctN q e m 1))) (fun _=>[some ⟨r,true,0,(.lit [(qAJ (ctQ q e m)),(int (ctE q e m 1))])⟩])),(.callF [(0,false)] 1 0 (fun ns=>zV (ctQ q e m).wa.isNone (g0 ns)) (fun ns=>[some ⟨r,true,0,(.lit [(qAJ (qRU q e m)),(int (jAt q e m))])⟩])),.g]) (more (fun n1=>fun _=>.done)))) [] [] rfl
  (have f1:=hq.cap;Eq.mp (by kernel_rfl) (aI kV1 (fun(n1:Nat)=>aI (sK3 (aI (aT (qAt.lendP (F':=(qA2 q)) (fun w hF=>hF) (fun x hx=>qCw (show 0<q.wn→0<q.wn from by omega) hx rfl) (qOD r q e m hq (show q.wn≤100000 from by omega) (show m≤9223372036854775807 from by omega)))) (aI (aT (qAt.lendP (F':=(qA2 q)) (fun w hF=>(qJY hF)) (fun x hx=>qCw (show 0<(ctQ q e m).wn→0<q.wn from by have:=qJk  q e m;omega) hx (qV0.trans rfl)) (qUn r (ctQ q e m) (ctE q e m 1) (ctN q e m 1) (qQw hq e m) (show(ctQ q e m).wn≤100000 from by have:=qJk  q e m;omega) (Nat.eq_zero_of_not_pos h0) h))) kV1))) (aT (eX (fun(ns:List Nat)=>ns.length=1∧((vS (zA (ctQ q e m).wa.isNone n1) 0 0):Value)=(fun(ns:List Nat)=>(vS (zA (ctQ q e m).wa.isNone (g0 ns)) 0 0)) ns∧([some ⟨r,true,0,(.lit [(vS (qRU q e m).wa (qRU q e m).wn (qRU q e m).wc),(int (jAt q e m))])⟩]:List (Option Blk))=(fun(ns:List Nat)=>[some ⟨r,true,0,(.lit [(qAJ (rbQ q e m)),(int (rbE q e m))])⟩]) ns) [n1] (aI (@rfl Nat 1) (aI (@rfl Value (vS (zA (ctQ q e m).wa.isNone n1) 0 0)) (@rfl (List (Option Blk)) [some ⟨r,true,0,(.lit [(qAJ (rbQ q e m)),(int (rbE q e m))])⟩]))))))))
theorem qVi (r:Nat) (q:BytL) (e m:Int) (hq:OkB q) (hl:q.wn≤100000) (hm:m≤9223372036854775807) (h0:¬0<rbN q e m):qAt (qA2 q) TP 33 [ptr r 0,int m] [⟨r,true,0,.lit [qAJ q,int e]⟩] 1 (fun ns=>zV (rbZ q e m) (ns.getD 0 0)) (fun _=>[some ⟨r,true,0,.lit [qAJ (rbQ q e m),int (rbE q e m)]⟩]):=by
 by_cases h:tkE (ctQ q e m) (ctE q e m 1) (ctN q e m 1)=0
 ·obtain⟨e1,e2⟩:=qOH h
  rw[e2]
  exact qOO r q e m hq hl hm h (by omega)
 ·obtain⟨e1,e2⟩:=qXc h
  rw[e2]
  exact(qRD r q e m hq hl hm h).name1
theorem qW1 (r:Nat) (q:BytL) (e m:Int) (hq:OkB q) (hl:q.wn≤100000) (hm:m≤9223372036854775807) (h0:0<rbN q e m):qAt (qA2 q) TP 33 [ptr r 0,int m] [⟨r,true,0,.lit [qAJ q,int e]⟩] 2 (fun ns=>.slice (some ⟨ns.getD 0 0,0,none⟩) (rbN q e m) (rbN q e m+ns.getD 1 0)) (fun ns=>[some ⟨r,true,0,.lit [qAJ (rbQ q e m),int (rbE q e m)]⟩,some ⟨ns.getD 0 0,true,0,spr (rbN q e m+ns.getD 1 0) (rbN q e m) (fun k=>u8 ((ctQ q e m).wf k)) (u8 0)⟩]):=by
 by_cases h:tkE (ctQ q e m) (ctE q e m 1) (ctN q e m 1)=0
 ·obtain⟨e1,e2⟩:=qOH h
  rw[e1]
  exact qQ8 r q e m hq hl hm h (by omega)
 ·exact absurd (qXc h).1 (by omega)
theorem jAO (c:Nat):qBp TP 31 [(Value.slice none 0 c)] [] 1 (fun(ns:List Nat)=>(ptr (ns.getD 0 0) 0)) (fun(ns:List Nat)=>[some ⟨(ns.getD 0 0),true,0,(.lit [(Value.slice none 0 0),(int 0)])⟩]):=
 qAh mix Tryd.func31 rfl rfl 400 (.reg (rg [.g]) (.regn (rg [.g,(.call [] 0 0 (fun _=>(vS none 0 0)) (fun _=>[])),.g,.new,.g]) (more (fun n1=>fun _=>.done)))) [] [0] rfl
  (Eq.mp (by kernel_rfl) (aI kV1 (fun(n1:Nat)=>aI (sk (aI (aT (qGU c)) kV3)) (aT (eX (fun(ns:List Nat)=>ns.length=1∧((ptr n1 0):Value)=(fun(ns:List Nat)=>(ptr (g0 ns) 0)) ns∧([some ⟨n1,true,0,(.lit [(vS none 0 0),(int 0)])⟩]:List (Option Blk))=(fun(ns:List Nat)=>[some ⟨(g0 ns),true,0,(.lit [(vS none 0 0),(int 0)])⟩]) ns) [n1] (aI (@rfl Nat 1) (aI (@rfl Value (ptr n1 0)) (@rfl (List (Option Blk)) [some ⟨n1,true,0,(.lit [(vS none 0 0),(int 0)])⟩]))))))))
theorem jBz (A:Addr) (c:Nat):qBp TP 31 [(Value.slice (some A) 0 c)] [] 2 (fun(ns:List Nat)=>(ptr (ns.getD 0 0) 0)) (fun(ns:List Nat)=>[some ⟨(ns.getD 0 0),true,0,(.lit [(Value.slice (some ⟨(ns.getD 1 0),0,none⟩) 0 (0+0)),(int 0)])⟩,some ⟨(ns.getD 1 0),true,0,(spr (0+0) 0 (fun k=>u8 ((fun _=>0) k)) (u8 0))⟩]):=
 qAh mix Tryd.func31 rfl rfl 400 (.reg (rg [.g]) (.regn (rg [.g,(.call [] 1 1 (fun ns=>vS (some ⟨(g0 ns),0,none⟩) 0 (0+0)) (fun ns=>[some ⟨(g0 ns),true,0,(spr (0+0) 0 (fun k=>u8 ((fun _=>0) k)) (u8 0))⟩])),.g,.new,.g]) (more (fun n1=>more (fun n2=>fun _=>.done))))) [] [1,0] rfl
  (Eq.mp (by kernel_rfl) (aI kV1 (fun(n1 n2:Nat)=>aI (sk (aI (aT (qIS A c)) kV3)) (aT (eX (fun(ns:List Nat)=>ns.length=2∧((ptr n2 0):Value)=(fun(ns:List Nat)=>(ptr (g0 ns) 0)) ns∧([some ⟨n2,true,0,(.lit [(vS (some ⟨n1,0,none⟩) 0 (0+0)),(int 0)])⟩,some ⟨n1,true,0,(spr (0+0) 0 (fun k=>u8 ((fun _=>0) k)) (u8 0))⟩]:List (Option Blk))=(fun(ns:List Nat)=>[some ⟨(g0 ns),true,0,(.lit [(vS (some ⟨(g1 ns),0,none⟩) 0 (0+0)),(int 0)])⟩,some ⟨(g1 ns),true,0,(spr (0+0) 0 (fun k=>u8 ((fun _=>0) k)) (u8 0))⟩]) ns) [n2,n1] (aI (@rfl Nat 2) (aI (@rfl Value (ptr n2 0)) (@rfl (List (Option Blk)) [some ⟨n2,true,0,(.lit [(vS (some ⟨n1,0,none⟩) 0 (0+0)),(int 0)])⟩,some ⟨n1,true,0,(spr (0+0) 0 (fun k=>u8 ((fun _=>0) k)) (u8 0))⟩]))))))))
end Go.Proofs.YtmdpendnbkajdaaDoor
end
