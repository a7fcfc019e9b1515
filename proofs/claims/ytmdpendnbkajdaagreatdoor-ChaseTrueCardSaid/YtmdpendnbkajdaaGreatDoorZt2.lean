/- What the law's proof needs, part 2. -/
import Derived.Test.YtmdpendnbkajdaaGreatDoorZt1
import Derived.MapKept
import Derived.WideKeyRuns
set_option linter.defProp false
set_option linter.unusedVariables false
set_option linter.unusedSimpArgs false
set_option maxRecDepth 100000
set_option maxHeartbeats 1000000
noncomputable section
section
namespace Go.Eng
open Go.WideShapes
def qLP {P:Program} {w:World} {r:Nat} {es:Array MapEntry} {clock:Nat} (hb:w.heap[r]?=some (.map es clock)):(getObj r).run P w=.ok (.map es clock) w:=by
 simp[getObj,Sem.run,hb]
def qRB {P:Program} {w:World} {r:Nat} {es:Array MapEntry} {clock:Nat} (o:Obj) (hb:w.heap[r]?=some (.map es clock)):(setObj r o).run P w=.ok () {w with heap:=w.heap.setIfInBounds r o}:=by
 simp[setObj,Sem.run,hb]
def qLz {w:World} {r:Nat} {o o':Obj} (hb:w.heap[r]?=some o):(w.heap.setIfInBounds r o')[r]?=some o'∧∀r',r'≠r→(w.heap.setIfInBounds r o')[r']?=w.heap[r']?:=by
 have hlt:r<w.heap.size:=(Array.getElem?_eq_some_iff.1 hb).1;exact⟨by simp[hlt],fun r' hne=>by simp[Ne.symm hne]⟩
def qF9 (w:World) (o:Obj):(w.alloc o).heap[w.heap.size]?=some o∧∀r',r'<w.heap.size→(w.alloc o).heap[r']?=w.heap[r']?:=by
 have e:(w.alloc o).heap=w.heap.push o:=rfl;rw[e];exact⟨by simp,fun r' h=>by simp[Array.getElem?_push,Nat.ne_of_lt h]⟩
def qBZ {α β:Type} (kv:α→Value) (ev:β→Value):List (α×β)→Nat→List MapEntry
 |[],_=>[]
 |(k,x)::r,i=>⟨kv k,ev x,i⟩::qBZ kv ev r (i+1)
def qPw {α β:Type} (kv:α→Value) (ev:β→Value) (l:List (α×β)):qAL:=.map (qBZ kv ev l 0).toArray l.length
def qAs {α β:Type} (eqb:α→α→Bool) (k:α):List (α×β)→Option β
 |[]=>none
 |(h,x)::r=>if eqb k h=true then some x else qAs eqb k r
def qCw {α β:Type} (eqb:α→α→Bool) (k:α) (x:β):List (α×β)→List (α×β)
 |[]=>[(k,x)]
 |(h,y)::r=>if eqb k h=true then(k,x)::r else(h,y)::qCw eqb k x r
def qFN {α β:Type} (eqb:α→α→Bool) (k:α):List (α×β)→Nat→Option (Nat×β)
 |[],_=>none
 |(h,x)::r,i=>if eqb k h=true then some (i,x) else qFN eqb k r (i+1)
structure MapT {α β:Type} (P:Program) (mt kt et:TypeId) (kv:α→Value) (ev:β→Value) (z:β) (eqb:α→α→Bool):Prop where
 hm:P.underlying mt=some (.map kt et)
 chk:∀em k w,(Instr.checkKey em 10000 kt (kv k)).run P w=.ok () w
 fnd:∀k (l:List (α×β)) n w,(Instr.findKey kt (kv k) (qBZ kv ev l n)).run P w=.ok ((qFN eqb k l 0).map fun p=>(p.1,ev p.2)) w
 eqr:∀k h w,(Op.equal kt (kv k) (kv h)).run P w=.ok (eqb k h) w
 eqv:∀k h,eqb k h=true→Instr.sameBits 10000 (kv h) (kv k)=true
 zer:∀w,(zeroValue et).run P w=.ok (ev z) w
section
variable {α β:Type} {P:Program} {mt kt et:TypeId} {kv:α→Value} {ev:β→Value} {z:β} {eqb:α→α→Bool}
theorem qML (eqr:∀(k h:α) w,(Op.equal kt (kv k) (kv h)).run P w=.ok (eqb k h) w) (k:α) (w:World):∀(l:List (α×β)) (n i:Nat),(Instr.findAsking kt (kv k) (qBZ kv ev l n) i).run P w=.ok ((qFN eqb k l i).map fun p=>(p.1,ev p.2)) w
 |[],_,_=>rfl
 |(h,x)::r,n,i=>by
  simp only[qBZ,Instr.findAsking,Sem.run_bind,eqr,Result.andThen_ok,qFN];by_cases e:eqb k h=true
  ·rw[if_pos e,if_pos e];rfl
  ·rw[if_neg e,if_neg e];exact qML eqr k w r (n+1) (i+1)
theorem qGW (M:MapT P mt kt et kv ev z eqb) (k:α) (w:World) (l:List (α×β)):(Instr.findKey kt (kv k) (qBZ kv ev l 0)).run P w=.ok ((qFN eqb k l 0).map fun p=>(p.1,ev p.2)) w:=by
 exact M.fnd k l 0 w
theorem qQz (k:α):∀(l:List (α×β)) (i:Nat),(qFN eqb k l i).map (·.2)=qAs eqb k l
 |[],_=>rfl
 |(h,x)::r,i=>by
  simp only[qFN,qAs];split
  ·rfl
  ·exact qQz k r (i+1)
theorem qJS (k:α):∀(l:List (α×β)) (i j:Nat) (x:β),qFN eqb k l i=some (j,x)→∃h,i≤j∧l[j-i]?=some (h,x)∧eqb k h=true
 |[],_,_,_,e=>by cases e
 |(h,y)::r,i,j,x,e=>by
  simp only[qFN] at e;split at e
  ·rename_i he
   injection e with e;injection e with e1 e2;subst e1;subst e2;exact⟨h,Nat.le_refl _,by simp,he⟩
  ·obtain⟨h',h1,h2,h3⟩:=qJS k r (i+1) j x e
   exact⟨h',by omega,by rw[show j-i=(j-(i+1))+1 by omega];simpa using h2,h3⟩
theorem qHc:∀(l:List (α×β)) (n j:Nat) (h:α) (x:β),l[j]?=some (h,x)→(qBZ kv ev l n)[j]?=some ⟨kv h,ev x,n+j⟩
 |[],_,_,_,_,e=>by simp at e
 |(h0,x0)::r,n,0,h,x,e=>by
  simp at e;obtain⟨rfl,rfl⟩:=e;simp[qBZ]
 |(h0,x0)::r,n,j+1,h,x,e=>by
  simp only[List.getElem?_cons_succ] at e;simp only[qBZ,List.getElem?_cons_succ];rw[qHc r (n+1) j h x e,show n+1+j=n+(j+1) by omega]
theorem qOX:∀(l:List (α×β)) (n:Nat),(qBZ kv ev l n).length=l.length
 |[],_=>rfl
 | _ ::r,n=>by simp[qBZ,qOX r]
theorem qK6 (k:α) (x:β):∀(l:List (α×β)) (n i:Nat) (j:Nat) (y:β),qFN eqb k l i=some (j,y)→
  (qBZ kv ev l n).modify (j-i) (fun e=>{e with key:=kv k,val:=ev x})=qBZ kv ev (qCw eqb k x l) n∧(qCw eqb k x l).length=l.length
 |[],_,_,_,_,e=>by cases e
 |(h,y0)::r,n,i,j,y,e=>by
  simp only[qFN] at e;split at e
  ·rename_i he
   injection e with e;injection e with e1 e2;subst e1;simp[qCw,he,qBZ]
  ·rename_i he
   obtain⟨_,h1,_,_⟩:=qJS k r (i+1) j y e;obtain⟨i1,i2⟩:=qK6 k x r (n+1) (i+1) j y e;rw[show j-i=(j-(i+1))+1 by omega]
   simp only[qCw,he,qBZ];simp[i1,i2,qBZ]
theorem qL4 (k:α) (x:β):∀(l:List (α×β)) (n i:Nat),qFN eqb k l i=none→
  qBZ kv ev l n++[⟨kv k,ev x,n+l.length⟩]=qBZ kv ev (qCw eqb k x l) n∧(qCw eqb k x l).length=l.length+1
 |[],n,i,e=>by simp[qCw,qBZ]
 |(h,y0)::r,n,i,e=>by
  simp only[qFN] at e;split at e
  ·cases e
  ·rename_i he
   obtain⟨i1,i2⟩:=qL4 k x r (n+1) (i+1) e;simp only[qCw,he,qBZ];simp only[Bool.false_eq_true,if_false,qBZ,List.cons_append,List.length_cons];refine⟨?_,by simp[i2]⟩
   rw[←i1,show n+(r.length+1)=n+1+r.length by omega]
def qLC (t:TypeId) (x k:Value) (ok:Bool):Sem Next:=do pure (.value (←Instr.lookup t x k ok))
theorem qT4 (M:MapT P mt kt et kv ev z eqb) (b:Nat) (own:Bool) (l:List (α×β)) (k:α):
  qAu P (qLC mt (.map (some b)) (kv k) true) [⟨b,own,0,qPw kv ev l⟩] 0 (fun _=>.tuple #[ev ((qAs eqb k l).getD z),.bool (qAs eqb k l).isSome]) (fun _=>[none]):=by
 intro w hall ha;have hb:=(hall _ (List.mem_singleton.2 rfl)).objm rfl;refine⟨[],w,rfl,.inl (qAA ?_),⟨fun p c hpc=>?_,fun p p' c d hpp hc hd ho=>?_,⟨rfl,rfl,rfl,Nat.le_refl _,fun _ _ _=>rfl,fun j hj=>?_,fun p c hpc ho=>?_⟩⟩⟩
 ·simp only at hb
  unfold Instr.lookup;simp only[Sem.run_bind,run_underlying M.hm,Result.andThen_ok,qLP hb,Sem.run_pure,M.chk,qGW M];have hE:=qQz (eqb:=eqb) k l 0;cases hf:qFN eqb k l 0 with
  |none=>
   rw[hf] at hE;simp only[Option.map_none] at hE;rw[←hE];simp[M.zer]
  |some q=>
   rw[hf] at hE;simp only[Option.map_some] at hE;rw[←hE];simp
 ·rcases p with _ |p<;>simp[lM] at hpc
 ·rcases p with _ |p<;>simp[lM] at hc
 ·obtain⟨p,c,hpc,_,_⟩:=hj
  rcases p with _ |p<;>simp[lM] at hpc
 ·rcases p with _ |p<;>simp[lM] at hpc
def qUO (t:TypeId) (x k v:Value):Sem Next:=do Instr.mapUpdate t x k v;pure .skip
theorem qRe {b:Nat} {es es':Array MapEntry} {c c':Nat} {w:World} (h:qAn ⟨b,true,0,.map es c⟩ w):
  qC4 (lM ([⟨b,true,0,.map es c⟩].map some)) w (lM [some ⟨b,true,0,.map es' c'⟩]) {w with heap:=w.heap.setIfInBounds b (.map es' c')}:=by
 have hb:=h.objm rfl;obtain⟨h1,h2⟩:=qLz (o':=.map es' c') hb;refine⟨fun p q hpq=>?_,fun p p' q d hpp hc hd ho=>?_,⟨rfl,rfl,rfl,by simp,fun j hj hn=>h2 j fun e=>?_,fun j hj=>?_,fun p q hpq ho=>?_⟩⟩
 ·rcases p with _ |p
  ·injection hpq with hpq;subst hpq
   exact⟨by simpa using h.lt,(fun o v ho=>by cases ho),(fun _ o v ho=>by cases ho),h1⟩
  ·simp[lM] at hpq
 ·rcases p with _ |p
  ·rcases p' with _ |p'
   ·exact absurd rfl hpp
   ·simp[lM] at hd
  ·simp[lM] at hc
 ·subst e
  exact hn ⟨0,_,rfl,rfl,rfl⟩
 ·obtain⟨p,q,hpq,ho,hjk⟩:=hj
  rcases p with _ |p
  ·injection hpq with hpq;subst hpq;exact .inl ⟨0,_,rfl,rfl,hjk⟩
  ·simp[lM] at hpq
 ·rcases p with _ |p
  ·injection hpq with hpq;subst hpq;cases ho
  ·simp[lM] at hpq
theorem qHn (M:MapT P mt kt et kv ev z eqb) (b:Nat) (l:List (α×β)) (k:α) (x:β):
  qAu P (qUO mt (.map (some b)) (kv k) (ev x)) [⟨b,true,0,qPw kv ev l⟩] 0 (fun _=>undef) (fun _=>[some ⟨b,true,0,qPw kv ev (qCw eqb k x l)⟩]):=by
 intro w hall ha;have hH:=hall _ (List.mem_singleton.2 rfl);have hb:=hH.objm rfl;simp only at hb;refine⟨[],_,rfl,.inr ⟨?_,rfl⟩,qRe hH⟩;unfold qUO Instr.mapUpdate;simp only[Sem.run_bind,run_underlying M.hm,Result.andThen_ok,qLP hb,M.chk,qGW M];cases hf:qFN eqb k l 0 with
 |none=>
  obtain⟨i1,i2⟩:=qL4 (kv:=kv) (ev:=ev) k x l 0 0 hf;simp only[Option.map_none,qRB _ hb,Sem.run_pure,Result.andThen_ok];congr 4
  ·rw[←i1];simp
  ·exact i2.symm
 |some q=>
  obtain⟨j,y⟩:=q;obtain⟨h,_,h2,h3⟩:=qJS k l 0 j y hf;obtain⟨i1,i2⟩:=qK6 (kv:=kv) (ev:=ev) k x l 0 0 j y hf;have hj:=qHc (kv:=kv) (ev:=ev) l 0 j h y (by simpa using h2)
  have hs:=M.eqv k h h3;simp only[Option.map_some,List.getElem?_toArray,hj,Option.getD_some,Instr.keyThatStays,hs,if_true,Sem.run_pure,Result.andThen_ok,qRB _ hb];rw[i2,←i1];simp[qRB _ hb]
def jEe (t:TypeId):Sem Next:=do pure (.value (←Instr.makeMap t none))
theorem qHu (t:TypeId):qAu P (jEe t) [] 1 (fun ns=>.map (some (ns.getD 0 0))) (fun ns=>[some ⟨ns.getD 0 0,true,0,qPw kv ev []⟩]):=by
 intro w hall ha;obtain⟨h1,h2⟩:=qF9 w (.map #[] 0);refine⟨[w.heap.size],w.alloc (.map #[] 0),rfl,.inl (qAA rfl),⟨fun p c hpc=>?_,fun p p' c d hpp hc hd ho=>?_,⟨rfl,rfl,rfl,by simp,fun j hj _=>h2 j hj,fun j hj=>?_,fun p c hpc ho=>?_⟩⟩⟩
 ·rcases p with _ |p
  ·injection hpc with hpc;subst hpc
   exact⟨by simp,(fun o v ho=>by cases ho),(fun _ o v ho=>by cases ho),h1⟩
  ·simp[lM] at hpc
 ·rcases p with _ |p
  ·rcases p' with _ |p'
   ·exact absurd rfl hpp
   ·simp[lM] at hd
  ·simp[lM] at hc
 ·obtain⟨p,c,hpc,ho,hjk⟩:=hj
  rcases p with _ |p
  ·injection hpc with hpc;subst hpc;exact .inr (Nat.le_of_eq hjk)
  ·simp[lM] at hpc
 ·rcases p with _ |p
  ·injection hpc with hpc;subst hpc;cases ho
  ·simp[lM] at hpc
end
def ev0 (_:Unit):Value:=.agg #[]
def qOS {P:Program} {e:TypeId} {k:IntKind} {cs:Array Value} {i:Nat} {v:Value} (w:World) (he:P.underlying e=some (.int k)) (hv:cs[i]?=some v):(part e cs i).run P w=.ok v w:=qAW (qHb he hv) w
end Go.Eng
end
section
namespace Go.Eng
open Go.RowKit Go.WideShapes Go.ChangeShapes Go.ChangeAt Go.Deep
def qBI.toF {F:Blk→Prop} {P:Program} {f:FuncId} {args:List Value} {bs:List Blk} {k:Nat} {v:List Nat→Value} {out:List Nat→List (Option Blk)} (h:qBI P f args bs k v out):qAt F P f args bs k v out:=
 fun w hb ha _=>h w hb ha
def qAt.mono {F F':Blk→Prop} {P:Program} {f:FuncId} {args:List Value} {bs:List Blk} {k:Nat} {v:List Nat→Value} {out:List Nat→List (Option Blk)} (hs:∀b,F b→F' b) (h:qAt F P f args bs k v out):qAt F' P f args bs k v out:=
 fun w hb ha hF=>h w hb ha fun b hb'=>hF b (hs b hb')
def qJL:List Blk→List (Option Blk)
 |[]=>[]
 | _ ::r=>none::qJL r
theorem qCx:∀(l:List Blk) (p:Nat) (b:Blk),lM (qJL l) p≠some b
 |[],p,b=>by simp[qJL,lM]
 | _ ::r,0,b=>by simp[qJL,lM]
 | _ ::r,p+1,b=>qCx r p b
def qAt.read {F:Blk→Prop} {P:Program} {f:FuncId} {args:List Value} {cs:List Blk} {v:Value} (h:qAt F P f args [] 0 (fun _ =>v) (fun _ =>[]))
  (hF:∀w:World,(∀b∈cs,qAn b w)→∀b,F b→qAn b w∧b.own=false) (hb:∀b∈cs,b.own=false):qBI P f args cs 0 (fun _=>v) (fun _=>qJL cs):=by
 intro w hm ha;have hno:∀k,¬qDr (lM (([]:List Blk).map some)) k:=fun k ⟨p,b,h1,h2,_⟩=>by cases h1
 refine Calls.mono (h w (fun b hb'=>by cases hb') (fun p q b c _ hpb _ ho=>by cases hpb) (fun b hFb=>⟨(hF w hm b hFb).1,(hF w hm b hFb).2,fun k _=>hno k⟩)) ?_
 rintro e w' ⟨ns,hns,he,hp⟩
 refine⟨ns,hns,he,⟨fun p b hpb=>absurd hpb (qCx _ _ _),fun p q b c _ hpb _ _=>absurd hpb (qCx _ _ _),⟨hp.adv.os,hp.adv.output,hp.adv.tape,hp.adv.size,fun k hk _=>hp.adv.heap k hk (hno k),fun k ⟨p,b,h1,_,_⟩=>absurd h1 (qCx _ _ _),fun p b hpb _=>absurd hpb (qCx _ _ _)⟩⟩⟩
section
variable {P:Program} {t e:TypeId} {x ix:Operand}
theorem qAX {sz:Nat} (ht:P.underlying t=some (.slice e)) (he:qBT P e=some sz) (b o n c i:Nat) (wa:Option Addr) (hwa:wa=some ⟨b,o,none⟩) (hi:i<n):qB2 P (.indexAddr t x ix) [.slice wa n c,nat i] (ptr b (o+i*sz)):=by
 subst hwa;exact qAk ht he b o n c i hi
end
def qU0 {F:Blk→Prop} {P:Program} {f:FuncId} {args:List Value} {bs:List Blk} {v:Value} {out:List Nat→List (Option Blk)} {W:World} (h:qAt F P f args bs 0 (fun _ =>v) out) (hb:∀b∈bs,qAn b W) (hro:∀b∈bs,b.own=false)
  (hF:∀b,F b→qAn b W∧b.own=false):Calls P f args.toArray W fun e w'=>e=.returned v∧Below W.heap.size W w':=by
 have hl:∀p b,lM (bs.map some) p=some b→b.own=false:=fun p b hp=>hro b (List.mem_of_getElem? (qAV.1 hp))
 refine Calls.mono (h W hb (fun p q x y _ hx _ ho=>?_) fun b hb=>⟨(hF b hb).1,(hF b hb).2,fun _ _ ⟨p,x,hp,ho,_⟩=>?_⟩) fun e w' ⟨ns,_,he,hp⟩=>⟨he,qOO hp.adv hl⟩
 ·rw[hl p x hx] at ho;cases ho
 ·rw[hl p x hp] at ho;cases ho
def qBF (a:Option Addr) (cap i sz:Nat):Option Addr:=if cap=i then a else a.map (·.add (i*sz))
def qFR {P:Program} {t e:TypeId} {x y:Operand} (ht:P.underlying t=some (.slice e)) {sz:Nat} (hs:qBT P e=some sz) (wa:Option Addr) (len cap i:Nat) (hi:i≤len∧len≤cap):qB2 P (.slice t x (some y) none none) [.slice wa len cap,nat i] (.slice (qBF wa cap i sz) (len-i) (cap-i)):=by
 intro ρ o' ho hv;rw[ho] at hv;have hv':[ρ x,ρ y]=[Value.slice wa len cap,nat i]:=hv;injection hv' with h1 hv';injection hv' with h2 _;unfold execOp;rw[ho];simp only[Option.map];show qAb P (Sem.bind (Instr.sliceAt t (ρ x) (some (ρ y)) none none) fun v=>Sem.pure (Next.value v))=_
 rw[qA4,h1,h2];have hi':0≤(i:Int)∧(i:Int)≤(len:Int):=by omega
 have e:qAb P (Instr.sliceAt t (.slice wa len cap) (some (nat i)) none none)=some (.slice (qBF wa cap i sz) (len-i) (cap-i)):=by
  simp only[Instr.sliceAt,Instr.slice,Instr.sliceBounds,Instr.sliceBound,nat,qAh,asIntOf,qAb,pure,qAi ht,hi',and_self,if_true,qA7 hs,Int.toNat_natCast];rfl
 rw[e];rfl
def qCM (F:Blk→Prop) (w:World):Prop:=∀b,F b→qAn b w∧b.own=false
def qAt.lendS {F F':Blk→Prop} {P:Program} {f:FuncId} {args:List Value} {bs cs:List Blk} {v:Value} (h:qAt F P f args bs 0 (fun _ =>v) (fun _ =>bs.map some))
  (hF:∀w:World,qCM F' w→(∀b∈cs,qAn b w)→qCM F w) (hb:∀b∈bs++cs,b.own=false):qAt F' P f args (bs++cs) 0 (fun _=>v) (fun _=>qJL (bs++cs)):=by
 intro w hm ha hF';have hno:∀(l:List Blk) k,(∀b∈l,b.own=false)→¬qDr (lM (l.map some)) k:=fun l k hl ⟨p,b,h1,h2,_⟩=>by
  have:=hl b (List.mem_of_getElem? (qAV.1 h1));rw[h2] at this;cases this
 have hbs:∀b∈bs,b.own=false:=fun b hb'=>hb b (by simp[hb'])
 have hw:=hF w (fun b hb'=>⟨(hF' b hb').1,(hF' b hb').2.1⟩) (fun b hb'=>hm b (by simp[hb']))
 refine Calls.mono (h w (fun b hb'=>hm b (by simp[hb'])) (fun p q b c _ hpb _ ho=>?_) (fun b hFb=>⟨(hw b hFb).1,(hw b hFb).2,fun k _=>hno bs k hbs⟩)) ?_
 ·have:=hbs b (List.mem_of_getElem? (qAV.1 hpb))
  rw[ho] at this;cases this
 ·rintro e w' ⟨ns,hns,he,hp⟩
  refine⟨ns,hns,he,⟨fun p b hpb=>absurd hpb (qCx _ _ _),fun p q b c _ hpb _ _=>absurd hpb (qCx _ _ _),⟨hp.adv.os,hp.adv.output,hp.adv.tape,hp.adv.size,fun k hk _=>hp.adv.heap k hk (hno bs k hbs),fun k ⟨p,b,h1,_,_⟩=>absurd h1 (qCx _ _ _),fun p b hpb _=>absurd hpb (qCx _ _ _)⟩⟩⟩
def qAt.darkF {F:Blk→Prop} {P:Program} {f:FuncId} {args:List Value} {bs:List Blk} {k:Nat} {v:List Nat→Value} {out:List Nat→List (Option Blk)} (fl:List Bool) (h:qAt F P f args bs k v out):
  qAt F P f args bs k v (fun ns=>dkn fl (out ns)):=fun w hb ha hF=>Calls.mono (h w hb ha hF) fun _ _ ⟨ns,h1,h2,h3⟩=>⟨ns,h1,h2,h3.sub (qH8 fl (out ns))⟩
def qIB {P:Program} {t e:TypeId} {x y:Operand} (ht:P.underlying t=some (.slice e)) {sz:Nat} (hs:qBT P e=some sz) (wa:Option Addr) (len cap i:Nat) (hi:i≤cap):qB2 P (.slice t x none (some y) none) [.slice wa len cap,nat i] (.slice wa i cap):=by
 intro ρ o' ho hv;rw[ho] at hv;have hv':[ρ x,ρ y]=[Value.slice wa len cap,nat i]:=hv;injection hv' with h1 hv';injection hv' with h2 _;unfold execOp;rw[ho];simp only[Option.map];show qAb P (Sem.bind (Instr.sliceAt t (ρ x) none (some (ρ y)) none) fun v=>Sem.pure (Next.value v))=_
 rw[qA4,h1,h2];have hi':0≤(i:Int)∧(i:Int)≤(cap:Int):=by omega
 have e:qAb P (Instr.sliceAt t (.slice wa len cap) none (some (nat i)) none)=some (.slice wa i cap):=by
  simp only[Instr.sliceAt,Instr.slice,Instr.sliceBounds,Instr.sliceBound,nat,qAh,asIntOf,qAb,pure,qAi ht,hi',and_self,if_true,qA7 hs,Int.toNat_natCast];cases wa<;>simp[Addr.add]
 rw[e];rfl
end Go.Eng
end
section
namespace Go.Eng
structure BytL where
 wa:Option Addr
 wn:Nat
 wc:Nat
 wb:Nat
 wo:Nat
 wf:Nat→UInt8
def qA3 (q:BytL):Value:=.slice q.wa q.wn q.wc
def qJz (q:BytL):Blk:=⟨q.wb,false,q.wo,qAd q.wn fun k=>u8 (q.wf k)⟩
structure OkB (q:BytL):Prop where
 cap:q.wn≤q.wc
 ad:0<q.wn→q.wa=some ⟨q.wb,q.wo,none⟩
 len:q.wn≤9223372036854775807
def qBi (q:BytL) (b:Blk):Prop:=0<q.wn∧b=qJz q
def qWj (x:BytL) (k:Nat):BytL:=⟨x.wa,k,x.wc,x.wb,x.wo,x.wf⟩
def qPg (x:BytL) (k:Nat):BytL:=⟨qBF x.wa x.wc k 1,x.wn-k,x.wc-k,x.wb,x.wo+k,fun i=>x.wf (i+k)⟩
def qBO (nm n c:Nat) (f:Nat→UInt8):BytL:=⟨some ⟨nm,0,none⟩,n,c,nm,0,f⟩
def qAf (a:Option Addr) (c:Nat):BytL:=⟨a,0,c,0,0,fun _=>0⟩
def qZt {x:BytL} {k:Nat} (h:OkB x) (hk:k≤x.wn):OkB (qWj x k):=⟨Nat.le_trans hk h.cap,fun h0=>h.ad (Nat.lt_of_lt_of_le h0 hk),Nat.le_trans hk h.len⟩
def qM0 {x:BytL} {k:Nat} (h:OkB x) (hk:k≤x.wn):OkB (qPg x k):=⟨Nat.sub_le_sub_right h.cap k,fun h0=>by
 have h1:0<x.wn-k:=h0;show qBF x.wa x.wc k 1=some ⟨x.wb,x.wo+k,none⟩;have hc:=h.cap;unfold qBF;rw[if_neg (by omega),h.ad (by omega)]
 simp[qBu],Nat.le_trans (Nat.sub_le _ _) h.len⟩
def qFo {nm n c:Nat} {f:Nat→UInt8} (h1:n≤c) (h2:n≤9223372036854775807):OkB (qBO nm n c f):=⟨h1,fun _=>rfl,h2⟩
def qG2 {a:Option Addr} {c:Nat}:OkB (qAf a c):=⟨Nat.zero_le _,fun h=>absurd h (Nat.lt_irrefl 0),Nat.zero_le _⟩
def qTp {nm o n k:Nat} {f:Nat→UInt8} {w:World} (h:qAn ⟨nm,false,o,qAd n fun k=>u8 (f k)⟩ w) (hk:k≤n):qAn ⟨nm,false,o,qAd k fun k=>u8 (f k)⟩ w:=
 h.recont rfl fun j v hj=>by
  by_cases hl:j<k
  ·rw[qAH hl] at hj
   rw[qAH (by omega)];exact hj
  ·rw[qBf hl] at hj;cases hj
def qOq {nm o n k:Nat} {f:Nat→UInt8} {w:World} (h:qAn ⟨nm,false,o,qAd n fun k=>u8 (f k)⟩ w) (hk:k≤n):qAn ⟨nm,false,o+k,qAd (n-k) fun i=>u8 (f (i+k))⟩ w:=by
 refine⟨h.lt,fun j v hj=>?_,(fun hb=>by cases hb),qC8 rfl⟩
 by_cases hl:j<n-k
 ·rw[qAH hl] at hj
  have:=h.cell (k+j) v (by show(qAd n _).get (k+j)=_;rw[qAH (by omega)];rw[Nat.add_comm k j];exact hj)
  show w.cell? ⟨nm,o+k+j,none⟩=some v;rw[Nat.add_assoc];exact this
 ·rw[qBf hl] at hj;cases hj
def qD7 {nm n c:Nat} {f:Nat→UInt8} {w:World} (h:qAn ⟨nm,false,0,qAd n fun k=>u8 (f k)⟩ w):qCM (qBi (qBO nm n c f)) w:=fun b hb=>by
 obtain⟨_,rfl⟩:=hb;exact⟨h,rfl⟩
def qLj {a:Option Addr} {c:Nat} {w:World}:qCM (qBi (qAf a c)) w:=fun b hb=>absurd hb.1 (Nat.lt_irrefl 0)
def qRK {x:BytL} {k:Nat} {w:World} (hk:k≤x.wn) (h:qCM (qBi x) w):qCM (qBi (qWj x k)) w:=fun b hb=>by
 obtain⟨h0,rfl⟩:=hb;have h1:0<k:=h0;obtain⟨h2,_⟩:=h (qJz x) ⟨by omega,rfl⟩
 exact⟨qTp h2 hk,rfl⟩
def qJG {x:BytL} {k:Nat} {w:World} (hk:k≤x.wn) (h:qCM (qBi x) w):qCM (qBi (qPg x k)) w:=fun b hb=>by
 obtain⟨h0,rfl⟩:=hb;have h1:0<x.wn-k:=h0;obtain⟨h2,_⟩:=h (qJz x) ⟨by omega,rfl⟩
 exact⟨qOq h2 hk,rfl⟩
def qNf {F G:Blk→Prop} {w:World} (hx:qCM F w) (hy:qCM G w):qCM (fun b=>F b∨G b) w:=fun b hb=>by
 rcases hb with hb|hb
 ·exact hx b hb
 ·exact hy b hb
section
variable {P:Program} {t e t':TypeId} {x y z:Operand}
theorem qYk {n:Nat} (ht:P.underlying t=some (.array n e)) (hs:qBT P e=some 1) (b o i:Nat) (k:IntKind) (hi:i≤n):
  qB2 P (.slice t x (some y) none none) [ptr b o,.int k (i:Int)] (.slice (some ⟨b,if n=i then o else o+i,none⟩) (n-i) (n-i)):=by
 intro ρ o' ho hv;rw[ho] at hv;have hv':[ρ x,ρ y]=[ptr b o,.int k (i:Int)]:=hv;injection hv' with h1 hv';injection hv' with h2 _;unfold execOp;rw[ho];simp only[Option.map];show qAb P (Sem.bind (Instr.sliceAt t (ρ x) (some (ρ y)) none none) fun v=>Sem.pure (Next.value v))=_
 rw[qA4,h1,h2];have hi':0≤(i:Int)∧(i:Int)≤(n:Int):=by omega
 have e:qAb P (Instr.sliceAt t (ptr b o) (some (.int k (i:Int))) none none)=some (.slice (some ⟨b,if n=i then o else o+i,none⟩) (n-i) (n-i)):=by
  simp only[Instr.sliceAt,Instr.slice,ptr,Instr.sliceBounds,Instr.sliceBound,nat,qAh,asIntOf,qAb,pure,qAi ht,hi',and_self,if_true,qA7 hs,Int.toNat_natCast];by_cases h:n=i
  ·simp[h,Instr.sureAddr,qAb,pure]
  ·simp[h,Instr.sureAddr,qAb,pure,qBu,Nat.mul_one]
 rw[e];rfl
end
section
variable {P:Program} {t ty e:TypeId}
theorem qJd {B:Nat} {z:Value} (ht:P.underlying t=some (.slice e)) (h1:qPQ P e z B) {α:Type} (K:α→Value) (g:Nat→α):
  qAu P (qIJ t 0 #[]) [] 1 (fun ns=>.slice (some ⟨ns.getD 0 0,0,none⟩) 0 0) (fun ns=>[some ⟨ns.getD 0 0,true,0,spr (0+0) 0 (fun k=>K (g k)) z⟩]):=by
 obtain⟨i,hi,hz,hsz,hB,hzc⟩:=h1;have h0:qAu P (qIJ t 0 #[]) [] 1 (fun ns=>.slice (some ⟨ns.getD 0 0,0,none⟩) 0 0) (fun ns=>[some ⟨ns.getD 0 0,true,0,.lit (#[]:Array Value).toList⟩]):=qIS (e:=e) fun w=>by
  refine qAA ?_;simp[Instr.buildSlice,run_underlying ht,sizeOf,typeInfo,hi,newRow,Instr.fill];exact congrArg (fun a=>w.alloc (Obj.cells a e)) (Array.eq_empty_of_size_eq_zero (by simp))
 exact h0.recont (C':=fun _=>spr (0+0) 0 (fun k=>K (g k)) z) (fun _=>rfl) fun ns o v ho=>by
  rw[spr,qBf (by omega)] at ho;cases ho
theorem qSG {B:Nat} {z:Value} (ht:P.underlying t=some (.slice e)) (h1:qPQ P e z B) (b:Nat) (C:qAL) (al:Option Addr) (cl:Nat):
  qAu P (qBH t ty (.slice (some ⟨b,0,none⟩) 0 (0+0)) (.slice al 0 cl)) [⟨b,true,0,C⟩] 1 (fun ns=>.slice (some ⟨ns.getD 0 0,0,none⟩) 0 (0+0)) (fun ns=>[some ⟨ns.getD 0 0,true,0,C⟩]):=by
 obtain⟨i,hi,hz,hsz,hB,hzc⟩:=h1;intro w hall ha;refine⟨[b],w,rfl,.inl (qAA ?_),qC4.refl (fun p c h=>?_) ha⟩
 ·cases al<;>simp[Builtin.append_,run_underlying ht,sizeOf,typeInfo,hi,Builtin.lenOf,Builtin.firstCells,storeCells,loadCells,loadCellsFrom]
 ·rcases p with _ |p
  ·cases h;exact hall _ (by simp)
  ·simp[lM] at h
end
def qJP {P:Program} {dT sT ty e:TypeId} {n k od dl dc bs os sl sc:Nat} {D D' cs:List Value} {S:qAL}
  (hu:P.underlying dT=some (.slice e)) (hs:qBT P e=some 1) (hcs:∀j,j<cs.length→S.get (os+j)=cs[j]?) (hlen:cs.length=min sl dl) (h1:cs.all Value.oneCell'=true)
  (hst:(qAL.lit D).store (.lit od) cs=some (.lit D')):
  qAu P (qL1 dT sT ty (.slice (some ⟨n,od,none⟩) dl dc) (.slice (some ⟨k,bs+os,none⟩) sl sc)) [⟨n,true,0,.lit D⟩,⟨k,false,bs,S⟩] 0 (fun _=>nat cs.length) (fun _=>[some ⟨n,true,0,.lit D'⟩,none]):=by
 intro w hm ha;have hD:qAn ⟨n,true,0,.lit D⟩ w:=hm _ (by simp)
 have hS:qAn ⟨k,false,bs,S⟩ w:=hm _ (by simp)
 obtain⟨g1,g2⟩:=qAL.store_get hst trivial;have hr:=run_copy_cells (P:=P) w dT sT ty e n od dl dc ⟨k,bs+os,none⟩ sl sc cs hu (by simpa[qBT] using hs) (by rw[hlen])
  (fun j v hj=>by
   have hjl:j<cs.length:=(List.getElem?_eq_some_iff.1 hj).1;have:=hS.cell (os+j) v (by rw[←hj];exact hcs j hjl)
   rw[show(⟨k,bs+os,none⟩:Addr).add j=⟨k,bs+(os+j),none⟩ by rw[←Nat.add_assoc];exact qBu k (bs+os) j]
   exact this)
  (fun j hj=>by
   obtain⟨u,hu⟩:=g1 j hj;have:=hD.cell _ u hu;simp only[qAL.off,Nat.zero_add] at this;rw[this];rfl)
  (fun j hj=>by
   obtain⟨u,hu⟩:=g1 j hj;have:=hD.free rfl _ u hu;simpa[qAL.off] using this) (List.all_eq_true.1 h1)
 refine⟨[],w.setCells n od cs,rfl,.inl ?_,?_⟩
 ·show((Builtin.copy_ #[dT,sT] ty #[.slice (some ⟨n,od,none⟩) dl dc,.slice (some ⟨k,bs+os,none⟩) sl sc]).bind fun v=>Sem.pure (Next.value v)).run P w=_
  have:∀(s:Sem Value) (v:Value) (w':World),s.run P w=.ok v w'→(s.bind fun v=>Sem.pure (Next.value v)).run P w=.ok (Next.value v) w':=fun s v w' h=>by
   show(s >>= fun v=>Sem.pure (Next.value v)).run P w=_
   rw[Sem.run_bind,h];rfl
  exact this _ _ _ hr
 ·have hp:=qJY (m:=lM ([⟨n,true,0,.lit D⟩,⟨k,false,bs,S⟩].map some)) (w:=w) (p:=0) (b:=⟨n,true,0,.lit D⟩) (l:=.lit od) (cs:=cs) (c:=.lit D')
   (fun p b hb=>hm b (List.mem_of_getElem? (qAV.1 hb))) ha rfl rfl hst trivial
  rw[show([⟨n,true,0,.lit D⟩,⟨k,false,bs,S⟩].map some:List (Option Blk))=[some ⟨n,true,0,.lit D⟩,some ⟨k,false,bs,S⟩] from rfl] at hp ⊢;rw[qD0] at hp;have hp2:qC4 (lM [some ⟨n,true,0,.lit D⟩,some ⟨k,false,bs,S⟩]) w (lM [some ⟨n,true,0,.lit D'⟩,some ⟨k,false,bs,S⟩]) (w.setCells n od cs):=by simpa[qAL.off] using hp
  have hsub:∀p b,lM [some (⟨n,true,0,.lit D'⟩:Blk),none] p=some b→lM [some ⟨n,true,0,.lit D'⟩,some ⟨k,false,bs,S⟩] p=some b:=fun p b hpb=>by
   rcases p with _ | _ |p
   ·exact hpb
   ·cases hpb
   ·simp[lM] at hpb
  exact⟨fun p b hpb=>hp2.holds p b (hsub p b hpb),fun p q b c hpq hb hc=>hp2.apart p q b c hpq (hsub p b hb) (hsub q c hc),hp2.adv.weak hsub⟩
end Go.Eng
namespace Go.Eng
def qSW {P:Program} {t ty e:TypeId} {B:Nat} {z:Value} (ht:P.underlying t=some (.slice e)) (h1:qPQ P e z B) (b len r k bo os n cc:Nat) {α:Type} (K:α→Value) (g h:Nat→α) (S:qAL) (hS:∀j,j<n→S.get (os+j)=some (K (h j)))
  (hK:∀a,(K a).oneCell'=true) (hb:(len+n)*B≤140737488355328∧len+n≤9223372036854775807) {A:Option Addr} (hA:A=some ⟨k,bo+os,none⟩):
  qAu P (qBH t ty (.slice (some ⟨b,0,none⟩) len (len+r)) (.slice A n cc)) [⟨b,true,0,spr (len+r) len (fun k=>K (g k)) z⟩,⟨k,false,bo,S⟩] 2
   (fun ns=>.slice (some ⟨ns.getD 0 0,0,none⟩) (len+n) (len+n+ns.getD 1 0))
   (fun ns=>[some ⟨ns.getD 0 0,true,0,spr (len+n+ns.getD 1 0) (len+n) (fun k=>K (qAj g len h k)) z⟩,some ⟨k,false,bo,S⟩]):=by
 subst hA;exact qAZ ht h1 b len r k bo os n cc K g h S hS hK hb
end Go.Eng
namespace Go.Eng
def qDG {a b:List (Option Blk)} {p:Nat} {x:Blk} (h:lM (a++b) p=some x):(p<a.length∧lM a p=some x)∨(a.length≤p∧lM b (p-a.length)=some x):=by
 unfold lM at h ⊢;by_cases hp:p<a.length
 ·left;rw[List.getElem?_append_left hp] at h;exact⟨hp,h⟩
 ·right;rw[List.getElem?_append_right (by omega)] at h;exact⟨by omega,h⟩
def qBP {a b:List (Option Blk)} {p:Nat} (hp:p<a.length):lM (a++b) p=lM a p:=by
 unfold lM;rw[List.getElem?_append_left hp]
def qBk {a b:List (Option Blk)} {p:Nat} (hp:a.length≤p):lM (a++b) p=lM b (p-a.length):=by
 unfold lM;rw[List.getElem?_append_right hp]
theorem qJ9:∀cs:List Blk,(qJL cs).length=cs.length
 |[]=>rfl
 | _ ::r=>congrArg (·+1) (qJ9 r)
def qAt.lendG {F F':Blk→Prop} {P:Program} {f:FuncId} {args:List Value} {bs cs:List Blk} {k:Nat} {v:List Nat→Value} {o nw:List Nat→List (Option Blk)} (h:qAt F P f args bs k v (fun ns=>o ns++nw ns)) (ho:∀ns,(o ns).length=bs.length)
  (hF:∀w:World,qCM F' w→(∀b∈cs,qAn b w)→qCM F w) (hn:∀x,F x→∀j,x.has j→(∃y,F' y∧y.has j)∨∃c∈cs,c.has j) (hc:∀b∈cs,b.own=false):
  qAt F' P f args (bs++cs) k v (fun ns=>o ns++(qJL cs++nw ns)):=by
 intro w hm ha hF';have hsub:∀p b,lM (bs.map some) p=some b→p<bs.length∧lM ((bs++cs).map some) p=some b:=fun p b hp=>by
  have hl:p<bs.length:=by
   have:=(List.getElem?_eq_some_iff.1 (qAV.1 hp)).1;simpa using this
  exact⟨hl,by rw[List.map_append,qBP (by simpa using hl)];exact hp⟩
 have ho1:∀k,qDr (lM (bs.map some)) k→qDr (lM ((bs++cs).map some)) k:=fun k ⟨p,b,h1,h2,h3⟩=>⟨p,b,(hsub p b h1).2,h2,h3⟩
 have hw:=hF w (fun b hb'=>⟨(hF' b hb').1,(hF' b hb').2.1⟩) (fun b hb'=>hm b (by simp[hb']))
 refine Calls.mono (h w (fun b hb'=>hm b (by simp[hb'])) (fun p q b c hpq hpb hqc hown=>ha p q b c hpq (hsub p b hpb).2 (hsub q c hqc).2 hown) (fun b hFb=>⟨(hw b hFb).1,(hw b hFb).2,fun j hj ⟨p,b',h1,h2,h3⟩=>?_⟩)) ?_
 ·obtain⟨hl,hp'⟩:=hsub p b' h1
  rcases hn b hFb j hj with⟨y,hy,he⟩|⟨c,hcm,he⟩
  ·exact(hF' y hy).2.2 j he ⟨p,b',hp',h2,h3⟩
  ·obtain⟨i,hi⟩:=List.getElem?_of_mem hcm
   have hq:lM ((bs++cs).map some) (bs.length+i)=some c:=by
    rw[List.map_append,qBk (by simp)]
    simp[lM,hi]
   exact ha p (bs.length+i) b' c (by omega) hp' hq h2 j h3 he
 ·rintro e w' ⟨ns,hns,he,hp⟩
  have hout:∀p b,lM (o ns++(qJL cs++nw ns)) p=some b→(p<bs.length∧lM (o ns++nw ns) p=some b)∨(bs.length+cs.length≤p∧lM (o ns++nw ns) (p-cs.length)=some b):=fun p b hpb=>by
   rcases qDG hpb with⟨h1,h2⟩|⟨h1,h2⟩
   ·left;rw[ho] at h1;exact⟨h1,by rw[qBP (by rw[ho];exact h1)];exact h2⟩
   ·rw[ho] at h1 h2
    rcases qDG h2 with⟨h3,h4⟩|⟨h3,h4⟩
    ·exact absurd h4 (qCx _ _ _)
    ·right
     rw[qJ9] at h3 h4;refine⟨by omega,?_⟩
     rw[qBk (by rw[ho];omega),ho,show p-cs.length-bs.length=p-bs.length-cs.length by omega];exact h4
  have hpos:∀p b,lM (o ns++(qJL cs++nw ns)) p=some b→∃p',lM (o ns++nw ns) p'=some b∧((p<bs.length∧p'=p)∨(bs.length+cs.length≤p∧p'=p-cs.length)):=fun p b hpb=>by
   rcases hout p b hpb with⟨h1,h2⟩|⟨h1,h2⟩
   ·exact⟨p,h2,.inl ⟨h1,rfl⟩⟩
   ·exact⟨p-cs.length,h2,.inr ⟨h1,rfl⟩⟩
  refine⟨ns,hns,he,⟨fun p b hpb=>?_,fun p q b c hpq hpb hqc=>?_,⟨hp.adv.os,hp.adv.output,hp.adv.tape,hp.adv.size,fun k hk hno=>hp.adv.heap k hk (fun hk'=>hno (ho1 k hk')),fun k ⟨p,b,h1,h2,h3⟩=>?_,fun p b hpb hob=>?_⟩⟩⟩
  ·obtain⟨p',h1,_⟩:=hpos p b hpb;exact hp.holds p' b h1
  ·obtain⟨p',h1,h2⟩:=hpos p b hpb
   obtain⟨q',h3,h4⟩:=hpos q c hqc;exact hp.apart p' q' b c (by omega) h1 h3
  ·obtain⟨p',h4,_⟩:=hpos p b h1
   rcases hp.adv.names k ⟨p',b,h4,h2,h3⟩ with h5|h5
   ·exact .inl (ho1 k h5)
   ·exact .inr h5
  ·obtain⟨p',h1,h2⟩:=hpos p b hpb
   have h3:=hp.adv.ro p' b h1 hob;obtain⟨h4,h5⟩:=hsub p' b h3;rcases h2 with⟨_,rfl⟩|⟨h6,rfl⟩
   ·exact h5
   ·omega
end Go.Eng
namespace Go.Eng
def qBw {nm n r:Nat} {f:Nat→UInt8} {w:World} (h:qAn ⟨nm,false,0,spr (n+r) n (fun k=>u8 (f k)) (u8 0)⟩ w):qAn ⟨nm,false,0,qAd n fun k=>u8 (f k)⟩ w:=
 h.recont rfl fun j v hj=>by
  by_cases hl:j<n
  ·rw[qAH hl] at hj
   show(spr (n+r) n (fun k=>u8 (f k)) (u8 0)).get j=_
   rw[spr,qAH (by omega),if_pos hl];exact hj
  ·rw[qBf hl] at hj;cases hj
def qBI.fam {F:Blk→Prop} {P:Program} {f:FuncId} {args:List Value} {B:Blk} {v:Value} {o:List (Option Blk)} (h:qBI P f args [B] 0 (fun _=>v) (fun _=>o)) (hB:F B):qAt F P f args [] 0 (fun _=>v) (fun _=>[]):=by
 intro w hm ha hF;obtain⟨h1,h2,_⟩:=hF B hB;have hno:∀k,¬qDr (lM ([B].map some)) k:=fun k ⟨p,b,hp,ho,_⟩=>by
  rcases p with _ |p
  ·cases hp;rw[h2] at ho;cases ho
  ·simp[lM] at hp
 refine Calls.mono (h w (fun b hb=>by simp at hb;subst hb;exact h1) (fun p q b c _ hb _ ho=>by
  rcases p with _ |p
  ·cases hb;rw[h2] at ho;cases ho
  ·simp[lM] at hb)) ?_
 rintro e w' ⟨ns,hns,he,hp⟩
 have hnil:∀p b,lM ([]:List (Option Blk)) p≠some b:=fun p b=>by simp[lM]
 exact⟨ns,hns,he,⟨fun p b hpb=>absurd hpb (hnil p b),fun p q b c _ hpb=>absurd hpb (hnil p b),⟨hp.adv.os,hp.adv.output,hp.adv.tape,hp.adv.size,fun k hk _=>hp.adv.heap k hk (hno k),fun k ⟨p,b,hpb,_⟩=>absurd hpb (hnil p b),fun p b hpb=>absurd hpb (hnil p b)⟩⟩⟩
section
variable {P:Program} {t e t':TypeId} {x y z:Operand}
theorem qPG (ht:P.underlying t=some (.slice e)) {sz:Nat} (hs:qBT P e=some sz) (k1 k2:IntKind) (wa:Option Addr) (len cap i j:Nat) (hi:i≤j∧j≤cap):
  qB2 P (.slice t x (some y) (some z) none) [.slice wa len cap,.int k1 (i:Int),.int k2 (j:Int)] (.slice (qBF wa cap i sz) (j-i) (cap-i)):=by
 intro ρ o' ho hv;rw[ho] at hv;have hv':[ρ x,ρ y,ρ z]=[Value.slice wa len cap,.int k1 (i:Int),.int k2 (j:Int)]:=hv;injection hv' with h1 hv';injection hv' with h2 hv';injection hv' with h3 _;unfold execOp;rw[ho];simp only[Option.map];show qAb P (Sem.bind (Instr.sliceAt t (ρ x) (some (ρ y)) (some (ρ z)) none) fun v=>Sem.pure (Next.value v))=_
 rw[qA4,h1,h2,h3];have hi':0≤(i:Int)∧(i:Int)≤(j:Int):=by omega
 have hj':0≤(j:Int)∧(j:Int)≤(cap:Int):=by omega
 have e:qAb P (Instr.sliceAt t (.slice wa len cap) (some (.int k1 (i:Int))) (some (.int k2 (j:Int))) none)=some (.slice (qBF wa cap i sz) (j-i) (cap-i)):=by
  simp only[Instr.sliceAt,Instr.slice,Instr.sliceBounds,Instr.sliceBound,nat,qAh,asIntOf,qAb,pure,qAi ht,hi',hj',and_self,if_true,qA7 hs,Int.toNat_natCast];rfl
 rw[e];rfl
theorem qQj (ht:P.underlying t=some (.slice e)) {sz:Nat} (hs:qBT P e=some sz) (k:IntKind) (wa:Option Addr) (len cap i:Nat) (hi:i≤len∧len≤cap):qB2 P (.slice t x (some y) none none) [.slice wa len cap,.int k (i:Int)] (.slice (qBF wa cap i sz) (len-i) (cap-i)):=by
 intro ρ o' ho hv;rw[ho] at hv;have hv':[ρ x,ρ y]=[Value.slice wa len cap,.int k (i:Int)]:=hv;injection hv' with h1 hv';injection hv' with h2 _;unfold execOp;rw[ho];simp only[Option.map];show qAb P (Sem.bind (Instr.sliceAt t (ρ x) (some (ρ y)) none none) fun v=>Sem.pure (Next.value v))=_
 rw[qA4,h1,h2];have hi':0≤(i:Int)∧(i:Int)≤(len:Int):=by omega
 have e:qAb P (Instr.sliceAt t (.slice wa len cap) (some (.int k (i:Int))) none none)=some (.slice (qBF wa cap i sz) (len-i) (cap-i)):=by
  simp only[Instr.sliceAt,Instr.slice,Instr.sliceBounds,Instr.sliceBound,nat,qAh,asIntOf,qAb,pure,qAi ht,hi',and_self,if_true,qA7 hs,Int.toNat_natCast];rfl
 rw[e];rfl
end
section
variable {P:Program} {t t':TypeId} {x y:Operand} (a b:UInt8)
theorem qUI:qB2 P (.binOp .add t x y t') [u8 a,u8 b] (u8 (a+b)):=qAw qAq (by
 show some (Value.int .u8 (IntKind.u8.wrap ((a.toNat:Int)+b.toNat)))=_;rw[qNU,u8,UInt8.toNat_add];congr 2)
theorem jBL:qB2 P (.binOp .leq t x y t') [u8 a,u8 b] (.bool (decide (a.toNat≤b.toNat))):=qAw qAq (by
 show some (Value.bool (decide ((a.toNat:Int)≤(b.toNat:Int))))=_;congr 2;exact decide_eq_decide.2 Int.ofNat_le)
theorem qUp:qB2 P (.binOp .gtr t x y t') [u8 a,u8 b] (.bool (decide (b.toNat<a.toNat))):=qAw qAq (by
 show some (Value.bool (decide ((b.toNat:Int)<(a.toNat:Int))))=_;congr 2;exact decide_eq_decide.2 Int.ofNat_lt)
end
end Go.Eng
namespace Go.Eng
def qBI.famN {F:Blk→Prop} {P:Program} {f:FuncId} {args:List Value} {B:Blk} {k:Nat} {v:List Nat→Value} {x:List Nat→Option Blk} {nw:List Nat→List (Option Blk)} (h:qBI P f args [B] k v (fun ns=>x ns::nw ns)) (hB:F B):qAt F P f args [] k v nw:=by
 intro w hm ha hF;obtain⟨h1,h2,_⟩:=hF B hB;have hno:∀k,¬qDr (lM ([B].map some)) k:=fun k ⟨p,b,hp,ho,_⟩=>by
  rcases p with _ |p
  ·cases hp;rw[h2] at ho;cases ho
  ·simp[lM] at hp
 refine Calls.mono (h w (fun b hb=>by simp at hb;subst hb;exact h1) (fun p q b c _ hb _ ho=>by
  rcases p with _ |p
  ·cases hb;rw[h2] at ho;cases ho
  ·simp[lM] at hb)) ?_
 rintro e w' ⟨ns,hns,he,hp⟩
 have hs:∀p b,lM (nw ns) p=some b→lM (x ns::nw ns) (p+1)=some b:=fun p b h=>by simpa[lM] using h
 refine⟨ns,hns,he,⟨fun p b hpb=>hp.holds _ b (hs p b hpb),fun p q b c hpq hpb hqc=>hp.apart _ _ b c (by omega) (hs p b hpb) (hs q c hqc),⟨hp.adv.os,hp.adv.output,hp.adv.tape,hp.adv.size,fun k hk _=>hp.adv.heap k hk (hno k),fun k ⟨p,b,hpb,h3,h4⟩=>?_,fun p b hpb hob=>?_⟩⟩⟩
 ·rcases hp.adv.names k ⟨p+1,b,hs p b hpb,h3,h4⟩ with h5|h5
  ·exact absurd h5 (hno k)
  ·exact .inr h5
 ·have:=hp.adv.ro (p+1) b (hs p b hpb) hob
  simp[lM] at this
end Go.Eng
namespace Go.Eng
def qAt.lendP {F F':Blk→Prop} {P:Program} {f:FuncId} {args:List Value} {bs:List Blk} {k:Nat} {v:List Nat→Value} {out:List Nat→List (Option Blk)}
  (hF:∀w:World,qCM F' w→qCM F w) (hn:∀x,F x→∃y,F' y∧∀j,x.has j→y.has j) (h:qAt F P f args bs k v out):qAt F' P f args bs k v out:=fun w hb ha hF'=>h w hb ha fun b hb'=>by
 obtain⟨h1,h2⟩:=hF w (fun x hx=>⟨(hF' x hx).1,(hF' x hx).2.1⟩) b hb'
 obtain⟨y,hy,he⟩:=hn b hb';exact⟨h1,h2,fun j hj=>(hF' y hy).2.2 j (he j hj)⟩
def qCS {b c:BytL} {x:Blk} (h:0<c.wn→0<b.wn) (hx:qBi c x) (hb:c.wb=b.wb:=by rfl):∃y,qBi b y∧∀j,x.has j→y.has j:=by
 obtain⟨h0,rfl⟩:=hx;exact⟨qJz b,⟨h h0,rfl⟩,fun j hj=>hb.symm.trans hj⟩
end Go.Eng
namespace Go.Eng
section
variable {P:Program} {t t':TypeId} {x y:Operand}
theorem jBE (a b:UInt8):qB2 P (.binOp .eql t x y t') [u8 a,u8 b] (.bool (a==b)):=qAw qAq (by
 show some (Value.bool ((a.toNat:Int)==(b.toNat:Int)))=_;have:((a.toNat:Int)==(b.toNat:Int))=(a==b):=by
  rw[Bool.eq_iff_iff,beq_iff_eq,beq_iff_eq];constructor
  ·intro h;exact UInt8.toNat_inj.1 (by omega)
  ·intro h;rw[h]
 rw[this])
end
end Go.Eng
namespace Go.Eng
def qHY {α:Type} (K:α→Value) (g:Nat→α) (n k:Nat) (h:k<n):((List.range n).map fun j=>K (g j))[k]?=some (K (g k)):=by
 rw[List.getElem?_map,List.getElem?_range h];rfl
def qSk {nm:Nat} {l:List Value} {n:Nat} {f:Nat→UInt8} {w:World} (h:qAn ⟨nm,false,0,.lit l⟩ w) (hl:l=(List.range n).map fun k=>u8 (f k)):qAn ⟨nm,false,0,qAd n fun k=>u8 (f k)⟩ w:=by
 subst hl;exact h.recont rfl fun j v hj=>by
  by_cases hl:j<n
  ·rw[qAH hl] at hj
   show((List.range n).map fun k=>u8 (f k))[j]?= _
   rw[qHY u8 f n j hl];exact hj
  ·rw[qBf hl] at hj;cases hj
def qGv (x y:BytL) (b:Blk):Prop:=qBi x b∨qBi y b
end Go.Eng
namespace Go.Eng
def qAt.drop {F:Blk→Prop} {P:Program} {f:FuncId} {args:List Value} {bs:List Blk} {k:Nat} {v:List Nat→Value} {o nw:List Nat→List (Option Blk)} (h:qAt F P f args bs k v (fun ns=>o ns++nw ns)):qAt F P f args bs k v o:=fun w hb ha hF=>
 Calls.mono (h w hb ha hF) fun e w' ⟨ns,h1,h2,hp⟩=>by
  have hs:∀p b,lM (o ns) p=some b→lM (o ns++nw ns) p=some b:=fun p b h=>by
   have hl:p<(o ns).length:=(List.getElem?_eq_some_iff.1 (show(o ns)[p]?=some (some b) by
    unfold lM at h;cases h3:(o ns)[p]?with
    |none=>rw[h3] at h;cases h
    |some x=>rw[h3] at h;simp at h;rw[h])).1
   rw[qBP hl];exact h
  exact⟨ns,h1,h2,⟨fun p b h=>hp.holds p b (hs p b h),fun p q b c hpq hb hc=>hp.apart p q b c hpq (hs p b hb) (hs q c hc),hp.adv.weak hs⟩⟩
def qAt.name1 {F:Blk→Prop} {P:Program} {f:FuncId} {args:List Value} {bs:List Blk} {v:Value} {o:List (Option Blk)} (h:qAt F P f args bs 0 (fun _=>v) (fun _=>o)):qAt F P f args bs 1 (fun _=>v) (fun _=>o):=fun w hb ha hF=>
 Calls.mono (h w hb ha hF) fun e w' ⟨ns,h1,h2,hp⟩=>⟨[0],rfl,h2,hp⟩
def qRs {c n:Nat} {f g:Nat→Value} {z:Value} (h:∀k,k<n→f k=g k):spr c n f z=spr c n g z:=by
 unfold spr;congr 1;funext k;by_cases hk:k<n
 ·rw[if_pos hk,if_pos hk,h k hk]
 ·rw[if_neg hk,if_neg hk]
end Go.Eng
end
section
namespace Go.Eng
open Go.RowKit Go.WideShapes Go.ChangeShapes Go.ChangeAt Go.Deep
structure qA6 where
 wa:Option Addr
 wn:Nat
 wc:Nat
 wb:Nat
 wo:Nat
 wf:Nat→BytL
def qJj (q:qA6):Blk:=⟨q.wb,false,q.wo,qAd q.wn fun k=>qA3 (q.wf k)⟩
structure OkS (q:qA6):Prop where
 cap:q.wn≤q.wc
 ad:0<q.wn→q.wa=some ⟨q.wb,q.wo,none⟩
 len:q.wn≤9223372036854775807
 el:∀k,k<q.wn→OkB (q.wf k)
def qEd (q:qA6) (b:Blk):Prop:=(0<q.wn∧b=qJj q)∨∃k,k<q.wn∧qBi (q.wf k) b
section
variable {H:Type} {enc:TypeId×Value→H} {P:Program}
theorem qMp {W:World} {base:Nat} {sp:Nat→Bool} {held:Bool} {t e:TypeId} {v:Value} {fuel:Nat} {x:DataW H×List MemPlace} (ht:P.underlying t=some (.slice e)) (he:P.underlying e=some (.int .u8))
  (hc:P.cellsOf e=1) (hf:DataW.trod enc P W base sp held fuel t [v]=some x):∃q:BytL,v=qA3 q∧OkB q∧qCM (qBi q) W:=by
 rcases open_slice1 ht hc hf with⟨hcs,_⟩|⟨a,len,cap,m,n,V,D,Pl,hcs,_,hl,hm,hmm,_,hx⟩
 ·simp only[List.cons.injEq,and_true] at hcs
  subst hcs;exact⟨qAf none 0,rfl,qG2,qLj⟩
 ·simp only[List.cons.injEq,and_true] at hcs
  subst hcs;by_cases h0:len=0
  ·subst h0
   exact⟨qAf (some a) cap,rfl,qG2,qLj⟩
  have hlm:len≤m:=by rw[hmm];split<;>omega
  have hspot:a.spot=none:=World.cell?_spot (by
   have:=(hx 0 (by omega)).1
   rwa[show a.add 0=a from by cases a;simp[Addr.add]] at this)
  obtain⟨ab,ao,spot⟩:=a;simp only at hspot;subst hspot;have hV:∀i,i<len→∃x:UInt8,V i=u8 x:=fun i hi=>by
   obtain⟨_,h2⟩:=hx i (by omega)
   obtain⟨x0,e0,_,w0⟩:=DataW.trod_int he h2;simp at e0;rw[e0];exact jE2 w0
  obtain⟨f,hfV⟩:=choose_lt (α:=UInt8) (p:=fun i x=>V i=u8 x) hV
  refine⟨⟨some ⟨ab,ao,none⟩,len,cap,ab,ao,f⟩,rfl,⟨hl,fun _=>rfl,by unfold maxLen at hm;show len≤_;omega⟩,fun b hb=>?_⟩
  obtain⟨_,rfl⟩:=hb;refine⟨⟨qFA (hx 0 (by omega)).1,fun o v ho=>?_,(fun h=>by cases h),qC8 rfl⟩,rfl⟩
  have ho':(qAd len fun k=>u8 (f k)).get o=some v:=ho
  by_cases hol:o<len
  ·rw[qAH hol] at ho'
   injection ho' with ho';have:=(hx o (by omega)).1
   rw[qBu] at this;show W.cell? ⟨ab,ao+o,none⟩=some v;rw[this,hfV o hol,ho']
  ·rw[qBf hol] at ho';cases ho'
theorem qW2 {W:World} {base:Nat} {sp:Nat→Bool} {held:Bool} {i:TypeId} (hi:P.underlying i=some (.int .i64)) {c:Value} {fuel:Nat} {z:DataW H×List MemPlace} (h:DataW.trod enc P W base sp held fuel i [c]=some z):
  ∃x:Int,c=int x∧-9223372036854775808≤x∧x≤9223372036854775807:=by
 obtain⟨x0,e0,_,w0⟩:=DataW.trod_int hi h;simp at e0;have hx:-9223372036854775808≤x0∧x0≤9223372036854775807:=by simpa[Lit.wf,IntKind.min,IntKind.max,IntKind.signed,IntKind.bits] using w0
 exact⟨x0,e0,hx.1,hx.2⟩
theorem qRv {W:World} {base:Nat} {sp:Nat→Bool} {held:Bool} {i:TypeId} (hi:P.underlying i=some (.int .u64)) {c:Value} {fuel:Nat} {z:DataW H×List MemPlace} (h:DataW.trod enc P W base sp held fuel i [c]=some z):
  ∃x:UInt64,c=u64 x:=by
 obtain⟨x0,e0,_,w0⟩:=DataW.trod_int hi h;simp at e0;obtain⟨x,hx⟩:=jEf w0;exact⟨x,e0.trans hx⟩
theorem qHQ {α:Type} [Inhabited α] (K:α→Value) (G:α→Prop) {W:World} {base:Nat} {sp:Nat→Bool} {held:Bool} {t e:TypeId} {v:Value} {fuel:Nat} {x:DataW H×List MemPlace} (ht:P.underlying t=some (.slice e))
  (hc:P.cellsOf e=1) (hel:∀n v x,DataW.trod enc P W base sp held n e [v]=some x→∃a,v=K a∧G a) (hf:DataW.trod enc P W base sp held fuel t [v]=some x):
  ∃(wa:Option Addr) (wn wc wb wo:Nat) (f:Nat→α),v=.slice wa wn wc∧wn≤wc∧(0<wn→wa=some ⟨wb,wo,none⟩)∧wn≤9223372036854775807∧(∀k,k<wn→G (f k))∧(0<wn→qAn ⟨wb,false,wo,qAd wn fun k=>K (f k)⟩ W):=by
 rcases open_slice1 ht hc hf with⟨hcs,_⟩|⟨a,len,cap,m,n,V,D,Pl,hcs,_,hl,hm,hmm,_,hx⟩
 ·simp only[List.cons.injEq,and_true] at hcs
  subst hcs;exact⟨none,0,0,0,0,fun _=>default,rfl,Nat.le_refl _,fun h=>absurd h (Nat.lt_irrefl 0),Nat.zero_le _,fun k hk=>absurd hk (Nat.not_lt_zero k),fun h=>absurd h (Nat.lt_irrefl 0)⟩
 ·simp only[List.cons.injEq,and_true] at hcs
  subst hcs;by_cases h0:len=0
  ·subst h0
   exact⟨some a,0,cap,0,0,fun _=>default,rfl,Nat.zero_le _,fun h=>absurd h (Nat.lt_irrefl 0),Nat.zero_le _,fun k hk=>absurd hk (Nat.not_lt_zero k),fun h=>absurd h (Nat.lt_irrefl 0)⟩
  have hlm:len≤m:=by rw[hmm];split<;>omega
  have hspot:a.spot=none:=World.cell?_spot (by
   have:=(hx 0 (by omega)).1
   rwa[show a.add 0=a from by cases a;simp[Addr.add]] at this)
  obtain⟨ab,ao,spot⟩:=a;simp only at hspot;subst hspot;have hV:∀i,i<len→∃x:α,V i=K x∧G x:=fun i hi=>by
   obtain⟨_,h2⟩:=hx i (by omega)
   exact hel _ _ _ h2
  obtain⟨f,hfV⟩:=choose_lt (α:=α) (p:=fun i x=>V i=K x∧G x) hV
  refine⟨some ⟨ab,ao,none⟩,len,cap,ab,ao,f,rfl,hl,fun _=>rfl,by unfold maxLen at hm;omega,fun k hk=>(hfV k hk).2,fun _=>⟨qFA (hx 0 (by omega)).1,fun o v ho=>?_,(fun h=>by cases h),qC8 rfl⟩⟩
  have ho':(qAd len fun k=>K (f k)).get o=some v:=ho
  by_cases hol:o<len
  ·rw[qAH hol] at ho'
   injection ho' with ho';have:=(hx o (by omega)).1
   rw[qBu] at this;show W.cell? ⟨ab,ao+o,none⟩=some v;rw[this,(hfV o hol).1,ho']
  ·rw[qBf hol] at ho';cases ho'
instance:Inhabited BytL:=⟨qAf none 0⟩
theorem qPP {r:Reach} {b0:Nat} {W:World} {base:Nat} {sp:Nat→Bool} {held:Bool} {t s e:TypeId} {v:Value} {d:DataW H} {ps:List MemPlace} (ht:P.underlying t=some (.slice s)) (hs:P.underlying s=some (.slice e)) (he:P.underlying e=some (.int .u8))
  (hcs:P.cellsOf s=1) (hc:P.cellsOf e=1) (hval:Value.okWide P W r b0 t v) (hd:DataW.Trod enc P W base sp held t v d ps):∃q:qA6,v=.slice q.wa q.wn q.wc∧OkS q∧qCM (qEd q) W:=by
 obtain⟨a1,len,cap,rfl⟩:=okWide_slice ht hval;obtain⟨fuel,hf⟩:=hd;obtain⟨wa,wn,wc,wb,wo,f,e1,e2,e3,e4,e5,e6⟩:=qHQ (α:=BytL) qA3 (fun q=>OkB q∧qCM (qBi q) W) ht hcs (fun n v x hx=>qMp hs he hc hx) hf
 injection e1 with h1 h2 h3;subst h1 h2 h3;refine⟨⟨a1,len,cap,wb,wo,f⟩,rfl,⟨e2,e3,e4,fun k hk=>(e5 k hk).1⟩,fun b hb=>?_⟩
 rcases hb with⟨h0,rfl⟩|⟨k,hk,hb⟩
 ·exact⟨e6 h0,rfl⟩
 ·exact(e5 k hk).2 b hb
end
end Go.Eng
end
section
namespace Go.Eng
structure Grw (α:Type) where
 z:Bool
 nm:Nat
 n:Nat
 r:Nat
 f:Nat→α
def grO {α:Type} (K:α→Value) (zv:Value) (A:Grw α):Option Blk:=match A.z with
 |true=>none
 |false=>some ⟨A.nm,true,0,spr (A.n+A.r) A.n (fun k=>K (A.f k)) zv⟩
section
variable {α:Type} {K:α→Value} {zv:Value} {A:Grw α}
theorem qZL (h:A.z=true):grO K zv A=none:=by unfold grO;rw[h]
theorem qM6 (h:A.z=false):grO K zv A=some ⟨A.nm,true,0,spr (A.n+A.r) A.n (fun k=>K (A.f k)) zv⟩:=by unfold grO;rw[h]
end
section
variable {P:Program} {t ty e:TypeId}
theorem qKj {sz:Nat} (ht:P.underlying t=some (.slice e)) (hs:qBT P e=some sz) (a:Option Addr) (n c:Nat) (hn:n≤c) (al:Option Addr) (cl:Nat):
  qAu P (qBH t ty (.slice a n c) (.slice al 0 cl)) [] 0 (fun _=>.slice a n c) (fun _=>[]):=by
 intro w hall ha;obtain⟨i,hi,hi2⟩:∃i,P.info? e=some i∧i.size=sz:=by
  unfold qBT at hs;cases h:P.info? e with
  |none=>simp[h] at hs
  |some i=>simp[h] at hs;exact⟨i,rfl,hs⟩
 refine⟨[],w,rfl,.inl (qAA ?_),qC4.refl (fun p c h=>by cases h) ha⟩
 have hn':¬c<n:=by omega
 cases al<;>cases a<;>simp[Builtin.append_,run_underlying ht,sizeOf,typeInfo,hi,hn',Builtin.lenOf,Builtin.firstCells,storeCells,loadCells,loadCellsFrom]
end
end Go.Eng
namespace Go.Eng
def qJn {P:Program} {t ty e:TypeId} {sz:Nat} (ht:P.underlying t=some (.slice e)) (hs:qBT P e=some sz) (a:Option Addr) (n c:Nat) (hn:n≤c) (al:Option Addr) (m cl:Nat) (hm:m=0):
  qAu P (qBH t ty (.slice a n c) (.slice al m cl)) [] 0 (fun _=>.slice a n c) (fun _=>[]):=by
 subst hm;exact qKj ht hs a n c hn al cl
def qC4.conv {m m' n n':Nat→Option Blk} {w w':World} (hp:qC4 m w m' w') (h0:∀k,qDr m k→qDr n k) (π:Nat→Nat)
  (hπ:∀p q b c,n' p=some b→n' q=some c→π p=π q→p=q)
  (h2:∀p b,n' p=some b→b.own=true∧∃b',m' (π p)=some b'∧(∀k,b.has k→b'.has k)∧b'.own=true∧∀w,qAn b' w→qAn b w):qC4 n w n' w' where
 holds p b hb:=by obtain⟨_,b',h3,_,_,h6⟩:=h2 p b hb;exact h6 _ (hp.holds _ _ h3)
 apart p q b c hpq hb hc ho:=by
  obtain⟨_,b',h3,h4,h5,_⟩:=h2 p b hb;obtain⟨_,c',k3,k4,k5,_⟩:=h2 q c hc;exact fun k l1 l2=>hp.apart _ _ b' c' (fun e=>hpq (hπ p q b c hb hc e)) h3 k3 h5 k (h4 k l1) (k4 k l2)
 adv:=⟨hp.adv.os,hp.adv.output,hp.adv.tape,hp.adv.size,fun k hk hn=>hp.adv.heap k hk fun ho=>hn (h0 k ho),fun k ⟨p,b,hb,ho,hk⟩=>by
   obtain⟨_,b',h3,h4,h5,_⟩:=h2 p b hb;rcases hp.adv.names k ⟨π p,b',h3,h5,h4 k hk⟩ with h6|h6
   ·exact .inl (h0 k h6)
   ·exact .inr h6,fun p b hb ho=>by
   have:=(h2 p b hb).1;rw[ho] at this;cases this⟩
structure Suf (bs bs':List (Option Blk)) (ρ:Nat→Nat):Prop where
 inj:∀p q b c,lM bs p=some b→lM bs q=some c→ρ p=ρ q→p=q
 sub:∀p b,lM bs p=some b→∃b',lM bs' (ρ p)=some b'∧(∀k,b.has k→b'.has k)∧b'.own=b.own∧∀w,qAn b' w→qAn b w
def Suf.owns {bs bs':List (Option Blk)} {ρ:Nat→Nat} (h:Suf bs bs' ρ) (k:Nat):qDr (lM bs) k→qDr (lM bs') k:=fun⟨p,b,hb,ho,hk⟩=>by
 obtain⟨b',h1,h2,h3,_⟩:=h.sub p b hb;exact⟨ρ p,b',h1,by rw[h3,ho],h2 k hk⟩
def Suf.holds {bs bs':List (Option Blk)} {ρ:Nat→Nat} (h:Suf bs bs' ρ) {w:World} (hm:∀p b,lM bs' p=some b→qAn b w):∀p b,lM bs p=some b→qAn b w:=fun p b hb=>by
 obtain⟨b',h1,_,_,h4⟩:=h.sub p b hb;exact h4 w (hm _ _ h1)
def Suf.apart {bs bs':List (Option Blk)} {ρ:Nat→Nat} (h:Suf bs bs' ρ) (ha:qCJ (lM bs')):qCJ (lM bs):=fun p q b c hpq hb hc ho=>by
 obtain⟨b',h1,h2,h3,_⟩:=h.sub p b hb;obtain⟨c',k1,k2,k3,_⟩:=h.sub q c hc;exact fun k l1 l2=>ha _ _ b' c' (fun e=>hpq (h.inj p q b c hb hc e)) h1 k1 (by rw[h3,ho]) k (h2 k l1) (k2 k l2)
def Suf.fam {F:Blk→Prop} {bs bs':List (Option Blk)} {ρ:Nat→Nat} (h:Suf bs bs' ρ) {w:World} (hF:Fam F (lM bs') w):Fam F (lM bs) w:=fun b hb=>by
 obtain⟨h1,h2,h3⟩:=hF b hb;exact⟨h1,h2,fun k hk ho=>h3 k hk (h.owns _ ho)⟩
def qYN (out out':List (Option Blk)) (π:Nat→Nat):Prop:=
 (∀p q b c,lM out' p=some b→lM out' q=some c→π p=π q→p=q)∧
 ∀p b,lM out' p=some b→b.own=true∧∃b',lM out (π p)=some b'∧(∀k,b.has k→b'.has k)∧b'.own=true∧∀w,qAn b' w→qAn b w
def qFg.conv {P:Program} {s:Sem Next} {bs bs':List (Option Blk)} {k k':Nat} {v v':List Nat→Value} {out out':List Nat→List (Option Blk)} (h:qFg P s bs k v out)
  (ρ:Nat→Nat) (h1:Suf bs bs' ρ) (π:Nat→Nat) (σ:List Nat→List Nat) (hσ:∀ns,ns.length=k→(σ ns).length=k'∧v' (σ ns)=v ns∧qYN (out ns) (out' (σ ns)) π):qFg P s bs' k' v' out':=by
 intro w hm ha;obtain⟨ns,w',hns,he,hp⟩:=h w (h1.holds hm) (h1.apart ha);obtain⟨h3,h4,h5,h6⟩:=hσ ns hns;exact⟨σ ns,w',h3,by rw[h4];exact he,hp.conv h1.owns π h5 h6⟩
def qAt.toO {F:Blk→Prop} {P:Program} {f:FuncId} {args:List Value} {bs:List Blk} {k:Nat} {v:List Nat→Value} {out:List Nat→List (Option Blk)} (h:qAt F P f args bs k v out):qAc F P f args (bs.map some) k v out:=
 fun w hm ha hF=>h w (fun b hb=>by obtain⟨i,hi⟩:=List.getElem?_of_mem hb;exact hm i b (qAV.2 hi)) ha hF
def qBI.toO {F:Blk→Prop} {P:Program} {f:FuncId} {args:List Value} {bs:List Blk} {k:Nat} {v:List Nat→Value} {out:List Nat→List (Option Blk)} (h:qBI P f args bs k v out):qAc F P f args (bs.map some) k v out:=h.toF.toO
def qAu.toO {P:Program} {s:Sem Next} {bs:List Blk} {k:Nat} {v:List Nat→Value} {out:List Nat→List (Option Blk)} (h:qAu P s bs k v out):qFg P s (bs.map some) k v out:=
 fun w hm ha=>h w (fun b hb=>by obtain⟨i,hi⟩:=List.getElem?_of_mem hb;exact hm i b (qAV.2 hi)) ha
def qAc.toF {F:Blk→Prop} {P:Program} {f:FuncId} {args:List Value} {bs:List Blk} {k:Nat} {v:List Nat→Value} {out:List Nat→List (Option Blk)} (h:qAc F P f args (bs.map some) k v out):qAt F P f args bs k v out:=
 fun w hm ha hF=>h w (fun i b hb=>hm b (List.mem_of_getElem? (qAV.1 hb))) ha hF
def lm0 {o:Option Blk} {r:List (Option Blk)}:lM (o::r) 0=o:=rfl
def lm1 {o:Option Blk} {r:List (Option Blk)} (p:Nat):lM (o::r) (p+1)=lM r p:=by simp[lM]
def lmN (p:Nat):lM ([]:List (Option Blk)) p=none:=by simp[lM]
inductive Sub:List (Option Blk)→List (Option Blk)→Prop where
 |zz (l:List (Option Blk)):Sub [] l
 |dr {l l':List (Option Blk)} (o:Option Blk):Sub l l'→Sub (none::l) (o::l')
 |kp {l l':List (Option Blk)} (b b':Blk) (h:(∀k,b.has k→b'.has k)∧b'.own=b.own∧∀w,qAn b' w→qAn b w):Sub l l'→Sub (some b::l) (some b'::l')
 |gp {l l':List (Option Blk)} (o:Option Blk):Sub l l'→Sub l (o::l')
 |dn {l l':List (Option Blk)}:Sub l l'→Sub (none::l) l'
def Sub.at {l l':List (Option Blk)} (h:Sub l l'):∃ρ,Suf l l' ρ:=by
 induction h with
 |zz l=>exact⟨id,⟨fun p q b c hb=>(by rw[lmN] at hb;cases hb),fun p b hb=>(by rw[lmN] at hb;cases hb)⟩⟩
 |@dr l l' o _ ih=>
  obtain⟨ρ,h1,h2⟩:=ih;refine⟨fun p=>match p with|0=>0|p+1=>ρ p+1,⟨fun p q b c hb hc e=>?_,fun p b hb=>?_⟩⟩
  ·cases p with
   |zero=>cases hb
   |succ p=>cases q with
    |zero=>cases hc
    |succ q=>rw[lm1] at hb hc;simp only at e;have:=h1 p q b c hb hc (by omega);omega
  ·cases p with
   |zero=>cases hb
   |succ p=>rw[lm1] at hb;simp only[lm1];exact h2 p b hb
 |@kp l l' b0 b0' h0 _ ih=>
  obtain⟨ρ,h1,h2⟩:=ih;refine⟨fun p=>match p with|0=>0|p+1=>ρ p+1,⟨fun p q b c hb hc e=>?_,fun p b hb=>?_⟩⟩
  ·cases p with
   |zero=>cases q with
    |zero=>rfl
    |succ q=>simp only at e;omega
   |succ p=>cases q with
    |zero=>simp only at e;omega
    |succ q=>rw[lm1] at hb hc;simp only at e;have:=h1 p q b c hb hc (by omega);omega
  ·cases p with
   |zero=>rw[lm0] at hb;injection hb with hb;subst hb;exact⟨b0',rfl,h0⟩
   |succ p=>rw[lm1] at hb;simp only[lm1];exact h2 p b hb
 |dn _ ih=>
  obtain⟨ρ,h1,h2⟩:=ih;refine⟨fun p=>match p with|0=>0|p+1=>ρ p,⟨fun p q b c hb hc e=>?_,fun p b hb=>?_⟩⟩
  ·cases p with
   |zero=>cases hb
   |succ p=>cases q with
    |zero=>cases hc
    |succ q=>rw[lm1] at hb hc;simp only at e;have:=h1 p q b c hb hc e;omega
  ·cases p with
   |zero=>cases hb
   |succ p=>rw[lm1] at hb;simp only;exact h2 p b hb
 |gp _ _ ih=>
  obtain⟨ρ,h1,h2⟩:=ih;exact⟨fun p=>ρ p+1,⟨fun p q b c hb hc e=>h1 p q b c hb hc (by omega),fun p b hb=>by simp only[lm1];exact h2 p b hb⟩⟩
def qS6:List (Option Blk)→Prop
 |[]=>True
 |none::r=>qS6 r
 |some b::r=>b.own=true∧qS6 r
theorem qQA:∀{l:List (Option Blk)},qS6 l→∀p b,lM l p=some b→b.own=true
 |[],_,p,b,hb=>by rw[lmN] at hb;cases hb
 |none::r,h,0,b,hb=>by cases hb
 |some c::r,h,0,b,hb=>by rw[lm0] at hb;injection hb with hb;subst hb;exact h.1
 |none::r,h,p+1,b,hb=>by rw[lm1] at hb;exact qQA (l:=r) h p b hb
 |some c::r,h,p+1,b,hb=>by rw[lm1] at hb;exact qQA h.2 p b hb
def Sub.leaves {l l':List (Option Blk)} (h:Sub l' l) (ho:qS6 l'):∃π,qYN l l' π:=by
 obtain⟨ρ,h1,h2⟩:=h.at;refine⟨ρ,h1,fun p b hb=>?_⟩
 have hown:=qQA ho p b hb;obtain⟨b',k1,k2,k3,k4⟩:=h2 p b hb;exact⟨hown,b',k1,k2,by rw[k3,hown],k4⟩
def qAc.as {F:Blk→Prop} {P:Program} {f:FuncId} {args:List Value} {bs bs':List (Option Blk)} {k k':Nat} {v v':List Nat→Value} {out out':List Nat→List (Option Blk)} (h:qAc F P f args bs k v out)
  (h1:Sub bs bs') (σ:List Nat→List Nat) (hσ:∀ns,ns.length=k→(σ ns).length=k'∧v' (σ ns)=v ns∧Sub (out' (σ ns)) (out ns)∧qS6 (out' (σ ns))):qAc F P f args bs' k' v' out':=by
 obtain⟨ρ,hρ⟩:=h1.at;intro w hm ha hF;refine Calls.mono (h w (hρ.holds hm) (hρ.apart ha) (hρ.fam hF)) ?_;rintro e w' ⟨ns,hns,he,hp⟩
 obtain⟨h3,h4,h5,h6⟩:=hσ ns hns;obtain⟨π,h7,h8⟩:=h5.leaves h6;exact⟨σ ns,h3,by rw[h4,he],hp.conv hρ.owns π h7 h8⟩
def qFg.as {P:Program} {s:Sem Next} {bs bs':List (Option Blk)} {k k':Nat} {v v':List Nat→Value} {out out':List Nat→List (Option Blk)} (h:qFg P s bs k v out)
  (h1:Sub bs bs') (σ:List Nat→List Nat) (hσ:∀ns,ns.length=k→(σ ns).length=k'∧v' (σ ns)=v ns∧Sub (out' (σ ns)) (out ns)∧qS6 (out' (σ ns))):qFg P s bs' k' v' out':=by
 obtain⟨ρ,hρ⟩:=h1.at;intro w hm ha;obtain⟨ns,w',hns,he,hp⟩:=h w (hρ.holds hm) (hρ.apart ha);obtain⟨h3,h4,h5,h6⟩:=hσ ns hns;obtain⟨π,h7,h8⟩:=h5.leaves h6;exact⟨σ ns,w',h3,by rw[h4];exact he,hp.conv hρ.owns π h7 h8⟩
theorem Sub.refl:∀(l:List (Option Blk)),Sub l l
 |[]=>.zz _
 |none::r=>.dr _ (Sub.refl r)
 |some b::r=>.kp b b ⟨fun _ h=>h,rfl,fun _ h=>h⟩ (Sub.refl r)
theorem Sub.cons {l l':List (Option Blk)} (o:Option Blk) (h:Sub l l'):Sub (o::l) (o::l'):=match o with
 |none=>.dr _ h
 |some b=>.kp b b ⟨fun _ h=>h,rfl,fun _ h=>h⟩ h
def qAn.retab {b:Blk} {c:qAL} (hnm:c.isMap=false) (hbm:b.cont.isMap=false) (hc:∀o v,c.get o=some v→b.cont.get o=some v):(∀k,Blk.has {b with cont:=c} k→b.has k)∧b.own=b.own∧∀w,qAn b w→qAn {b with cont:=c} w:=
 ⟨fun k hk=>(qBB hbm).2 ((qBB (b:={b with cont:=c}) hnm).1 hk),rfl,fun _ h=>h.recont hnm hc⟩
def qAc.mono {F F':Blk→Prop} {P:Program} {f:FuncId} {args:List Value} {bs:List (Option Blk)} {k:Nat} {v:List Nat→Value} {out:List Nat→List (Option Blk)} (hs:∀b,F b→F' b) (h:qAc F P f args bs k v out):qAc F' P f args bs k v out:=
 fun w hm ha hF=>h w hm ha fun b hb=>hF b (hs b hb)
def qAc.frame {F:Blk→Prop} {P:Program} {f:FuncId} {args:List Value} {bs:List (Option Blk)} {ps:List (Nat×Bool)} {k k':Nat} {v v':List Nat→Value} {out out':List Nat→List (Option Blk)}
  (h:qAc F P f args (qCn (lM bs) ps) k v out) (hn:qBv ps=true) (σ:List Nat→List Nat)
  (hσ:∀ns,ns.length=k→(σ ns).length=k'∧v' (σ ns)=v ns∧ps.length≤(out ns).length∧∀p b,lM (out' (σ ns)) p=some b→qAG (lM bs) (qAB ps bs.length (out ns)) p=some b):qAc F P f args bs k' v' out':=by
 intro w hm ha hF;refine Calls.mono (h w (qDJ hm) (qDD ha hn) (qIL hF)) ?_;rintro e w' ⟨ns,hns,he,hp⟩
 obtain⟨h1,h2,h3,h4⟩:=hσ ns hns;exact⟨σ ns,h1,by rw[h2,he],(qDA hm ha h3 hp).sub h4⟩
def qAc.reads {F:Blk→Prop} {P:Program} {f:FuncId} {args:List Value} {bs:List (Option Blk)} (ps:List (Nat×Bool)) {k:Nat} {v0:Value} {out:List Nat→List (Option Blk)}
  (h:qAc F P f args (qCn (lM bs) ps) 0 (fun _=>v0) out) (hn:qBv ps=true) (hr:ps.all (fun x=>x.2)=true):qAc F P f args bs k (fun _=>v0) (fun _=>bs):=by
 have hout:∀(qs:List (Nat×Bool)) (nx:Nat) (m:Nat),qs.all (fun x=>x.2)=true→qAB qs nx (List.replicate qs.length none)=[]:=by
  intro qs;induction qs with
  |nil=>intro nx m _;rfl
  |cons x r ih=>
   obtain⟨p,ro⟩:=x;intro nx m hx;simp only[List.all_cons,Bool.and_eq_true] at hx;have:ro=true:=hx.1
   subst this;simp only[List.length_cons,List.replicate_succ,qAB];exact ih nx m hx.2
 have h':qAc F P f args (qCn (lM bs) ps) 0 (fun _=>v0) (fun _=>List.replicate ps.length none):=fun w hm ha hF=>Calls.mono (h w hm ha hF) fun e w' ⟨ns,h1,h2,h3⟩=>⟨ns,h1,h2,h3.sub fun p b hb=>by
  have:∀(n p:Nat),lM (List.replicate n (none:Option Blk)) p=none:=fun n p=>by
   simp only[lM,List.getElem?_replicate];split<;>simp_all
  rw[this] at hb;cases hb⟩
 refine h'.frame hn (fun _=>List.replicate k 0) fun ns _=>⟨by simp,rfl,by simp,fun p b hb=>?_⟩
 rw[hout ps bs.length 0 hr];exact hb
section
variable {α:Type}
def gsA (A:Grw α):Option Addr:=match A.z with
 |true=>none
 |false=>some ⟨A.nm,0,none⟩
def gsC (A:Grw α):Nat:=match A.z with
 |true=>0
 |false=>A.n+A.r
def gsV (A:Grw α):Value:=.slice (gsA A) A.n (gsC A)
def gsE (C:α→List Value) (zc:List Value) (sz:Nat) (A:Grw α):Option Blk:=match A.z with
 |true=>none
 |false=>some ⟨A.nm,true,0,qGn sz (A.n+A.r) A.n (fun k=>C (A.f k)) zc⟩
def Grw.ok (A:Grw α):Prop:=A.z=true→A.n=0
def Grw.cat (A:Grw α) (m:Nat) (h:Nat→α) (nm r:Nat):Grw α:=⟨decide (m=0)&&A.z,nm,A.n+m,r,qAj A.f A.n h⟩
def qAp (S:Nat) (F:Nat→α) (a r:Nat):Grw α:=⟨decide (S=0),a,S,r,F⟩
theorem qBG (S:Nat) (F:Nat→α) (a r:Nat):(qAp S F a r).ok:=fun h=>of_decide_eq_true h
variable {A:Grw α} {C:α→List Value} {zc:List Value} {sz:Nat} {K:α→Value} {zv:Value}
theorem qUY (h:A.z=true):gsA A=none:=by unfold gsA;rw[h]
theorem jAH (h:A.z=true):gsC A=0:=by unfold gsC;rw[h]
theorem qPU (h:A.z=true):gsE C zc sz A=none:=by unfold gsE;rw[h]
theorem qIt (h:A.z=false):gsA A=some ⟨A.nm,0,none⟩:=by unfold gsA;rw[h]
theorem qUP (h:A.z=false):gsC A=A.n+A.r:=by unfold gsC;rw[h]
theorem qDy (h:A.z=false):gsE C zc sz A=some ⟨A.nm,true,0,qGn sz (A.n+A.r) A.n (fun k=>C (A.f k)) zc⟩:=by unfold gsE;rw[h]
theorem qTY (h:A.z=true) (hk:A.ok):gsV A=.slice none 0 0:=by unfold gsV;rw[qUY h,jAH h,hk h]
theorem qGR (h:A.z=false):gsV A=.slice (some ⟨A.nm,0,none⟩) A.n (A.n+A.r):=by unfold gsV;rw[qIt h,qUP h]
theorem Grw.ok.pos (hk:A.ok) (h:0<A.n):A.z=false:=by
 cases hz:A.z with
 |false=>rfl
 |true=>have:=hk hz;omega
theorem qQ6 {c n:Nat} {f g:Nat→α} (hg:∀k,k<n→f k=g k):qGn sz c n (fun k=>C (f k)) zc=qGn sz c n (fun k=>C (g k)) zc:=by
 unfold qGn;congr 1;funext k;by_cases h:k<n
 ·rw[if_pos h,if_pos h];show C (f k)=C (g k);rw[hg k h]
 ·rw[if_neg h,if_neg h]
theorem qQp {A':Grw α} (h1:A'.z=A.z) (h2:A'.nm=A.nm) (h3:A'.n=A.n) (h4:A'.r=A.r) (h5:∀k,k<A.n→A'.f k=A.f k):gsE C zc sz A'=gsE C zc sz A:=by
 obtain⟨z,nm,n,r,f⟩:=A;obtain⟨z',nm',n',r',f'⟩:=A';simp only at h1 h2 h3 h4 h5;subst h1;subst h2;subst h3;subst h4;unfold gsE;cases z'<;>simp only[qQ6 h5]
theorem qD9 {S:Nat} {F:Nat→α} (h1:A.n=S) (h2:A.z=decide (S=0)) (h3:∀j,j<S→A.f j=F j):
  gsV A=gsV (qAp S F A.nm A.r)∧gsE C zc sz A=gsE C zc sz (qAp S F A.nm A.r):=by
 subst h1;refine⟨?_,qQp h2 rfl rfl rfl h3⟩;unfold gsV gsA gsC qAp;simp only[h2]
theorem qWM {r:List (Option Blk)} (h:qS6 r):qS6 (gsE C zc sz A::r):=by
 unfold gsE;cases A.z with
 |true=>exact h
 |false=>exact⟨rfl,h⟩
section
variable {P:Program} {t ty e:TypeId} {B:Nat}
theorem qVQ (h1:qWf P e zc sz B):qBT P e=some sz:=by
 obtain⟨i,z,hi,_,hsz,_⟩:=h1;simp[qBT,hi,hsz]
theorem qF4 (ht:P.underlying t=some (.slice e)) (h1:qWf P e zc sz B) (A:Grw α) (hA:A.ok) (hC:∀a,(C a).length=sz∧(C a).all Value.oneCell'=true) (h:Nat→α) (m:Nat) (adr:Option Addr) (cc:Nat) (ob:Option Blk)
  (hs:0<m→∃k bo os S,adr=some ⟨k,bo+os,none⟩∧ob=some ⟨k,false,bo,S⟩∧∀j,j<m*sz→S.get (os+j)=some (cf sz (fun k=>C (h k)) j))
  (hb:(A.n+m)*B≤140737488355328∧A.n+m≤9223372036854775807):
  qFg P (qBH t ty (gsV A) (.slice adr m cc)) [gsE C zc sz A,ob] 2 (fun ns=>gsV (A.cat m h (ns.getD 0 0) (ns.getD 1 0))) (fun ns=>[gsE C zc sz (A.cat m h (ns.getD 0 0) (ns.getD 1 0)),none]):=by
 rcases Nat.eq_zero_or_pos m with hm|hm
 ·subst hm
  have hcap:A.n≤gsC A:=by
   unfold gsC;cases hz:A.z with
   |true=>rw[hA hz];exact Nat.zero_le _
   |false=>simp only;omega
  have key:=(qJn (P:=P) (t:=t) (ty:=ty) ht (qVQ h1) (gsA A) A.n (gsC A) hcap adr 0 cc rfl).toO;intro w hm ha;obtain⟨ns,w',hns,he,hp⟩:=key w (fun p b hb=>by cases p<;>cases hb) (fun p q b c _ hb=>by cases p<;>cases hb)
  refine⟨[A.nm,A.r],w',rfl,?_,?_⟩
  ·have ec:A.cat 0 h A.nm A.r=⟨A.z,A.nm,A.n,A.r,qAj A.f A.n h⟩:=by
    unfold Grw.cat;rw[show(decide (0=0)&&A.z)=A.z from by simp];rfl
   have e:gsV (A.cat 0 h A.nm A.r)=.slice (gsA A) A.n (gsC A):=by rw[ec];rfl
   show _∨_;simp only[List.getD_cons_zero,List.getD_cons_succ,e];exact he
  ·have e:gsE C zc sz (A.cat 0 h A.nm A.r)=gsE C zc sz A:=qQp (by simp[Grw.cat]) rfl rfl rfl fun k hk=>by simp[Grw.cat,qAj,hk]
   simp only[List.getD_cons_zero,List.getD_cons_succ,e];have hnil:∀p:Nat,lM (List.map some ([]:List Blk)) p=none:=fun p=>by simp[lM]
   have hadv:=hp.adv;have hw:∀k,k<w.heap.size→w'.heap[k]?=w.heap[k]?:=fun k hk=>hadv.heap k hk fun⟨p,b,hb,_⟩=>by rw[hnil] at hb;cases hb
   have hsub:∀p b,lM [gsE C zc sz A,none] p=some b→p=0∧gsE C zc sz A=some b:=fun p b hb=>by
    rcases p with _ | _ |p
    ·exact⟨rfl,hb⟩
    ·cases hb
    ·simp[lM] at hb
   refine⟨fun p b hb=>?_,fun p q b c hpq hb hc ho=>?_,⟨hadv.os,hadv.output,hadv.tape,hadv.size,fun k hk _=>hw k hk,fun k ⟨p,b,hb,ho,hk⟩=>?_,fun p b hb ho=>?_⟩⟩
   ·obtain⟨rfl,h2⟩:=hsub p b hb
    have:=hm 0 b h2;exact this.of_heap hadv.size fun k hk=>hw _ (this.has_lt hk)
   ·obtain⟨rfl,_⟩:=hsub p b hb
    obtain⟨rfl,_⟩:=hsub q c hc;exact absurd rfl hpq
   ·obtain⟨rfl,h2⟩:=hsub p b hb
    exact .inl ⟨0,b,h2,ho,hk⟩
   ·obtain⟨rfl,h2⟩:=hsub p b hb
    cases hz:A.z with
    |true=>rw[qPU hz] at h2;cases h2
    |false=>rw[qDy hz] at h2;exact absurd (by injection h2 with h2;rw[←h2]) (show¬b.own=true from by rw[ho];decide)
 ·obtain⟨k,bo,os,S,rfl,rfl,hS⟩:=hs hm
  have hmz:decide (m=0)=false:=decide_eq_false (by omega)
  cases hz:A.z with
  |true=>
   have hn:=hA hz;rw[qTY hz hA,qPU hz];have key:=(qMh (P:=P) (t:=t) (ty:=ty) ht h1 k bo os m cc C hC h S hS ⟨hm,by rw[hn,Nat.zero_add] at hb;exact hb.1,by omega⟩).toO
   have e1:∀ns:List Nat,gsV (A.cat m h (ns.getD 0 0) (ns.getD 1 0))=.slice (some ⟨ns.getD 0 0,0,none⟩) m (m+ns.getD 1 0):=fun ns=>by
    rw[qGR (by simp[Grw.cat,hmz])];simp only[Grw.cat,hn,Nat.zero_add]
   have e2:∀ns:List Nat,gsE C zc sz (A.cat m h (ns.getD 0 0) (ns.getD 1 0))=some ⟨ns.getD 0 0,true,0,qGn sz (m+ns.getD 1 0) m (fun k=>C (h k)) zc⟩:=fun ns=>by
    rw[qDy (by simp[Grw.cat,hmz])];simp only[Grw.cat,hn,Nat.zero_add]
    rw[qQ6 (g:=h) fun k _=>by simp[qAj]]
   refine key.conv (fun p=>p+1) ⟨fun p q b c _ _ e=>Nat.succ.inj e,fun p b hb=>⟨b,by rw[lm1];exact hb,fun _ h=>h,rfl,fun _ h=>h⟩⟩ (fun p=>p+1) id fun ns hns=>⟨hns,e1 ns,fun p q b c _ _ e=>Nat.succ.inj e,fun p b hb=>?_⟩
   rcases p with _ | _ |p
   ·rw[lm0] at hb;simp only[id,e2] at hb;injection hb with hb;subst hb
    exact⟨rfl,_,rfl,fun _ h=>h,rfl,fun _ h=>h⟩
   ·cases hb
   ·simp[lM] at hb
  |false=>
   rw[qGR hz,qDy hz];have key:=(qSS (P:=P) (t:=t) (ty:=ty) ht h1 A.nm A.n A.r k bo os m cc C hC A.f h S hS hb).toO;refine key.as (.refl _) id fun ns _=>⟨by assumption,?_,?_,?_⟩
   ·show gsV _=_
    rw[qGR (by simp[Grw.cat,hmz])];simp only[Grw.cat,id]
   ·rw[qDy (by simp[Grw.cat,hmz])]
    simp only[Grw.cat,id];exact .kp _ _ ⟨fun _ h=>h,rfl,fun w hw=>hw⟩ (.dr _ (.zz _))
   ·rw[qDy (by simp[Grw.cat,hmz])];exact⟨rfl,trivial⟩
end
theorem qZI (hA:A.ok):A.n≤gsC A:=by
 unfold gsC;cases hz:A.z with
 |true=>rw[hA hz];exact Nat.zero_le _
 |false=>simp only;omega
end
def qAc.darkO {F:Blk→Prop} {P:Program} {f:FuncId} {args:List Value} {bs:List (Option Blk)} {k:Nat} {v:List Nat→Value} {out:List Nat→List (Option Blk)} (fl:List Bool) (h:qAc F P f args bs k v out):
  qAc F P f args bs k v (fun ns=>dkn fl (out ns)):=fun w hb ha hF=>Calls.mono (h w hb ha hF) fun _ _ ⟨ns,h1,h2,h3⟩=>⟨ns,h1,h2,h3.sub (qH8 fl (out ns))⟩
end Go.Eng
end
section
namespace Go.Eng
open Go.RowKit Go.WideShapes Go.ChangeShapes Go.ChangeAt Go.Deep
def qVJ (f g:Nat→UInt8):qAj f 0 g=g:=by funext k;unfold qAj;rw[if_neg (by omega)];rfl
def u8C (x:UInt8):List Value:=[u8 x]
def qMu (A:Grw UInt8):gsE u8C [u8 0] 1 A=grO u8 (u8 0) A:=by
 unfold gsE grO;cases A.z with
 |true=>rfl
 |false=>
  simp only;congr 2;unfold qGn spr qAd;congr 1;funext k;by_cases h:k<A.n
  ·show _=[if k<A.n then u8 (A.f k) else u8 0]
   rw[if_pos h,if_pos h];rfl
  ·show _=[if k<A.n then u8 (A.f k) else u8 0]
   rw[if_neg h,if_neg h]
def jC8 {α:Type} {C:α→List Value} {zc:List Value} {sz:Nat} (A:Grw α) (hA:A.ok) (hsz:0<sz) (hC:∀a,(C a).length=sz) (hz:zc.length=sz):
  0<A.n→∃k bo os S,gsA A=some ⟨k,bo+os,none⟩∧roO (gsE C zc sz A)=some ⟨k,false,bo,S⟩∧∀j,j<A.n*sz→S.get (os+j)=some (cf sz (fun k=>C (A.f k)) j):=fun h0=>by
 have hz':=hA.pos h0;refine⟨A.nm,0,0,qGn sz (A.n+A.r) A.n (fun k=>C (A.f k)) zc,qIt hz',by rw[qDy hz'];rfl,fun j hj=>?_⟩
 have h1:j<(A.n+A.r)*sz:=by rw[Nat.add_mul];omega
 rw[Nat.zero_add];unfold qGn;rw[qVk hsz (fun k _=>by split;exact hC _;exact hz) h1,qOn hj]
def qTF {P:Program} {t ty e:TypeId} (ht:P.underlying t=some (.slice e)) (h1:qWf P e [u8 0] 1 1) (b:Nat) (x:UInt8) (D:Grw UInt8) (hD:D.ok) (hb:D.n+1≤140737488355328):
  qFg P (qBH t ty (.slice (some ⟨b,0,none⟩) 1 1) (gsV D)) [some ⟨b,true,0,.lit [u8 x]⟩,roO (gsE u8C [u8 0] 1 D)] 2 (fun ns=>gsV (⟨false,ns.getD 0 0,1+D.n,ns.getD 1 0,qAj (fun _=>x) 1 D.f⟩:Grw UInt8)) (fun ns=>[gsE u8C [u8 0] 1 (⟨false,ns.getD 0 0,1+D.n,ns.getD 1 0,qAj (fun _=>x) 1 D.f⟩:Grw UInt8),none]):=by
 have h:=qF4 (P:=P) (t:=t) (ty:=ty) (e:=e) ht h1 (⟨false,b,1,0,fun _=>x⟩:Grw UInt8) (fun h=>by cases h) (C:=u8C) (fun _=>⟨rfl,rfl⟩) D.f D.n (gsA D) (gsC D) (roO (gsE u8C [u8 0] 1 D)) (jC8 D hD (by decide) (fun _=>rfl) rfl) (show(1+D.n)*1≤140737488355328∧1+D.n≤9223372036854775807 by omega)
 have e0:∀a r,Grw.cat (⟨false,b,1,0,fun _=>x⟩:Grw UInt8) D.n D.f a r=⟨false,a,1+D.n,r,qAj (fun _=>x) 1 D.f⟩:=fun a r=>by
  unfold Grw.cat;rw[Bool.and_false]
 simp only[e0] at h;refine h.as ?_ id fun ns hns=>⟨hns,rfl,.refl _,?_⟩
 ·refine .kp _ _ ⟨fun _ h=>h,rfl,fun w hw=>hw.recont (b:=⟨b,true,0,.lit [u8 x]⟩) rfl fun o v hv=>?_⟩ (.refl _)
  by_cases ho:o<1
  ·have h0:o=0:=by omega
   subst h0;exact hv
  ·have:(qGn 1 (1+0) 1 (fun k=>u8C ((fun _=>x) k)) [u8 0]).get o=none:=qKt (by omega)
   rw[this] at hv;cases hv
 ·exact⟨rfl,trivial⟩
end Go.Eng
end
section
namespace Go.Eng
section words32
variable {P:Program} {t t':TypeId} {x y:Operand} (a b:UInt32)
theorem qAI:qB2 P (.binOp .add t x y t') [u32 a,u32 b] (u32 (a+b)):=qAw qAq (by
 show some (Value.int .u32 (IntKind.u32.wrap ((a.toNat:Int)+b.toNat)))=_;rw[qDR,u32,UInt32.toNat_add];congr 2)
theorem qWQ:qB2 P (.binOp .sub t x y t') [u32 a,u32 b] (u32 (a-b)):=qAw qAq (by
 show some (Value.int .u32 (IntKind.u32.wrap ((a.toNat:Int)-b.toNat)))=_;rw[qDR,u32,UInt32.toNat_sub];congr 2;have:=a.toNat_lt;have:=b.toNat_lt;omega)
theorem qM5:qB2 P (.binOp .mul t x y t') [u32 a,u32 b] (u32 (a*b)):=qAw qAq (by
 show some (Value.int .u32 (IntKind.u32.wrap ((a.toNat:Int)*b.toNat)))=_;rw[qDR,u32,UInt32.toNat_mul];congr 2)
theorem qIu (a:UInt32):BitVec.ofInt 32 (a.toNat:Int)=a.toBitVec:=by
 apply BitVec.eq_of_toNat_eq;simp
theorem qDO:qB2 P (.binOp .and t x y t') [u32 a,u32 b] (u32 (a&&&b)):=qAw qAq (by
 show some (Value.int .u32 (IntKind.u32.wrap (((BitVec.ofInt 32 (a.toNat:Int))&&&(BitVec.ofInt 32 (b.toNat:Int))).toNat)))=_;rw[qDR,qIu,qIu,u32];congr 2;have:=(a&&&b).toNat_lt;have h:(a.toBitVec&&&b.toBitVec).toNat=(a&&&b).toNat:=rfl;rw[h];omega)
theorem qDb:qB2 P (.binOp .or t x y t') [u32 a,u32 b] (u32 (a|||b)):=qAw qAq (by
 show some (Value.int .u32 (IntKind.u32.wrap (((BitVec.ofInt 32 (a.toNat:Int))|||(BitVec.ofInt 32 (b.toNat:Int))).toNat)))=_;rw[qDR,qIu,qIu,u32];congr 2;have:=(a|||b).toNat_lt;have h:(a.toBitVec|||b.toBitVec).toNat=(a|||b).toNat:=rfl;rw[h];omega)
theorem qBA:qB2 P (.binOp .xor t x y t') [u32 a,u32 b] (u32 (a^^^b)):=qAw qAq (by
 show some (Value.int .u32 (IntKind.u32.wrap (((BitVec.ofInt 32 (a.toNat:Int))^^^(BitVec.ofInt 32 (b.toNat:Int))).toNat)))=_;rw[qDR,qIu,qIu,u32];congr 2;have:=(a^^^b).toNat_lt;have h:(a.toBitVec^^^b.toBitVec).toNat=(a^^^b).toNat:=rfl;rw[h];omega)
def qAR (a:UInt32) (n:Nat):UInt32:=.ofNat (a.toNat*2^n)
def qAF (a:UInt32) (n:Nat):UInt32:=.ofNat (a.toNat/2^n)
theorem qH5 (n:Nat):(qAR a n).toNat=a.toNat*2^n%4294967296:=by
 simp[qAR,UInt32.toNat_ofNat']
theorem qIo (n:Nat):(qAF a n).toNat=a.toNat/2^n:=by
 have h:a.toNat/2^n<4294967296:=Nat.lt_of_le_of_lt (Nat.div_le_self _ _) a.toNat_lt;simp[qAF,UInt32.toNat_ofNat',Nat.mod_eq_of_lt h]
theorem qBt (k:IntKind) (n:Nat):qB2 P (.binOp .shl t x y t') [u32 a,.int k (n:Int)] (u32 (qAR a n)):=qAw qAq (by
 show qAb P (Op.shift .shl .u32 (a.toNat:Int) k (n:Int))=_;unfold Op.shift;rw[if_neg (by omega)]
 show some (Value.int .u32 (IntKind.u32.wrap ((a.toNat:Int)*2^min (n:Int).toNat 32)))=_;rw[qDR,u32,qH5];congr 2;rw[Int.toNat_natCast];by_cases h:n≤32
 ·rw[Nat.min_eq_left h];rw[Int.natCast_emod,Int.natCast_mul,Int.natCast_pow];rfl
 ·rw[Nat.min_eq_right (by omega)]
  have e:n=32+(n-32):=by omega
  have h1:a.toNat*2^n%4294967296=0:=by
   rw[e,Nat.pow_add,Nat.mul_comm (2^32),←Nat.mul_assoc];exact Nat.mul_mod_left _ _
  rw[h1];have h2:((a.toNat:Int)*2^32)%4294967296=0:=Int.mul_emod_left _ _;exact h2)
theorem qBh (k:IntKind) (n:Nat):qB2 P (.binOp .shr t x y t') [u32 a,.int k (n:Int)] (u32 (qAF a n)):=qAw qAq (by
 show qAb P (Op.shift .shr .u32 (a.toNat:Int) k (n:Int))=_;unfold Op.shift;rw[if_neg (by omega)]
 show some (Value.int .u32 (Int.fdiv (a.toNat:Int) (2^min (n:Int).toNat 32)))=_;rw[u32,qIo];congr 2;rw[Int.toNat_natCast];have key:∀m:Nat,Int.fdiv (a.toNat:Int) (2^m)=((a.toNat/2^m:Nat):Int):=fun m=>by
  rw[Int.fdiv_eq_ediv_of_nonneg _ (Int.pow_nonneg (by omega))]
  push_cast;rfl
 rw[key];congr 1;by_cases h:n≤32
 ·rw[Nat.min_eq_left h]
 ·rw[Nat.min_eq_right (by omega)]
  have hlt:=a.toNat_lt;rw[Nat.div_eq_of_lt hlt,Nat.div_eq_of_lt];exact Nat.lt_of_lt_of_le hlt (Nat.pow_le_pow_right (by omega) (by omega)))
theorem qQF (hb:b.toNat≠0):qB2 P (.binOp .quo t x y t') [u32 a,u32 b] (u32 (a/b)):=qAw qAq (by
 show qAb P (Op.intDiv .quo .u32 (a.toNat:Int) (b.toNat:Int))=_;unfold Op.intDiv;rw[if_neg (by omega)]
 show some (Value.int .u32 (IntKind.u32.wrap (Int.tdiv (a.toNat:Int) b.toNat)))=_;rw[qDR,u32,UInt32.toNat_div];congr 2;rw[Int.tdiv_eq_ediv_of_nonneg (by omega),←Int.natCast_ediv]
 have h3:a.toNat/b.toNat<4294967296:=Nat.lt_of_le_of_lt (Nat.div_le_self _ _) a.toNat_lt;rw[show(4294967296:Int)=((4294967296:Nat):Int) from rfl,←Int.natCast_emod,Nat.mod_eq_of_lt h3])
theorem qYq:qB2 P (.unOp .xor t x) [u32 a] (u32 (~~~a)):=jBG (by
 show some (Value.int .u32 (IntKind.u32.wrap (((BitVec.ofInt 32 (4294967295:Int))^^^(BitVec.ofInt 32 (a.toNat:Int))).toNat)))=_;rw[qDR,qIu,u32];congr 2;have h1:(BitVec.ofInt 32 4294967295^^^a.toBitVec)=(~~~a).toBitVec:=by
  show _ = ~~~a.toBitVec;rw[←BitVec.allOnes_xor];rfl
 rw[h1];have:=(~~~a).toNat_lt;have h:((~~~a).toBitVec).toNat=(~~~a).toNat:=rfl;rw[h];omega)
end words32
section
variable {P:Program} {s d:TypeId} {x:Operand}
theorem qEA (hs:P.underlying s=some (.int .u8)) (hd:P.underlying d=some (.int .u32)) (a:UInt8):qB2 P (.convert s d x) [u8 a] (u32 a.toUInt32):=by
 have h:=qEh (x:=x) hs hd a.toNat;rw[qDR] at h;have:((a.toNat:Int)%4294967296)=(a.toUInt32.toNat:Int):=by have:=a.toNat_lt;simp;omega
 rw[this] at h;exact h
theorem qLE (hs:P.underlying s=some (.int .u32)) (hd:P.underlying d=some (.int .u8)) (a:UInt32):qB2 P (.convert s d x) [u32 a] (u8 a.toUInt8):=by
 have h:=qEh (x:=x) hs hd a.toNat;rw[qNU] at h;have:((a.toNat:Int)%256)=(a.toUInt8.toNat:Int):=by simp
 rw[this] at h;exact h
end
end Go.Eng
namespace Go.Eng
def rot (x:UInt32) (n:Nat):UInt32:=qAR x (32-n)|||qAF x n
structure W8 where
 a:UInt32
 b:UInt32
 c:UInt32
 d:UInt32
 e:UInt32
 f:UInt32
 g:UInt32
 h:UInt32
def w8V (s:W8):Value:=.agg #[u32 s.a,u32 s.b,u32 s.c,u32 s.d,u32 s.e,u32 s.f,u32 s.g,u32 s.h]
def jFz (s:W8) (add:UInt32):UInt32:=s.h+(rot s.e 6^^^rot s.e 11^^^rot s.e 25)+(s.e&&&s.f^^^~~~s.e&&&s.g)+add
def jGe (s:W8):UInt32:=(rot s.a 2^^^rot s.a 13^^^rot s.a 22)+(s.a&&&s.b^^^s.a&&&s.c^^^s.b&&&s.c)
def jEO (s:W8) (add:UInt32):W8:=⟨jFz s add+jGe s,s.a,s.b,s.c,s.d+jFz s add,s.e,s.f,s.g⟩
end Go.Eng
namespace Go.Eng
section
variable {P:Program} {t e:TypeId} {x y:Operand}
theorem qYE {len:Nat} (ht:P.underlying t=some (.array len e)) (hs:qBT P e=some 1) (he:∃k,P.underlying e=some (.int k)) (g:Nat→Value) (i:Nat) (hi:i<len):
  qB2 P (.index t x y) [qBJ len g,nat i] (g i):=by
 intro ρ o ho hv;rw[ho] at hv;simp only[Op.operands,List.map_cons,List.map_nil,List.cons.injEq,and_true] at hv;obtain⟨h1,h2⟩:=hv;obtain⟨k,he⟩:=he;unfold execOp;rw[ho];simp only;show qAb P (Sem.bind (Instr.index t (ρ x) (ρ y)) fun v=>Sem.pure (Next.value v))=_
 rw[qA4,h1,h2];have hi':(0:Int)≤(i:Int)∧(i:Int)<(len:Int):=by omega
 have hg:(((List.range len).map g).toArray)[i]?=some (g i):=by
  simp[hi]
 have e':qAb P (Instr.index t (qBJ len g) (nat i))=some (g i):=by
  simp only[Instr.index,qBJ,nat,qAh,asIntOf,qAb,pure,qAi ht,hi',and_self,if_true,qA7 hs,Int.toNat_natCast,Nat.mul_one,part,isAgg,qAi he,hg];first|rfl|simp[hg,qAb]
 rw[e'];rfl
end
end Go.Eng
namespace Go.Eng
def sp1 (b:Nat→UInt8):Nat→(Nat→UInt32)
 |0=>fun _=>0
 |i+1=>upd (sp1 b i) (i/4) (qAR (sp1 b i (i/4)) 8|||(b i).toUInt32)
def sg0 (x:UInt32):UInt32:=rot x 7^^^rot x 18^^^qAF x 3
def sg1 (x:UInt32):UInt32:=rot x 17^^^rot x 19^^^qAF x 10
def sp2 (b:Nat→UInt8):Nat→(Nat→UInt32)
 |0=>sp1 b 64
 |j+1=>upd (sp2 b j) (j+16) (sp2 b j (j+16-16)+sp2 b j (j+16-7)+sg0 (sp2 b j (j+16-15))+sg1 (sp2 b j (j+16-2)))
def qHC (b:Nat→UInt8):Nat→UInt32:=sp2 b 48
def qVU {b:Nat→UInt8} {j:Nat} {v:Nat→UInt32} (h:16≤j) (hv:v=sp2 b (j-16)):
  upd v j (v (j-16)+v (j-7)+(rot (v (j-15)) 7^^^rot (v (j-15)) 18^^^qAF (v (j-15)) 3)+(rot (v (j-2)) 17^^^rot (v (j-2)) 19^^^qAF (v (j-2)) 10))=sp2 b (j+1-16):=by
 subst hv;obtain⟨k,rfl⟩:∃k,j=k+16:=⟨j-16,by omega⟩
 rw[show k+16+1-16=k+1 by omega,show k+16-16=k by omega,sp2,show k+16-16=k by omega]
 rfl
end Go.Eng
namespace Go.Eng
def W8.get (s:W8):Nat→UInt32
 |0=>s.a
 |1=>s.b
 |2=>s.c
 |3=>s.d
 |4=>s.e
 |5=>s.f
 |6=>s.g
 | _=>s.h
def w8F (s:Nat→UInt32):W8:=⟨s 0,s 1,s 2,s 3,s 4,s 5,s 6,s 7⟩
def qWJ (s:Nat→UInt32) (add:UInt32):Nat→UInt32:=(jEO (w8F s) add).get
def jCM:List Nat:=[1116352408,1899447441,3049323471,3921009573,961987163,1508970993,2453635748,2870763221,3624381080,310598401,607225278,1426881987,1925078388,2162078206,2614888103,3248222580,3835390401,4022224774,264347078,604807628,770255983,1249150122,1555081692,1996064986,2554220882,2821834349,2952996808,3210313671,3336571891,3584528711,113926993,338241895,666307205,773529912,1294757372,1396182291,1695183700,1986661051,2177026350,2456956037,2730485921,2820302411,3259730800,3345764771,3516065817,3600352804,4094571909,275423344,430227734,506948616,659060556,883997877,958139571,1322822218,1537002063,1747873779,1955562222,2024104815,2227730452,2361852424,2428436474,2756734187,3204031479,3329325298]
def qHP (i:Nat):UInt32:=.ofNat (jCM.getD i 0)
def qN4 (s w:Nat→UInt32):Nat→(Nat→UInt32)
 |0=>s
 |i+1=>qWJ (qN4 s w i) (qHP i+w i)
def qVC (s t:Nat→UInt32):Nat→(Nat→UInt32)
 |0=>t
 |i+1=>upd (qVC s t i) i (qVC s t i i+s i)
def qHF (s:Nat→UInt32) (b:Nat→UInt8):Nat→UInt32:=qVC s (qN4 s (qHC b) 64) 8
def jC2:List Nat:=[1779033703,3144134277,1013904242,2773480762,1359893119,2600822924,528734635,1541459225]
def qQt (i:Nat):UInt32:=.ofNat (jC2.getD i 0)
def jFV:Blk:=⟨1,false,0,qDs 8 fun k=>u32 (qQt k)⟩
def jEZ:Blk:=⟨2,false,0,qAd 64 fun k=>u32 (qHP k)⟩
def qHU (b:Blk):Prop:=b=jFV∨b=jEZ
end Go.Eng
namespace Go.Eng
def qFn {x:UInt32} {n:Nat} (h:n≤32):qAF x n+qAR x (32-n)=rot x n:=UInt32.toNat_inj.1 (by
 have hx:=x.toNat_lt;have h1:x.toNat*2^(32-n)%4294967296=2^(32-n)*(x.toNat%2^n):=by
  rw[show(4294967296:Nat)=2^(32-n)*2^n by rw[←Nat.pow_add,show 32-n+n=32 by omega],Nat.mul_comm,Nat.mul_mod_mul_left]
 have h2:x.toNat/2^n<2^(32-n):=by
  refine Nat.div_lt_of_lt_mul ?_;rw[←Nat.pow_add,show n+(32-n)=32 by omega];exact hx
 have h3:=Nat.two_pow_add_eq_or_of_lt h2 (x.toNat%2^n);unfold rot;rw[UInt32.toNat_or,UInt32.toNat_add,qIo,qH5,h1,←h3,Nat.add_comm (x.toNat/2^n)];refine Nat.mod_eq_of_lt ?_;have h4:x.toNat%2^n<2^n:=Nat.mod_lt _ (Nat.two_pow_pos n);have h5:2^(32-n)*(x.toNat%2^n+1)≤2^(32-n)*2^n:=Nat.mul_le_mul_left _ h4;rw[←Nat.pow_add,show 32-n+n=32 by omega,Nat.mul_add,Nat.mul_one] at h5
 have h6:(2:Nat)^32=4294967296:=rfl;omega)
structure HS where
 s:Nat→UInt32
 l:Nat→UInt8
 n:UInt64
def qG3 (H:HS):List Value:=(List.range 8).map (fun k=>u32 (H.s k))++((List.range 64).map (fun k=>u8 (H.l k))++[u64 H.n])
def qA1 (H:HS):qAL:=.lit (qG3 H)
def qB4 (H:HS):(qG3 H).length=73:=by simp[qG3]
def qDd (H:HS) (k:Nat):(qG3 H)[k]?=if k<8 then some (u32 (H.s k)) else if k<72 then some (u8 (H.l (k-8))) else if k=72 then some (u64 H.n) else none:=by
 unfold qG3;by_cases h1:k<8
 ·rw[if_pos h1,List.getElem?_append_left (by simpa using h1),List.getElem?_map,List.getElem?_range h1];rfl
 rw[if_neg h1,List.getElem?_append_right (by simp;omega)]
 simp only[List.length_map,List.length_range];by_cases h2:k<72
 ·rw[if_pos h2,List.getElem?_append_left (by simp;omega),List.getElem?_map,List.getElem?_range (by omega)];rfl
 rw[if_neg h2,List.getElem?_append_right (by simp;omega)]
 simp only[List.length_map,List.length_range];by_cases h3:k=72
 ·subst h3;rfl
 ·rw[if_neg h3]
  rw[List.getElem?_eq_none (by simp;omega)]
def qLU {α:Type} (l:Nat→α) (i n:Nat) (g:Nat→α):Nat→α:=fun k=>if i≤k∧k<i+n then g (k-i) else l k
def qUz {α:Type} (l:Nat→α) (i:Nat) (g:Nat→α):qLU l i 0 g=l:=by
 funext k;unfold qLU;rw[if_neg (by omega)]
def qO8 {α:Type} (l:Nat→α) (i n:Nat) (g:Nat→α):upd (qLU l i n g) (i+n) (g n)=qLU l i (n+1) g:=by
 funext k;unfold upd qLU;by_cases h:k=i+n
 ·subst h;rw[if_pos rfl,if_pos (by omega),Nat.add_sub_cancel_left]
 ·rw[if_neg h]
  by_cases h2:i≤k∧k<i+n
  ·rw[if_pos h2,if_pos (by omega)]
  ·rw[if_neg h2,if_neg (by omega)]
def qLK (H:HS) (i n:Nat) (g:Nat→UInt8) (h:i+n≤64):qHN (qG3 H) (8+i) ((List.range n).map fun j=>u8 (g j))=qG3 ⟨H.s,qLU H.l i n g,H.n⟩:=by
 apply List.ext_getElem?;intro k;rw[qFK _ _ _ (by rw[qB4];simp;omega),qDd,qDd]
 simp only[List.length_map,List.length_range];by_cases h1:8+i≤k∧k<8+i+n
 ·rw[if_pos h1,qHY u8 g n _ (by omega),if_neg (by omega),if_pos (by omega)]
  simp only[qLU];rw[if_pos (by omega),show k-8-i=k-(8+i) by omega]
 ·rw[if_neg h1]
  by_cases h2:k<8
  ·rw[if_pos h2,if_pos h2]
  ·rw[if_neg h2,if_neg h2]
   by_cases h3:k<72
   ·rw[if_pos h3,if_pos h3]
    simp only[qLU];rw[if_neg (by omega)]
   ·rw[if_neg h3,if_neg h3]
def qKc (H:HS) (g:Nat→UInt32):qHN (qG3 H) 0 ((List.range 8).map fun j=>u32 (g j))=qG3 ⟨g,H.l,H.n⟩:=by
 apply List.ext_getElem?;intro k;rw[qFK _ _ _ (by rw[qB4];simp),qDd,qDd]
 simp only[List.length_map,List.length_range,Nat.zero_add,Nat.zero_le,true_and,Nat.sub_zero];by_cases h1:k<8
 ·rw[if_pos h1,qHY u32 g 8 _ h1,if_pos h1]
 ·rw[if_neg h1,if_neg h1,if_neg h1]
def qS1 (H:HS) (m:UInt64):qHN (qG3 H) 72 [u64 m]=qG3 ⟨H.s,H.l,m⟩:=by
 apply List.ext_getElem?;intro k;rw[qFK _ _ _ (by rw[qB4];simp),qDd,qDd]
 simp only[List.length_singleton];by_cases h1:72≤k∧k<72+1
 ·obtain rfl:k=72:=by omega
  rfl
 ·rw[if_neg h1]
  by_cases h2:k<8
  ·rw[if_pos h2,if_pos h2]
  ·rw[if_neg h2,if_neg h2]
   by_cases h3:k<72
   ·rw[if_pos h3,if_pos h3]
   ·rw[if_neg h3,if_neg h3,if_neg (by omega),if_neg (by omega)]
def qPM {α:Type} (K:α→Value) (hK:∀a,Value.oneCell' (K a)=true) (g:Nat→α) (n:Nat):((List.range n).map fun j=>K (g j)).all Value.oneCell'=true:=by
 rw[List.all_eq_true];intro x hx;obtain⟨j,_,rfl⟩:=List.mem_map.1 hx;exact hK _
def qHe {D cs D':List Value} {o:Nat} (h:o+cs.length≤D.length) (he:qHN D o cs=D'):(qAL.lit D).store (.lit o) cs=some (.lit D'):=by
 show(match Nat.ble (o+cs.length) D.length with
  |true=>some (qAL.lit (qHN D o cs))
  |false=>none)=_
 rw[Nat.ble_eq_true_of_le h,he]
def qNp (H:HS) (g:Nat→UInt32):(qA1 H).store (.lit 0) (qBJ 8 fun k=>u32 (g k)).cells.toList=some (qA1 ⟨g,H.l,H.n⟩):=
 qHe (by rw[qB4];exact Nat.le_of_ble_eq_true rfl) (qKc H g)
def qZv (H:HS) (m:UInt64):(qA1 H).store (.lit 72) (u64 m).cells.toList=some (qA1 ⟨H.s,H.l,m⟩):=
 qHe (by rw[qB4];exact Nat.le_of_ble_eq_true rfl) (qS1 H m)
section
variable {P:Program} {dT sT ty e:TypeId}
theorem qQd (hu:P.underlying dT=some (.slice e)) (hs:qBT P e=some 1) (H:HS) (g:Nat→UInt8) (b k bs os i sl sc dc:Nat) (N:Nat) (hi:i<64) (hN:os+sl≤N):
  qAu P (qL1 dT sT ty (.slice (some ⟨b,8+i,none⟩) (64-i) dc) (.slice (some ⟨k,bs+os,none⟩) sl sc)) [⟨b,true,0,qA1 H⟩,⟨k,false,bs,qAd N fun j=>u8 (g j)⟩] 0 (fun _=>nat (min sl (64-i)))
   (fun _=>[some ⟨b,true,0,qA1 ⟨H.s,qLU H.l i (min sl (64-i)) (fun j=>g (os+j)),H.n⟩⟩,none]):=by
 have h:=qJP (P:=P) (dT:=dT) (sT:=sT) (ty:=ty) (e:=e) (n:=b) (k:=k) (od:=8+i) (dl:=64-i) (dc:=dc) (bs:=bs) (os:=os) (sl:=sl) (sc:=sc)
  (D:=qG3 H) (cs:=(List.range (min sl (64-i))).map fun j=>u8 (g (os+j))) (S:=qAd N fun j=>u8 (g j)) hu hs (fun j hj=>by
   have hj':j<min sl (64-i):=by simpa using hj
   rw[qAH (by omega),qHY u8 (fun j=>g (os+j)) _ _ hj']) (by simp) (qPM u8 (fun _=>rfl) _ _)
  (qHe (by rw[qB4];simp;omega) (qLK H i (min sl (64-i)) (fun j=>g (os+j)) (by omega)))
 rw[show((List.range (min sl (64-i))).map fun j=>u8 (g (os+j))).length=min sl (64-i) by simp] at h
 exact h
theorem qOK (hu:P.underlying dT=some (.slice e)) (hs:qBT P e=some 1) (H G:HS) (b k:Nat):
  qAu P (qL1 dT sT ty (.slice (some ⟨b,0,none⟩) 8 8) (.slice (some ⟨k,0,none⟩) 8 8)) [⟨b,true,0,qA1 H⟩,⟨k,false,0,qA1 G⟩] 0 (fun _=>nat 8)
   (fun _=>[some ⟨b,true,0,qA1 ⟨G.s,H.l,H.n⟩⟩,none]):=
 qJP (P:=P) (dT:=dT) (sT:=sT) (ty:=ty) (e:=e) (n:=b) (k:=k) (od:=0) (dl:=8) (dc:=8) (bs:=0) (os:=0) (sl:=8) (sc:=8)
  (D:=qG3 H) (cs:=(List.range 8).map fun j=>u32 (G.s j)) (S:=qA1 G) hu hs (fun j hj=>by
   have hj':j<8:=by simpa using hj
   rw[qHY u32 G.s _ _ hj'];show(qG3 G)[0+j]?= _;rw[qDd,if_pos (by omega),Nat.zero_add]) (by simp) (qPM u32 (fun _=>rfl) _ _)
  (qHe (by rw[qB4];simp) (qKc H G.s))
theorem qO3 (hu:P.underlying dT=some (.slice e)) (hs:qBT P e=some 1) (H G:HS) (b k:Nat):
  qAu P (qL1 dT sT ty (.slice (some ⟨b,8,none⟩) 64 64) (.slice (some ⟨k,8,none⟩) 64 64)) [⟨b,true,0,qA1 H⟩,⟨k,false,0,qA1 G⟩] 0 (fun _=>nat 64)
   (fun _=>[some ⟨b,true,0,qA1 ⟨H.s,qLU H.l 0 64 G.l,H.n⟩⟩,none]):=
 qJP (P:=P) (dT:=dT) (sT:=sT) (ty:=ty) (e:=e) (n:=b) (k:=k) (od:=8) (dl:=64) (dc:=64) (bs:=0) (os:=8) (sl:=64) (sc:=64)
  (D:=qG3 H) (cs:=(List.range 64).map fun j=>u8 (G.l j)) (S:=qA1 G) hu hs (fun j hj=>by
   have hj':j<64:=by simpa using hj
   rw[qHY u8 G.l _ _ hj'];show(qG3 G)[8+j]?= _;rw[qDd,if_neg (by omega),if_pos (by omega),Nat.add_sub_cancel_left]) (by simp) (qPM u8 (fun _=>rfl) _ _)
  (qHe (by rw[qB4];simp) (qLK H 0 64 G.l (by omega)))
theorem qPl {t:TypeId} {x y:Operand} {n:Nat} (ht:P.underlying t=some (.array n e)) (hs:qBT P e=some 1) (b o i:Nat) (k:IntKind) (hi:i<n):
  qB2 P (.slice t x (some y) none none) [ptr b o,.int k (i:Int)] (.slice (some ⟨b,o+i,none⟩) (n-i) (n-i)):=by
 have h:=qYk (x:=x) (y:=y) ht hs b o i k (by omega)
 rwa[if_neg (by omega)] at h
end
def put (H:HS) (x:UInt8):HS:=
 if(H.n+1)%64=0 then⟨qHF H.s (upd H.l (H.n%64).toNat x),upd H.l (H.n%64).toNat x,H.n+1⟩ else⟨H.s,upd H.l (H.n%64).toNat x,H.n+1⟩
def qFC (H:HS) (f:Nat→UInt8):Nat→HS
 |0=>H
 |k+1=>put (qFC H f k) (f k)
theorem qKL (H:HS) (f:Nat→UInt8) (a:Nat):∀b,qFC H f (a+b)=qFC (qFC H f a) (fun k=>f (a+k)) b
 |0=>rfl
 |b+1=>by show put (qFC H f (a+b)) (f (a+b))=put _ (f (a+b));rw[qKL H f a b]
theorem qHv (H:HS) {f g:Nat→UInt8}:∀{n:Nat},(∀k,k<n→f k=g k)→qFC H f n=qFC H g n
 |0,_=>rfl
 |n+1,h=>by rw[qFC,qFC,qHv H (fun k hk=>h k (by omega)),h n (by omega)]
def qD1 (n:UInt64):(n%64).toNat<64:=by
 rw[UInt64.toNat_mod];exact Nat.mod_lt _ (by decide)
def qNh (n:UInt64) (k:Nat) (h:(n%64).toNat+k<64):((n+UInt64.ofNat k)%64).toNat=(n%64).toNat+k:=by
 have h1:(64:UInt64).toNat=64:=rfl;rw[UInt64.toNat_mod,h1] at h;rw[UInt64.toNat_mod,UInt64.toNat_mod,h1];rw[UInt64.toNat_add,UInt64.toNat_ofNat'];have:=n.toNat_lt;omega
def qVc (n:UInt64) (k:Nat) (h:(n%64).toNat+k=64):(n+UInt64.ofNat k)%64=0:=by
 apply UInt64.toNat_inj.1;have h1:(64:UInt64).toNat=64:=rfl;rw[UInt64.toNat_mod,h1] at h ⊢;rw[UInt64.toNat_add,UInt64.toNat_ofNat'];have:=n.toNat_lt;show _=0;omega
def qVf (n:UInt64) (k:Nat):n+UInt64.ofNat k+1=n+UInt64.ofNat (k+1):=by
 apply UInt64.toNat_inj.1;simp only[UInt64.toNat_add,UInt64.toNat_ofNat'];have h1:(1:UInt64).toNat=1:=rfl;rw[h1];omega
theorem qNJ (H:HS) (g:Nat→UInt8):∀{k:Nat},(H.n%64).toNat+k<64→qFC H g k=⟨H.s,qLU H.l (H.n%64).toNat k g,H.n+UInt64.ofNat k⟩
 |0,_=>by
  rw[qFC,qUz];show H=⟨H.s,H.l,H.n+0⟩;rw[UInt64.add_zero]
 |k+1,h=>by
  have hz:¬(H.n+UInt64.ofNat (k+1))%64=0:=fun e=>by
   have h1:=qNh H.n (k+1) (by omega)
   rw[e] at h1;have h2:(0:UInt64).toNat=0:=rfl;omega
  rw[qFC,qNJ H g (by omega),put]
  simp only[qVf];rw[if_neg hz,qNh H.n k (by omega),qO8]
def qQV (H:HS) (g:Nat→UInt8) {k:Nat} (h:(H.n%64).toNat+k=64):qFC H g k=⟨qHF H.s (qLU H.l (H.n%64).toNat k g),qLU H.l (H.n%64).toNat k g,H.n+UInt64.ofNat k⟩:=by
 have:=qD1 H.n;obtain⟨k,rfl⟩:∃j,k=j+1:=⟨k-1,by omega⟩
 rw[qFC,qNJ H g (by omega),put]
 simp only[qVf];rw[if_pos (qVc H.n (k+1) h),qNh H.n k (by omega),qO8]
def qXC {H:HS} {g:Nat→UInt8} {k m:Nat} (hk:k=min m (64-(H.n%64).toNat)) (h:((H.n+UInt64.ofNat k)%64==0)=false):(HS.mk H.s (qLU H.l (H.n%64).toNat k g) (H.n+UInt64.ofNat k))=qFC H g k:=by
 have:=qD1 H.n;rw[qNJ];rcases Nat.lt_or_ge ((H.n%64).toNat+k) 64 with h1|h1
 ·exact h1
 ·rw[qVc H.n k (by omega)] at h
  cases h
def qRJ {H:HS} {g:Nat→UInt8} {k m:Nat} (hm:0<m) (hk:k=min m (64-(H.n%64).toNat)) (h:((H.n+UInt64.ofNat k)%64==0)=true):(HS.mk (qHF H.s (qLU H.l (H.n%64).toNat k g)) (qLU H.l (H.n%64).toNat k g) (H.n+UInt64.ofNat k))=qFC H g k:=by
 have:=qD1 H.n;rw[qQV];rcases Nat.lt_or_ge ((H.n%64).toNat+k) 64 with h1|h1
 ·exfalso
  have h2:=qNh H.n k h1;rw[beq_iff_eq.1 h] at h2;have h3:(0:UInt64).toNat=0:=rfl;omega
 ·omega
def qFm (H:HS):HS:=if(H.n==0)=true then⟨qQt,H.l,H.n⟩ else H
def wrH (H:HS) (f:Nat→UInt8) (n:Nat):HS:=qFC (qFm H) f n
def qKp (b:BytL) (x:Blk):Prop:=qHU x∨qBi b x
def qT7 (H:HS) (z:Nat→UInt8):qA1 ⟨H.s,qLU z 0 64 H.l,H.n⟩=qA1 H:=by
 refine congrArg qAL.lit (List.ext_getElem? fun k=>?_)
 rw[qDd,qDd];by_cases h2:k<8
 ·rw[if_pos h2,if_pos h2]
 ·rw[if_neg h2,if_neg h2]
  by_cases h3:k<72
  ·rw[if_pos h3,if_pos h3]
   simp only[qLU];rw[if_pos (by omega),Nat.sub_zero]
  ·rw[if_neg h3,if_neg h3]
def qKV:HS:=⟨fun _=>0,fun _=>0,0⟩
section
variable {P:Program} {t ty e:TypeId}
def jFQ (t:TypeId) (x:Value):Sem Next:=do pure (.value (←Instr.loadAt t x))
theorem qW9 (ha:qWl P t=some false) (H:HS) (b i:Nat) (hi:i<8):qAu P (jFQ t (.pointer (some ⟨b,0+i*1,none⟩))) [⟨b,false,0,qA1 H⟩] 0 (fun _=>u32 (H.s i)) (fun _=>[none]):=by
 intro w hm hap;have hS:qAn ⟨b,false,0,qA1 H⟩ w:=hm _ (by simp)
 have hc:=hS.cell i (u32 (H.s i)) (by show(qG3 H)[i]?= _;rw[qDd,if_pos hi])
 refine⟨[],w,rfl,.inl ?_,?_⟩
 ·have hr:=qCQ (P:=P) (t:=t) (w:=w) (b:=b) (o:=0+i*1) (v:=u32 (H.s i)) ha (by rw[Nat.mul_one];exact hc)
  show(Instr.loadAt t _ >>= fun v=>Sem.pure (Next.value v)).run P w=_
  rw[Sem.run_bind,hr];rfl
 ·exact⟨fun p b hpb=>by rcases p with _ |p<;>simp[lM] at hpb,fun p q b c _ hpb=>by rcases p with _ |p<;>simp[lM] at hpb,(Adv.refl _ _).weak fun p b hpb=>by rcases p with _ |p<;>simp[lM] at hpb⟩
theorem qQs {B:Nat} {z:Value} (ht:P.underlying t=some (.slice e)) (h1:qPQ P e z B) (n c:Nat) (k1 k2:IntKind) (hn:n≤c) (hb:(B:Int)*(c:Int)≤281474976710656∧c≤9223372036854775807) {α:Type} (K:α→Value) (a:α) (hz:K a=z):
  qAu P (qK9 t (.int k1 (n:Int)) (.int k2 (c:Int))) [] 1 (fun ns=>.slice (some ⟨ns.getD 0 0,0,none⟩) n (n+(c-n))) (fun ns=>[some ⟨ns.getD 0 0,true,0,spr (n+(c-n)) n (fun _=>K a) z⟩]):=by
 subst hz;obtain⟨i,hi,hz,hsz,hB,hzc⟩:=h1;subst hB;rw[show n+(c-n)=c by omega]
 refine(qIS (P:=P) (e:=e) (s:=qK9 t (.int k1 (n:Int)) (.int k2 (c:Int))) (cs:=madeCells (K a).cells (c*i.size)) (len:=n) (cap:=c) fun w=>?_).recont (fun _=>rfl) fun ns o v ho=>?_
 ·refine qAA ?_
  have:=run_make (P:=P) w t e i (K a) ht hi hz k1 k2 (n:Int) (c:Int) (by omega) (by omega) hb.1 (by omega)
  simpa using this
 ·by_cases hon:o<c
  ·rw[spr,qAH hon] at ho
   rw[hzc,hsz];simp[qAL.get,madeCells,hon,Nat.mod_one];simpa using ho
  ·rw[spr,qBf hon] at ho;cases ho
end
def qT9 {α:Type} (c n:Nat) (K:α→Value) (f:Nat→α) (z:Value) (i:Nat) (v:α) (hi:i<n):(spr c n (fun k=>K (f k)) z).store (.tab i 0) [K v]=some (spr c n (fun k=>K (upd f i v k)) z):=by
 show some (qAL.tab c 1 fun k=>if k=i then[K v] else[if k<n then K (f k) else z])=_
 unfold spr qAd;congr 2;funext k;by_cases h:k=i
 ·subst h;simp[upd,hi]
 ·simp[upd,h]
def qLF (n:UInt64):UInt64:=(119-n%64)%64
def qBL (n:UInt64):Nat:=(1+qLF n).toNat
def jE7 (n:UInt64) (i:Nat):UInt8:=(qAa (8*n) (56-8*i)).toUInt8
def qEL (n:UInt64):Nat→UInt8:=fun k=>if k=0 then 128 else if k<qBL n then 0 else jE7 n (k-qBL n)
def qRh (n:UInt64):(qLF n).toNat<64:=qD1 _
def qOx (n:UInt64):qBL n=1+(qLF n).toNat:=by
 unfold qBL;rw[UInt64.toNat_add];have:=qRh n;have h1:(1:UInt64).toNat=1:=rfl;omega
def qUA (n:UInt64):(n.toNat+(qLF n).toNat)%64=55:=by
 unfold qLF;have h64:(64:UInt64).toNat=64:=rfl;have h119:(119:UInt64).toNat=119:=rfl;have h1:=qD1 n;have h2:(n%64).toNat=n.toNat%64:=by rw[UInt64.toNat_mod,h64]
 rw[UInt64.toNat_mod,h64,UInt64.toNat_sub_of_le _ _ (by rw[UInt64.le_iff_toNat_le];omega),h119]
 omega
def qRD (n:UInt64):(n.toNat+(qBL n+8))%64=0:=by
 have:=qUA n;rw[qOx];omega
def jCl (s:Nat→UInt32) (i:Nat):UInt8:=(qAF (s (i/4)) (24-i%4*8)).toUInt8
def qMl (s:Nat→UInt32) (i:Nat):Nat→UInt8:=fun k=>if k<i then jCl s k else 0
def qUe (s:Nat→UInt32) (i:Nat):upd (qMl s i) i (jCl s i)=qMl s (i+1):=by
 funext k;unfold upd qMl;by_cases h:k=i
 ·subst h;rw[if_pos rfl,if_pos (by omega)]
 ·rw[if_neg h]
  by_cases h2:k<i
  ·rw[if_pos h2,if_pos (by omega)]
  ·rw[if_neg h2,if_neg (by omega)]
def jGl (H:HS):HS:=wrH H (qEL H.n) (qBL H.n+8)
def qTh (H:HS):Nat→UInt8:=jCl (jGl H).s
def qRr (s:Nat→UInt32):qBJ 32 (fun k=>u8 (qMl s 32 k))=qBJ 32 fun k=>u8 (jCl s k):=
 qXx fun k hk=>by rw[qMl,if_pos hk]
def qAt.lendW {F F':Blk→Prop} {P:Program} {f:FuncId} {args:List Value} {b0:Blk} {cs:List Blk} {v:Value} {o:Blk} (h:qAt F P f args [b0] 0 (fun _ =>v) (fun _ =>[some o]))
  (hF:∀w:World,qCM F' w→(∀b∈cs,qAn b w)→qCM F w) (hn:∀x,F x→∀j,x.has j→(∃y,F' y∧y.has j)∨∃c∈cs,c.has j) (hb0:b0.own=true) (hc:∀b∈cs,b.own=false):
  qAt F' P f args (b0::cs) 0 (fun _=>v) (fun _=>some o::qJL cs):=by
 intro w hm ha hF';have hsub:∀p b,lM ([b0].map some) p=some b→p=0∧b=b0:=fun p b hp=>by
  rcases p with _ |p
  ·cases hp;exact⟨rfl,rfl⟩
  ·simp[lM] at hp
 have ho1:∀k,qDr (lM ([b0].map some)) k→qDr (lM ((b0::cs).map some)) k:=fun k ⟨p,b,h1,h2,h3⟩=>by
  obtain⟨rfl,rfl⟩:=hsub p b h1;exact⟨0,b,rfl,h2,h3⟩
 have hapart:∀c∈cs,∀k,b0.has k→¬c.has k:=fun c hcm=>by
  obtain⟨i,hi⟩:=List.getElem?_of_mem hcm;exact ha 0 (i+1) b0 c (by omega) rfl (by show lM (some b0::cs.map some) (i+1)=some c;simp[lM,hi]) hb0
 have hw:=hF w (fun b hb'=>⟨(hF' b hb').1,(hF' b hb').2.1⟩) (fun b hb'=>hm b (by simp[hb']))
 refine Calls.mono (h w (fun b hb'=>hm b (by simp at hb';simp[hb'])) (fun p q b c hpq hpb hqc ho=>?_) (fun b hFb=>⟨(hw b hFb).1,(hw b hFb).2,fun j hj ⟨p,b',h1,h2,h3⟩=>?_⟩)) ?_
 ·obtain⟨rfl,_⟩:=hsub p b hpb
  obtain⟨rfl,_⟩:=hsub q c hqc;exact absurd rfl hpq
 ·obtain⟨rfl,rfl⟩:=hsub p b' h1
  rcases hn b hFb j hj with⟨y,hy,he⟩|⟨c,hcm,he⟩
  ·exact(hF' y hy).2.2 j he (ho1 _ ⟨0,b',rfl,h2,h3⟩)
  ·exact hapart c hcm j h3 he
 ·rintro e w' ⟨ns,hns,he,hp⟩
  have hout:∀p b,lM (some o::qJL cs) p=some b→lM [some o] p=some b:=fun p b hpb=>by
   rcases p with _ |p
   ·exact hpb
   ·exact absurd (show lM (qJL cs) p=some b by simpa[lM] using hpb) (qCx _ _ _)
  exact⟨ns,hns,he,⟨fun p b hpb=>hp.holds p b (hout p b hpb),fun p q b c hpq hpb hqc=>hp.apart p q b c hpq (hout p b hpb) (hout q c hqc),
   ⟨hp.adv.os,hp.adv.output,hp.adv.tape,hp.adv.size,fun k hk hno=>hp.adv.heap k hk (fun hk'=>hno (ho1 k hk')),fun k ⟨p,b,h1,h2,h3⟩=>by
    rcases hp.adv.names k ⟨p,b,hout p b h1,h2,h3⟩ with h4|h4
    ·exact .inl (ho1 k h4)
    ·exact .inr h4,fun p b hpb hob=>by
    have h1:=hp.adv.ro p b (hout p b hpb) hob;obtain⟨rfl,rfl⟩:=hsub p b h1;exact rfl⟩⟩⟩
end Go.Eng
namespace Go.Eng
def qKh {P:Program} {dT sT ty e:TypeId} (hu:P.underlying dT=some (.slice e)) (hs:qBT P e=some 1) (H:HS) (g:Nat→UInt8) (b k bs os i sl sc dc:Nat) (N:Nat) (hi:i<64) (hN:os+sl≤N) {A:Option Addr} (hA:A=some ⟨k,bs+os,none⟩):
  qAu P (qL1 dT sT ty (.slice (some ⟨b,8+i,none⟩) (64-i) dc) (.slice A sl sc)) [⟨b,true,0,qA1 H⟩,⟨k,false,bs,qAd N fun j=>u8 (g j)⟩] 0 (fun _=>nat (min sl (64-i)))
   (fun _=>[some ⟨b,true,0,qA1 ⟨H.s,qLU H.l i (min sl (64-i)) (fun j=>g (os+j)),H.n⟩⟩,none]):=by
 subst hA;exact qQd hu hs H g b k bs os i sl sc dc N hi hN
def qVd {H G:HS} {b:BytL} (hb:OkB b) (hG:G=qFm H):b.wn≤b.wn∧b.wn≤b.wc∧G=qFC (qFm H) b.wf (b.wn-b.wn)∧(0<b.wn→b.wa=some ⟨b.wb,b.wo+(b.wn-b.wn),none⟩)∧b.wc≤b.wc:=by
 rw[Nat.sub_self];exact⟨Nat.le_refl _,hb.cap,hG,hb.ad,Nat.le_refl _⟩
def qGF {H G G':HS} {b:BytL} {A:Option Addr} {m q k i:Nat} (hm:0<m) (h0:m≤b.wn) (h1:m≤q) (h2:G=qFC (qFm H) b.wf (b.wn-m)) (h3:0<m→A=some ⟨b.wb,b.wo+(b.wn-m),none⟩) (h4:q≤b.wc)
  (hG:G'=qFC G (fun j=>b.wf (b.wn-m+j)) k) (hk:k=min m (64-i)) (hi:i<64):
  (m-k≤b.wn∧m-k≤q-k∧G'=qFC (qFm H) b.wf (b.wn-(m-k))∧(0<m-k→qBF A q k 1=some ⟨b.wb,b.wo+(b.wn-(m-k)),none⟩)∧q-k≤b.wc)∧m-k<m:=by
 refine⟨⟨by omega,by omega,?_,fun h5=>?_,by omega⟩,by omega⟩
 ·rw[hG,h2,show b.wn-(m-k)=(b.wn-m)+k by omega,qKL]
 ·rw[h3 hm]
  unfold qBF;rw[if_neg (by omega)]
  simp[qBu]<;>omega
def qYM {H G:HS} {b:BytL} {m:Nat} (h:G=qFC (qFm H) b.wf (b.wn-m)) (hm:¬0<m):qA1 G=qA1 (wrH H b.wf b.wn):=by
 rw[h,show b.wn-m=b.wn by omega];rfl
end Go.Eng
namespace Go.Eng
def qEn (n:UInt64):0<(1+(119-n%64)%64).toNat∧(1+(119-n%64)%64).toNat≤64:=by
 have h:=qOx n;have h2:=qRh n;unfold qBL qLF at h;unfold qLF at h2;omega
def qWA (n:UInt64) (k:Nat) (hk:k<(1+(119-n%64)%64).toNat+8) {z:Nat} (hz:z=(1+(119-n%64)%64).toNat):
  qAj (qAj (qAj (qAj (qAj (qAj (qAj (qAj (upd (fun _=>0) 0 128) z (fun _=>(qAa (8*n) 56).toUInt8)) (z+1) (fun _=>(qAa (8*n) 48).toUInt8)) (z+1+1) (fun _=>(qAa (8*n) 40).toUInt8)) (z+1+1+1) (fun _=>(qAa (8*n) 32).toUInt8)) (z+1+1+1+1) (fun _=>(qAa (8*n) 24).toUInt8)) (z+1+1+1+1+1) (fun _=>(qAa (8*n) 16).toUInt8)) (z+1+1+1+1+1+1) (fun _=>(qAa (8*n) 8).toUInt8)) (z+1+1+1+1+1+1+1) (fun _=>(qAa (8*n) 0).toUInt8) k=qEL n k:=by
 have h0:=qEn n;have e:qBL n=z:=hz.symm;unfold qEL;rw[e];rw[←hz] at hk h0;by_cases h1:k<z
 ·have:∀j,k<z+j:=fun j=>by omega
  simp only[qAj,upd];rw[if_pos (by omega),if_pos (by omega),if_pos (by omega),if_pos (by omega),if_pos (by omega),if_pos (by omega),if_pos (by omega),if_pos h1,if_pos h1]
 ·obtain⟨j,rfl⟩:∃j,k=z+j:=⟨k-z,by omega⟩
  rw[if_neg (by omega),if_neg h1,Nat.add_sub_cancel_left]
  rcases j with _ | _ | _ | _ | _ | _ | _ | _ |j
  ·simp only[qAj];rw[if_pos (by omega),if_pos (by omega),if_pos (by omega),if_pos (by omega),if_pos (by omega),if_pos (by omega),if_pos (by omega),if_neg (by omega)];rfl
  ·simp only[qAj];rw[if_pos (by omega),if_pos (by omega),if_pos (by omega),if_pos (by omega),if_pos (by omega),if_pos (by omega),if_neg (by omega)];rfl
  ·simp only[qAj];rw[if_pos (by omega),if_pos (by omega),if_pos (by omega),if_pos (by omega),if_pos (by omega),if_neg (by omega)];rfl
  ·simp only[qAj];rw[if_pos (by omega),if_pos (by omega),if_pos (by omega),if_pos (by omega),if_neg (by omega)];rfl
  ·simp only[qAj];rw[if_pos (by omega),if_pos (by omega),if_pos (by omega),if_neg (by omega)];rfl
  ·simp only[qAj];rw[if_pos (by omega),if_pos (by omega),if_neg (by omega)];rfl
  ·simp only[qAj];rw[if_pos (by omega),if_neg (by omega)];rfl
  ·simp only[qAj];rw[if_neg (by omega)];rfl
  ·omega
def qOo (s:Nat→UInt32):(fun _=>0)=qMl s 0:=by
 funext k;unfold qMl;rw[if_neg (by omega)]
def qVA {F:Blk→Prop} (hT:∀x,qHU x→F x) {nm n cc:Nat} {f:Nat→UInt8} {B:Blk} (hH:∀w:World,qAn B w→qAn ⟨nm,false,0,qAd n fun k=>u8 (f k)⟩ w):
  ∀w:World,qCM F w→(∀b∈[B],qAn b w)→qCM (qKp (qBO nm n cc f)) w:=fun w hF hb x hx=>by
 rcases hx with hx|hx
 ·exact hF x (hT x hx)
 ·exact qD7 (hH w (hb B (by simp))) x hx
def qPO {F:Blk→Prop} (hT:∀x,qHU x→F x) {nm n cc:Nat} {f:Nat→UInt8} {B:Blk} (hn:B.has nm):
  ∀x,qKp (qBO nm n cc f) x→∀j,x.has j→(∃y,F y∧y.has j)∨∃c∈[B],c.has j:=fun x hx j hj=>by
 rcases hx with hx|⟨_,rfl⟩
 ·exact .inl ⟨x,hT x hx,hj⟩
 ·have hj:nm=j:=hj
  subst hj;exact .inr ⟨B,by simp,hn⟩
end Go.Eng
namespace Go.Eng
def qOi {s:Nat→UInt32} {d:Nat→UInt8} {i:Nat} (h:d=qMl s i):upd d i ((qAF (s (i/4)) (24-i%4*8)).toUInt8)=qMl s (i+1):=by
 subst h;exact qUe s i
def qZB (H:HS) {d:Nat→UInt8} {i:Nat} (h:d=qMl (wrH H (qEL H.n) (qBL H.n+8)).s i) (hi:i=32):qBJ 32 (fun k=>u8 (d k))=qBJ 32 fun k=>u8 (qTh H k):=by
 subst h hi;exact qRr _
end Go.Eng
namespace Go.Eng
def qYg (b:Nat→UInt8) (i:Nat):UInt32:=(b (4*i)).toUInt32*16777216+(b (4*i+1)).toUInt32*65536+(b (4*i+2)).toUInt32*256+(b (4*i+3)).toUInt32
def rw1 (b:Nat→UInt8) (j:Nat):Nat→UInt32:=fun k=>if k<j then qYg b k else 0
def qWt (b:Nat→UInt8):(fun _=>0)=rw1 b 0:=by funext k;unfold rw1;rw[if_neg (by omega)]
def qX0 (b:Nat→UInt8) (j:Nat):upd (rw1 b j) j (qYg b j)=rw1 b (j+1):=by
 funext k;unfold upd rw1;by_cases h:k=j
 ·subst h;rw[if_pos rfl,if_pos (by omega)]
 ·rw[if_neg h]
  by_cases h2:k<j
  ·rw[if_pos h2,if_pos (by omega)]
  ·rw[if_neg h2,if_neg (by omega)]
def qCl (b:Nat→UInt8) (i:Nat):Nat→UInt32
 |0=>0
 |j+1=>qAR (qCl b i j) 8|||(b (4*i+j)).toUInt32
theorem qND (b:Nat→UInt8):∀(n k:Nat),sp1 b n k=qCl b k (if 4*k+4≤n then 4 else n-4*k)
 |0,k=>by
  rw[if_neg (by omega),show 0-4*k=0 by omega];rfl
 |n+1,k=>by
  rw[sp1];unfold upd;by_cases h:k=n/4
  ·subst h
   rw[if_pos rfl,qND b n (n/4)];have h4:=Nat.div_add_mod n 4;have hl:=Nat.mod_lt n (show 4>0 by omega)
   rw[if_neg (by omega)]
   have e:(if 4*(n/4)+4≤n+1 then 4 else n+1-4*(n/4))=(n-4*(n/4))+1:=by
    split<;>omega
   rw[e,qCl,show 4*(n/4)+(n-4*(n/4))=n by omega]
  ·rw[if_neg h,qND b n k]
   congr 1;have h4:=Nat.div_add_mod n 4;have hl:=Nat.mod_lt n (show 4>0 by omega)
   by_cases h5:4*k+4≤n
   ·rw[if_pos h5,if_pos (by omega)]
   ·rw[if_neg h5]
    split<;>omega
def qNM (x:UInt32) (y:UInt8) (hx:x.toNat<16777216):(qAR x 8|||y.toUInt32).toNat=x.toNat*256+y.toNat:=by
 have hy:=y.toNat_lt;have h1:(qAR x 8).toNat=2^8*x.toNat:=by rw[qH5,Nat.mul_comm];exact Nat.mod_eq_of_lt (by omega)
 rw[UInt32.toNat_or,h1,UInt8.toNat_toUInt32,←Nat.two_pow_add_eq_or_of_lt (by omega)]
 omega
def qVV (b:Nat→UInt8) (i:Nat):qCl b i 4=qYg b i:=by
 apply UInt32.toNat_inj.1;have b0:=(b (4*i)).toNat_lt;have b1:=(b (4*i+1)).toNat_lt;have b2:=(b (4*i+2)).toNat_lt;have b3:=(b (4*i+3)).toNat_lt;have e1:(qCl b i 1).toNat=(b (4*i)).toNat:=by
  have:=qNM 0 (b (4*i)) (by decide)
  have h0:(0:UInt32).toNat=0:=rfl;rw[h0] at this;simpa[qCl] using this
 have e2:(qCl b i 2).toNat=(b (4*i)).toNat*256+(b (4*i+1)).toNat:=by
  rw[←e1];exact qNM (qCl b i 1) _ (by omega)
 have e3:(qCl b i 3).toNat=((b (4*i)).toNat*256+(b (4*i+1)).toNat)*256+(b (4*i+2)).toNat:=by
  rw[←e2];exact qNM (qCl b i 2) _ (by omega)
 have e4:(qCl b i 4).toNat=(((b (4*i)).toNat*256+(b (4*i+1)).toNat)*256+(b (4*i+2)).toNat)*256+(b (4*i+3)).toNat:=by
  rw[←e3];exact qNM (qCl b i 3) _ (by omega)
 rw[e4];unfold qYg;simp only[UInt32.toNat_add,UInt32.toNat_mul,UInt8.toNat_toUInt32];have c1:(16777216:UInt32).toNat=16777216:=rfl;have c2:(65536:UInt32).toNat=65536:=rfl;have c3:(256:UInt32).toNat=256:=rfl;rw[c1,c2,c3];omega
def jAw (b:Nat→UInt8):rw1 b 16=sp1 b 64:=by
 funext k;rw[qND];unfold rw1;by_cases h:k<16
 ·rw[if_pos h,if_pos (by omega),qVV]
 ·rw[if_neg h,if_neg (by omega),show 64-4*k=0 by omega];rfl
def qUX (x m:UInt32) (n:Nat) (h:m.toNat=2^n):x/m=qAF x n:=by
 apply UInt32.toNat_inj.1;rw[UInt32.toNat_div,qIo,h]
def qXA {b:Nat→UInt8} {j:Nat} {v:Nat→UInt32} (h:16≤j) (hv:v=sp2 b (j-16)):
  upd v j (v (j-16)+(rot (v (j-15)) 7^^^rot (v (j-15)) 18^^^v (j-15)/8)+v (j-7)+(rot (v (j-2)) 17^^^rot (v (j-2)) 19^^^v (j-2)/1024))=sp2 b (j+1-16):=by
 rw[←qVU h hv,qUX _ 8 3 rfl,qUX _ 1024 10 rfl];congr 1;congr 1;rw[UInt32.add_assoc,UInt32.add_assoc (v (j-16)),UInt32.add_comm (v (j-7))]
def qT0 (e f g:UInt32):(e&&&f|||(4294967295-e)&&&g)=(e&&&f^^^~~~e&&&g):=by
 have h:(4294967295:UInt32)-e= ~~~e:=by
  apply UInt32.toBitVec_inj.1;show BitVec.allOnes 32-e.toBitVec= ~~~e.toBitVec;exact BitVec.allOnes_sub_eq_not _
 rw[h];apply UInt32.toBitVec_inj.1;show(e.toBitVec&&&f.toBitVec|||~~~e.toBitVec&&&g.toBitVec)=(e.toBitVec&&&f.toBitVec^^^~~~e.toBitVec&&&g.toBitVec);apply BitVec.eq_of_getLsbD_eq;intro i hi;simp only[BitVec.getLsbD_or,BitVec.getLsbD_and,BitVec.getLsbD_xor,BitVec.getLsbD_not,hi,decide_true,Bool.true_and];cases e.toBitVec.getLsbD i<;>simp
def jBq (a b c:UInt32):(a&&&b|||a&&&c|||b&&&c)=(a&&&b^^^a&&&c^^^b&&&c):=by
 apply UInt32.toBitVec_inj.1;show(a.toBitVec&&&b.toBitVec|||a.toBitVec&&&c.toBitVec|||b.toBitVec&&&c.toBitVec)=(a.toBitVec&&&b.toBitVec^^^a.toBitVec&&&c.toBitVec^^^b.toBitVec&&&c.toBitVec);apply BitVec.eq_of_getLsbD_eq;intro i hi;simp only[BitVec.getLsbD_or,BitVec.getLsbD_and,BitVec.getLsbD_xor];cases a.toBitVec.getLsbD i<;>cases b.toBitVec.getLsbD i<;>cases c.toBitVec.getLsbD i<;>rfl
def jBp (v:Nat→UInt32) (k w:UInt32):
  (W8.mk (v 7+(rot (v 4) 6^^^rot (v 4) 11^^^rot (v 4) 25)+(v 4&&&v 5|||(4294967295-v 4)&&&v 6)+k+w+((rot (v 0) 2^^^rot (v 0) 13^^^rot (v 0) 22)+(v 0&&&v 1|||v 0&&&v 2|||v 1&&&v 2))) (v 0) (v 1) (v 2)
   (v 3+(v 7+(rot (v 4) 6^^^rot (v 4) 11^^^rot (v 4) 25)+(v 4&&&v 5|||(4294967295-v 4)&&&v 6)+k+w)) (v 4) (v 5) (v 6)).get=qWJ v (k+w):=by
 unfold qWJ jEO jFz jGe w8F;rw[qT0,jBq];simp only[UInt32.add_assoc]
def qMD {s:Nat→UInt32} {f g:Nat→UInt8} (h:∀k,k<64→f k=g k):qHF s f=qHF s g:=by
 have h1:sp1 f 64=sp1 g 64:=by
  have:∀n,n≤64→sp1 f n=sp1 g n:=fun n=>by
   induction n with
   |zero=>intro _;rfl
   |succ n ih=>intro hn;rw[sp1,sp1,ih (by omega),h n (by omega)]
  exact this 64 (Nat.le_refl _)
 have h2:∀n,sp2 f n=sp2 g n:=fun n=>by
  induction n with
  |zero=>exact h1
  |succ n ih=>rw[sp2,sp2,ih]
 unfold qHF qHC;rw[h2]
def qJB (f:Nat→UInt8):Nat→(Nat→UInt32)
 |0=>qQt
 |j+1=>qHF (qJB f j) (fun k=>f (64*j+k))
def qVM:HS:=⟨qQt,fun _=>0,0⟩
def qX2:qFm qKV=qVM:=by unfold qFm qKV;rw[if_pos (by rfl)];rfl
theorem qRN (H:HS) (f:Nat→UInt8):∀n,(qFC H f n).n=H.n+UInt64.ofNat n
 |0=>by show H.n=H.n+0;rw[UInt64.add_zero]
 |n+1=>by
  rw[qFC,put,←qVf,←qRN H f n];split<;>rfl
theorem qPk (f:Nat→UInt8):∀j,(qFC qVM f (64*j)).s=qJB f j
 |0=>rfl
 |j+1=>by
  have hn:((qFC qVM f (64*j)).n%64).toNat=0:=by
   rw[qRN];have h1:(64:UInt64).toNat=64:=rfl;show((0+UInt64.ofNat (64*j))%64).toNat=0;rw[UInt64.zero_add,UInt64.toNat_mod,UInt64.toNat_ofNat',h1];omega
  rw[show 64*(j+1)=64*j+64 by omega,qKL,qQV _ _ (k:=64) (by omega),qJB,←qPk f j]
  exact qMD fun k hk=>by
   unfold qLU;rw[hn,if_pos (by omega),Nat.sub_zero]
structure qC7 (H:HS) (f:Nat→UInt8) (n:Nat):Prop where
 wake:qFm H=qFC qVM f n
 num:H.n=UInt64.ofNat n
def qSe (f:Nat→UInt8):qC7 qKV f 0:=⟨qX2,rfl⟩
def qVO (f:Nat→UInt8) {n:Nat} (h:n<18446744073709551616):qFm (qFC qVM f n)=qFC qVM f n:=by
 rcases Nat.eq_zero_or_pos n with h0|h0
 ·subst h0;rfl
 ·unfold qFm
  have:(qFC qVM f n).n≠0:=fun e=>by
   rw[qRN] at e;have h2:=congrArg UInt64.toNat e;rw[show qVM.n=0 from rfl,UInt64.zero_add,UInt64.toNat_ofNat',Nat.mod_eq_of_lt h] at h2;have h3:(0:UInt64).toNat=0:=rfl;omega
  rw[if_neg (by simpa using this)]
def qC7.wr {H:HS} {f:Nat→UInt8} {n:Nat} (h:qC7 H f n) (g:Nat→UInt8) (m:Nat):wrH H g m=qFC qVM (qAj f n g) (n+m):=by
 unfold wrH;rw[h.wake,qKL qVM (qAj f n g) n m,qHv qVM (f:=f) (g:=qAj f n g) (fun k hk=>by unfold qAj;rw[if_pos hk])]
 exact qHv _ fun k hk=>by unfold qAj;rw[if_neg (by omega),Nat.add_sub_cancel_left]
def qC7.write {H:HS} {f g:Nat→UInt8} {n m:Nat} (h:qC7 H f n) (hm:n+m<18446744073709551616):qC7 (wrH H g m) (qAj f n g) (n+m):=by
 have e:=h.wr g m;refine⟨?_,?_⟩
 ·rw[e,qVO _ hm]
 ·rw[e,qRN];show 0+_=_;rw[UInt64.zero_add]
def qC7.congr {H:HS} {f g:Nat→UInt8} {n:Nat} (h:qC7 H f n) (hfg:∀k,k<n→f k=g k):qC7 H g n:=
 ⟨by rw[h.wake];exact qHv _ hfg,h.num⟩
def qMm (f:Nat→UInt8) (n:Nat):Nat→UInt8:=qAj f n (qEL (UInt64.ofNat n))
def qIq (f:Nat→UInt8) (n:Nat):Nat→UInt8:=jCl (qJB (qMm f n) ((n+(qBL (UInt64.ofNat n)+8))/64))
def qC7.sum {H:HS} {f:Nat→UInt8} {n:Nat} (h:qC7 H f n) (hn:n<18446744073709551616-128):qTh H=qIq f n:=by
 have hz:=qEn (UInt64.ofNat n);have hz2:qBL (UInt64.ofNat n)≤64:=hz.2;have hm:=qRD (UInt64.ofNat n);rw[UInt64.toNat_ofNat',Nat.mod_eq_of_lt (show n<2^64 by omega)] at hm
 unfold qTh qIq jGl;rw[h.num];refine congrArg jCl ?_;have e:=h.wr (qEL (UInt64.ofNat n)) (qBL (UInt64.ofNat n)+8);have hq:64*((n+(qBL (UInt64.ofNat n)+8))/64)=n+(qBL (UInt64.ofNat n)+8):=by omega
 rw[e];show _=qJB (qMm f n) _;rw[←qPk,hq];rfl
end Go.Eng
namespace Go.Eng
def qR5 (nm at_ n c:Nat) (f:Nat→UInt8):BytL:=⟨some ⟨nm,at_,none⟩,n,c,nm,at_,fun k=>f (at_+k)⟩
def qRS {nm at_ n c:Nat} {f:Nat→UInt8} (h1:n≤c) (h2:n≤9223372036854775807):OkB (qR5 nm at_ n c f):=⟨h1,fun _=>rfl,h2⟩
def qSp {nm at_ n r k c:Nat} {f:Nat→UInt8} (hk:at_+k≤n):∀w:World,(∀b∈[(⟨nm,false,0,spr (n+r) n (fun k=>u8 (f k)) (u8 0)⟩:Blk)],qAn b w)→∀b,qBi (qR5 nm at_ k c f) b→qAn b w∧b.own=false:=fun w hw b hb=>by
 obtain⟨_,rfl⟩:=hb;have h:=qBw (hw _ (List.Mem.head _));refine⟨⟨h.lt,fun j v hj=>?_,(fun h=>by cases h),qC8 rfl⟩,rfl⟩
 have hj':(qAd k fun j=>u8 (f (at_+j))).get j=some v:=hj
 by_cases hl:j<k
 ·rw[qAH hl] at hj'
  have:=h.cell (at_+j) v (by show(qAd n _).get _=_;rw[qAH (by omega)];exact hj')
  show w.cell? ⟨nm,at_+j,none⟩=some v;simpa using this
 ·rw[qBf hl] at hj';cases hj'
def qSy {P:Program} {t e:TypeId} {x y z:Operand} (ht:P.underlying t=some (.slice e)) (hs:qBT P e=some 1) (n len cap i j l:Nat) (hi:i+l=j∧j≤cap∧i<cap):
  qB2 P (.slice t x (some y) (some z) none) [.slice (some ⟨n,0,none⟩) len cap,nat i,nat j] (.slice (some ⟨n,i,none⟩) l (cap-i)):=by
 intro ρ o' ho hv;rw[ho] at hv;have hv':[ρ x,ρ y,ρ z]=[Value.slice (some ⟨n,0,none⟩) len cap,nat i,nat j]:=hv;injection hv' with h1 hv';injection hv' with h2 hv';injection hv' with h3 _;unfold execOp;rw[ho];simp only[Option.map];show qAb P (Sem.bind (Instr.sliceAt t (ρ x) (some (ρ y)) (some (ρ z)) none) fun v=>Sem.pure (Next.value v))=_
 rw[qA4,h1,h2,h3];have hi':0≤(i:Int)∧(i:Int)≤(j:Int):=by omega
 have hj':0≤(j:Int)∧(j:Int)≤(cap:Int):=by omega
 have hne:¬cap=i:=by omega
 have hl:j-i=l:=by omega
 have e:qAb P (Instr.sliceAt t (.slice (some ⟨n,0,none⟩) len cap) (some (nat i)) (some (nat j)) none)=some (.slice (some ⟨n,i,none⟩) l (cap-i)):=by
  simp only[Instr.sliceAt,Instr.slice,Instr.sliceBounds,Instr.sliceBound,nat,qAh,asIntOf,qAb,pure,qAi ht,hi',hj',and_self,if_true,qA7 hs,Int.toNat_natCast];simp[hne,hl,qBu,Nat.mul_one]
 rw[e];rfl
def qEJ (n:Nat):Nat:=n+qBL (UInt64.ofNat n)
def qS4 (f:Nat→UInt8) (n:Nat):Nat→UInt8:=fun k=>if k<n then f k else if k=n then 128 else 0
def qXt {n:Nat} (h:n<9223372036854775808):qEJ n%64=56∧n+1≤qEJ n∧qEJ n≤n+64:=by
 have h1:=qRD (UInt64.ofNat n);have h2:=qEn (UInt64.ofNat n);rw[UInt64.toNat_ofNat',Nat.mod_eq_of_lt (show n<2^64 by omega)] at h1
 unfold qEJ;have h3:0<qBL (UInt64.ofNat n)∧qBL (UInt64.ofNat n)≤64:=h2;omega
def qUx {f:Nat→UInt8} {n k:Nat} (hk:k<qEJ n):qMm f n k=qS4 f n k:=by
 unfold qMm qAj qS4 qEL;by_cases h:k<n
 ·rw[if_pos h,if_pos h]
 ·rw[if_neg h,if_neg h]
  unfold qEJ at hk;by_cases h2:k=n
  ·subst h2;rw[if_pos (by omega),if_pos rfl]
  ·rw[if_neg (by omega),if_neg h2,if_pos (by omega)]
def qXL {f:Nat→UInt8} {n j:Nat} (hj:j<8):qMm f n (qEJ n+j)=jE7 (UInt64.ofNat n) j:=by
 have hz:=qEn (UInt64.ofNat n);have h3:0<qBL (UInt64.ofNat n):=hz.1;unfold qMm qAj qEJ qEL;rw[if_neg (by omega),if_neg (by omega),if_neg (by omega)]
 congr 1;omega
def jAp {g f:Nat→UInt8} {n:Nat}:∀k,k<0+n+1→qAj (qAj g 0 f) (0+n) (fun _=>128) k=qS4 f n k:=fun k hk=>by
 unfold qAj qS4;by_cases h:k<n
 ·rw[if_pos (by omega),if_neg (by omega),if_pos h,Nat.sub_zero]
 ·rw[if_neg (by omega),if_neg h,if_pos (by omega)]
def jBw {f g:Nat→UInt8} {n L:Nat} (h0:n+1≤L) (h:∀k,k<L→g k=qS4 f n k):∀k,k<L+1→qAj g L (fun _=>0) k=qS4 f n k:=fun k hk=>by
 unfold qAj;by_cases h1:k<L
 ·rw[if_pos h1,h k h1]
 ·rw[if_neg h1]
  unfold qS4;rw[if_neg (by omega),if_neg (by omega)]
def qYB {f g:Nat→UInt8} {n M at_ nm c:Nat} {s:Nat→UInt32} (h0:at_%64=0) (h1:at_+64≤M) (h2:s=qJB (qMm f n) (at_/64)) (h:∀k,k<M→g k=qMm f n k):
  qHF s (qR5 nm at_ 64 c g).wf=qJB (qMm f n) ((at_+64)/64):=by
 rw[h2,show(at_+64)/64=at_/64+1 by omega,qJB]
 exact qMD fun k hk=>by
  show g (at_+k)=_;rw[h _ (by omega),show 64*(at_/64)=at_ by omega]
def qSP {s:Nat→UInt32} {d:Nat→UInt8} {i:Nat} (h:d=qMl s i):upd d i ((qAF (s (i/4)) (24-8*(i%4))).toUInt8)=qMl s (i+1):=by
 rw[Nat.mul_comm 8];exact qOi h
def jAI {f:Nat→UInt8} {n at_ i:Nat} {s:Nat→UInt32} {d:Nat→UInt8} (h:d=qMl s i) (hi:i=32) (hs:s=qJB (qMm f n) (at_/64)) (ha:at_=qEJ n+8):qBJ 32 (fun k=>u8 (d k))=qBJ 32 fun k=>u8 (qIq f n k):=by
 subst h hi hs ha;rw[qRr];unfold qIq qEJ;rw[show n+(qBL (UInt64.ofNat n)+8)=n+qBL (UInt64.ofNat n)+8 by omega]
end Go.Eng
end
section
namespace Go.Eng
open Go.RowKit Go.WideShapes Go.ChangeShapes Go.ChangeAt Go.Deep
def N4.a_of_lt {q:N4} (h:q.val<2^64):q.a.toNat=q.val:=by
 have hb:=q.b.toNat_lt;unfold N4.val at h ⊢;omega
end Go.Eng
end
section
namespace Go.Proofs.YtmdpendnbkajdaaGreatDoor
open Go Go.Eng
def qWX:qPQ TP 23 (u64 0) 8:=qPZ (by kernel_rfl) rfl
def v0q(n:Nat)(f:Nat→UInt64):=qAd n (fun k=>u64 (f k))
def qGe (p:Nat) (o:Nat) (n:Nat) (c:Nat) (f:Nat→UInt64) (n1:Nat) (n2:Nat) (x1:Nat×N4):St:=⟨[(2,.v (v1M n1)),(3,.v (ptr n2 0)),(6,.v (vS (some ⟨p,o,none⟩) n c)),(7,.v (nat n)),(8,.v (nat x1.1))],[(0,some ⟨p,false,o,(v0q n f)⟩),(1,some ⟨n1,true,0,(.lit [(u64 0),(u64 0),(u64 0),(u64 0)])⟩),(2,some ⟨n2,true,0,(.lit [(u64 x1.2.a),(u64 x1.2.b),(u64 x1.2.c),(u64 x1.2.d)])⟩)],3⟩
def qDk (p:Nat) (o:Nat) (n:Nat) (c:Nat) (f:Nat→UInt64) (n1:Nat) (n2:Nat) (x1:Nat×N4):Prop:=(x1.1≤n)∧(x1.2=qBM f x1.1)
def qDP (p:Nat) (o:Nat) (n:Nat) (c:Nat) (f:Nat→UInt64) (n1:Nat) (n2:Nat) (x1:Nat×N4):Nat:=n-x1.1
def wd0(a b:Nat):=@qAC TP 3 3 (.tmp a) (.tmp b)
def we0(a:Nat):=@qAe TP 3 3 (.tmp a) (.const (.int .i64 1))
def v6F:H:=.reg (rg [v1X,v15]) .done
def v6R(n2:Nat):=aI (v1t n2) tV
def qSx (p o n c:Nat) (f:Nat→UInt64) (hn:n≤9223372036854775807):qBI TP 31 [(Value.slice (some ⟨p,o,none⟩) n c)] [⟨p,false,o,(qAd n (fun k=>u64 (f k)))⟩] 0 (fun _=>qIb (qBM f n)) (fun _=>[some ⟨p,false,o,(qAd n (fun k=>u64 (f k)))⟩]):=
 qAl mix Tryz.func31 rfl rfl 400 (.regn v1f (more (fun n1=>fun _=>(.regn v1f (more (fun n2=>fun _=>(.reg (rg [.g,(aN n),.g]) (.inv [2,3,6,7,8] [0,1,2] 3 (qDk p o n c f n1 n2) (qGe p o n c f n1 n2) (qDP p o n c f n1 n2) ((0,v2T):Nat×N4) (fun(x1:Nat×N4)=>(.reg (rg [(aB (decide (x1.1<n)))]) (.br (.reg (rg [(.as (ptr p (o+x1.1*1))),(.ld 0 (.tab x1.1 0)),.g]) (.reg (rg [v1X,.g,(.call [] 0 0 (fun _=>(Value.agg #[(u64 (f x1.1)),(u64 0),(u64 0),(u64 0)])) (fun _=>[])),(.call [] 0 0 (fun _=>(vT #[(qIb (qVh x1.2 (N4.mk (f x1.1) 0 0 0))),(u64 (b2u (qR1 x1.2 (N4.mk (f x1.1) 0 0 0))))])) (fun _=>[])),.g,.g,.g,v1V]) (.reg (rg [(aN (x1.1+1)),.g]) .done))) v6F))))))))))) [(1,0)] [] rfl
  (Eq.mp (by kernel_rfl) (fun(n1:Nat)=>aI kV1 (fun(n2:Nat)=>aI kV1 (aI (sk (aI (aT (@qAo TP 35 23 (.tmp 6) (by kernel_rfl) (some ⟨p,o,none⟩) n c)) kV1)) (aI (show(0≤n)∧((N4.mk 0 0 0 0)=qBM f 0) from by exact⟨by omega,rfl⟩) (aI (@rfl St ((qGe p o n c f n1 n2) ((0,v2T):Nat×N4))) (fun(x1:Nat×N4) (hx1:(qDk p o n c f n1 n2) x1)=>have B0:x1.1≤n:=hx1.1;have B1:x1.2=qBM f x1.1:=hx1.2;aI (aI (aT (@wd0 8 7  x1.1 n)) tV) (aT (aI (fun(h1:(decide (x1.1<n))=true)=>have f3:=(oT h1);aI (aI (aT (@qAk TP 35 23 (.tmp 6) (.tmp 8) 1 (by kernel_rfl) (by kernel_rfl) p o n c x1.1 (show x1.1<n from by omega))) (aI (aT (aI (show x1.1<n from by omega) (@rfl Value (ptr p (o+x1.1*1))))) kV1)) (aI (aI (v1t n2) (sk (aI (aT (qFQ (f x1.1))) (aI (aT (qWW x1.2 (N4.mk (f x1.1) 0 0 0))) (sK3 (v6R n2)))))) (aI (aI (aT (@we0 8  x1.1 1 (show x1.1+1≤9223372036854775807 from by omega))) kV1) ((rnd (qDk p o n c f n1 n2) (qGe p o n c f n1 n2) (qDP p o n c f n1 n2) x1 ((x1.1+1,(qVh x1.2 (N4.mk (f x1.1) 0 0 0))):Nat×N4) (show(((x1.1+1)≤n)∧((qVh x1.2 (N4.mk (f x1.1) 0 0 0))=qBM f (x1.1+1)))∧(n-(x1.1+1))<(n-x1.1) from by exact⟨⟨by omega,by rw[B1]<;>rfl⟩,by omega⟩)))))) (fun(h1:(decide (x1.1<n))=false)=>have f3:=(oF h1);aI (aI (v1t n2) (v6d n1)) (aI (v0z n1) (eX (fun(ns:List Nat)=>ns.length=0∧((qIb x1.2):Value)=(fun _=>qIb (qBM f n)) ns∧([some ⟨p,false,o,(v0q n f)⟩]:List (Option Blk))=(fun _=>[some ⟨p,false,o,(v0q n f)⟩]) ns) [] (aI v0b (aI ((show(qIb x1.2)=qIb (qBM f n) from by have e:x1.1=n:=(by omega);rw[e] at B1;rw[←B1]<;>rfl)) (@rfl (List (Option Blk)) [some ⟨p,false,o,(v0q n f)⟩])))))))))))))))
def v0W:=@rfl Nat 2
def v2L:=m3 fun n1 n2 n3=>.done
def v2M(n2 n n3:Nat):=vS (some ⟨n2,0,none⟩) (0+n) (0+n+n3)
def qVZ (p o n c:Nat) (f:Nat→UInt64) (hn:0<n∧n≤40):qBI TP 21 [(Value.slice (some ⟨p,o,none⟩) n c)] [⟨p,false,o,(qAd n (fun k=>u64 (f k)))⟩] 2 (fun ns=>(Value.slice (some ⟨(ns.getD 0 0),0,none⟩) (0+n) (0+n+(ns.getD 1 0)))) (fun ns=>[some ⟨p,false,o,(qAd n (fun k=>u64 (f k)))⟩,some ⟨(ns.getD 0 0),true,0,(spr (0+n+(ns.getD 1 0)) (0+n) (fun k=>u64 (qAj (fun _=>0) 0 f k)) (u64 0))⟩]):=
 qAl mix Tryz.func21 rfl rfl 400 (.reg (rg [.g]) (.reg v00 (.no (.regn (rg [(.oth [] 1 1 (fun ns=>vS (some ⟨ns.getD 0 0,0,none⟩) 0 0) (fun ns=>[some ⟨ns.getD 0 0,true,0,(spr (0+0) 0 (fun k=>u64 ((fun _=>0) k)) (u64 0))⟩])),.g,(.oth [(1,false),(0,true)] 2 0 (fun ns=>vS (some ⟨(g0 ns),0,none⟩) (0+n) (0+n+(g1 ns))) (fun ns=>[some ⟨(g0 ns),true,0,(spr (0+n+(g1 ns)) (0+n) (fun k=>u64 (qAj (fun _=>0) 0 f k)) (u64 0))⟩,none])),.g]) v2L)))) [] [1] rfl
  (Eq.mp (by kernel_rfl) (aI kV1 (aI kV2 (aT (aI v05 (fun(n1 n2 n3:Nat)=>aI (aI (aT (qJd (P:=TP) (t:=35) (e:=23) (by kernel_rfl) qWX u64 (fun _=>0))) (sk (aI (aT (qAu.dark [false,true] (qAZ (P:=TP) (t:=35) (ty:=35) (e:=23) (by kernel_rfl) qWX n1 0 0 p o 0 n c u64 (fun _=>0) f (v0q n f) (fun j hj=>by rw[Nat.zero_add];exact qAH hj) (fun _=>rfl) (show(0+n)*8≤140737488355328∧0+n≤9223372036854775807 from by omega)))) kV1))) (aT (eX (fun(ns:List Nat)=>ns.length=2∧((v2M n2 n n3):Value)=(fun ns=>(vS (some ⟨(g0 ns),0,none⟩) (0+n) (0+n+(g1 ns)))) ns∧([some ⟨p,false,o,(v0q n f)⟩,some ⟨n2,true,0,(spr (0+n+n3) (0+n) (fun k=>u64 (qAj (fun _=>0) 0 f k)) (u64 0))⟩]:List (Option Blk))=(fun ns=>[some ⟨p,false,o,(v0q n f)⟩,some ⟨(g0 ns),true,0,(spr (0+n+(g1 ns)) (0+n) (fun k=>u64 (qAj (fun _=>0) 0 f k)) (u64 0))⟩]) ns) [n2,n3] (aI v0W (aI (@rfl Value (v2M n2 n n3)) (@rfl (List (Option Blk)) [some ⟨p,false,o,(v0q n f)⟩,some ⟨n2,true,0,(spr (0+n+n3) (0+n) (fun k=>u64 (qAj (fun _=>0) 0 f k)) (u64 0))⟩])))))))))))
def qKZ (p o n c:Nat) (f:Nat→UInt64) (hn:0<n∧n≤40):qBI TP 21 [.slice (some ⟨p,o,none⟩) n c] [⟨p,false,o,qAd n fun k=>u64 (f k)⟩] 2 (fun ns=>.slice (some ⟨ns.getD 0 0,0,none⟩) n (n+ns.getD 1 0)) (fun ns=>[some ⟨p,false,o,qAd n fun k=>u64 (f k)⟩,some ⟨ns.getD 0 0,true,0,qAd n fun k=>u64 (f k)⟩]):=by
 have h:=qVZ p o n c f hn;simp only[Nat.zero_add] at h;exact h.weak fun ns q x hq=>by
  rcases q with _ | _ |q
  ·cases hq;exact⟨_,rfl,rfl,rfl,rfl,fun _=>rfl,.inl rfl⟩
  ·cases hq;exact⟨_,rfl,rfl,rfl,rfl,(fun h=>by cases h),.inr ⟨rfl,rfl,qSI (g:=f) (g':=qAj (fun _=>0) 0 f) (by omega) fun k _=>rfl⟩⟩
  ·simp[lM] at hq
end Go.Proofs.YtmdpendnbkajdaaGreatDoor
end
section
namespace Go.Eng
def lpB (q:Nat) (ow:Bool) (L:List (Nat×qBc)):Blk:=⟨q,ow,0,.pile L.length fun i=>L[i]?⟩
def lpO (q:Nat) (L:List (Nat×qBc)):Option Blk:=some (lpB q true L)
def qCD (ow:Bool) (x:Nat×qBc):Blk:=⟨x.1,ow,0,x.2.cont⟩
def qIE {ow:Bool} {x:Nat×qBc} {k:Nat}:(qCD ow x).has k↔x.1=k:=by
 obtain⟨n,pc⟩:=x;cases pc with
 |row=>exact qBB rfl
 |obj es c=>exact qPB (es:=es) (c:=c) rfl
def qEP {q:Nat} {ow:Bool} {L:List (Nat×qBc)} {k:Nat}:(lpB q ow L).has k↔∃(i:Nat) (x:Nat×qBc),L[i]?=some x∧x.1=k:=by
 constructor
 ·rintro⟨i,p,_,h⟩;exact⟨i,(k,p),h,rfl⟩
 ·rintro⟨i,⟨n,p⟩,h,rfl⟩;exact⟨i,p,(List.getElem?_eq_some_iff.1 h).1,h⟩
def qY2 {q:Nat} {ow:Bool} {L:List (Nat×qBc)} {w:World} (h:qAn (lpB q ow L) w):(∀i k p,i<L.length→L[i]?=some (k,p)→qEG k ow p w)∧jE0 L.length (fun i=>L[i]?):=h.obj
def qGT {q:Nat} {ow:Bool} {L:List (Nat×qBc)} {w:World} (h:qAn (lpB q ow L) w) {j:Nat} {x:Nat×qBc} (hj:L[j]?=some x):qEG x.1 ow x.2 w:=
 (qY2 h).1 j x.1 x.2 (List.getElem?_eq_some_iff.1 hj).1 hj
def qPK {q:Nat} {ow:Bool} {L:List (Nat×qBc)} {w:World} (h:qAn (lpB q ow L) w) {i j:Nat} {x y:Nat×qBc} (hi:L[i]?=some x) (hj:L[j]?=some y) (e:x.1=y.1):i=j:=
 (qY2 h).2 i j x.1 x.2 y.2 (List.getElem?_eq_some_iff.1 hi).1 (List.getElem?_eq_some_iff.1 hj).1 hi (show L[j]?=some (x.1,y.2) by rw[hj,e])
def qPc {ow:Bool} {x:Nat×qBc} {w:World} (h:qEG x.1 ow x.2 w):qAn (qCD ow x) w where
 lt:=h.lt
 cell:=h.cell
 free:=h.free
 obj:=by
  have:=h.obj;show x.2.cont.ObjOk x.1 ow w;cases e:x.2 with
  |row=>exact qC8 rfl
  |obj es c=>exact this es c e
def qO4 {ow:Bool} {x:Nat×qBc} {w:World} (h:qAn (qCD ow x) w):qEG x.1 ow x.2 w where
 lt:=h.lt
 cell:=h.cell
 free:=h.free
 obj es c e:=by
  have:=h.obj;change x.2.cont.ObjOk x.1 ow w at this;rw[e] at this;exact this
structure Foc (m m1:Nat→Option Blk) (p0:Nat) (X Y:Blk):Prop where
 x:m p0=some X
 y:m1 p0=some Y
 o:∀p,p≠p0→m p=m1 p
def Foc.inn {m m1:Nat→Option Blk} {p0 q j:Nat} {o1 o2:Bool} {L:List (Nat×qBc)} {x:Nat×qBc} {w:World} (h:Foc m m1 p0 (qCD o1 x) (lpB q o2 L)) (hj:L[j]?=some x) (ho:o1=true→o2=true)
  (hm:∀p b,m1 p=some b→qAn b w) (ha:qCJ m1):(∀p b,m p=some b→qAn b w)∧qCJ m∧∀k,qDr m k→qDr m1 k:=by
 have hY:=hm p0 _ h.y;have hX:qAn (qCD o1 x) w:=by
  have:=qPc (qGT hY hj);cases o1 with
  |true=>rw[ho rfl] at this;exact this
  |false=>exact this.ro
 have hx:∀k,(qCD o1 x).has k→(lpB q o2 L).has k:=fun k hk=>qEP.2 ⟨j,x,hj,qIE.1 hk⟩
 refine⟨fun p b hb=>?_,fun p r b c hpr hb hc hown k hk1 hk2=>?_,fun k ⟨p,b,h1,h2,h3⟩=>?_⟩
 ·by_cases e:p=p0
  ·subst e;rw[h.x] at hb;injection hb with hb;subst hb;exact hX
  ·rw[h.o p e] at hb;exact hm p b hb
 ·by_cases e:p=p0
  ·subst e
   rw[h.x] at hb;injection hb with hb;subst hb;have e2:r≠p:=fun z=>hpr z.symm
   rw[h.o r e2] at hc;exact ha p r _ c hpr h.y hc (ho hown) k (hx k hk1) hk2
  ·rw[h.o p e] at hb
   by_cases e2:r=p0
   ·subst e2
    rw[h.x] at hc;injection hc with hc;subst hc;exact ha p r b _ hpr hb h.y hown k hk1 (hx k hk2)
   ·rw[h.o r e2] at hc
    exact ha p r b c hpr hb hc hown k hk1 hk2
 ·by_cases e:p=p0
  ·subst e;rw[h.x] at h1;injection h1 with h1;subst h1
   exact⟨p,_,h.y,ho h2,hx k h3⟩
  ·rw[h.o p e] at h1;exact⟨p,b,h1,h2,h3⟩
def Foc.rest {m m1:Nat→Option Blk} {p0 q j:Nat} {o1:Bool} {L:List (Nat×qBc)} {x:Nat×qBc} {w:World} (h:Foc m m1 p0 (qCD o1 x) (lpB q true L)) (hj:L[j]?=some x)
  (hY:qAn (lpB q true L) w) (ha:qCJ m1) {i:Nat} {y:Nat×qBc} (hi:L[i]?=some y) (hij:o1=true→i≠j):¬qDr m y.1:=fun⟨p,b,h1,h2,h3⟩=>by
 by_cases e:p=p0
 ·subst e
  rw[h.x] at h1;injection h1 with h1;subst h1;exact hij h2 (qPK hY hi hj (qIE.1 h3).symm)
 ·rw[h.o p e] at h1
  exact ha p0 p _ b (fun z=>e z.symm) h.y h1 rfl y.1 (qEP.2 ⟨i,y,hi,rfl⟩) h3
def qTO {L:List (Nat×qBc)} {j k:Nat} {pc pc':qBc} (hj:L[j]?=some (k,pc)) (q:Nat) (ow:Bool) (n:Nat):(lpB q ow (L.set j (k,pc'))).has n↔(lpB q ow L).has n:=by
 have hlt:j<L.length:=(List.getElem?_eq_some_iff.1 hj).1;rw[qEP,qEP];constructor
 ·rintro⟨i,x,hi,rfl⟩
  rw[List.getElem?_set] at hi;by_cases e:j=i
  ·subst e;rw[if_pos rfl,if_pos hlt] at hi;injection hi with hi;subst hi;exact⟨j,_,hj,rfl⟩
  ·rw[if_neg e] at hi;exact⟨i,x,hi,rfl⟩
 ·rintro⟨i,x,hi,rfl⟩
  by_cases e:j=i
  ·subst e;rw[hj] at hi;injection hi with hi;subst hi
   exact⟨j,(k,pc'),by rw[List.getElem?_set,if_pos rfl,if_pos hlt],rfl⟩
  ·exact⟨i,x,by rw[List.getElem?_set,if_neg e];exact hi,rfl⟩
def Foc.out {m m1 mo mo1:Nat→Option Blk} {p0 q j k:Nat} {L:List (Nat×qBc)} {pc pc':qBc} {w w':World} (h:Foc m m1 p0 (qCD true (k,pc)) (lpB q true L)) (h':Foc mo mo1 p0 (qCD true (k,pc')) (lpB q true (L.set j (k,pc')))) (hj:L[j]?=some (k,pc))
  (hm:∀p b,m1 p=some b→qAn b w) (ha:qCJ m1) (hp:qC4 m w mo w'):qC4 m1 w mo1 w':=by
 have hlt:j<L.length:=(List.getElem?_eq_some_iff.1 hj).1;have hY:=hm p0 _ h.y;obtain⟨_,_,hown⟩:=h.inn hj id hm ha;have hX':=qO4 (hp.holds p0 _ h'.x);have hrest:∀(i:Nat) (y:Nat×qBc),L[i]?=some y→i≠j→¬qDr m y.1:=fun i y hi hij=>h.rest hj hY ha hi fun _=>hij
 have hsep:∀r c,r≠p0→mo r=some c→∀n,(lpB q true L).has n→¬c.has n:=fun r c hr hc n hn hcn=>by
  obtain⟨i,y,hi,rfl⟩:=qEP.1 hn;by_cases e:i=j
  ·subst e
   rw[hj] at hi;injection hi with hi;subst hi;exact hp.apart p0 r _ c (fun z=>hr z.symm) h'.x hc rfl k (qIE.2 rfl) hcn
  ·cases hco:c.own with
   |true=>
    rcases hp.adv.names y.1 ⟨r,c,hc,hco,hcn⟩ with h5|h5
    ·exact hrest i y hi e h5
    ·have:=(qGT hY hi).lt;omega
   |false=>
    have h5:=hp.adv.ro r c hc hco;rw[h.o r hr] at h5;exact ha p0 r _ c (fun z=>hr z.symm) h.y h5 rfl y.1 (qEP.2 ⟨i,y,hi,rfl⟩) hcn
 refine⟨fun p b hb=>?_,fun p r b c hpr hb hc ho n hn1 hn2=>?_,⟨hp.adv.os,hp.adv.output,hp.adv.tape,hp.adv.size,fun n hn hno=>hp.adv.heap n hn fun z=>hno (hown n z),fun n ⟨p,b,h1,h2,h3⟩=>?_,fun p b hb ho=>?_⟩⟩
 ·by_cases e:p=p0
  ·subst e
   rw[h'.y] at hb;injection hb with hb;subst hb;refine⟨Nat.lt_of_lt_of_le hY.lt hp.adv.size,(fun o v hv=>by cases hv),(fun _ o v hv=>by cases hv),⟨fun i n pc2 hi hg=>?_,fun i i' n pc2 pc3 hi hi' hg hg'=>?_⟩⟩
   ·change(L.set j (k,pc'))[i]?=some (n,pc2) at hg
    rw[List.getElem?_set] at hg;by_cases e:j=i
    ·subst e;rw[if_pos rfl,if_pos hlt] at hg;injection hg with hg;injection hg with h1 h2;subst h1;subst h2;exact hX'
    ·rw[if_neg e] at hg
     have h1:=qGT hY hg;exact h1.of_heap hp.adv.size (hp.adv.heap n h1.lt (hrest i _ hg fun z=>e z.symm))
   ·change(L.set j (k,pc'))[i]?=some (n,pc2) at hg
    change(L.set j (k,pc'))[i']?=some (n,pc3) at hg';have key:∀(a:Nat) (pc4:qBc),(L.set j (k,pc'))[a]?=some (n,pc4)→∃pc5,L[a]?=some (n,pc5):=fun a pc4 ha=>by
     rw[List.getElem?_set] at ha;by_cases e:j=a
     ·subst e;rw[if_pos rfl,if_pos hlt] at ha;injection ha with ha;injection ha with h1 h2;subst h1;exact⟨_,hj⟩
     ·rw[if_neg e] at ha;exact⟨_,ha⟩
    obtain⟨_,k1⟩:=key i pc2 hg;obtain⟨_,k2⟩:=key i' pc3 hg';exact qPK hY k1 k2 rfl
  ·rw[←h'.o p e] at hb;exact hp.holds p b hb
 ·by_cases e:p=p0
  ·subst e
   rw[h'.y] at hb;injection hb with hb;subst hb;have e2:r≠p:=fun z=>hpr z.symm
   rw[←h'.o r e2] at hc;exact hsep r c e2 hc n ((qTO hj q true n).1 hn1) hn2
  ·rw[←h'.o p e] at hb
   by_cases e2:r=p0
   ·subst e2
    rw[h'.y] at hc;injection hc with hc;subst hc;exact hsep p b e hb n ((qTO hj q true n).1 hn2) hn1
   ·rw[←h'.o r e2] at hc
    exact hp.apart p r b c hpr hb hc ho n hn1 hn2
 ·by_cases e:p=p0
  ·subst e
   rw[h'.y] at h1;injection h1 with h1;subst h1;exact .inl ⟨p,_,h.y,rfl,(qTO hj q true n).1 h3⟩
  ·rw[←h'.o p e] at h1
   rcases hp.adv.names n ⟨p,b,h1,h2,h3⟩ with h5|h5
   ·exact .inl (hown n h5)
   ·exact .inr h5
 ·by_cases e:p=p0
  ·subst e;rw[h'.y] at hb;injection hb with hb;subst hb;cases ho
  ·rw[←h'.o p e] at hb
   rw[←h.o p e];exact hp.adv.ro p b hb ho
def qBY (bs cs:List (Option Blk)) (x:Option Blk):lM (bs++x::cs) bs.length=x:=by
 rw[qBk (Nat.le_refl _),Nat.sub_self];unfold lM;cases x<;>rfl
def qGg (bs cs:List (Option Blk)) (x y:Option Blk) {p:Nat} (h:p≠bs.length):lM (bs++x::cs) p=lM (bs++y::cs) p:=by
 by_cases h1:p<bs.length
 ·rw[qBP h1,qBP h1]
 ·rw[qBk (by omega),qBk (by omega)]
  obtain⟨s,hs⟩:∃s,p-bs.length=s+1:=⟨p-bs.length-1,by omega⟩
  rw[hs];unfold lM;rfl
def qAc.focus {F:Blk→Prop} {P:Program} {f:FuncId} {args:List Value} {bs cs:List (Option Blk)} {n:Nat} {v:List Nat→Value} {o r:List Nat→List (Option Blk)} {q j k:Nat} {L:List (Nat×qBc)} {pc:qBc} {pc':List Nat→qBc}
  (h:qAc F P f args (bs++some (qCD true (k,pc))::cs) n v (fun ns=>o ns++some (qCD true (k,pc' ns))::r ns)) (hj:L[j]?=some (k,pc)) (ho:∀ns,(o ns).length=bs.length):
  qAc F P f args (bs++lpO q L::cs) n v (fun ns=>o ns++lpO q (L.set j (k,pc' ns))::r ns):=by
 intro w hm ha hF;have hf:Foc (lM (bs++some (qCD true (k,pc))::cs)) (lM (bs++lpO q L::cs)) bs.length (qCD true (k,pc)) (lpB q true L):=⟨qBY ..,qBY ..,fun p hp=>qGg _ _ _ _ hp⟩
 obtain⟨h1,h2,h3⟩:=hf.inn hj id hm ha;refine Calls.mono (h w h1 h2 fun b hb=>⟨(hF b hb).1,(hF b hb).2.1,fun k hk ho=>(hF b hb).2.2 k hk (h3 k ho)⟩) ?_
 rintro e w' ⟨ns,hns,he,hp⟩
 refine⟨ns,hns,he,hf.out (mo:=lM (o ns++some (qCD true (k,pc' ns))::r ns)) (pc':=pc' ns) ⟨?_,?_,fun p hp=>?_⟩ hj hm ha hp⟩
 ·rw[←ho ns];exact qBY ..
 ·rw[←ho ns];exact qBY ..
 ·rw[←ho ns] at hp;exact qGg _ _ _ _ hp
def qAc.focusL {F:Blk→Prop} {P:Program} {f:FuncId} {args:List Value} {bs cs:List (Option Blk)} {n:Nat} {v:List Nat→Value} {o r:List Nat→List (Option Blk)} {q j:Nat} {ow:Bool} {L:List (Nat×qBc)} {x:Nat×qBc}
  (h:qAc F P f args (bs++some (qCD false x)::cs) n v (fun ns=>o ns++none::r ns)) (hj:L[j]?=some x) (ho:∀ns,(o ns).length=bs.length):
  qAc F P f args (bs++some (lpB q ow L)::cs) n v (fun ns=>o ns++none::r ns):=by
 intro w hm ha hF;have hf:Foc (lM (bs++some (qCD false x)::cs)) (lM (bs++some (lpB q ow L)::cs)) bs.length (qCD false x) (lpB q ow L):=⟨qBY ..,qBY ..,fun p hp=>qGg _ _ _ _ hp⟩
 obtain⟨h1,h2,h3⟩:=hf.inn hj (fun z=>by cases z) hm ha
 refine Calls.mono (h w h1 h2 fun b hb=>⟨(hF b hb).1,(hF b hb).2.1,fun k hk ho=>(hF b hb).2.2 k hk (h3 k ho)⟩) ?_
 rintro e w' ⟨ns,hns,he,hp⟩
 refine⟨ns,hns,he,hp.holds,hp.apart,⟨hp.adv.os,hp.adv.output,hp.adv.tape,hp.adv.size,fun k hk hno=>hp.adv.heap k hk fun z=>hno (h3 k z),fun k hk=>?_,fun p b hb hob=>?_⟩⟩
 ·rcases hp.adv.names k hk with h5|h5
  ·exact .inl (h3 k h5)
  ·exact .inr h5
 ·have h5:=hp.adv.ro p b hb hob
  by_cases e:p=bs.length
  ·subst e
   have:lM (o ns++none::r ns) bs.length=none:=by rw[←ho ns];exact qBY ..
   rw[this] at hb;cases hb
  ·rw[hf.o p e] at h5;exact h5
def qC4.gather {m mo mo1:Nat→Option Blk} {p0 p1 q:Nat} {L:List (Nat×qBc)} {x:Nat×qBc} {w w':World} (h01:p0≠p1) (h0:mo p0=some (lpB q true L)) (h1:mo p1=some (qCD true x)) (h2:mo1 p0=some (lpB q true (L++[x]))) (h3:mo1 p1=none)
  (ho:∀p,p≠p0→p≠p1→mo1 p=mo p) (hp:qC4 m w mo w'):qC4 m w mo1 w':=by
 have hY:=hp.holds p0 _ h0;have hX:=qO4 (hp.holds p1 _ h1);have hcat:∀(i:Nat) (y:Nat×qBc),(L++[x])[i]?=some y→L[i]?=some y∨(i=L.length∧y=x):=fun i y hi=>by
  rw[List.getElem?_append] at hi;split at hi
  ·exact .inl hi
  ·rename_i hlt
   have:i-L.length=0:=by
    have:=(List.getElem?_eq_some_iff.1 hi).1;simp at this;omega
   rw[this] at hi;simp at hi;exact .inr ⟨by omega,hi.symm⟩
 have hsep:∀(i:Nat) (y:Nat×qBc),L[i]?=some y→y.1≠x.1:=fun i y hi e=>
  hp.apart p0 p1 _ _ h01 h0 h1 rfl x.1 (qEP.2 ⟨i,y,hi,e⟩) (qIE.2 rfl)
 have hfrom:∀k,(lpB q true (L++[x])).has k→(lpB q true L).has k∨(qCD true x).has k:=fun k hk=>by
  obtain⟨i,y,hi,rfl⟩:=qEP.1 hk;rcases hcat i y hi with h5|⟨_,rfl⟩
  ·exact .inl (qEP.2 ⟨i,y,h5,rfl⟩)
  ·exact .inr (qIE.2 rfl)
 have hat:∀p b,mo1 p=some b→(p=p0∧b=lpB q true (L++[x]))∨(p≠p0∧p≠p1∧mo p=some b):=fun p b hb=>by
  by_cases e:p=p0
  ·subst e;rw[h2] at hb;injection hb with hb;exact .inl ⟨rfl,hb.symm⟩
  ·by_cases e2:p=p1
   ·subst e2;rw[h3] at hb;cases hb
   ·exact .inr ⟨e,e2,by rw[←ho p e e2];exact hb⟩
 refine⟨fun p b hb=>?_,fun p r b c hpr hb hc hown k hk1 hk2=>?_,⟨hp.adv.os,hp.adv.output,hp.adv.tape,hp.adv.size,hp.adv.heap,fun k ⟨p,b,k1,k2,k3⟩=>?_,fun p b hb hob=>?_⟩⟩
 ·rcases hat p b hb with⟨_,rfl⟩|⟨_,_,h5⟩
  ·refine⟨hY.lt,(fun o v hv=>by cases hv),(fun _ o v hv=>by cases hv),⟨fun i k pc hi hg=>?_,fun i j k pc pc' hi hj hg hg'=>?_⟩⟩
   ·rcases hcat i _ hg with h5|⟨_,h5⟩
    ·exact qGT hY h5
    ·rw[←h5] at hX;exact hX
   ·rcases hcat i _ hg with h5|⟨h5,h6⟩
    ·rcases hcat j _ hg' with h7|⟨h7,h8⟩
     ·exact qPK hY h5 h7 rfl
     ·exact(hsep i (k,pc) h5 (show k=x.1 from congrArg Prod.fst h8)).elim
    ·rcases hcat j _ hg' with h7|⟨h7,h8⟩
     ·exact(hsep j (k,pc') h7 (show k=x.1 from congrArg Prod.fst h6)).elim
     ·omega
  ·exact hp.holds p b h5
 ·rcases hat p b hb with⟨e,rfl⟩|⟨k1,k2,h5⟩
  ·rcases hat r c hc with⟨e2,_⟩|⟨k3,k4,h6⟩
   ·exact hpr (e.trans e2.symm)
   ·rcases hfrom k hk1 with h7|h7
    ·exact hp.apart p0 r _ c (fun z=>k3 z.symm) h0 h6 rfl k h7 hk2
    ·exact hp.apart p1 r _ c (fun z=>k4 z.symm) h1 h6 rfl k h7 hk2
  ·rcases hat r c hc with⟨e2,rfl⟩|⟨k3,k4,h6⟩
   ·rcases hfrom k hk2 with h7|h7
    ·exact hp.apart p p0 b _ k1 h5 h0 hown k hk1 h7
    ·exact hp.apart p p1 b _ k2 h5 h1 hown k hk1 h7
   ·exact hp.apart p r b c hpr h5 h6 hown k hk1 hk2
 ·rcases hat p b k1 with⟨_,rfl⟩|⟨_,_,h5⟩
  ·rcases hfrom k k3 with h7|h7
   ·exact hp.adv.names k ⟨p0,_,h0,rfl,h7⟩
   ·exact hp.adv.names k ⟨p1,_,h1,rfl,h7⟩
  ·exact hp.adv.names k ⟨p,b,h5,k2,k3⟩
 ·rcases hat p b hb with⟨_,rfl⟩|⟨_,_,h5⟩
  ·cases hob
  ·exact hp.adv.ro p b h5 hob
def qAc.gather {F:Blk→Prop} {P:Program} {f:FuncId} {args:List Value} {bs:List (Option Blk)} {n:Nat} {v:List Nat→Value} {o r t:List Nat→List (Option Blk)} {q:Nat} {L:List Nat→List (Nat×qBc)} {x:List Nat→Nat×qBc}
  (h:qAc F P f args bs n v (fun ns=>o ns++lpO q (L ns)::(r ns++some (qCD true (x ns))::t ns))):
  qAc F P f args bs n v (fun ns=>o ns++lpO q (L ns++[x ns])::(r ns++none::t ns)):=by
 refine fun w hm ha hF=>(h w hm ha hF).mono ?_
 rintro e w' ⟨ns,hns,he,hp⟩
 refine⟨ns,hns,he,hp.gather (p0:=(o ns).length) (p1:=(o ns).length+((r ns).length+1)) (by omega) (qBY ..) ?_ (qBY ..) ?_ fun p k1 k2=>?_⟩
 ·rw[qBk (by omega),Nat.add_sub_cancel_left,lm1];exact qBY ..
 ·rw[qBk (by omega),Nat.add_sub_cancel_left,lm1];exact qBY ..
 ·by_cases h1:p<(o ns).length
  ·rw[qBP h1,qBP h1]
  ·rw[qBk (by omega),qBk (by omega)]
   obtain⟨s,hs⟩:∃s,p-(o ns).length=s+1:=⟨p-(o ns).length-1,by omega⟩
   rw[hs,lm1,lm1];exact qGg _ _ _ _ (by omega)
def qAc.pile0 {F:Blk→Prop} {P:Program} {f:FuncId} {args:List Value} {bs:List (Option Blk)} {n:Nat} {v:List Nat→Value} {o:List Nat→List (Option Blk)} {q:List Nat→Nat} (h:qAc F P f args bs n v o) (hq:∀ns,∃p b,lM (o ns) p=some b∧b.name=q ns):
  qAc F P f args bs n v (fun ns=>o ns++[lpO (q ns) []]):=by
 refine fun w hm ha hF=>(h w hm ha hF).mono ?_
 rintro e w' ⟨ns,hns,he,hp⟩
 obtain⟨p1,b1,h1,h2⟩:=hq ns;have hlt:q ns<w'.heap.size:=by rw[←h2];exact(hp.holds p1 b1 h1).lt
 have hno:∀k,¬(lpB (q ns) true []).has k:=fun k hk=>by
  obtain⟨i,x,hi,_⟩:=qEP.1 hk;simp at hi
 have hat:∀p b,lM (o ns++[lpO (q ns) []]) p=some b→b=lpB (q ns) true []∨lM (o ns) p=some b:=fun p b hb=>by
  rcases qDG hb with⟨_,h5⟩|⟨_,h5⟩
  ·exact .inr h5
  ·unfold lM at h5
   cases hz:p-(o ns).length with
   |zero=>rw[hz] at h5;exact .inl (by injection h5 with h5;exact h5.symm)
   |succ s=>rw[hz] at h5;simp at h5
 refine⟨ns,hns,he,fun p b hb=>?_,fun p r b c hpr hb hc hown k hk1 hk2=>?_,⟨hp.adv.os,hp.adv.output,hp.adv.tape,hp.adv.size,hp.adv.heap,fun k ⟨p,b,k1,k2,k3⟩=>?_,fun p b hb hob=>?_⟩⟩
 ·rcases hat p b hb with rfl|h5
  ·exact⟨hlt,(fun o v hv=>by cases hv),(fun _ o v hv=>by cases hv),⟨fun i k pc hi hg=>(by cases hi),fun i j k pc pc' hi=>(by cases hi)⟩⟩
  ·exact hp.holds p b h5
 ·rcases hat p b hb with rfl|h5
  ·exact hno k hk1
  ·rcases hat r c hc with rfl|h6
   ·exact hno k hk2
   ·exact hp.apart p r b c hpr h5 h6 hown k hk1 hk2
 ·rcases hat p b k1 with rfl|h5
  ·exact absurd k3 (hno k)
  ·exact hp.adv.names k ⟨p,b,h5,k2,k3⟩
 ·rcases hat p b hb with rfl|h5
  ·cases hob
  ·exact hp.adv.ro p b h5 hob
def qZS {q:Nat} {ow:Bool} {L:List (Nat×qBc)} {j:Nat} {x:Nat×qBc} (hj:L[j]?=some x) {w:World} (hb:∀b,roO (some (lpB q ow L))=some b→qAn b w):qAn (qCD false x) w:=
 qPc (qGT (q:=q) (ow:=false) (hb _ rfl) hj)
def qVl {α:Type} (cs:List α) (p:Nat) (b:Blk):lM (cs.map fun _=>(none:Option Blk)) p≠some b:=fun h=>by
 unfold lM at h;rw[List.getElem?_map] at h;cases hc:cs[p]?<;>rw[hc] at h<;>simp at h
def qAc.lendQ {F F':Blk→Prop} {P:Program} {f:FuncId} {args:List Value} {bs cs:List (Option Blk)} {k:Nat} {v:List Nat→Value} {o nw:List Nat→List (Option Blk)} (h:qAc F P f args bs k v (fun ns=>o ns++nw ns)) (ho:∀ns,(o ns).length=bs.length)
  (hF:∀w:World,qCM F' w→(∀b,some b∈cs→qAn b w)→qCM F w) (hn:∀x,F x→∀j,x.has j→(∃y,F' y∧y.has j)∨∃c,some c∈cs∧c.has j):
  qAc F' P f args (bs++cs) k v (fun ns=>o ns++(cs.map (fun _=>none)++nw ns)):=by
 intro w hm ha hF';have hin:∀(l:List (Option Blk)) p b,lM l p=some b→p<l.length∧some b∈l:=fun l p b hp=>by
  unfold lM at hp;cases hc:l[p]?with
  |none=>rw[hc] at hp;cases hp
  |some x=>
   rw[hc] at hp;obtain⟨h1,h2⟩:=List.getElem?_eq_some_iff.1 hc;have h3:x=some b:=hp;exact⟨h1,by rw[←h3,←h2];exact List.getElem_mem h1⟩
 have hsub:∀p b,lM bs p=some b→p<bs.length∧lM (bs++cs) p=some b:=fun p b hp=>by
  have hl:=(hin bs p b hp).1;exact⟨hl,by rw[qBP hl];exact hp⟩
 have hcs:∀b,some b∈cs→∃q,bs.length≤q∧lM (bs++cs) q=some b:=fun b hb=>by
  obtain⟨i,hi⟩:=List.getElem?_of_mem hb;refine⟨bs.length+i,by omega,?_⟩
  rw[qBk (by omega),Nat.add_sub_cancel_left]
  unfold lM;rw[hi]
 have ho1:∀k,qDr (lM bs) k→qDr (lM (bs++cs)) k:=fun k ⟨p,b,h1,h2,h3⟩=>⟨p,b,(hsub p b h1).2,h2,h3⟩
 have hw:=hF w (fun b hb'=>⟨(hF' b hb').1,(hF' b hb').2.1⟩) (fun b hb'=>by
  obtain⟨q,_,hq⟩:=hcs b hb';exact hm q b hq)
 refine Calls.mono (h w (fun p b hp=>hm p b (hsub p b hp).2) (fun p q b c hpq hpb hqc hown=>ha p q b c hpq (hsub p b hpb).2 (hsub q c hqc).2 hown) (fun b hFb=>⟨(hw b hFb).1,(hw b hFb).2,fun j hj ⟨p,b',h1,h2,h3⟩=>?_⟩)) ?_
 ·obtain⟨hl,hp'⟩:=hsub p b' h1
  rcases hn b hFb j hj with⟨y,hy,he⟩|⟨c,hcm,he⟩
  ·exact(hF' y hy).2.2 j he ⟨p,b',hp',h2,h3⟩
  ·obtain⟨q,hq1,hq⟩:=hcs c hcm
   exact ha p q b' c (by omega) hp' hq h2 j h3 he
 ·rintro e w' ⟨ns,hns,he,hp⟩
  have hpos:∀p b,lM (o ns++(cs.map (fun _=>none)++nw ns)) p=some b→∃p',lM (o ns++nw ns) p'=some b∧((p<bs.length∧p'=p)∨(bs.length+cs.length≤p∧p'=p-cs.length)):=fun p b hpb=>by
   rcases qDG hpb with⟨h1,h2⟩|⟨h1,h2⟩
   ·rw[ho] at h1
    exact⟨p,by rw[qBP (by rw[ho];exact h1)];exact h2,.inl ⟨h1,rfl⟩⟩
   ·rw[ho] at h1 h2
    rcases qDG h2 with⟨h3,h4⟩|⟨h3,h4⟩
    ·exact absurd h4 (qVl _ _ _)
    ·rw[List.length_map] at h3 h4
     refine⟨p-cs.length,?_,.inr ⟨by omega,rfl⟩⟩
     rw[qBk (by rw[ho];omega),ho,show p-cs.length-bs.length=p-bs.length-cs.length by omega];exact h4
  refine⟨ns,hns,he,⟨fun p b hpb=>?_,fun p q b c hpq hpb hqc=>?_,⟨hp.adv.os,hp.adv.output,hp.adv.tape,hp.adv.size,fun k hk hno=>hp.adv.heap k hk (fun hk'=>hno (ho1 k hk')),fun k ⟨p,b,h1,h2,h3⟩=>?_,fun p b hpb hob=>?_⟩⟩⟩
  ·obtain⟨p',h1,_⟩:=hpos p b hpb
   exact hp.holds p' b h1
  ·obtain⟨p',h1,h2⟩:=hpos p b hpb
   obtain⟨q',h3,h4⟩:=hpos q c hqc;exact hp.apart p' q' b c (by omega) h1 h3
  ·obtain⟨p',h4,_⟩:=hpos p b h1
   rcases hp.adv.names k ⟨p',b,h4,h2,h3⟩ with h5|h5
   ·exact .inl (ho1 k h5)
   ·exact .inr h5
  ·obtain⟨p',h1,h2⟩:=hpos p b hpb
   have h3:=hp.adv.ro p' b h1 hob;exact(hsub p' b h3).2|>fun h4=>by
    rcases h2 with⟨_,rfl⟩|⟨h5,rfl⟩
    ·exact h4
    ·have:=(hsub _ b h3).1
     omega
section
variable {α:Type} {lt:α→α→Bool}
structure En (f:Nat→α) (n:Nat) (S:α→Prop):Prop where
 mem:∀k,k<n→S (f k)
 sur:∀x,S x→∃k,k<n∧f k=x
 inj:∀j k,j<n→k<n→f j=f k→j=k
theorem En.none {f:Nat→α}:En f 0 fun _=>False:=⟨fun k h=>absurd h (Nat.not_lt_zero k),fun _ h=>h.elim,fun j k h=>absurd h (Nat.not_lt_zero j)⟩
def HpB (lt:α→α→Bool) (b:Nat) (f:Nat→α) (n:Nat):Prop:=∀k,0<k→k<n→b≤(k-1)/2→lt (f k) (f ((k-1)/2))=false
end
structure TmR where
 a:UInt64
 i:Int
 n:UInt64
deriving DecidableEq
def ltT (a b:TmR):Bool:=qA0 (decide (a.a<b.a)) true (qA0 (a.a==b.a) (decide (a.n<b.n)) false)
structure Std (F:Nat→TmR) (n:Nat) (L:List TmR):Prop where
 hp:HpB ltT 0 F n
 en:En F n (·∈L)
 up:L.Pairwise fun x y=>ltT x y=true
 len:L.length=n
def qKI {n a r:Nat} {f:Nat→UInt8}:gsE u8C [u8 0] 1 (⟨false,a,n,r,f⟩:Grw UInt8)=some ⟨a,true,0,spr (n+r) n (fun k=>u8 (f k)) (u8 0)⟩:=by rw[qMu];rfl
end Go.Eng
namespace Go.Eng
def qL0 (n p:Nat):Nat:=if p<n then p else p+1
def qYc {n p q:Nat} (h:qL0 n p=qL0 n q):p=q:=by
 unfold qL0 at h;split at h<;>split at h<;>omega
def qKs {l r:List (Option Blk)} {x:Option Blk} {n p:Nat} (hn:l.length=n):lM (l++x::r) (qL0 n p)=lM (l++r) p:=by
 subst hn;unfold qL0;by_cases h:p<l.length
 ·rw[if_pos h];unfold lM
  rw[List.getElem?_append_left h,List.getElem?_append_left h]
 ·rw[if_neg h];unfold lM
  rw[List.getElem?_append_right (by omega),List.getElem?_append_right (by omega),show p+1-l.length=(p-l.length)+1 by omega,List.getElem?_cons_succ]
def qYA {l r:List (Option Blk)} {x:Option Blk} {n q:Nat} (hn:l.length=n) (hq:q≠n):∃p,q=qL0 n p:=by
 by_cases h:q<n
 ·exact⟨q,by unfold qL0;rw[if_pos h]⟩
 ·exact⟨q-1,by unfold qL0;rw[if_neg (by omega)];omega⟩
def qAc.famI {F:Blk→Prop} {P:Program} {f:FuncId} {args:List Value} {l r:List (Option Blk)} {B:Blk} {k:Nat} {v:List Nat→Value} {ol nw:List Nat→List (Option Blk)} {x:List Nat→Option Blk} (h:qAc F P f args (l++some B::r) k v (fun ns=>ol ns++x ns::nw ns)) (hl:∀ns,(ol ns).length=l.length) (hB:F B):
  qAc F P f args (l++r) k v (fun ns=>ol ns++nw ns):=by
 intro w hm ha hF;obtain⟨h1,h2,h3⟩:=hF B hB;have hmid:lM (l++some B::r) l.length=some B:=by
  unfold lM;rw[List.getElem?_append_right (Nat.le_refl _)];simp
 have hpos:∀q b,lM (l++some B::r) q=some b→(q=l.length∧b=B)∨∃p,q=qL0 l.length p∧lM (l++r) p=some b:=fun q b hq=>by
  by_cases hq2:q=l.length
  ·subst hq2;rw[hmid] at hq;cases hq;exact .inl ⟨rfl,rfl⟩
  ·obtain⟨p,rfl⟩:=qYA (l:=l) (r:=r) (x:=none) rfl hq2
   rw[qKs rfl] at hq;exact .inr ⟨p,rfl,hq⟩
 have hown:∀j,qDr (lM (l++some B::r)) j→qDr (lM (l++r)) j:=fun j ⟨q,b,k1,k2,k3⟩=>by
  rcases hpos q b k1 with⟨_,rfl⟩|⟨p,_,hp⟩
  ·rw[h2] at k2;cases k2
  ·exact⟨p,b,hp,k2,k3⟩
 have hown2:∀j,qDr (lM (l++r)) j→qDr (lM (l++some B::r)) j:=fun j ⟨p,b,k1,k2,k3⟩=>⟨qL0 l.length p,b,by rw[qKs rfl];exact k1,k2,k3⟩
 refine Calls.mono (h w (fun q b hq=>?_) (fun q q' b c hqq hb hc ho=>?_) fun b hb=>?_) ?_
 ·rcases hpos q b hq with⟨_,rfl⟩|⟨p,_,hp⟩
  ·exact h1
  ·exact hm p b hp
 ·rcases hpos q b hb with⟨_,rfl⟩|⟨p,rfl,hp⟩
  ·rw[h2] at ho;cases ho
  ·rcases hpos q' c hc with⟨_,rfl⟩|⟨p',rfl,hp'⟩
   ·exact fun j k1 k2=>h3 j k2 ⟨p,b,hp,ho,k1⟩
   ·exact ha p p' b c (fun e=>hqq (by rw[e])) hp hp' ho
 ·obtain⟨k1,k2,k3⟩:=hF b hb
  exact⟨k1,k2,fun j hj hj2=>k3 j hj (hown j hj2)⟩
 ·rintro e w' ⟨ns,hns,he,hp⟩
  have hs:∀p b,lM (ol ns++nw ns) p=some b→lM (ol ns++x ns::nw ns) (qL0 l.length p)=some b:=fun p b hb=>by rw[qKs (hl ns)];exact hb
  refine⟨ns,hns,he,⟨fun p b hb=>hp.holds _ b (hs p b hb),fun p q b c hpq hb hc=>hp.apart _ _ b c (fun e=>hpq (qYc e)) (hs p b hb) (hs q c hc),⟨hp.adv.os,hp.adv.output,hp.adv.tape,hp.adv.size,fun j hj hno=>hp.adv.heap j hj fun h'=>hno (hown j h'),fun j ⟨p,b,k1,k2,k3⟩=>?_,fun p b hb ho=>?_⟩⟩⟩
  ·rcases hp.adv.names j ⟨_,b,hs p b k1,k2,k3⟩ with k4|k4
   ·exact .inl (hown j k4)
   ·exact .inr k4
  ·have:=hp.adv.ro _ b (hs p b hb) ho
   rw[qKs rfl] at this;exact this
end Go.Eng
namespace Go.Eng
def qWx {A:Grw UInt8} {b:Blk} (h:gsE u8C [u8 0] 1 A=some b):b.own=true:=by
 unfold gsE at h;cases hz:A.z with
 |true=>rw[hz] at h;cases h
 |false=>rw[hz] at h;injection h with h;rw[←h]
def reB (A:Grw UInt8) (n:Nat) (f:Nat→UInt8):Grw UInt8:=⟨A.z,A.nm,n,A.r,f⟩
def jDV {A:Grw UInt8} (h:A.ok) {n:Nat} {f:Nat→UInt8} (hn:n=A.n):(reB A n f).ok:=by subst hn;exact h
def jFk {A:Grw UInt8} {n:Nat} {f:Nat→UInt8} (hn:n=A.n):gsV A=gsV (reB A n f):=by subst hn;rfl
def jFq {A:Grw UInt8} {n:Nat} {f:Nat→UInt8} (hn:n=A.n) (h:∀k,k<A.n→f k=A.f k):gsE u8C [u8 0] 1 A=gsE u8C [u8 0] 1 (reB A n f):=by
 subst hn;exact(qQp (A:=A) (A':=reB A A.n f) rfl rfl rfl rfl h).symm
def smA (x:UInt64):N4:=⟨x,0,0,0⟩
def qLT (x:UInt64):(smA x).val=x.toNat:=by
 show x.toNat+_=_;simp[smA]
def szU (x:UInt64):Nat:=(qFw (smA x)+7)/8
end Go.Eng
namespace Go.Eng
def qMO (x:UInt64):szU x≤8:=by
 unfold szU;rw[qIX,qLT];have:=qB1 (n:=x.toNat) (k:=64) x.toNat_lt;omega
def qU7 (x:UInt64):x.toNat<256^szU x:=by
 rw[qMW];refine Nat.lt_of_lt_of_le (qIW _) (Nat.pow_le_pow_right (by omega) ?_)
 unfold szU;rw[qIX,qLT];omega
def qY0 {x:UInt64} (h:szU x≠0):256^(szU x-1)≤x.toNat:=by
 have h0:x.toNat≠0:=fun e=>h (by unfold szU;rw[qIX,qLT,e];rfl)
 rw[qMW];refine Nat.le_trans (Nat.pow_le_pow_right (by omega) ?_) (qPq h0)
 unfold szU;rw[qIX,qLT];omega
def smN (x:UInt64):Nat:=szU x+1
def smB (x:UInt64):Nat→UInt8:=fun k=>if k=0 then UInt8.ofNat (szU x) else qA8 (smA x) (32-szU x+(k-1))
def qPL (x:UInt64) {k:Nat} (h:0<k) (h2:k≤szU x):smB x k=UInt8.ofNat (dig x.toNat (szU x-k)):=by
 have:=qMO x;unfold smB qA8;rw[if_neg (by omega),if_pos (by omega),qLT]
 congr 2;omega
def qYD {α:Type} (f g:Nat→α):qAj f 0 g=g:=by
 funext k;unfold qAj;rw[if_neg (by omega),Nat.sub_zero]
end Go.Eng
namespace Go.Eng
def smV (f:Nat→UInt8):UInt64:=(ofN (fun k=>f (k+1)) ((1+f 0).toNat-1)).a
def wrE (f:Nat→UInt8) (n:Nat) (limit:UInt64):Int:=
 if n=0 then 3 else if(f 0).toNat≤8∧n-1<(f 0).toNat then 3 else if 8<(f 0).toNat∨(0<(f 0).toNat∧(f 1==0)=true) then 31 else if limit<smV f then 2 else 0
def qB7 (e e2:Int):Int:=if e=0 then e2 else e
def qRi {x:UInt8} (h:x.toNat≤254):(1+x).toNat=1+x.toNat:=by
 rw[UInt8.toNat_add];have:(1:UInt8).toNat=1:=rfl
 omega
def qRn {f:Nat→UInt8} {n:Nat} {l:UInt64} (h:wrE f n l=0):0<n∧(f 0).toNat≤8∧(f 0).toNat+1≤n∧(1+f 0).toNat=1+(f 0).toNat∧¬l<smV f∧¬(0<(f 0).toNat∧(f 1==0)=true):=by
 unfold wrE at h;by_cases h1:n=0
 ·rw[if_pos h1] at h;cases h
 rw[if_neg h1] at h;by_cases h2:(f 0).toNat≤8∧n-1<(f 0).toNat
 ·rw[if_pos h2] at h;cases h
 rw[if_neg h2] at h;by_cases h3:8<(f 0).toNat∨(0<(f 0).toNat∧(f 1==0)=true)
 ·rw[if_pos h3] at h;cases h
 rw[if_neg h3] at h;by_cases h4:l<smV f
 ·rw[if_pos h4] at h;cases h
 have h5:(f 0).toNat≤8:=by omega
 exact⟨by omega,h5,by omega,qRi (by omega),h4,fun h=>h3 (.inr h)⟩
def rsE (q:BytL) (e:Int) (l:UInt64):Int:=qB7 e (wrE q.wf q.wn l)
def rsQ (q:BytL) (e:Int) (l:UInt64):BytL:=if rsE q e l=0 then qPg q (1+q.wf 0).toNat else q
def rsV (q:BytL) (e:Int) (l:UInt64):UInt64:=if rsE q e l=0 then smV q.wf else 0
def qJ1 {e e2:Int} (h:qB7 e e2=0):e=0∧e2=0:=by
 unfold qB7 at h;by_cases h1:e=0
 ·rw[if_pos h1] at h;exact⟨h1,h⟩
 ·rw[if_neg h1] at h;exact absurd h h1
def qIi {q:BytL} {e:Int} {l:UInt64} (h:rsE q e l=0):0<q.wn∧(q.wf 0).toNat≤8∧(q.wf 0).toNat+1≤q.wn∧(1+q.wf 0).toNat=1+(q.wf 0).toNat:=by
 obtain⟨a,b,c,d,_⟩:=qRn (qJ1 h).2;exact⟨a,b,c,d⟩
def qUj (n:Nat) (e:Int):Int:=if e=0∧0<n then 30 else e
end Go.Eng
namespace Go.Eng
def qY3 (x:UInt64):smN x≤9:=by have:=qMO x;unfold smN;omega
def byN (n:Nat):Nat:=smN (UInt64.ofNat n)+n
def byB (f:Nat→UInt8) (n:Nat):Nat→UInt8:=qAj (smB (UInt64.ofNat n)) (smN (UInt64.ofNat n)) f
def qGs (x:UInt64):1≤smN x∧smN x≤9:=⟨by unfold smN;omega,qY3 x⟩
def qVX (n:Nat):1≤byN n∧byN n≤n+9:=by have:=qGs (UInt64.ofNat n);unfold byN;omega
end Go.Eng
namespace Go.Eng
def jCe {f:Nat→UInt8} {n:Nat} {l:UInt64} (h:n=0∨((f 0).toNat≤8∧n-1<(f 0).toNat)):(3:Int)=wrE f n l:=by
 unfold wrE;by_cases h1:n=0
 ·rw[if_pos h1]
 ·rw[if_neg h1,if_pos (by omega)]
def jFS {f:Nat→UInt8} {n:Nat} {l:UInt64} (h1:n≠0) (h2:¬((f 0).toNat≤8∧n-1<(f 0).toNat)) (h3:8<(f 0).toNat∨(0<(f 0).toNat∧(f 1==0)=true)):(31:Int)=wrE f n l:=by
 unfold wrE;rw[if_neg h1,if_neg h2,if_pos h3]
def jDn {f:Nat→UInt8} {n:Nat} {l:UInt64} (h1:n≠0) (h2:¬((f 0).toNat≤8∧n-1<(f 0).toNat)) (h3:¬(8<(f 0).toNat∨(0<(f 0).toNat∧(f 1==0)=true))) (h4:l<smV f):(2:Int)=wrE f n l:=by
 unfold wrE;rw[if_neg h1,if_neg h2,if_neg h3,if_pos h4]
def jCi {f:Nat→UInt8} {n:Nat} {l:UInt64} (h1:n≠0) (h2:¬((f 0).toNat≤8∧n-1<(f 0).toNat)) (h3:¬(8<(f 0).toNat∨(0<(f 0).toNat∧(f 1==0)=true))) (h4:¬l<smV f):(0:Int)=wrE f n l:=by
 unfold wrE;rw[if_neg h1,if_neg h2,if_neg h3,if_neg h4]
def qUD (f:Nat→UInt8):ofN f 0=⟨0,0,0,0⟩∧ofE 0=0:=⟨(show ofN f 0=N4.ofNat 0 from rfl).trans (N4.ext_val (by rw[N4.val_ofNat];rfl)),rfl⟩
end Go.Eng
namespace Go.Eng
def qOV {f:Nat→UInt8} {n:Nat} {l:UInt64} (h1:n≠0) (h2:¬((f 0).toNat≤8∧n-1<(f 0).toNat)) (h3:qA0 (decide (8<(f 0).toNat)) true (qA0 (decide (0<(f 0).toNat)) (f 1==0) false)=true):(31:Int)=wrE f n l:=by
 refine jFS h1 h2 ?_;simpa[qCL,qCH] using h3
def qHH {f:Nat→UInt8} (h3:qA0 (decide (8<(f 0).toNat)) true (qA0 (decide (0<(f 0).toNat)) (f 1==0) false)=false):¬(8<(f 0).toNat∨(0<(f 0).toNat∧(f 1==0)=true)):=by
 intro h;rw[←Bool.not_eq_true] at h3;exact h3 (by simpa[qCL,qCH] using h)
def qRI {q:BytL} {e:Int} {l:UInt64} (h:rsE q e l≠0):rsQ q e l=q∧rsV q e l=0:=⟨if_neg h,if_neg h⟩
def jAQ {q:BytL} {e:Int} {l:UInt64} (h:rsE q e l=0):rsQ q e l=qPg q (1+q.wf 0).toNat∧rsV q e l=smV q.wf:=⟨if_pos h,if_pos h⟩
def qZp {q:BytL} (hq:OkB q) (e:Int) (l:UInt64):OkB (rsQ q e l):=by
 unfold rsQ;split
 ·rename_i h
  obtain⟨a,b,c,d⟩:=qIi h;exact qM0 hq (by omega)
 ·exact hq
def qRl {q:BytL} {e:Int} {l:UInt64} {w:World} (h:qCM (qBi q) w):qCM (qBi (rsQ q e l)) w:=by
 unfold rsQ;split
 ·rename_i h0
  obtain⟨a,b,c,d⟩:=qIi h0;exact qJG (by omega) h
 ·exact h
end Go.Eng
namespace Go.Eng
def jDl {q:BytL} {e:Int} {l:UInt64}:(rsQ q e l).wb=q.wb:=by unfold rsQ;split<;>rfl
def qDI (m:Int):UInt64:=UInt64.ofNat (m%18446744073709551616).toNat
def qKb {P:Program} {s d:TypeId} {x:Operand} (hs:P.underlying s=some (.int .i64)) (hd:P.underlying d=some (.int .u64)) (m:Int):qB2 P (.convert s d x) [int m] (u64 (qDI m)):=by
 have h:=qEh (x:=x) hs hd m;have e:(IntKind.u64.wrap m)=((qDI m).toNat:Int):=by
  unfold qDI;rw[UInt64.toNat_ofNat'];have h0:IntKind.u64.wrap m=m%18446744073709551616:=by simp[IntKind.wrap,IntKind.signed,IntKind.bits]
  rw[h0];omega
 rw[e] at h;exact h
def qRp {m:Int} (h:0≤m) (h2:m≤9223372036854775807):(qDI m).toNat=m.toNat:=by
 unfold qDI;rw[UInt64.toNat_ofNat'];omega
def qZr {q:BytL} {e:Int} {l:UInt64} (h:e≠0):rsE q e l=e:=if_neg h
def qVP (q:BytL) (e:Int) (l:UInt64):(rsV q e l).toNat≤l.toNat:=by
 unfold rsV;split
 ·rename_i h
  obtain⟨_,_,_,_,h5,_⟩:=qRn (qJ1 h).2;rw[UInt64.lt_iff_toNat_lt] at h5;omega
 ·exact Nat.zero_le _
def qC3 (e m:Int):Int:=if m<0 then qB7 e 2 else e
def ctV (q:BytL) (e m:Int):Nat:=(rsV q (qC3 e m) (qDI m)).toNat
def ctQ (q:BytL) (e m:Int):BytL:=rsQ q (qC3 e m) (qDI m)
def ctE (q:BytL) (e m:Int) (z:Nat):Int:=if(ctQ q e m).wn/z<ctV q e m then qB7 (rsE q (qC3 e m) (qDI m)) 3 else rsE q (qC3 e m) (qDI m)
def ctN (q:BytL) (e m:Int) (z:Nat):Nat:=if(ctQ q e m).wn/z<ctV q e m then 0 else ctV q e m
def qTV {e m:Int} (h:m<0):qC3 e m≠0:=by
 unfold qC3 qB7;rw[if_pos h];split<;>omega
def jDI {q:BytL} {e m:Int} (h2:m≤9223372036854775807):ctV q e m≤9223372036854775807:=by
 unfold ctV;by_cases h:m<0
 ·have h1:rsV q (qC3 e m) (qDI m)=0:=if_neg (by rw[qZr (qTV h)];exact qTV h)
  rw[h1];exact Nat.zero_le _
 ·have h3:=qVP q (qC3 e m) (qDI m)
  rw[qRp (by omega) h2] at h3
  omega
def qOl (q:BytL) (e:Int) (l:UInt64):(rsQ q e l).wn≤q.wn:=by
 unfold rsQ;split
 ·exact Nat.sub_le _ _
 ·exact Nat.le_refl _
def qKi (q:BytL) (e m:Int):(ctQ q e m).wn≤q.wn:=qOl _ _ _
def tkE (q:BytL) (e:Int) (n:Nat):Int:=if q.wn<n then qB7 e 3 else e
def tkQ (q:BytL) (e:Int) (n:Nat):BytL:=if tkE q e n=0 then qPg q n else q
def qNS {q:BytL} {e:Int} {n:Nat} (h:tkE q e n=0):e=0∧n≤q.wn:=by
 unfold tkE at h;by_cases h1:q.wn<n
 ·rw[if_pos h1] at h;exact absurd (qJ1 h).2 (by decide)
 ·rw[if_neg h1] at h;exact⟨h,by omega⟩
def qVu {q:BytL} {e:Int} {n:Nat} (h:tkE q e n=0):tkQ q e n=qPg q n:=if_pos h
def qY9 {q:BytL} {e:Int} {n:Nat} (h:tkE q e n≠0):tkQ q e n=q:=if_neg h
def jDZ {q:BytL} (hq:OkB q) (e:Int) (n:Nat):OkB (tkQ q e n):=by
 unfold tkQ;split
 ·rename_i h;exact qM0 hq (qNS h).2
 ·exact hq
def qYw {q:BytL} {e:Int} {n:Nat} {w:World} (h:qCM (qBi q) w):qCM (qBi (tkQ q e n)) w:=by
 unfold tkQ;split
 ·rename_i h0;exact qJG (qNS h0).2 h
 ·exact h
def jEW {q:BytL} {e:Int} {n:Nat}:(tkQ q e n).wb=q.wb:=by unfold tkQ;split<;>rfl
def jDo (q:BytL) (e:Int) (n:Nat):(tkQ q e n).wn≤q.wn:=by
 unfold tkQ;split
 ·exact Nat.sub_le _ _
 ·exact Nat.le_refl _
def zA (b:Bool) (n:Nat):Option Addr:=match b with
 |true=>none
 |false=>some ⟨n,0,none⟩
def zV (b:Bool) (n:Nat):Value:=.slice (zA b n) 0 0
def rbN (q:BytL) (e m:Int):Nat:=if tkE (ctQ q e m) (ctE q e m 1) (ctN q e m 1)=0 then ctN q e m 1 else 0
def rbE (q:BytL) (e m:Int):Int:=tkE (ctQ q e m) (ctE q e m 1) (ctN q e m 1)
def rbQ (q:BytL) (e m:Int):BytL:=tkQ (ctQ q e m) (ctE q e m 1) (ctN q e m 1)
end Go.Eng
namespace Go.Eng
def qN7 {q:BytL} {e m:Int} {z:Nat} (h:(rsQ q (qC3 e m) (qDI m)).wn/z<(rsV q (qC3 e m) (qDI m)).toNat):ctE q e m z=qB7 (rsE q (qC3 e m) (qDI m)) 3∧ctN q e m z=0:=⟨if_pos h,if_pos h⟩
def qJ8 {q:BytL} {e m:Int} {z:Nat} (h:¬(rsQ q (qC3 e m) (qDI m)).wn/z<(rsV q (qC3 e m) (qDI m)).toNat):ctE q e m z=rsE q (qC3 e m) (qDI m)∧ctN q e m z=(rsV q (qC3 e m) (qDI m)).toNat:=⟨if_neg h,if_neg h⟩
def qQP {q:BytL} (hq:OkB q) (e m:Int):OkB (ctQ q e m):=qZp hq _ _
def qKA {q:BytL} {e m:Int} {w:World} (h:qCM (qBi q) w):qCM (qBi (ctQ q e m)) w:=qRl h
def qXz {q:BytL} {e m:Int}:(ctQ q e m).wb=q.wb:=jDl
def jDy (q:BytL) (e m:Int):(rbQ q e m).wn≤q.wn:=Nat.le_trans (jDo _ _ _) (qKi _ _ _)
def jDm {q:BytL} (hq:OkB q) (e m:Int):OkB (rbQ q e m):=jDZ (qQP hq e m) _ _
def qW3 {q:BytL} {e m:Int} {w:World} (h:qCM (qBi q) w):qCM (qBi (rbQ q e m)) w:=qYw (qKA h)
def jFf {q:BytL} {e m:Int}:(rbQ q e m).wb=q.wb:=jEW.trans qXz
end Go.Eng
namespace Go.Eng
def rbZ (q:BytL) (e m:Int):Bool:=if rbE q e m=0 then(ctQ q e m).wa.isNone else true
def qZn {q:BytL} {e m:Int} (h:tkE (ctQ q e m) (ctE q e m 1) (ctN q e m 1)≠0):rbN q e m=0∧rbZ q e m=true:=⟨if_neg h,if_neg h⟩
def qQn {q:BytL} {e m:Int} (h:tkE (ctQ q e m) (ctE q e m 1) (ctN q e m 1)=0):rbN q e m=ctN q e m 1∧rbZ q e m=(ctQ q e m).wa.isNone:=⟨if_pos h,if_pos h⟩
end Go.Eng
namespace Go.Eng
def qOF {q:BytL} {A:Option Addr} {k:Nat} (hA:q.wa=A):qA3 (qPg q k)=.slice (qBF A q.wc k 1) (q.wn-k) (q.wc-k):=by subst hA;rfl
end Go.Eng
end
section
namespace Go.Eng
open Go.RowKit Go.WideShapes Go.ChangeShapes Go.ChangeAt Go.Deep
def qQ3 {e x:Int} (h:e≠0):qB7 e x=e:=if_neg h
def jCS {q:BytL} {e:Int} {n:Nat} (h:e≠0):tkE q e n=e:=by
 unfold tkE;split
 ·exact qQ3 h
 ·rfl
def qOr {e m:Int} (h:e≠0):qC3 e m=e:=by
 unfold qC3;split
 ·exact qQ3 h
 ·rfl
def qJC {q:BytL} {e:Int} {l:UInt64} (h:e≠0):rsE q e l=e∧rsV q e l=0:=by
 have h1:=qZr (q:=q) (l:=l) h;exact⟨h1,if_neg (by rw[h1];exact h)⟩
def jBS {q:BytL} {e m:Int} {z:Nat} (h:e≠0):ctE q e m z=e∧ctN q e m z=0:=by
 have h1:qC3 e m≠0:=by rw[qOr h];exact h
 have h2:=qJC (q:=q) (l:=qDI m) h1;have h3:ctV q e m=0:=by unfold ctV;rw[h2.2];rfl
 unfold ctE ctN;rw[h3,if_neg (Nat.not_lt_zero _),if_neg (Nat.not_lt_zero _),h2.1,qOr h];exact⟨rfl,rfl⟩
def qTv {q:BytL} {e m:Int} (h:e≠0):rbE q e m=e∧rbN q e m=0:=by
 have h1:=jBS (q:=q) (m:=m) (z:=1) h;have h2:rbE q e m=e:=by unfold rbE;rw[h1.1];exact jCS h
 exact⟨h2,if_neg (show rbE q e m≠0 by rw[h2];exact h)⟩
end Go.Eng
end
section
namespace Go.Eng
def jAP {f:Nat→UInt8} (h:(f 0).toNat≤8):(smV f).toNat=beN (fun k=>f (k+1)) (f 0).toNat (f 0).toNat:=by
 have h1:=qRi (x:=f 0) (by omega)
 unfold smV;rw[h1,show 1+(f 0).toNat-1=(f 0).toNat by omega]
 have hlt:beN (fun k=>f (k+1)) (f 0).toNat (f 0).toNat<2^64:=Nat.lt_of_lt_of_le (qZk _ _ _) (by rw[qMW];exact Nat.pow_le_pow_right (by omega) (by omega))
 have h2:(ofN (fun k=>f (k+1)) (f 0).toNat)=N4.ofNat (beN (fun k=>f (k+1)) (f 0).toNat (f 0).toNat):=by
  unfold ofN;rw[show decide (32<(f 0).toNat)=false from decide_eq_false (by omega)]
 have h3:(N4.ofNat (beN (fun k=>f (k+1)) (f 0).toNat (f 0).toNat)).val=beN (fun k=>f (k+1)) (f 0).toNat (f 0).toNat:=by
  rw[N4.val_ofNat,Nat.mod_eq_of_lt (Nat.lt_trans hlt (by decide))]
 rw[h2];generalize N4.ofNat (beN (fun k=>f (k+1)) (f 0).toNat (f 0).toNat)=a at h3
 have ha:=a.a.toNat_lt;unfold N4.val at h3;omega
def jD0 (x:UInt64):(smB x 0).toNat=szU x:=by
 have:=qMO x;unfold smB;rw[if_pos rfl,UInt8.toNat_ofNat',Nat.mod_eq_of_lt (by omega)]
def jFx {x:UInt64} (h:0<szU x):0<(smB x 1).toNat:=by
 rw[qPL x (by omega) (by omega),UInt8.toNat_ofNat',Nat.mod_eq_of_lt (qUk _ _)]
 have h1:=qY0 (x:=x) (by omega)
 have h2:=qU7 x;unfold dig;have hp:0<256^(szU x-1):=Nat.pow_pos (by omega)
 have h3:1≤x.toNat/256^(szU x-1):=(Nat.le_div_iff_mul_le hp).2 (by omega)
 have h4:x.toNat/256^(szU x-1)<256:=by
  rw[Nat.div_lt_iff_lt_mul hp,Nat.mul_comm,←Nat.pow_succ];show _ <256^(szU x-1+1);rw[show szU x-1+1=szU x by omega]
  exact h2
 rw[Nat.mod_eq_of_lt h4];omega
def qSt {x:UInt64} {f:Nat→UInt8} {n:Nat} {l:UInt64} (hf:∀k,k<smN x→f k=smB x k) (hn:smN x≤n) (hl:¬l<x):wrE f n l=0∧smV f=x∧(1+f 0).toNat=smN x:=by
 have hz:=qMO x;have h0:(f 0).toNat=szU x:=by rw[hf 0 (qGs x).1,jD0]
 have hs:smN x=szU x+1:=rfl;have hv:smV f=x:=UInt64.toNat_inj.1 (by
  rw[jAP (by omega),h0]
  have h1:beN (fun k=>f (k+1)) (szU x) (szU x)=qJ5 (dig x.toNat) (szU x):=qLL fun j hj=>by
   show(f (szU x-1-j+1)).toNat=_;rw[hf _ (by omega),qPL x (by omega) (by omega),UInt8.toNat_ofNat',Nat.mod_eq_of_lt (qUk _ _),show szU x-(szU x-1-j+1)=j by omega]
  rw[h1,qOb,Nat.mod_eq_of_lt (qU7 x)])
 refine⟨(jCi (by omega) (by omega) ?_ (by rw[hv];exact hl)).symm,hv,by rw[qRi (by omega)];omega⟩
 rintro(h1|⟨h1,h2⟩)
 ·omega
 ·have h3:=jFx (x:=x) (by omega)
  rw[←hf 1 (by omega)] at h3
  rw[beq_iff_eq] at h2;rw[h2] at h3;exact absurd h3 (by decide)
def qPN {x:UInt64} {f:Nat→UInt8} {n:Nat} {l:UInt64} (hf:∀k,k<n→f k=smB x k) (hn:n<smN x):wrE f n l=3:=by
 have hz:=qMO x;have hs:smN x=szU x+1:=rfl;refine(jCe ?_).symm;rcases Nat.eq_zero_or_pos n with h0|h0
 ·exact .inl h0
 ·have h1:(f 0).toNat=szU x:=by rw[hf 0 h0,jD0]
  exact .inr ⟨by omega,by omega⟩
def FwS (Q Q':BytL) (E':Int) (n:Nat) (V:Prop):Prop:=(n≤Q.wn∧E'=0∧Q'.wn+n=Q.wn∧(∀k,Q'.wf k=Q.wf (n+k))∧V)∨(Q.wn<n∧E'=3)
def At (Q:BytL) (n:Nat) (g:Nat→UInt8):Prop:=∀k,k<n→k<Q.wn→Q.wf k=g k
def qNw {Q:BytL} {x l:UInt64} (h:At Q (smN x) (smB x)) (hl:¬l<x):FwS Q (rsQ Q 0 l) (rsE Q 0 l) (smN x) (rsV Q 0 l=x):=by
 rcases Nat.lt_or_ge Q.wn (smN x) with h1|h1
 ·exact .inr ⟨h1,by show qB7 0 _=3;rw[show qB7 0 (wrE Q.wf Q.wn l)=wrE Q.wf Q.wn l from if_pos rfl];exact qPN (fun k hk=>h k (by omega) hk) h1⟩
 ·obtain⟨a,b,c⟩:=qSt (f:=Q.wf) (n:=Q.wn) (l:=l) (fun k hk=>h k hk (by omega)) h1 hl
  have hE:rsE Q 0 l=0:=by show qB7 0 _=0;rw[a];rfl
  obtain⟨e1,e2⟩:=jAQ hE;rw[e1,e2,c];refine .inl ⟨h1,hE,?_,fun k=>?_,b⟩
  ·show Q.wn-smN x+smN x=_;omega
  ·show Q.wf (k+smN x)=_;rw[Nat.add_comm]
def qYl {Q:BytL} {n z:Nat} {m:Int} (hz:0<z) (hm:0≤m) (hm2:m≤9223372036854775807) (hn:n≤m.toNat) (h:At Q (smN (UInt64.ofNat n)) (smB (UInt64.ofNat n))):
  (smN (UInt64.ofNat n)+n*z≤Q.wn∧ctE Q 0 m z=0∧ctN Q 0 m z=n∧(ctQ Q 0 m).wn+smN (UInt64.ofNat n)=Q.wn∧∀k,(ctQ Q 0 m).wf k=Q.wf (smN (UInt64.ofNat n)+k))∨
  (Q.wn<smN (UInt64.ofNat n)+n*z∧ctE Q 0 m z=3∧ctN Q 0 m z=0):=by
 have e1:qC3 0 m=0:=by unfold qC3;rw[if_neg (by omega)]
 have hx:(UInt64.ofNat n).toNat=n:=by rw[UInt64.toNat_ofNat'];omega
 have hl:¬qDI m<UInt64.ofNat n:=by
  rw[UInt64.lt_iff_toNat_lt,hx,qRp hm hm2];omega
 rcases qNw h hl with⟨h1,h2,h3,h4,h5⟩|⟨h1,h2⟩
 ·have hv:ctV Q 0 m=n:=by unfold ctV;rw[e1,h5,hx]
  have hq:ctQ Q 0 m=rsQ Q 0 (qDI m):=by unfold ctQ;rw[e1]
  rw[←hq] at h3 h4;by_cases hd:(ctQ Q 0 m).wn/z<n
  ·refine .inr ⟨?_,?_,?_⟩
   ·have:=(Nat.div_lt_iff_lt_mul hz).1 hd
    omega
   ·unfold ctE;rw[hv,if_pos hd,e1,h2];rfl
   ·unfold ctN;rw[hv,if_pos hd]
  ·refine .inl ⟨?_,?_,?_,h3,h4⟩
   ·have:=(Nat.le_div_iff_mul_le hz).1 (Nat.le_of_not_lt hd)
    omega
   ·unfold ctE;rw[hv,if_neg hd,e1,h2]
   ·unfold ctN;rw[hv,if_neg hd]
 ·have hv:ctV Q 0 m=0:=by
   unfold ctV;rw[e1,(qRI (by rw[h2];decide)).2];rfl
  refine .inr ⟨by omega,?_,?_⟩
  ·unfold ctE;rw[hv,if_neg (Nat.not_lt_zero _),e1,h2]
  ·unfold ctN;rw[hv,if_neg (Nat.not_lt_zero _)]
def qWE {Q:BytL} {n m:Nat} {f g:Nat→UInt8} (h:At Q (n+m) (qAj f n g)):At Q n f:=fun k hk hq=>by
 rw[h k (by omega) hq];unfold qAj;rw[if_pos hk]
def jBN {Q Q':BytL} {n m:Nat} {f g:Nat→UInt8} (h:At Q (n+m) (qAj f n g)) (hn:Q'.wn+n=Q.wn) (hf:∀k,Q'.wf k=Q.wf (n+k)):At Q' m g:=fun k hk hq=>by
 rw[hf,h _ (by omega) (by omega)]
 unfold qAj;rw[if_neg (by omega),show n+k-n=k by omega]
def qXw {Q:BytL} {n:Nat} {B:Nat→UInt8} {m:Int} (hm:0≤m) (hm2:m≤9223372036854775807) (hn:n≤m.toNat) (h:At Q (byN n) (byB B n)):
  FwS Q (rbQ Q 0 m) (rbE Q 0 m) (byN n) (rbN Q 0 m=n∧∀k,k<n→(ctQ Q 0 m).wf k=B k):=by
 rcases qYl (z:=1) (by decide) hm hm2 hn (qWE h) with⟨h1,h2,h3,h4,h5⟩|⟨h1,h2,h3⟩
 ·have hat:=jBN h h4 h5
  have hE:tkE (ctQ Q 0 m) (ctE Q 0 m 1) (ctN Q 0 m 1)=0:=by rw[h2,h3];unfold tkE;rw[if_neg (by omega)]
  refine .inl ⟨by unfold byN;omega,hE,?_,fun k=>?_,?_,fun k hk=>hat k hk (by omega)⟩
  ·unfold rbQ byN;rw[qVu hE,h3]
   show(ctQ Q 0 m).wn-n+_=_;omega
  ·unfold rbQ byN;rw[qVu hE,h3]
   show(ctQ Q 0 m).wf (k+n)=_;rw[h5];congr 1;omega
  ·rw[(qQn hE).1,h3]
 ·refine .inr ⟨by unfold byN;omega,?_⟩
  unfold rbE;rw[h2,h3];unfold tkE;rw[if_neg (Nat.not_lt_zero _)]
end Go.Eng
namespace Go.Eng
def qZ6 {x:UInt64} {c:Nat} (h:x.toNat/256^c=0) (h2:c≠0→x.toNat/256^(c-1)≠0):c=szU x:=by
 have hp:0<256^c:=Nat.pow_pos (by omega)
 have h3:x.toNat<256^c:=by
  rcases Nat.lt_or_ge x.toNat (256^c) with h4|h4
  ·exact h4
  ·have:=Nat.div_pos h4 hp;omega
 have hl:=qU7 x;rcases Nat.lt_trichotomy c (szU x) with h4|h4|h4
 ·exfalso
  have h5:=qY0 (x:=x) (by omega)
  have h6:256^c≤256^(szU x-1):=Nat.pow_le_pow_right (by omega) (by omega)
  omega
 ·exact h4
 ·exfalso
  have h6:256^szU x≤256^(c-1):=Nat.pow_le_pow_right (by omega) (by omega)
  exact h2 (by omega) (Nat.div_eq_of_lt (by omega))
def qWZ {x c:Nat} {f:Nat→UInt8} (hf:∀k,k<c→f k=UInt8.ofNat (dig x (c-1-k))) (k:Nat) (hk:k<c+1):qAj (fun _=>UInt8.ofNat (x/256^c%256)) 1 f k=UInt8.ofNat (dig x (c+1-1-k)):=by
 unfold qAj;by_cases h:k<1
 ·rw[if_pos h,show c+1-1-k=c by omega];rfl
 ·rw[if_neg h,hf _ (by omega),show c-1-(k-1)=c+1-1-k by omega]
structure NatL where
 la:Option Addr
 ln:Nat
 lc:Nat
 lb:Nat
 lo:Nat
 lf:Nat→N4
instance:Inhabited NatL:=⟨⟨none,0,0,0,0,fun _=>N4.mk 0 0 0 0⟩⟩
section
open Go.RowKit Go.WideShapes Go.ChangeShapes Go.ChangeAt Go.Deep
variable {H:Type} {enc:TypeId×Value→H} {P:Program}
end
def qGX (D:Grw UInt8):BytL:=⟨gsA D,D.n,gsC D,D.nm,0,D.f⟩
def jBy {D:Grw UInt8} (h:D.ok) (hl:D.n≤9223372036854775807):OkB (qGX D):=⟨qZI h,fun h0=>qIt (h.pos h0),hl⟩
def qYr {D:Grw UInt8} (h:D.ok) {w:World} (hb:∀b,roO (gsE u8C [u8 0] 1 D)=some b→qAn b w):qCM (qBi (qGX D)) w:=fun b hb'=>by
 obtain⟨h0,rfl⟩:=hb';have hz:=h.pos h0;have h1:=hb ⟨D.nm,false,0,spr (D.n+D.r) D.n (fun k=>u8 (D.f k)) (u8 0)⟩ (by rw[qMu,qM6 hz];rfl)
 exact⟨qBw h1,rfl⟩
def jCZ {c:Option Blk}:∀b,roO c=some b→b.own=false:=fun b hb=>by
 cases c with
 |none=>cases hb
 |some x=>injection hb with hb;rw[←hb]
end Go.Eng
end
section
namespace Go.Proofs.YtmdpendnbkajdaaGreatDoor
open Go Go.Eng
abbrev qUW (a:BytL):=decide (8<(a.wf 0).toNat)
abbrev qSb (a:BytL):=decide ((a.wf 0).toNat≤8)
abbrev jEx (a:BytL):=qA0 (sB (qUW a) false) (sB (decide (0<(a.wf 0).toNat)) true) false
abbrev qS5 (a:BytL):=ptr a.wb (a.wo+0*1)
abbrev qWV (a:BytL):=Value.slice a.wa a.wn a.wc
abbrev qVY:=List (Option Blk)
abbrev jF5 (a:BytL):=qA0 (qUW a) true (qA0 (decide (0<(a.wf 0).toNat)) ((a.wf 1)==0) false)
def v0i:=spr (0+0) 0 (fun k=>u8 ((fun _=>0) k)) (u8 0)
def v1r:=aT (qJd (P:=TP) (t:=29) (e:=5) (by kernel_rfl) qDK u8 (fun _=>0))
def v5Y:OpH:=.oth [] 1 1 (fun ns=>vS (some ⟨ns.getD 0 0,0,none⟩) 0 0) (fun ns=>[some ⟨ns.getD 0 0,true,0,v0i⟩])
def qL8 (b o n c:Nat) (f:Nat→UInt8) (h0:0<n) (hl:n≤140737488355328):qBI TP 19 [(Value.slice (some ⟨b,o,none⟩) n c)] [⟨b,false,o,(qAd n (fun k=>u8 (f k)))⟩] 2 (fun ns=>(Value.slice (some ⟨(ns.getD 0 0),0,none⟩) (0+n) (0+n+(ns.getD 1 0)))) (fun ns=>[some ⟨b,false,o,(qAd n (fun k=>u8 (f k)))⟩,some ⟨(ns.getD 0 0),true,0,(spr (0+n+(ns.getD 1 0)) (0+n) (fun k=>u8 (qAj (fun _=>0) 0 f k)) (u8 0))⟩]):=
 qAl mix Tryz.func19 rfl rfl 400 (.reg (rg [.g]) (.reg v00 (.no (.regn (rg [v5Y,.g,(.oth [(1,false),(0,true)] 2 0 (fun ns=>vS (some ⟨(g0 ns),0,none⟩) (0+n) (0+n+(g1 ns))) (fun ns=>[some ⟨(g0 ns),true,0,(spr (0+n+(g1 ns)) (0+n) (fun k=>u8 (qAj (fun _=>0) 0 f k)) (u8 0))⟩,none])),.g]) v2L)))) [] [1] rfl
  (Eq.mp (by kernel_rfl) (aI kV1 (aI kV2 (aT (aI v05 (fun(n1 n2 n3:Nat)=>aI (aI v1r (sk (aI (aT (qAu.dark [false,true] (qAZ (P:=TP) (t:=29) (ty:=29) (e:=5) (by kernel_rfl) qDK n1 0 0 b o 0 n c u8 (fun _=>0) f (v1q n f) (fun j hj=>by rw[Nat.zero_add];exact qAH hj) (fun _=>rfl) (show(0+n)*1≤140737488355328∧0+n≤9223372036854775807 from by omega)))) kV1))) (aT (eX (fun(ns:List Nat)=>ns.length=2∧((v2M n2 n n3):Value)=(fun ns=>(vS (some ⟨(g0 ns),0,none⟩) (0+n) (0+n+(g1 ns)))) ns∧([some ⟨b,false,o,(v1q n f)⟩,some ⟨n2,true,0,(spr (0+n+n3) (0+n) (fun k=>u8 (qAj (fun _=>0) 0 f k)) (u8 0))⟩]:List (Option Blk))=(fun ns=>[some ⟨b,false,o,(v1q n f)⟩,some ⟨(g0 ns),true,0,(spr (0+n+(g1 ns)) (0+n) (fun k=>u8 (qAj (fun _=>0) 0 f k)) (u8 0))⟩]) ns) [n2,n3] (aI v0W (aI (@rfl Value (v2M n2 n n3)) (@rfl (qVY) [some ⟨b,false,o,(v1q n f)⟩,some ⟨n2,true,0,(spr (0+n+n3) (0+n) (fun k=>u8 (qAj (fun _=>0) 0 f k)) (u8 0))⟩])))))))))))
def qSO (b o n c:Nat) (f:Nat→UInt8) (h0:0<n) (hl:n≤140737488355328):qBI TP 19 [.slice (some ⟨b,o,none⟩) n c] [⟨b,false,o,qAd n (fun k=>u8 (f k))⟩] 2 (fun ns=>.slice (some ⟨ns.getD 0 0,0,none⟩) n (n+ns.getD 1 0)) (fun ns=>[some ⟨b,false,o,qAd n (fun k=>u8 (f k))⟩,some ⟨ns.getD 0 0,true,0,spr (n+ns.getD 1 0) n (fun k=>u8 (f k)) (u8 0)⟩]):=by
 have h:=qL8 b o n c f h0 hl;simp only[Nat.zero_add,qYD] at h;exact h
def qIG (q:BytL) (hq:OkB q) (h0:0<q.wn) (hl:q.wn≤140737488355328):qAt (qBi q) TP 19 [qA3 q] [] 2 (fun ns=>.slice (some ⟨ns.getD 0 0,0,none⟩) q.wn (q.wn+ns.getD 1 0)) (fun ns=>[some ⟨ns.getD 0 0,true,0,spr (q.wn+ns.getD 1 0) q.wn (fun k=>u8 (q.wf k)) (u8 0)⟩]):=by
 have e:qA3 q=.slice (some ⟨q.wb,q.wo,none⟩) q.wn q.wc:=by unfold qA3;rw[hq.ad h0]
 rw[e];exact(qSO q.wb q.wo q.wn q.wc q.wf h0 hl).famN ⟨h0,rfl⟩
def v40:=m2 fun n1 n2=>.done
def qJQ (A:Addr) (c:Nat):qBI TP 19 [(Value.slice (some A) 0 c)] [] 1 (fun ns=>(Value.slice (some ⟨(ns.getD 0 0),0,none⟩) 0 (0+0))) (fun ns=>[some ⟨(ns.getD 0 0),true,0,(spr (0+0) 0 (fun k=>u8 ((fun _=>0) k)) (u8 0))⟩]):=
 qAl mix Tryz.func19 rfl rfl 400 (.reg (rg [.g]) (.reg v00 (.no (.regn (rg [v5Y,.g,(.oth [(0,false)] 1 0 (fun ns=>vS (some ⟨(g0 ns),0,none⟩) 0 (0+0)) (fun ns=>[some ⟨(g0 ns),true,0,v0i⟩])),.g]) v40)))) [] [0] rfl
  (Eq.mp (by kernel_rfl) (aI kV1 (aI kV2 (aT (aI v05 (fun(n1 n2:Nat)=>aI (aI v1r (sk (aI (aT (qAu.dark [false] (qSG (P:=TP) (t:=29) (ty:=29) (e:=5) (by kernel_rfl) qDK n1 v0i (some A) c))) kV1))) (aT (eX (fun(ns:List Nat)=>ns.length=1∧((vS (some ⟨n2,0,none⟩) 0 (0+0)):Value)=(fun ns=>(vS (some ⟨(g0 ns),0,none⟩) 0 (0+0))) ns∧([some ⟨n2,true,0,v0i⟩]:List (Option Blk))=(fun ns=>[some ⟨(g0 ns),true,0,v0i⟩]) ns) [n2] (aI v0R (aI (@rfl Value (vS (some ⟨n2,0,none⟩) 0 (0+0))) (@rfl (qVY) [some ⟨n2,true,0,v0i⟩])))))))))))
def jCI (q:BytL) (hq:OkB q):qAt (qBi q) TP 78 [qA3 q] [] 0 (fun _=>.tuple #[qIb (ofN q.wf q.wn),int (ofE q.wn)]) (fun _=>[]):=by
 rcases Nat.eq_zero_or_pos q.wn with h0|h0
 ·have e:qA3 q=.slice q.wa 0 q.wc:=by unfold qA3;rw[h0]
  rw[e,h0,(qUD q.wf).1,(qUD q.wf).2];exact(jDJ q.wa q.wc).toF
 ·have e:qA3 q=.slice (some ⟨q.wb,q.wo,none⟩) q.wn q.wc:=by unfold qA3;rw[hq.ad h0]
  rw[e];exact(jB0 q.wb q.wo q.wn q.wc q.wf hq.len).fam ⟨h0,rfl⟩
def wf0(a:Nat):=@qAX TP 29 5 (.tmp a) (.const (.int .i64 0)) 1 (by kernel_rfl) (by kernel_rfl)
def v2U:=@rfl (qVY) []
def v37(q:BytL):=@rfl Value (qS5 q)
def v3r(q:BytL):=qPg (qWj q ((1+(q.wf 0)).toNat)) 1
def v3C(q:BytL):=qPg (qWj q (1+(q.wf 0)).toNat) 1
def v4y:OpH:=.ld 0 (.tab 0 0)
def v5D(q:BytL):OpH:=.as (qS5 q)
def qOQ (q:BytL) (hq:OkB q) (hl:q.wn≤100000) (h0:0<q.wn) (h8:(q.wf 0).toNat≤8) (h9:(q.wf 0).toNat+1≤q.wn):qAt (qBi q) TP 58 [(Value.slice q.wa q.wn q.wc)] [] 0 (fun _=>u64 (smV q.wf)) (fun _=>[]):=
 qAm (F:=(qBi q)) mix Tryz.func58 rfl rfl 400 (.reg (rg [.g]) (.openr (qJz q) (.regn (rg [.g,.g,(v5D q),v4y,(.as (u8 (1+(q.wf 0)))),(.as (vS (qBF q.wa q.wc 1 1) (((1+(q.wf 0)).toNat)-1) (q.wc-1))),(.callF [] 0 0 (fun _=>(vT #[(qIb (ofN (v3r q).wf (v3r q).wn)),(int (ofE (v3r q).wn))])) (fun _=>[])),.g,.g,.g,.new,v15,.g]) (more (fun n1=>fun _=>(.reg (rg [.g,v0H,.g]) .done)))))) [] [] rfl
  (have f1:=hq.cap;have f5:(1+q.wf 0).toNat=1+(q.wf 0).toNat:=(qRi (Nat.le_trans h8 (by decide)));Eq.mp (by kernel_rfl) (aI kV1 (aI (⟨(show 0<q.wn from by omega),rfl⟩:qBi q (qJz q)) (fun(n1:Nat)=>aI (sK2 (aI (aT (@wf0 7 q.wb q.wo q.wn q.wc 0 q.wa (hq.ad (show 0<q.wn from by omega)) (show 0<q.wn from by omega))) (aI (aT (aI (show 0<q.wn from by omega) (v37 q))) (aI (aT (@qUI TP 5 5 (.const (.int .u8 1)) (.tmp 9) 1 (q.wf 0))) (aI (aT (qPG (P:=TP) (t:=29) (e:=5) (x:=(.tmp 6)) (y:=(.const (.int .i64 1))) (z:=(.tmp 10)) (by kernel_rfl) (sz:=1) (by kernel_rfl) .i64 .u8 q.wa q.wn q.wc 1 (1+(q.wf 0)).toNat (show 1≤(1+(q.wf 0)).toNat∧(1+(q.wf 0)).toNat≤q.wc from by omega))) (aI (aT (qAt.lendP (fun w hF=>qJG (show 1≤((1+(q.wf 0)).toNat) from by omega) (qRK (show((1+(q.wf 0)).toNat)≤q.wn from by omega) hF)) (fun x hx=>qCS (show 0<(1+(q.wf 0)).toNat-1→0<q.wn from by omega) hx) (jCI (v3C q) (qM0 (qZt hq (show((1+(q.wf 0)).toNat)≤q.wn from by omega)) (show 1≤((1+(q.wf 0)).toNat) from by omega))))) (sK4 (v6k n1)))))))) (aI (sk (v6k n1)) (aT (eX (fun(ns:List Nat)=>ns.length=0∧((u64 ((ofN (v3C q).wf (v3C q).wn).a)):Value)=(fun _=>u64 (smV q.wf)) ns∧([]:List (Option Blk))=(fun _=>[]) ns) [] (aI v0b (aI (@rfl Value (u64 (smV q.wf))) v2U)))))))))
def wg0(a:Nat):=@qAo TP 29 5 (.tmp a) (by kernel_rfl)
def v3o(q:BytL)(l:UInt64):=wrE q.wf q.wn l
def v4j(q:BytL):OpH:=.callF [] 0 0 (fun _=>(u64 (smV q.wf))) (fun _=>[])
def v4z:OpH:=.ld 1 (.tab 0 0)
def qU8 (q:BytL) (l:UInt64) (hq:OkB q) (hl:q.wn≤100000):qAt (qBi q) TP 57 [(Value.slice q.wa q.wn q.wc),(u64 l)] [] 0 (fun _=>int (wrE q.wf q.wn l)) (fun _=>[]):=
 qAm (F:=(qBi q)) mix Tryz.func57 rfl rfl 400 (.reg (rg [.g]) (.reg (rg [.g,(aN q.wn),(aB (decide (q.wn=0))),.g]) (.br v0c (.openr (qJz q) (.reg (rg [.g,(v5D q),v4y,(aB (qSb q)),.g,(.opt .g),(.opt (aN q.wn)),(.opt (aN (q.wn-1))),(.opt .g),(.opt (v5D q)),(.opt v4y),(.opt (aN (q.wf 0).toNat)),(.opt (aB (decide ((q.wn-1)<(q.wf 0).toNat)))),.pk,.g]) (.br v0c (.openr (qJz q) (.reg (rg [.g,(v5D q),v4z,(aB (qUW q)),.g,(.opt .g),(.opt (v5D q)),(.opt v4z),(.opt (aB (decide (0<(q.wf 0).toNat)))),(.opt .g),(.opt .g),(.opt (.as (ptr q.wb (q.wo+1*1)))),(.opt (.ld 1 (.tab 1 0))),(.opt (aB ((q.wf 1)==0))),(.opt .pk),.pk,.g]) (.br v0c (.reg (rg [.g,(v4j q),.g,(aB (decide (l<(smV q.wf)))),.g]) (.br v0c v0c))))))))))) [] [] rfl
  (have f1:=hq.cap;Eq.mp (by kernel_rfl) (aI kV1 (aI (sk (aI (aT (@wg0 6 q.wa q.wn q.wc)) (aI (aT (@qES TP 3 3 (.tmp 7) (.const (.int .i64 0))  q.wn 0)) kV1))) (aT (aI (fun(h1:(decide (q.wn=0))=true)=>have f2:=(oT h1);aI kV1 (aT (eX (fun(ns:List Nat)=>ns.length=0∧((int 3):Value)=(fun _=>int (v3o q l)) ns∧([]:List (Option Blk))=(fun _=>[]) ns) [] (aI v0b (aI ((show(int 3)=int (wrE q.wf q.wn l) from congrArg int (by have hhh1:=h1;first|exact jCe (by omega)|exact qOV (by omega) (by omega) (by assumption)|exact jDn (by omega) (by omega) (qHH (by assumption)) (by assumption)|exact jCi (by omega) (by omega) (qHH (by assumption)) (by assumption)))) v2U))))) (fun(h1:(decide (q.wn=0))=false)=>have f2:=(oF h1);aI (⟨(show 0<q.wn from by omega),rfl⟩:qBi q (qJz q)) (aI (sk (aI (aT (@wf0 10 q.wb q.wo q.wn q.wc 0 q.wa (hq.ad (show 0<q.wn from by omega)) (show 0<q.wn from by omega))) (aI (aT (aI (show 0<q.wn from by omega) (v37 q))) (aI (aT (@jBL TP 5 5 (.tmp 12) (.const (.int .u8 8)) (q.wf 0) 8)) (sk (aI (fun(hg:(sB (qSb q) true)=true)=>t2) (aI (fun(hg:(sB (qSb q) true)=true)=>have f3:((q.wf 0).toNat≤8):=(oT (qAr hg));(aI (aI hg tV) (@wg0 15 q.wa q.wn q.wc))) (aI (fun(hg:(sB (qSb q) true)=true)=>have f3:((q.wf 0).toNat≤8):=(oT (qAr hg));(aI (aI hg tV) (@qAD TP 3 3 (.tmp 16) (.const (.int .i64 1))  q.wn 1 (show 1≤q.wn∧q.wn-1≤9223372036854775807 from by omega)))) (aI (fun(hg:(sB (qSb q) true)=true)=>t2) (aI (fun(hg:(sB (qSb q) true)=true)=>have f3:((q.wf 0).toNat≤8):=(oT (qAr hg));(aI (aI hg tV) (@wf0 18 q.wb q.wo q.wn q.wc 0 q.wa (hq.ad (show 0<q.wn from by omega)) (show 0<q.wn from by omega)))) (aI (fun(hg:(sB (qSb q) true)=true)=>have f3:((q.wf 0).toNat≤8):=(oT (qAr hg));(aI (aI hg tV) (aI (show 0<q.wn from by omega) (v37 q)))) (aI (fun(hg:(sB (qSb q) true)=true)=>have f3:((q.wf 0).toNat≤8):=(oT (qAr hg));(aI (aI hg tV) (@qLl TP 5 3 (.tmp 20) (by kernel_rfl) (by kernel_rfl) (q.wf 0)))) (aI (fun(hg:(sB (qSb q) true)=true)=>(aI (aI hg (aI hg tV)) (@wd0 17 21  (q.wn-1) (q.wf 0).toNat))) (aI (aT (aI (fun(hp:(qSb q)=true)=>(qBz hp)) (fun(_:(qSb q)=false)=>tV))) kV1)))))))))))))) (aT (aI (fun(h2:(qA0 (qSb q) (decide ((q.wn-1)<(q.wf 0).toNat)) false)=true)=>have f3:((q.wf 0).toNat≤8):=(oT (qB6 h2));have f4:((q.wn-1)<(q.wf 0).toNat):=(oT (qCr h2));aI kV1 (aT (eX (fun(ns:List Nat)=>ns.length=0∧((int 3):Value)=(fun _=>int (v3o q l)) ns∧([]:List (Option Blk))=(fun _=>[]) ns) [] (aI v0b (aI ((show(int 3)=int (wrE q.wf q.wn l) from congrArg int (by have hhh1:=h1;have hhh2:=h2;first|exact jCe (by omega)|exact qOV (by omega) (by omega) (by assumption)|exact jDn (by omega) (by omega) (qHH (by assumption)) (by assumption)|exact jCi (by omega) (by omega) (qHH (by assumption)) (by assumption)))) v2U))))) (fun(h2:(qA0 (qSb q) (decide ((q.wn-1)<(q.wf 0).toNat)) false)=false)=>have f3:(¬((q.wf 0).toNat≤8))∨(¬((q.wn-1)<(q.wf 0).toNat)):=(Or.imp (fun h=>(oF h)) (fun h=>(oF h)) (qCI h2));aI (⟨(show 0<q.wn from by omega),rfl⟩:qBi q (qJz q)) (aI (sk (aI (aT (@wf0 25 q.wb q.wo q.wn q.wc 0 q.wa (hq.ad (show 0<q.wn from by omega)) (show 0<q.wn from by omega))) (aI (aT (aI (show 0<q.wn from by omega) (v37 q))) (aI (aT (@qUp TP 5 5 (.tmp 27) (.const (.int .u8 8)) (q.wf 0) 8)) (sk (aI (fun(hg:(sB (qUW q) false)=true)=>t2) (aI (fun(hg:(sB (qUW q) false)=true)=>have f4:¬(8<(q.wf 0).toNat):=(oF (qAP hg));(aI (aI hg tV) (@wf0 30 q.wb q.wo q.wn q.wc 0 q.wa (hq.ad (show 0<q.wn from by omega)) (show 0<q.wn from by omega)))) (aI (fun(hg:(sB (qUW q) false)=true)=>have f4:¬(8<(q.wf 0).toNat):=(oF (qAP hg));(aI (aI hg tV) (aI (show 0<q.wn from by omega) (v37 q)))) (aI (fun(hg:(sB (qUW q) false)=true)=>(aI (aI hg tV) (@qUp TP 5 5 (.tmp 32) (.const (.int .u8 0)) (q.wf 0) 0))) (aI (fun(hg:(sB (qUW q) false)=true)=>(aI (aI hg tV) tV)) (aI (fun(hg:(jEx q)=true)=>t2) (aI (fun(hg:(jEx q)=true)=>have f4:¬(8<(q.wf 0).toNat):=(oF (qAP (jBa hg)));have f5:(0<(q.wf 0).toNat):=(oT (qAr (jAx hg)));(aI (aI hg tV) (@qAX TP 29 5 (.tmp 35) (.const (.int .i64 1)) 1 (by kernel_rfl) (by kernel_rfl) q.wb q.wo q.wn q.wc 1 q.wa (hq.ad (show 0<q.wn from by omega)) (show 1<q.wn from by omega)))) (aI (fun(hg:(jEx q)=true)=>have f4:¬(8<(q.wf 0).toNat):=(oF (qAP (jBa hg)));have f5:(0<(q.wf 0).toNat):=(oT (qAr (jAx hg)));(aI (aI hg tV) (aI (show 1<q.wn from by omega) (@rfl Value (ptr q.wb (q.wo+1*1)))))) (aI (fun(hg:(jEx q)=true)=>(aI (aI hg tV) (@jBE TP 5 5 (.tmp 37) (.const (.int .u8 0)) (q.wf 1) 0))) (aI (fun(hg:(sB (qUW q) false)=true)=>(aI hg (aI (fun(hp:(decide (0<(q.wf 0).toNat))=true)=>(jAt hg (qBz hp))) (fun(_:(decide (0<(q.wf 0).toNat))=false)=>tV)))) (aI (aT (aI (fun(_:(qUW q)=true)=>tV) (fun(hp:(qUW q)=false)=>(qAS hp)))) kV1)))))))))))))))) (aT (aI (fun(h3:(jF5 q)=true)=>aI kV1 (aT (eX (fun(ns:List Nat)=>ns.length=0∧((int 31):Value)=(fun _=>int (v3o q l)) ns∧([]:List (Option Blk))=(fun _=>[]) ns) [] (aI v0b (aI ((show(int 31)=int (wrE q.wf q.wn l) from congrArg int (by have hhh1:=h1;have hhh2:=h2;have hhh3:=h3;first|exact jCe (by omega)|exact qOV (by omega) (by omega) (by assumption)|exact jDn (by omega) (by omega) (qHH (by assumption)) (by assumption)|exact jCi (by omega) (by omega) (qHH (by assumption)) (by assumption)))) v2U))))) (fun(h3:(jF5 q)=false)=>have f4:¬(8<(q.wf 0).toNat):=(oF (qBj h3));have f5:(¬(0<(q.wf 0).toNat))∨(((q.wf 1)==0)=false):=(Or.imp (fun h=>(oF h)) (fun h=>h) (qCI (qBK h3)));aI (sk (aI (aT (qOQ q hq (show q.wn≤100000 from by omega) (show 0<q.wn from by omega) (show(q.wf 0).toNat≤8 from by omega) (show(q.wf 0).toNat+1≤q.wn from by omega))) (sk (aI (aT (@qNx TP 23 23 (.tmp 43) (.tmp 44) (smV q.wf) l)) kV1)))) (aT (aI (fun(h4:(decide (l<(smV q.wf)))=true)=>have f6:=(oT h4);aI kV1 (aT (eX (fun(ns:List Nat)=>ns.length=0∧((int 2):Value)=(fun _=>int (v3o q l)) ns∧([]:List (Option Blk))=(fun _=>[]) ns) [] (aI v0b (aI ((show(int 2)=int (wrE q.wf q.wn l) from congrArg int (by have hhh1:=h1;have hhh2:=h2;have hhh3:=h3;have hhh4:=h4;first|exact jCe (by omega)|exact qOV (by omega) (by omega) (by assumption)|exact jDn (by omega) (by omega) (qHH (by assumption)) (by assumption)|exact jCi (by omega) (by omega) (qHH (by assumption)) (by assumption)))) v2U))))) (fun(h4:(decide (l<(smV q.wf)))=false)=>have f6:=(oF h4);aI kV1 (aT (eX (fun(ns:List Nat)=>ns.length=0∧((int 0):Value)=(fun _=>int (v3o q l)) ns∧([]:List (Option Blk))=(fun _=>[]) ns) [] (aI v0b (aI ((show(int 0)=int (wrE q.wf q.wn l) from congrArg int (by have hhh1:=h1;have hhh2:=h2;have hhh3:=h3;have hhh4:=h4;first|exact jCe (by omega)|exact qOV (by omega) (by omega) (by assumption)|exact jDn (by omega) (by omega) (qHH (by assumption)) (by assumption)|exact jCi (by omega) (by omega) (qHH (by assumption)) (by assumption)))) v2U)))))))))))))))))))))
def v10:=@rfl Value (vT #[])
def v1n(r:Nat):=sK3 (aI (aT (ad r 1)) kV1)
def v68:=rg [.g,.g,.g,v0o,.g]
def qG8 (r:Nat) (V:Value) (e e2:Int):qBI TP 56 [(ptr r 0),(int e2)] [⟨r,true,0,(.lit [V,(int e)])⟩] 0 (fun _=>Value.tuple #[]) (fun _=>[some ⟨r,true,0,(.lit [V,(int (qB7 e e2))])⟩]):=
 qAl mix Tryz.func56 rfl rfl 400 (.reg v68 (.br (.reg (rg [.g,.g,.g,.g,(.st 0 (.lit 1))]) .done) .done)) [] [] rfl
  (Eq.mp (by kernel_rfl) (aI (v1n r) (aT (aI (fun(h1:((e:Int)==0)=true)=>aI (sK4 (aI (aT (ad r 1)) tV)) (aT (eX (fun(ns:List Nat)=>ns.length=0∧((vT #[]):Value)=(fun _=>vT #[]) ns∧([some ⟨r,true,0,(.lit [V,(int e2)])⟩]:List (Option Blk))=(fun _=>[some ⟨r,true,0,(.lit [V,(int (qB7 e e2))])⟩]) ns) [] (aI v0b (aI v10 ((show([some ⟨r,true,0,(.lit [V,(int e2)])⟩]:List (Option Blk))=[some ⟨r,true,0,(.lit [V,(int (qB7 e e2))])⟩] from by have hhh1:=h1;have hxh1:=(by simpa using h1:_);unfold qB7;first|rw[if_pos (by assumption)]|rw[if_neg (by assumption)]))))))) (fun(h1:((e:Int)==0)=false)=>aT (eX (fun(ns:List Nat)=>ns.length=0∧((vT #[]):Value)=(fun _=>vT #[]) ns∧([some ⟨r,true,0,(.lit [V,(int e)])⟩]:List (Option Blk))=(fun _=>[some ⟨r,true,0,(.lit [V,(int (qB7 e e2))])⟩]) ns) [] (aI v0b (aI v10 ((show([some ⟨r,true,0,(.lit [V,(int e)])⟩]:List (Option Blk))=[some ⟨r,true,0,(.lit [V,(int (qB7 e e2))])⟩] from by have hhh1:=h1;have hxh1:=(by simpa using h1:_);unfold qB7;first|rw[if_pos (by assumption)]|rw[if_neg (by assumption)]))))))))))
def v1N(r:Nat):=aT (ad r 0)
def v2q(q:BytL):=vS (qBF q.wa q.wc (1+(q.wf 0)).toNat 1) (q.wn-(1+(q.wf 0)).toNat) (q.wc-(1+(q.wf 0)).toNat)
def v6x(r:Nat):=sK2 (aI (v1N r) tV)
def qHk (r:Nat) (q:BytL) (e:Int) (l:UInt64) (hq:OkB q) (hl:q.wn≤100000):qAt (qBi q) TP 37 [(ptr r 0),(u64 l)] [⟨r,true,0,(.lit [(Value.slice q.wa q.wn q.wc),(int e)])⟩] 0 (fun _=>u64 (rsV q e l)) (fun _=>[some ⟨r,true,0,(.lit [(qA3 (rsQ q e l)),(int (rsE q e l))])⟩]):=
 qAm (F:=(qBi q)) mix Tryz.func37 rfl rfl 400 (.reg (rg [.g]) (.reg (rg [.g,.g,.g,.g,v0j,.g,(.callF [] 0 0 (fun _=>(int (v3o q l))) (fun _=>[])),(.call [(0,false)] 0 0 (fun _=>(vT #[])) (fun _=>[some ⟨r,true,0,(.lit [(qWV q),(int (qB7 e (v3o q l)))])⟩]))]) (.reg v68 (.br v0c (.reg (rg [.g,.g,.g,v0j,(v4j q),.g]) (.openr (qJz q) (.reg (rg [.g,.g,.g,.g,v0j,.g,.g,.g,v0j,(v5D q),v4z,(.as (u8 (1+(q.wf 0)))),(.as (v2q q)),.g,.g,v19]) v5T))))))) [] [] rfl
  (have f1:=hq.cap;Eq.mp (by kernel_rfl) (aI kV1 (aI (sK4 (aI (v1N r) (sk (aI (aT (qU8 q l hq (show q.wn≤100000 from by omega))) (aI (aT (qBI.dark [false] (qG8 r (qWV q) e (v3o q l)))) tV))))) (aI (v1n r) (aT (aI (fun(h1:(((qB7 e (wrE q.wf q.wn l)):Int)!=0)=true)=>aI kV1 (aT (eX (fun(ns:List Nat)=>ns.length=0∧((u64 0):Value)=(fun _=>u64 (rsV q e l)) ns∧([some ⟨r,true,0,(.lit [(qWV q),(int (qB7 e (v3o q l)))])⟩]:List (Option Blk))=(fun _=>[some ⟨r,true,0,(.lit [(qA3 (rsQ q e l)),(int (rsE q e l))])⟩]) ns) [] (aI v0b (aI ((show(u64 0)=u64 (rsV q e l) from congrArg u64 (by have hh:=h1;rw[(qRI (q:=q) (e:=e) (l:=l) (by have h5:=hh;simp at h5;exact h5)).2]))) ((show([some ⟨r,true,0,(.lit [(vS q.wa q.wn q.wc),(int (qB7 e (wrE q.wf q.wn l)))])⟩]:List (Option Blk))=[some ⟨r,true,0,(.lit [(qA3 (rsQ q e l)),(int (rsE q e l))])⟩] from by have hh:=h1;rw[(qRI (q:=q) (e:=e) (l:=l) (by have h5:=hh;simp at h5;exact h5)).1]<;>rfl))))))) (fun(h1:(((qB7 e (wrE q.wf q.wn l)):Int)!=0)=false)=>aI (sK3 (aI (v1N r) (aI (aT (qOQ q hq (show q.wn≤100000 from by have g0:=(qIi (q:=q) (e:=e) (l:=l) (by have h5:=h1;simp at h5;exact h5));omega) (show 0<q.wn from by have g0:=(qIi (q:=q) (e:=e) (l:=l) (by have h5:=h1;simp at h5;exact h5));omega) (show(q.wf 0).toNat≤8 from by have g0:=(qIi (q:=q) (e:=e) (l:=l) (by have h5:=h1;simp at h5;exact h5));omega) (show(q.wf 0).toNat+1≤q.wn from by have g0:=(qIi (q:=q) (e:=e) (l:=l) (by have h5:=h1;simp at h5;exact h5));omega))) kV1))) ((have g0:=(qIi (q:=q) (e:=e) (l:=l) (by have h5:=h1;simp at h5;exact h5));aI (⟨(show 0<q.wn from by omega),rfl⟩:qBi q (qJz q)) (aI (sK4 (aI (v1N r) (sK3 (aI (v1N r) (aI (aT (@wf0 32 q.wb q.wo q.wn q.wc 0 q.wa (hq.ad (show 0<q.wn from by omega)) (show 0<q.wn from by omega))) (aI (aT (aI (show 0<q.wn from by omega) (v37 q))) (aI (aT (@qUI TP 5 5 (.const (.int .u8 1)) (.tmp 34) 1 (q.wf 0))) (aI (aT (qQj (P:=TP) (t:=29) (e:=5) (x:=(.tmp 28)) (y:=(.tmp 35)) (by kernel_rfl) (sz:=1) (by kernel_rfl) .u8 q.wa q.wn q.wc (1+(q.wf 0)).toNat (show(1+(q.wf 0)).toNat≤q.wn∧q.wn≤q.wc from by omega))) (v6x r))))))))) (aI kV2 (aT (eX (fun(ns:List Nat)=>ns.length=0∧((u64 (smV q.wf)):Value)=(fun _=>u64 (rsV q e l)) ns∧([some ⟨r,true,0,(.lit [(v2q q),(int (qB7 e (v3o q l)))])⟩]:List (Option Blk))=(fun _=>[some ⟨r,true,0,(.lit [(qA3 (rsQ q e l)),(int (rsE q e l))])⟩]) ns) [] (aI v0b (aI ((show(u64 (smV q.wf))=u64 (rsV q e l) from congrArg u64 (by have hh:=h1;rw[(jAQ (q:=q) (e:=e) (l:=l) (by have h5:=hh;simp at h5;exact h5)).2]))) ((show([some ⟨r,true,0,(.lit [(vS (qBF q.wa q.wc (1+(q.wf 0)).toNat 1) (q.wn-(1+(q.wf 0)).toNat) (q.wc-(1+(q.wf 0)).toNat)),(int (qB7 e (wrE q.wf q.wn l)))])⟩]:List (Option Blk))=[some ⟨r,true,0,(.lit [(qA3 (rsQ q e l)),(int (rsE q e l))])⟩] from by have hh:=h1;rw[(jAQ (q:=q) (e:=e) (l:=l) (by have h5:=hh;simp at h5;exact h5)).1]<;>rfl)))))))))))))))))
def v5P(r:Nat)(q:BytL)(e:Int):=@rfl (qVY) [some ⟨r,false,0,(.lit [(qWV q),(int e)])⟩]
def qTz (r:Nat) (q:BytL) (e:Int):qBI TP 39 [(ptr r 0)] [⟨r,false,0,(.lit [(Value.slice q.wa q.wn q.wc),(int e)])⟩] 0 (fun _=>int (qUj q.wn e)) (fun _=>[some ⟨r,false,0,(.lit [(Value.slice q.wa q.wn q.wc),(int e)])⟩]):=
 qAl mix Tryz.func39 rfl rfl 400 (.reg (rg [.g]) (.reg (rg [.g,.g,.g,v0o,.g,.g,(.opt .g),(.opt .g),(.opt .g),(.opt v0j),(.opt (aN q.wn)),(.opt (aB (decide (0<q.wn)))),.pk]) (.br v0c (.reg v68 .done)))) [] [] rfl
  (Eq.mp (by kernel_rfl) (aI kV1 (aI (sK3 (aI (aT (ad r 1)) (sK2 (aI (fun(hg:(sB ((e:Int)==0) true)=true)=>t2) (aI (fun(hg:(sB ((e:Int)==0) true)=true)=>(aI (aI hg tV) tV)) (aI (fun(hg:(sB ((e:Int)==0) true)=true)=>(aI (aI hg tV) tV)) (aI (fun(hg:(sB ((e:Int)==0) true)=true)=>(aI (aI hg tV) (ad r 0))) (aI (fun(hg:(sB ((e:Int)==0) true)=true)=>have f0:((e:Int)==0)=true:=(qAr hg);(aI (aI hg tV) (@wg0 12 q.wa q.wn q.wc))) (aI (fun(hg:(sB ((e:Int)==0) true)=true)=>(aI (aI hg tV) (@qBe TP 3 3 (.tmp 13) (.const (.int .i64 0))  q.wn 0))) (aI (aT (aI (fun(hp:((e:Int)==0)=true)=>(qBz hp)) (fun(_:((e:Int)==0)=false)=>tV))) tV)))))))))) (aT (aI (fun(h1:(qA0 ((e:Int)==0) (decide (0<q.wn)) false)=true)=>have f0:((e:Int)==0)=true:=(qB6 h1);have f1:(0<q.wn):=(oT (qCr h1));aI kV1 (aT (eX (fun(ns:List Nat)=>ns.length=0∧((int 30):Value)=(fun _=>int (qUj q.wn e)) ns∧([some ⟨r,false,0,(.lit [(qWV q),(int e)])⟩]:List (Option Blk))=(fun _=>[some ⟨r,false,0,(.lit [(qWV q),(int e)])⟩]) ns) [] (aI v0b (aI ((show(int 30)=int (qUj q.wn e) from congrArg int (by have hhh1:=(by simpa[qCH] using h1:_);unfold qUj;first|rw[if_pos (by omega)]|rw[if_neg (by omega)]))) (v5P r q e)))))) (fun(h1:(qA0 ((e:Int)==0) (decide (0<q.wn)) false)=false)=>have f0:(((e:Int)==0)=false)∨(¬(0<q.wn)):=(Or.imp (fun h=>h) (fun h=>(oF h)) (qCI h1));aI (v1n r) (aT (eX (fun(ns:List Nat)=>ns.length=0∧((int e):Value)=(fun _=>int (qUj q.wn e)) ns∧([some ⟨r,false,0,(.lit [(qWV q),(int e)])⟩]:List (Option Blk))=(fun _=>[some ⟨r,false,0,(.lit [(qWV q),(int e)])⟩]) ns) [] (aI v0b (aI ((show(int e)=int (qUj q.wn e) from congrArg int (by have hhh1:=(by simpa[qCH] using h1:_);unfold qUj;first|rw[if_pos (by omega)]|rw[if_neg (by omega)]))) (v5P r q e)))))))))))
def v2N:=@rfl Nat 3
def qZJ (q:BytL) (hq:OkB q) (h0:0<q.wn) (hl:q.wn≤140737488355328):qAt (qBi q) TP 36 [(Value.slice q.wa q.wn q.wc)] [] 3 (fun ns=>(ptr (ns.getD 0 0) 0)) (fun ns=>[some ⟨(ns.getD 0 0),true,0,(.lit [(Value.slice (some ⟨(ns.getD 1 0),0,none⟩) q.wn (q.wn+(ns.getD 2 0))),(int 0)])⟩,some ⟨(ns.getD 1 0),true,0,(spr (q.wn+(ns.getD 2 0)) q.wn (fun k=>u8 (q.wf k)) (u8 0))⟩]):=
 qAm (F:=(qBi q)) mix Tryz.func36 rfl rfl 400 (.reg (rg [.g]) (.regn (rg [.g,(.callF [] 2 1 (fun ns=>vS (some ⟨(g0 ns),0,none⟩) (q.wn) (q.wn+(g1 ns))) (fun ns=>[some ⟨(g0 ns),true,0,(spr (q.wn+(g1 ns)) q.wn (fun k=>u8 (q.wf k)) (u8 0))⟩])),.g,.new,.g]) v2L)) [] [1,0] rfl
  (Eq.mp (by kernel_rfl) (aI kV1 (fun(n1 n2 n3:Nat)=>aI (sk (aI (aT (qAt.mono (fun x hx=>hx) (qIG q hq (show 0<q.wn from by omega) (show q.wn≤140737488355328 from by omega)))) kV3)) (aT (eX (fun(ns:List Nat)=>ns.length=3∧((ptr n3 0):Value)=(fun ns=>(ptr (g0 ns) 0)) ns∧([some ⟨n3,true,0,(.lit [(vS (some ⟨n1,0,none⟩) q.wn (q.wn+n2)),(int 0)])⟩,some ⟨n1,true,0,(spr (q.wn+n2) q.wn (fun k=>u8 (q.wf k)) (u8 0))⟩]:List (Option Blk))=(fun ns=>[some ⟨(g0 ns),true,0,(.lit [(vS (some ⟨(g1 ns),0,none⟩) q.wn (q.wn+(g2 ns))),(int 0)])⟩,some ⟨(g1 ns),true,0,(spr (q.wn+(g2 ns)) q.wn (fun k=>u8 (q.wf k)) (u8 0))⟩]) ns) [n3,n1,n2] (aI v2N (aI (@rfl Value (ptr n3 0)) (@rfl (qVY) [some ⟨n3,true,0,(.lit [(vS (some ⟨n1,0,none⟩) q.wn (q.wn+n2)),(int 0)])⟩,some ⟨n1,true,0,(spr (q.wn+n2) q.wn (fun k=>u8 (q.wf k)) (u8 0))⟩]))))))))
def qH9 (x:BytL) (y:BytL) (x1:Nat):St:=⟨[(0,.v (vS x.wa x.wn x.wc)),(1,.v (vS y.wa y.wn y.wc)),(5,.v (nat x1))],[],0⟩
def qER (x:BytL) (y:BytL) (x1:Nat):Prop:=(x1≤x.wn)∧(∀k,k<x1→x.wf k=y.wf k)
def qE7 (x:BytL) (y:BytL) (x1:Nat):Nat:=x.wn-x1
def wh0(a b:Nat):=@qAX TP 29 5 (.tmp a) (.tmp b) 1 (by kernel_rfl) (by kernel_rfl)
def v0f:=@rfl (List (Option Blk)) []
def v0X(x1:Nat):H:=.reg (rg [.g,(aN (x1+1)),.g]) .done
def v1G(x y:BytL):=qDn x.wf x.wn y.wf y.wn
def v1I(x1:Nat):OpH:=.ld 0 (.tab x1 0)
def v6U(x1:Nat):H:=.br v0c (v0X x1)
def qM8 (x y:BytL) (hx:OkB x) (hy:OkB y):qAt (qGv x y) TP 8 [(Value.slice x.wa x.wn x.wc),(Value.slice y.wa y.wn y.wc)] [] 0 (fun _=>Value.bool (qDn x.wf x.wn y.wf y.wn)) (fun _=>[]):=
 qAm (F:=(qGv x y)) mix Tryz.func8 rfl rfl 400 (.reg (rg [.g]) (.reg (rg [.g,(aN x.wn),.g,(aN y.wn),(aB (!(decide (x.wn=y.wn))))]) (.br v0c (.reg (rg [.g]) (.inv [0,1,5] [] 0 (qER x y) (qH9 x y) (qE7 x y) (0:Nat) (fun(x1:Nat)=>(.reg (rg [.g,.g,(aN x.wn),(aB (decide (x1<x.wn)))]) (.br (.openr (qJz x) (.openr (qJz y) (.reg (rg [.g,.g,(.as (ptr x.wb (x.wo+x1*1))),(v1I x1),.g,.g,(.as (ptr y.wb (y.wo+x1*1))),(.ld 1 (.tab x1 0)),(aB (!((x.wf x1)==(y.wf x1))))]) (v6U x1)))) v0c)))))))) [] [] rfl
  (have f0:=hx.len;have f1:=hy.len;Eq.mp (by kernel_rfl) (aI kV1 (aI (sk (aI (aT (@wg0 6 x.wa x.wn x.wc)) (sk (aI (aT (@wg0 8 y.wa y.wn y.wc)) (aI (aT (@qJK TP 3 3 (.tmp 7) (.tmp 9)  x.wn y.wn)) tV))))) (aT (aI (fun(h1:(!(decide (x.wn=y.wn)))=true)=>have f2:¬(x.wn=y.wn):=(oF (qBr h1));aI kV1 (aT (eX (fun(ns:List Nat)=>ns.length=0∧(v1E:Value)=(fun _=>vB (v1G x y)) ns∧([]:List (Option Blk))=(fun _=>[]) ns) [] (aI v0b (aI ((show(vB false)=vB (qDn x.wf x.wn y.wf y.wn) from congrArg vB (by first|exact qRC (by omega)|exact qRf (by omega) (qTX (by assumption))))) v0f))))) (fun(h1:(!(decide (x.wn=y.wn)))=false)=>have f2:(x.wn=y.wn):=(oT (qAQ h1));aI kV1 (aI (show(0≤x.wn)∧(∀k,k<0→x.wf k=y.wf k) from by exact⟨by omega,fun k hk=>absurd hk (by omega)⟩) (aI (@rfl St ((qH9 x y) (0:Nat))) (fun(x1:Nat) (hx1:(qER x y) x1)=>have B0:x1≤x.wn:=hx1.1;have B1:∀k,k<x1→x.wf k=y.wf k:=hx1.2;aI (sK2 (aI (aT (@wg0 12 x.wa x.wn x.wc)) (aI (aT (@wd0 11 13  x1 x.wn)) tV))) (aT (aI (fun(h2:(decide (x1<x.wn))=true)=>have f5:=(oT h2);aI (Or.inl ⟨(show 0<x.wn from by omega),rfl⟩:qGv x y (qJz x)) (aI (Or.inr ⟨(show 0<y.wn from by omega),rfl⟩:qGv x y (qJz y)) (aI (sK2 (aI (aT (@wh0 17 18 x.wb x.wo x.wn x.wc x1 x.wa (hx.ad (show 0<x.wn from by omega)) (show x1<x.wn from by omega))) (aI (aT (aI (show x1<x.wn from by omega) (@rfl Value (ptr x.wb (x.wo+x1*1))))) (sK2 (aI (aT (@wh0 21 22 y.wb y.wo y.wn y.wc x1 y.wa (hy.ad (show 0<y.wn from by omega)) (show x1<y.wn from by omega))) (aI (aT (aI (show x1<y.wn from by omega) (@rfl Value (ptr y.wb (y.wo+x1*1))))) (aI (aT (@jBn TP 5 5 (.tmp 20) (.tmp 24) (x.wf x1) (y.wf x1))) tV))))))) (aT (aI (fun(h3:(!((x.wf x1)==(y.wf x1)))=true)=>have f6:((x.wf x1)==(y.wf x1))=false:=(qBr h3);aI kV1 (aT (eX (fun(ns:List Nat)=>ns.length=0∧(v1E:Value)=(fun _=>vB (v1G x y)) ns∧([]:List (Option Blk))=(fun _=>[]) ns) [] (aI v0b (aI ((show(vB false)=vB (qDn x.wf x.wn y.wf y.wn) from congrArg vB (by first|exact qRC (by omega)|exact qRf (by omega) (qTX (by assumption))))) v0f))))) (fun(h3:(!((x.wf x1)==(y.wf x1)))=false)=>have f6:((x.wf x1)==(y.wf x1))=true:=(qAQ h3);aI (sk (aI (aT (@we0 15  x1 1 (show x1+1≤9223372036854775807 from by omega))) kV1)) ((rnd (qER x y) (qH9 x y) (qE7 x y) x1 (x1+1:Nat) (show(((x1+1)≤x.wn)∧(∀k,k<(x1+1)→x.wf k=y.wf k))∧(x.wn-(x1+1))<(x.wn-x1) from by exact⟨⟨by omega,qUL B1 (by assumption)⟩,by omega⟩))))))))) (fun(h2:(decide (x1<x.wn))=false)=>have f5:=(oF h2);aI kV1 (aT (eX (fun(ns:List Nat)=>ns.length=0∧((vB true):Value)=(fun _=>vB (v1G x y)) ns∧([]:List (Option Blk))=(fun _=>[]) ns) [] (aI v0b (aI ((show(vB true)=vB (qDn x.wf x.wn y.wf y.wn) from congrArg vB (by exact qWO (by omega) (by omega) B1))) v0f))))))))))))))))
abbrev qZj (a:BytL) (b c:Int):=Value.slice ((rsQ a (qC3 b c) (qDI c)).wa) ((rsQ a (qC3 b c) (qDI c)).wn) ((rsQ a (qC3 b c) (qDI c)).wc)
abbrev qOJ (a:BytL) (b c:Int):=rsQ a (qC3 b c) (qDI c)
abbrev qS8 (a:BytL) (b c:Int):=rsV a (qC3 b c) (qDI c)
abbrev qRj (a:BytL):=Value.slice a.wa a.wn a.wc
abbrev qTe (a:BytL) (b c:Int):=tkQ (ctQ a b c) (ctE a b c 1) (ctN a b c 1)
abbrev qME:=Value.slice none 0 0
abbrev qWh (a:BytL) (b c:Int):=rsE a (qC3 b c) (qDI c)
abbrev jB1 (a:BytL) (b c:Int):=decide ((((qOJ a b c).wn)/1)<((qS8 a b c).toNat))
abbrev jCv (a:BytL) (b c:Int):=tkE (ctQ a b c) (ctE a b c 1) (ctN a b c 1)
def wi0(a:Nat):=@qKb TP 3 23 (.tmp a) (by kernel_rfl) (by kernel_rfl)
def wj0(a:Nat):=@qGJ TP 23 3 (.tmp a) (by kernel_rfl) (by kernel_rfl)
def v1v(m:Int)(q:BytL)(e:Int)(r:Nat):=rg [.g,.g,(aQ (qDI m)),(.callF [(0,false)] 0 0 (fun _=>(u64 (qS8 q e m))) (fun _=>[some ⟨r,true,0,(.lit [(qA3 (qOJ q e m)),(int (qWh q e m))])⟩])),(aN (qS8 q e m).toNat),.g]
def v2e(r:Nat)(q:BytL)(e m:Int):=rg [.g,(.call [(0,false)] 0 0 (fun _=>(vT #[])) (fun _=>[some ⟨r,true,0,(.lit [(qZj q e m),(int (qB7 (qWh q e m) 3))])⟩]))]
def v3p(q:BytL)(e m:Int):=aI (aT (@qBe TP 3 3 (.tmp 17) (.tmp 24)  (qS8 q e m).toNat ((qOJ q e m).wn/1))) tV
def v53(q:BytL)(e m:Int):=ctN q e m 1
def v5g(q:BytL)(e m:Int):=aT (@wg0 21 (qOJ q e m).wa (qOJ q e m).wn (qOJ q e m).wc)
def v5m(r:Nat)(q:BytL)(e m:Int):=sk (aI (aT (qBI.dark [false] (qG8 r (qZj q e m) (qWh q e m) 3))) tV)
def v6m(q:BytL)(e m:Int):=rg [.g,.g,.g,.g,v0j,(aN (qOJ q e m).wn),.g,(aN ((qOJ q e m).wn/1)),(aB (jB1 q e m))]
def v71(m:Int)(q:BytL)(e:Int)(r:Nat):H:=.reg (v1v m q e r) (.reg (v6m q e m) (.br (.reg (v2e r q e m) v0c) v5T))
def qPH (r:Nat) (q:BytL) (e m:Int) (hq:OkB q) (hl:q.wn≤100000) (hm:m≤9223372036854775807):qAt (qBi q) TP 60 [(ptr r 0),(int m),(int 1)] [⟨r,true,0,(.lit [(Value.slice q.wa q.wn q.wc),(int e)])⟩] 0 (fun _=>nat (ctN q e m 1)) (fun _=>[some ⟨r,true,0,(.lit [(qA3 (ctQ q e m)),(int (ctE q e m 1))])⟩]):=
 qAm (F:=(qBi q)) mix Tryz.func60 rfl rfl 400 (.reg (rg [.g]) (.reg v00 (.br (.reg (rg [.g,(.call [(0,false)] 0 0 (fun _=>(vT #[])) (fun _=>[some ⟨r,true,0,(.lit [(qRj q),(int (qB7 e 2))])⟩]))]) (.keep [0,1,2,6,8,9,10,11] [0] 1 (.told ⟨[(0,.v (ptr r 0)),(1,.v (int m)),(2,.v (int 1)),(6,.v (int 0)),(8,.v (int m)),(9,.v (vB (decide ((m:Int)<0)))),(10,.v (ptr r 0)),(11,.v (vT #[]))],[(0,some ⟨r,true,0,(.lit [(qRj q),(int (qC3 e m))])⟩)],1⟩ (v71 m q e r)))) (.keep [0,1,2,6,8,9] [0] 1 (.told ⟨[(0,.v (ptr r 0)),(1,.v (int m)),(2,.v (int 1)),(6,.v (int 0)),(8,.v (int m)),(9,.v (vB (decide ((m:Int)<0))))],[(0,some ⟨r,true,0,(.lit [(qRj q),(int (qC3 e m))])⟩)],1⟩ (v71 m q e r)))))) [] [] rfl
  (have f1:=hq.cap;have f2:(qS8 q e m).toNat≤9223372036854775807:=(jDI hm);Eq.mp (by kernel_rfl) (aI kV1 (aI kV2 (aT (aI (fun(h1:(decide ((m:Int)<0))=true)=>have f3:=(oT h1);aI (sk (aI (aT (qBI.dark [false] (qG8 r (qRj q) e 2))) tV)) (aI (show(⟨[(0,.v (ptr r 0)),(1,.v (int m)),(2,.v (int 1)),(6,.v (int 0)),(8,.v (int m)),(9,.v (vB (decide ((m:Int)<0)))),(10,.v (ptr r 0)),(11,.v (vT #[]))],[(0,some ⟨r,true,0,(.lit [(vS q.wa q.wn q.wc),(int (qB7 e 2))])⟩)],1⟩:St)=⟨[(0,.v (ptr r 0)),(1,.v (int m)),(2,.v (int 1)),(6,.v (int 0)),(8,.v (int m)),(9,.v (vB (decide ((m:Int)<0)))),(10,.v (ptr r 0)),(11,.v (vT #[]))],[(0,some ⟨r,true,0,(.lit [(vS q.wa q.wn q.wc),(int (qC3 e m))])⟩)],1⟩ from by have ee:qB7 e 2=qC3 e m:=(by unfold qC3;first|rw[if_pos (by omega)]|rw[if_neg (by omega)]);rw[ee]) (aI (sK2 (aI (aT (@wi0 13 m)) (aI (aT (qAt.lendP (F':=(qBi q)) (fun w hF=>hF) (fun x hx=>qCS (show 0<q.wn→0<q.wn from by omega) hx rfl) (qHk r q (qC3 e m) (qDI m) hq (show q.wn≤100000 from by omega)))) (aI (aT (@wj0 15 (qS8 q e m) (show(rsV q (qC3 e m) (qDI m)).toNat≤9223372036854775807 from by omega))) kV1)))) (aI (sK4 (aI (v1N r) (aI (v5g q e m) (sk (aI (aT (@qCU TP 3 3 (.tmp 22) (.tmp 23)  (qOJ q e m).wn 1 (show 0<1∧((rsQ q (qC3 e m) (qDI m)).wn)≤9223372036854775807 from by have:=qOl  q (qC3 e m) (qDI m);omega))) (v3p q e m)))))) (aT (aI (fun(h2:(jB1 q e m)=true)=>have f4:=(oT h2);aI (v5m r q e m) (aI kV1 (aT (eX (fun(ns:List Nat)=>ns.length=0∧((int 0):Value)=(fun _=>nat (v53 q e m)) ns∧([some ⟨r,true,0,(.lit [(qZj q e m),(int (qB7 (qWh q e m) 3))])⟩]:List (Option Blk))=(fun _=>[some ⟨r,true,0,(.lit [(qA3 (ctQ q e m)),(int (ctE q e m 1))])⟩]) ns) [] (aI v0b (aI ((show(int 0)=nat (ctN q e m 1) from by first|rw[(qN7 (by assumption)).2]<;>rfl|rw[(qJ8 (by assumption)).2]<;>rfl)) ((show([some ⟨r,true,0,(.lit [(vS (rsQ q (qC3 e m) (qDI m)).wa (rsQ q (qC3 e m) (qDI m)).wn (rsQ q (qC3 e m) (qDI m)).wc),(int (qB7 (rsE q (qC3 e m) (qDI m)) 3))])⟩]:List (Option Blk))=[some ⟨r,true,0,(.lit [(qA3 (ctQ q e m)),(int (ctE q e m 1))])⟩] from by first|(rw[(qN7 (z:=1) (by assumption)).1]<;>rfl)|(rw[(qJ8 (z:=1) (by assumption)).1]<;>rfl))))))))) (fun(h2:(jB1 q e m)=false)=>have f4:=(oF h2);aI kV2 (aT (eX (fun(ns:List Nat)=>ns.length=0∧((nat (qS8 q e m).toNat):Value)=(fun _=>nat (v53 q e m)) ns∧([some ⟨r,true,0,(.lit [(qZj q e m),(int (qWh q e m))])⟩]:List (Option Blk))=(fun _=>[some ⟨r,true,0,(.lit [(qA3 (ctQ q e m)),(int (ctE q e m 1))])⟩]) ns) [] (aI v0b (aI ((show(nat (rsV q (qC3 e m) (qDI m)).toNat)=nat (ctN q e m 1) from by first|rw[(qN7 (by assumption)).2]<;>rfl|rw[(qJ8 (by assumption)).2]<;>rfl)) ((show([some ⟨r,true,0,(.lit [(vS (rsQ q (qC3 e m) (qDI m)).wa (rsQ q (qC3 e m) (qDI m)).wn (rsQ q (qC3 e m) (qDI m)).wc),(int (rsE q (qC3 e m) (qDI m)))])⟩]:List (Option Blk))=[some ⟨r,true,0,(.lit [(qA3 (ctQ q e m)),(int (ctE q e m 1))])⟩] from by first|(rw[(qN7 (z:=1) (by assumption)).1]<;>rfl)|(rw[(qJ8 (z:=1) (by assumption)).1]<;>rfl)))))))))))))) (fun(h1:(decide ((m:Int)<0))=false)=>have f3:=(oF h1);aI (show(⟨[(0,.v (ptr r 0)),(1,.v (int m)),(2,.v (int 1)),(6,.v (int 0)),(8,.v (int m)),(9,.v (vB (decide ((m:Int)<0))))],[(0,some ⟨r,true,0,(.lit [(vS q.wa q.wn q.wc),(int e)])⟩)],1⟩:St)=⟨[(0,.v (ptr r 0)),(1,.v (int m)),(2,.v (int 1)),(6,.v (int 0)),(8,.v (int m)),(9,.v (vB (decide ((m:Int)<0))))],[(0,some ⟨r,true,0,(.lit [(vS q.wa q.wn q.wc),(int (qC3 e m))])⟩)],1⟩ from congrArg (fun zz=>(⟨[(0,.v (ptr r 0)),(1,.v (int m)),(2,.v (int 1)),(6,.v (int 0)),(8,.v (int m)),(9,.v (vB (decide ((m:Int)<0))))],[(0,some ⟨r,true,0,(.lit [(vS q.wa q.wn q.wc),(int zz)])⟩)],1⟩:St)) (show e=qC3 e m from by unfold qC3;first|rw[if_pos (by omega)]|rw[if_neg (by omega)])) (aI (sK2 (aI (aT (@wi0 13 m)) (aI (aT (qAt.lendP (F':=(qBi q)) (fun w hF=>hF) (fun x hx=>qCS (show 0<q.wn→0<q.wn from by omega) hx rfl) (qHk r q (qC3 e m) (qDI m) hq (show q.wn≤100000 from by omega)))) (aI (aT (@wj0 15 (qS8 q e m) (show(rsV q (qC3 e m) (qDI m)).toNat≤9223372036854775807 from by omega))) kV1)))) (aI (sK4 (aI (v1N r) (aI (v5g q e m) (sk (aI (aT (@qCU TP 3 3 (.tmp 22) (.tmp 23)  (qOJ q e m).wn 1 (show 0<1∧((rsQ q (qC3 e m) (qDI m)).wn)≤9223372036854775807 from by have:=qOl  q (qC3 e m) (qDI m);omega))) (v3p q e m)))))) (aT (aI (fun(h3:(jB1 q e m)=true)=>have f4:=(oT h3);aI (v5m r q e m) (aI kV1 (aT (eX (fun(ns:List Nat)=>ns.length=0∧((int 0):Value)=(fun _=>nat (v53 q e m)) ns∧([some ⟨r,true,0,(.lit [(qZj q e m),(int (qB7 (qWh q e m) 3))])⟩]:List (Option Blk))=(fun _=>[some ⟨r,true,0,(.lit [(qA3 (ctQ q e m)),(int (ctE q e m 1))])⟩]) ns) [] (aI v0b (aI ((show(int 0)=nat (ctN q e m 1) from by first|rw[(qN7 (by assumption)).2]<;>rfl|rw[(qJ8 (by assumption)).2]<;>rfl)) ((show([some ⟨r,true,0,(.lit [(vS (rsQ q (qC3 e m) (qDI m)).wa (rsQ q (qC3 e m) (qDI m)).wn (rsQ q (qC3 e m) (qDI m)).wc),(int (qB7 (rsE q (qC3 e m) (qDI m)) 3))])⟩]:List (Option Blk))=[some ⟨r,true,0,(.lit [(qA3 (ctQ q e m)),(int (ctE q e m 1))])⟩] from by first|(rw[(qN7 (z:=1) (by assumption)).1]<;>rfl)|(rw[(qJ8 (z:=1) (by assumption)).1]<;>rfl))))))))) (fun(h3:(jB1 q e m)=false)=>have f4:=(oF h3);aI kV2 (aT (eX (fun(ns:List Nat)=>ns.length=0∧((nat (qS8 q e m).toNat):Value)=(fun _=>nat (v53 q e m)) ns∧([some ⟨r,true,0,(.lit [(qZj q e m),(int (qWh q e m))])⟩]:List (Option Blk))=(fun _=>[some ⟨r,true,0,(.lit [(qA3 (ctQ q e m)),(int (ctE q e m 1))])⟩]) ns) [] (aI v0b (aI ((show(nat (rsV q (qC3 e m) (qDI m)).toNat)=nat (ctN q e m 1) from by first|rw[(qN7 (by assumption)).2]<;>rfl|rw[(qJ8 (by assumption)).2]<;>rfl)) ((show([some ⟨r,true,0,(.lit [(vS (rsQ q (qC3 e m) (qDI m)).wa (rsQ q (qC3 e m) (qDI m)).wn (rsQ q (qC3 e m) (qDI m)).wc),(int (rsE q (qC3 e m) (qDI m)))])⟩]:List (Option Blk))=[some ⟨r,true,0,(.lit [(qA3 (ctQ q e m)),(int (ctE q e m 1))])⟩] from by first|(rw[(qN7 (z:=1) (by assumption)).1]<;>rfl)|(rw[(qJ8 (z:=1) (by assumption)).1]<;>rfl))))))))))))))))))
def v2V:=@rfl Value (qME)
def v3E(q:BytL)(n:Nat):=aI (aT (@wg0 9 q.wa q.wn q.wc)) (sk (aI (aT (@wd0 10 11  q.wn n)) tV))
def v6s:H:=.yes v0c
def v6H(q:BytL)(n:Nat):=rg [.g,.g,.g,v0j,(aN q.wn),.g,(aB (decide (q.wn<n)))]
def qYo (r:Nat) (q:BytL) (e:Int) (n:Nat) (hq:OkB q) (hl:q.wn≤100000) (h:tkE q e n≠0):qAt (qBi q) TP 59 [(ptr r 0),(nat n)] [⟨r,true,0,(.lit [(Value.slice q.wa q.wn q.wc),(int e)])⟩] 0 (fun _=>(Value.slice none 0 0)) (fun _=>[some ⟨r,true,0,(.lit [(qA3 (tkQ q e n)),(int (tkE q e n))])⟩]):=
 qAm (F:=(qBi q)) mix Tryz.func59 rfl rfl 400 (.reg (rg [.g]) (.reg (v6H q n) (.br (.reg (rg [.g,(.call [(0,false)] 0 0 (fun _=>(vT #[])) (fun _=>[some ⟨r,true,0,(.lit [(qRj q),(int (qB7 e 3))])⟩]))]) (.keep [0,1,4,6,7,8,9,10,11,12,13,14] [0] 1 (.told ⟨[(0,.v (ptr r 0)),(1,.v (nat n)),(4,.v (qME)),(6,.v (ptr r 0)),(7,.v (ptr r 0)),(8,.v (ptr r 0)),(9,.v (qRj q)),(10,.v (nat q.wn)),(11,.v (nat n)),(12,.v (vB (decide (q.wn<n)))),(13,.v (ptr r 0)),(14,.v (vT #[]))],[(0,some ⟨r,true,0,(.lit [(qRj q),(int (tkE q e n))])⟩)],1⟩ (.reg v68 v6s)))) (.keep [0,1,4,6,7,8,9,10,11,12] [0] 1 (.told ⟨[(0,.v (ptr r 0)),(1,.v (nat n)),(4,.v (qME)),(6,.v (ptr r 0)),(7,.v (ptr r 0)),(8,.v (ptr r 0)),(9,.v (qRj q)),(10,.v (nat q.wn)),(11,.v (nat n)),(12,.v (vB (decide (q.wn<n))))],[(0,some ⟨r,true,0,(.lit [(qRj q),(int (tkE q e n))])⟩)],1⟩ (.reg v68 v6s)))))) [] [] rfl
  (have f1:=hq.cap;Eq.mp (by kernel_rfl) (aI kV1 (aI (sK3 (aI (v1N r) (v3E q n))) (aT (aI (fun(h1:(decide (q.wn<n))=true)=>have f2:=(oT h1);aI (sk (aI (aT (qBI.dark [false] (qG8 r (qRj q) e 3))) tV)) (aI (show(⟨[(0,.v (ptr r 0)),(1,.v (nat n)),(4,.v (vS none 0 0)),(6,.v (ptr r 0)),(7,.v (ptr r 0)),(8,.v (ptr r 0)),(9,.v (vS q.wa q.wn q.wc)),(10,.v (nat q.wn)),(11,.v (nat n)),(12,.v (vB (decide (q.wn<n)))),(13,.v (ptr r 0)),(14,.v (vT #[]))],[(0,some ⟨r,true,0,(.lit [(vS q.wa q.wn q.wc),(int (qB7 e 3))])⟩)],1⟩:St)=⟨[(0,.v (ptr r 0)),(1,.v (nat n)),(4,.v (vS none 0 0)),(6,.v (ptr r 0)),(7,.v (ptr r 0)),(8,.v (ptr r 0)),(9,.v (vS q.wa q.wn q.wc)),(10,.v (nat q.wn)),(11,.v (nat n)),(12,.v (vB (decide (q.wn<n)))),(13,.v (ptr r 0)),(14,.v (vT #[]))],[(0,some ⟨r,true,0,(.lit [(vS q.wa q.wn q.wc),(int (tkE q e n))])⟩)],1⟩ from by have ee:qB7 e 3=tkE q e n:=(by unfold tkE;first|rw[if_pos (by omega)]|rw[if_neg (by omega)]);rw[ee]) (aI (v1n r) ((fun(hp2:(((tkE q e n):Int)!=0)=true)=>aT (aI hp2 (aI kV1 (aT (eX (fun(ns:List Nat)=>ns.length=0∧((qME):Value)=(fun _=>(qME)) ns∧([some ⟨r,true,0,(.lit [(qRj q),(int (tkE q e n))])⟩]:List (Option Blk))=(fun _=>[some ⟨r,true,0,(.lit [(qA3 (tkQ q e n)),(int (tkE q e n))])⟩]) ns) [] (aI v0b (aI v2V ((show([some ⟨r,true,0,(.lit [(vS q.wa q.wn q.wc),(int (tkE q e n))])⟩]:List (Option Blk))=[some ⟨r,true,0,(.lit [(qA3 (tkQ q e n)),(int (tkE q e n))])⟩] from by rw[qY9 h]<;>rfl))))))))) (show(((tkE q e n):Int)!=0)=true from by simpa using h))))) (fun(h1:(decide (q.wn<n))=false)=>have f2:=(oF h1);aI (show(⟨[(0,.v (ptr r 0)),(1,.v (nat n)),(4,.v (vS none 0 0)),(6,.v (ptr r 0)),(7,.v (ptr r 0)),(8,.v (ptr r 0)),(9,.v (vS q.wa q.wn q.wc)),(10,.v (nat q.wn)),(11,.v (nat n)),(12,.v (vB (decide (q.wn<n))))],[(0,some ⟨r,true,0,(.lit [(vS q.wa q.wn q.wc),(int e)])⟩)],1⟩:St)=⟨[(0,.v (ptr r 0)),(1,.v (nat n)),(4,.v (vS none 0 0)),(6,.v (ptr r 0)),(7,.v (ptr r 0)),(8,.v (ptr r 0)),(9,.v (vS q.wa q.wn q.wc)),(10,.v (nat q.wn)),(11,.v (nat n)),(12,.v (vB (decide (q.wn<n))))],[(0,some ⟨r,true,0,(.lit [(vS q.wa q.wn q.wc),(int (tkE q e n))])⟩)],1⟩ from congrArg (fun zz=>(⟨[(0,.v (ptr r 0)),(1,.v (nat n)),(4,.v (vS none 0 0)),(6,.v (ptr r 0)),(7,.v (ptr r 0)),(8,.v (ptr r 0)),(9,.v (vS q.wa q.wn q.wc)),(10,.v (nat q.wn)),(11,.v (nat n)),(12,.v (vB (decide (q.wn<n))))],[(0,some ⟨r,true,0,(.lit [(vS q.wa q.wn q.wc),(int zz)])⟩)],1⟩:St)) (show e=tkE q e n from by unfold tkE;first|rw[if_pos (by omega)]|rw[if_neg (by omega)])) (aI (v1n r) ((fun(hp3:(((tkE q e n):Int)!=0)=true)=>aT (aI hp3 (aI kV1 (aT (eX (fun(ns:List Nat)=>ns.length=0∧((qME):Value)=(fun _=>(qME)) ns∧([some ⟨r,true,0,(.lit [(qRj q),(int (tkE q e n))])⟩]:List (Option Blk))=(fun _=>[some ⟨r,true,0,(.lit [(qA3 (tkQ q e n)),(int (tkE q e n))])⟩]) ns) [] (aI v0b (aI v2V ((show([some ⟨r,true,0,(.lit [(vS q.wa q.wn q.wc),(int (tkE q e n))])⟩]:List (Option Blk))=[some ⟨r,true,0,(.lit [(qA3 (tkQ q e n)),(int (tkE q e n))])⟩] from by rw[qY9 h]<;>rfl))))))))) (show(((tkE q e n):Int)!=0)=true from by simpa using h)))))))))
def wk0(a b:Nat):=@qIB TP 29 5 (.tmp a) (.tmp b) (by kernel_rfl) 1 (by kernel_rfl)
def wl0(a b:Nat):=@qFR TP 29 5 (.tmp a) (.tmp b) (by kernel_rfl) 1 (by kernel_rfl)
def qWC (r:Nat) (q:BytL) (e:Int) (n:Nat) (hq:OkB q) (hl:q.wn≤100000) (h:tkE q e n=0) (h0:0<n):qAt (qBi q) TP 59 [(ptr r 0),(nat n)] [⟨r,true,0,(.lit [(Value.slice q.wa q.wn q.wc),(int e)])⟩] 2 (fun ns=>(Value.slice (some ⟨(ns.getD 0 0),0,none⟩) n (n+(ns.getD 1 0)))) (fun ns=>[some ⟨r,true,0,(.lit [(qA3 (tkQ q e n)),(int (tkE q e n))])⟩,some ⟨(ns.getD 0 0),true,0,(spr (n+(ns.getD 1 0)) n (fun k=>u8 (q.wf k)) (u8 0))⟩]):=
 qAm (F:=(qBi q)) mix Tryz.func59 rfl rfl 400 (.reg (rg [.g]) (.reg (v6H q n) (.no (.keep [0,1,4,6,7,8,9,10,11,12] [0] 1 (.told ⟨[(0,.v (ptr r 0)),(1,.v (nat n)),(4,.v (qME)),(6,.v (ptr r 0)),(7,.v (ptr r 0)),(8,.v (ptr r 0)),(9,.v (qRj q)),(10,.v (nat q.wn)),(11,.v (nat n)),(12,.v (vB (decide (q.wn<n))))],[(0,some ⟨r,true,0,(.lit [(qRj q),(int (tkE q e n))])⟩)],1⟩ (.reg v68 (.no (.regn (rg [.g,.g,.g,v0j,.g,(.as (vS q.wa n q.wc)),(.callF [] 2 1 (fun ns=>vS (some ⟨(g0 ns),0,none⟩) n (n+(g1 ns))) (fun ns=>[some ⟨(g0 ns),true,0,(spr (n+(g1 ns)) n (fun k=>u8 (q.wf k)) (u8 0))⟩])),.g]) (m2 fun n1 n2=>(.reg (rg [.g,.g,.g,.g,v0j,.g,(.as (vS (qBF q.wa q.wc n 1) (q.wn-n) (q.wc-n))),.g,.g,v19]) v5T)))))))))) [] [1] rfl
  (have f1:=hq.cap;have f3:n≤q.wn:=(qNS h).2;Eq.mp (by kernel_rfl) (aI kV1 (aI (sK3 (aI (v1N r) (v3E q n))) ((fun(hp1:(decide (q.wn<n))=false)=>have f4:=(oF hp1);aT (aI hp1 (aI (show(⟨[(0,.v (ptr r 0)),(1,.v (nat n)),(4,.v (vS none 0 0)),(6,.v (ptr r 0)),(7,.v (ptr r 0)),(8,.v (ptr r 0)),(9,.v (vS q.wa q.wn q.wc)),(10,.v (nat q.wn)),(11,.v (nat n)),(12,.v (vB (decide (q.wn<n))))],[(0,some ⟨r,true,0,(.lit [(vS q.wa q.wn q.wc),(int e)])⟩)],1⟩:St)=⟨[(0,.v (ptr r 0)),(1,.v (nat n)),(4,.v (vS none 0 0)),(6,.v (ptr r 0)),(7,.v (ptr r 0)),(8,.v (ptr r 0)),(9,.v (vS q.wa q.wn q.wc)),(10,.v (nat q.wn)),(11,.v (nat n)),(12,.v (vB (decide (q.wn<n))))],[(0,some ⟨r,true,0,(.lit [(vS q.wa q.wn q.wc),(int (tkE q e n))])⟩)],1⟩ from congrArg (fun zz=>(⟨[(0,.v (ptr r 0)),(1,.v (nat n)),(4,.v (vS none 0 0)),(6,.v (ptr r 0)),(7,.v (ptr r 0)),(8,.v (ptr r 0)),(9,.v (vS q.wa q.wn q.wc)),(10,.v (nat q.wn)),(11,.v (nat n)),(12,.v (vB (decide (q.wn<n))))],[(0,some ⟨r,true,0,(.lit [(vS q.wa q.wn q.wc),(int zz)])⟩)],1⟩:St)) (show e=tkE q e n from by unfold tkE;first|rw[if_pos (by omega)]|rw[if_neg (by omega)])) (aI (v1n r) ((fun(hp2:(((tkE q e n):Int)!=0)=false)=>aT (aI hp2 (fun(n1 n2:Nat)=>aI (sK3 (aI (v1N r) (sk (aI (aT (@wk0 23 24 q.wa q.wn q.wc n (show n≤q.wc from by omega))) (aI (aT (qAt.lendP (F':=(qBi q)) (fun w hF=>(qRK (show n≤q.wn from by omega) hF)) (fun x hx=>qCS (show 0<n→0<q.wn from by omega) hx (show(qWj q n).wb=_ from rfl)) (qIG (qWj q n) (qZt hq (show n≤q.wn from by omega)) (show 0<n from by omega) (show n≤140737488355328 from by omega)))) kV1))))) (aI (sK4 (aI (v1N r) (sk (aI (aT (@wl0 31 32 q.wa q.wn q.wc n (show n≤q.wn∧q.wn≤q.wc from by omega))) (v6x r))))) (aI kV2 (aT (eX (fun(ns:List Nat)=>ns.length=2∧((vS (some ⟨n1,0,none⟩) n (n+n2)):Value)=(fun ns=>(vS (some ⟨(g0 ns),0,none⟩) n (n+(g1 ns)))) ns∧([some ⟨r,true,0,(.lit [(vS (qBF q.wa q.wc n 1) (q.wn-n) (q.wc-n)),(int (tkE q e n))])⟩,some ⟨n1,true,0,(spr (n+n2) n (fun k=>u8 (q.wf k)) (u8 0))⟩]:List (Option Blk))=(fun ns=>[some ⟨r,true,0,(.lit [(qA3 (tkQ q e n)),(int (tkE q e n))])⟩,some ⟨(g0 ns),true,0,(spr (n+(g1 ns)) n (fun k=>u8 (q.wf k)) (u8 0))⟩]) ns) [n1,n2] (aI v0W (aI (@rfl Value (vS (some ⟨n1,0,none⟩) n (n+n2))) ((show([some ⟨r,true,0,(.lit [(vS (qBF q.wa q.wc n 1) (q.wn-n) (q.wc-n)),(int (tkE q e n))])⟩,some ⟨n1,true,0,(spr (n+n2) n (fun k=>u8 (q.wf k)) (u8 0))⟩]:List (Option Blk))=[some ⟨r,true,0,(.lit [(qA3 (tkQ q e n)),(int (tkE q e n))])⟩,some ⟨n1,true,0,(spr (n+n2) n (fun k=>u8 (q.wf k)) (u8 0))⟩] from by rw[qVu h]<;>rfl))))))))))) (show(((tkE q e n):Int)!=0)=false from by simpa using h)))))) (show(decide (q.wn<n))=false from by simp only[qCH,qCL,Bool.or_eq_true,Bool.or_eq_false_iff,Bool.and_eq_true,Bool.and_eq_false_iff,decide_eq_true_eq,decide_eq_false_iff_not];omega)))))
def qHf (c:Nat):qDt TP 19 [(Value.slice none 0 c)] (Value.slice none 0 0):=
 qAg mix Tryz.func19 rfl rfl 400 (.reg (rg [.g]) (.reg v00 v6s)) []
  (Eq.mp (by kernel_rfl) (aI kV1 (aI kV2 (aT (aI v01 (aI kV1 (aT v2V)))))))
def v59(q:BytL):=vS (qBF none q.wc 0 1) (q.wn-0) (q.wc-0)
def v5x(q:BytL):=sk (aI (aT (@wd0 10 11  q.wn 0)) tV)
def v5E(q:BytL)(e:Int):=int (tkE q e 0)
def v6t(q:BytL):=rg [.g,.g,.g,v0j,(aN q.wn),.g,(aB (decide (q.wn<0)))]
def jBZ (r:Nat) (q:BytL) (e:Int) (hq:OkB q) (hl:q.wn≤100000) (hA:q.wa=none) (h:tkE q e 0=0):qAt (qBi q) TP 59 [(ptr r 0),(int 0)] [⟨r,true,0,(.lit [(Value.slice none q.wn q.wc),(int e)])⟩] 0 (fun _=>(Value.slice none 0 0)) (fun _=>[some ⟨r,true,0,(.lit [(qA3 (tkQ q e 0)),(int (tkE q e 0))])⟩]):=
 qAm (F:=(qBi q)) mix Tryz.func59 rfl rfl 400 (.reg (rg [.g]) (.reg (v6t q) (.no (.keep [0,1,4,6,7,8,9,10,11,12] [0] 1 (.told ⟨[(0,.v (ptr r 0)),(1,.v (int 0)),(4,.v (qME)),(6,.v (ptr r 0)),(7,.v (ptr r 0)),(8,.v (ptr r 0)),(9,.v (vS none q.wn q.wc)),(10,.v (nat q.wn)),(11,.v (int 0)),(12,.v (vB (decide (q.wn<0))))],[(0,some ⟨r,true,0,(.lit [(vS none q.wn q.wc),(v5E q e)])⟩)],1⟩ (.reg v68 (.no (.reg (rg [.g,.g,.g,v0j,.g,(.as (vS none 0 q.wc)),(.call [] 0 0 (fun _=>(qME)) (fun _=>[])),.g]) (.reg (rg [.g,.g,.g,.g,v0j,.g,(.as (v59 q)),.g,.g,v19]) v5T))))))))) [] [] rfl
  (have f1:=hq.cap;Eq.mp (by kernel_rfl) (aI kV1 (aI (sK3 (aI (v1N r) (aI (aT (@wg0 9 none q.wn q.wc)) (v5x q)))) ((fun(hp1:(decide (q.wn<0))=false)=>have f2:=(oF hp1);aT (aI hp1 (aI (show(⟨[(0,.v (ptr r 0)),(1,.v (int 0)),(4,.v (vS none 0 0)),(6,.v (ptr r 0)),(7,.v (ptr r 0)),(8,.v (ptr r 0)),(9,.v (vS none q.wn q.wc)),(10,.v (nat q.wn)),(11,.v (int 0)),(12,.v (vB (decide (q.wn<0))))],[(0,some ⟨r,true,0,(.lit [(vS none q.wn q.wc),(int e)])⟩)],1⟩:St)=⟨[(0,.v (ptr r 0)),(1,.v (int 0)),(4,.v (vS none 0 0)),(6,.v (ptr r 0)),(7,.v (ptr r 0)),(8,.v (ptr r 0)),(9,.v (vS none q.wn q.wc)),(10,.v (nat q.wn)),(11,.v (int 0)),(12,.v (vB (decide (q.wn<0))))],[(0,some ⟨r,true,0,(.lit [(vS none q.wn q.wc),(int (tkE q e 0))])⟩)],1⟩ from congrArg (fun zz=>(⟨[(0,.v (ptr r 0)),(1,.v (int 0)),(4,.v (vS none 0 0)),(6,.v (ptr r 0)),(7,.v (ptr r 0)),(8,.v (ptr r 0)),(9,.v (vS none q.wn q.wc)),(10,.v (nat q.wn)),(11,.v (int 0)),(12,.v (vB (decide (q.wn<0))))],[(0,some ⟨r,true,0,(.lit [(vS none q.wn q.wc),(int zz)])⟩)],1⟩:St)) (show e=tkE q e 0 from by unfold tkE;first|rw[if_pos (by omega)]|rw[if_neg (by omega)])) (aI (v1n r) ((fun(hp2:(((tkE q e 0):Int)!=0)=false)=>aT (aI hp2 (aI (sK3 (aI (v1N r) (sk (aI (aT (@wk0 23 24 none q.wn q.wc 0 (show 0≤q.wc from by omega))) (aI (aT (qHf q.wc)) kV1))))) (aI (sK4 (aI (v1N r) (sk (aI (aT (@wl0 31 32 none q.wn q.wc 0 (show 0≤q.wn∧q.wn≤q.wc from by omega))) (v6x r))))) (aI kV2 (aT (eX (fun(ns:List Nat)=>ns.length=0∧((qME):Value)=(fun _=>(qME)) ns∧([some ⟨r,true,0,(.lit [(v59 q),(v5E q e)])⟩]:List (Option Blk))=(fun _=>[some ⟨r,true,0,(.lit [(qA3 (tkQ q e 0)),(v5E q e)])⟩]) ns) [] (aI v0b (aI v2V ((show([some ⟨r,true,0,(.lit [(vS (qBF none q.wc 0 1) (q.wn-0) (q.wc-0)),(int (tkE q e 0))])⟩]:List (Option Blk))=[some ⟨r,true,0,(.lit [(qA3 (tkQ q e 0)),(int (tkE q e 0))])⟩] from by rw[qVu h,qOF hA]<;>rfl))))))))))) (show(((tkE q e 0):Int)!=0)=false from by simpa using h)))))) (show(decide (q.wn<0))=false from by simp only[qCH,qCL,Bool.or_eq_true,Bool.or_eq_false_iff,Bool.and_eq_true,Bool.and_eq_false_iff,decide_eq_true_eq,decide_eq_false_iff_not];omega)))))
def v2y(n1:Nat):=vS (some ⟨n1,0,none⟩) 0 (0+0)
def v6b:OpH:=.call [] 1 1 (fun ns=>vS (some ⟨(g0 ns),0,none⟩) 0 (0+0)) (fun ns=>[some ⟨(g0 ns),true,0,v0i⟩])
def jAz (r:Nat) (q:BytL) (e:Int) (A:Addr) (hq:OkB q) (hl:q.wn≤100000) (hA:q.wa=some A) (h:tkE q e 0=0):qAt (qBi q) TP 59 [(ptr r 0),(int 0)] [⟨r,true,0,(.lit [(Value.slice (some A) q.wn q.wc),(int e)])⟩] 1 (fun ns=>(Value.slice (some ⟨(ns.getD 0 0),0,none⟩) 0 (0+0))) (fun ns=>[some ⟨r,true,0,(.lit [(qA3 (tkQ q e 0)),(int (tkE q e 0))])⟩,some ⟨(ns.getD 0 0),true,0,(spr (0+0) 0 (fun k=>u8 ((fun _=>0) k)) (u8 0))⟩]):=
 qAm (F:=(qBi q)) mix Tryz.func59 rfl rfl 400 (.reg (rg [.g]) (.reg (v6t q) (.no (.keep [0,1,4,6,7,8,9,10,11,12] [0] 1 (.told ⟨[(0,.v (ptr r 0)),(1,.v (int 0)),(4,.v (qME)),(6,.v (ptr r 0)),(7,.v (ptr r 0)),(8,.v (ptr r 0)),(9,.v (vS (some A) q.wn q.wc)),(10,.v (nat q.wn)),(11,.v (int 0)),(12,.v (vB (decide (q.wn<0))))],[(0,some ⟨r,true,0,(.lit [(vS (some A) q.wn q.wc),(v5E q e)])⟩)],1⟩ (.reg v68 (.no (.regn (rg [.g,.g,.g,v0j,.g,(.as (vS (some A) 0 q.wc)),v6b,.g]) (more (fun n1=>fun _=>(.reg (rg [.g,.g,.g,.g,v0j,.g,(.as (vS (qBF (some A) q.wc 0 1) (q.wn-0) (q.wc-0))),.g,.g,v19]) v5T))))))))))) [] [1] rfl
  (have f1:=hq.cap;Eq.mp (by kernel_rfl) (aI kV1 (aI (sK3 (aI (v1N r) (aI (aT (@wg0 9 (some A) q.wn q.wc)) (v5x q)))) ((fun(hp1:(decide (q.wn<0))=false)=>have f2:=(oF hp1);aT (aI hp1 (aI (show(⟨[(0,.v (ptr r 0)),(1,.v (int 0)),(4,.v (vS none 0 0)),(6,.v (ptr r 0)),(7,.v (ptr r 0)),(8,.v (ptr r 0)),(9,.v (vS (some A) q.wn q.wc)),(10,.v (nat q.wn)),(11,.v (int 0)),(12,.v (vB (decide (q.wn<0))))],[(0,some ⟨r,true,0,(.lit [(vS (some A) q.wn q.wc),(int e)])⟩)],1⟩:St)=⟨[(0,.v (ptr r 0)),(1,.v (int 0)),(4,.v (vS none 0 0)),(6,.v (ptr r 0)),(7,.v (ptr r 0)),(8,.v (ptr r 0)),(9,.v (vS (some A) q.wn q.wc)),(10,.v (nat q.wn)),(11,.v (int 0)),(12,.v (vB (decide (q.wn<0))))],[(0,some ⟨r,true,0,(.lit [(vS (some A) q.wn q.wc),(int (tkE q e 0))])⟩)],1⟩ from congrArg (fun zz=>(⟨[(0,.v (ptr r 0)),(1,.v (int 0)),(4,.v (vS none 0 0)),(6,.v (ptr r 0)),(7,.v (ptr r 0)),(8,.v (ptr r 0)),(9,.v (vS (some A) q.wn q.wc)),(10,.v (nat q.wn)),(11,.v (int 0)),(12,.v (vB (decide (q.wn<0))))],[(0,some ⟨r,true,0,(.lit [(vS (some A) q.wn q.wc),(int zz)])⟩)],1⟩:St)) (show e=tkE q e 0 from by unfold tkE;first|rw[if_pos (by omega)]|rw[if_neg (by omega)])) (aI (v1n r) ((fun(hp2:(((tkE q e 0):Int)!=0)=false)=>aT (aI hp2 (fun(n1:Nat)=>aI (sK3 (aI (v1N r) (sk (aI (aT (@wk0 23 24 (some A) q.wn q.wc 0 (show 0≤q.wc from by omega))) (aI (aT (qJQ A q.wc)) kV1))))) (aI (sK4 (aI (v1N r) (sk (aI (aT (@wl0 31 32 (some A) q.wn q.wc 0 (show 0≤q.wn∧q.wn≤q.wc from by omega))) (v6x r))))) (aI kV2 (aT (eX (fun(ns:List Nat)=>ns.length=1∧((v2y n1):Value)=(fun ns=>(vS (some ⟨(g0 ns),0,none⟩) 0 (0+0))) ns∧([some ⟨r,true,0,(.lit [(vS (qBF (some A) q.wc 0 1) (q.wn-0) (q.wc-0)),(v5E q e)])⟩,some ⟨n1,true,0,v0i⟩]:List (Option Blk))=(fun ns=>[some ⟨r,true,0,(.lit [(qA3 (tkQ q e 0)),(v5E q e)])⟩,some ⟨(g0 ns),true,0,v0i⟩]) ns) [n1] (aI v0R (aI (@rfl Value (v2y n1)) ((show([some ⟨r,true,0,(.lit [(vS (qBF (some A) q.wc 0 1) (q.wn-0) (q.wc-0)),(int (tkE q e 0))])⟩,some ⟨n1,true,0,(spr (0+0) 0 (fun k=>u8 ((fun _=>0) k)) (u8 0))⟩]:List (Option Blk))=[some ⟨r,true,0,(.lit [(qA3 (tkQ q e 0)),(int (tkE q e 0))])⟩,some ⟨n1,true,0,(spr (0+0) 0 (fun k=>u8 ((fun _=>0) k)) (u8 0))⟩] from by rw[qVu h,qOF hA]<;>rfl))))))))))) (show(((tkE q e 0):Int)!=0)=false from by simpa using h)))))) (show(decide (q.wn<0))=false from by simp only[qCH,qCL,Bool.or_eq_true,Bool.or_eq_false_iff,Bool.and_eq_true,Bool.and_eq_false_iff,decide_eq_true_eq,decide_eq_false_iff_not];omega)))))
def qVD (r:Nat) (q:BytL) (e:Int) (n:Nat) (hq:OkB q) (hl:q.wn≤100000) (hn:n=0) (h:tkE q e n=0):qAt (qBi q) TP 59 [ptr r 0,nat n] [⟨r,true,0,.lit [qA3 q,int e]⟩] 1 (fun ns=>zV q.wa.isNone (ns.getD 0 0)) (fun _=>[some ⟨r,true,0,.lit [qA3 (tkQ q e n),int (tkE q e n)]⟩]):=by
 subst hn;cases hA:q.wa with
 |none=>
  have e1:qA3 q=.slice none q.wn q.wc:=by unfold qA3;rw[hA]
  rw[e1];exact(jBZ r q e hq hl hA h).name1
 |some A=>
  have e1:qA3 q=.slice (some A) q.wn q.wc:=by unfold qA3;rw[hA]
  rw[e1];exact qAt.drop (o:=fun _=>[some ⟨r,true,0,.lit [qA3 (tkQ q e 0),int (tkE q e 0)]⟩]) (jAz r q e A hq hl hA h)
def v0S(q:BytL)(e m:Int)(r:Nat):OpH:=.callF [(0,false)] 0 0 (fun _=>(nat (ctN q e m 1))) (fun _=>[some ⟨r,true,0,(.lit [(qA3 (ctQ q e m)),(int (ctE q e m 1))])⟩])
def v3h(q:BytL)(e m:Int):=vS (qTe q e m).wa (qTe q e m).wn (qTe q e m).wc
def v3y(r:Nat)(q:BytL)(e m:Int):=@rfl (List (Option Blk)) [some ⟨r,true,0,(.lit [(qA3 (rbQ q e m)),(int (rbE q e m))])⟩]
def qR8 (r:Nat) (q:BytL) (e m:Int) (hq:OkB q) (hl:q.wn≤100000) (hm:m≤9223372036854775807) (h:tkE (ctQ q e m) (ctE q e m 1) (ctN q e m 1)≠0):qAt (qBi q) TP 38 [(ptr r 0),(int m)] [⟨r,true,0,(.lit [(Value.slice q.wa q.wn q.wc),(int e)])⟩] 0 (fun _=>(Value.slice none 0 0)) (fun _=>[some ⟨r,true,0,(.lit [(qA3 (rbQ q e m)),(int (rbE q e m))])⟩]):=
 qAm (F:=(qBi q)) mix Tryz.func38 rfl rfl 400 (.reg (rg [.g]) (.reg (rg [.g,.g,.g,(v0S q e m r),(.callF [(0,false)] 0 0 (fun _=>(qME)) (fun _=>[some ⟨r,true,0,(.lit [(qA3 (qTe q e m)),(int (jCv q e m))])⟩])),.g]) .done)) [] [] rfl
  (have f1:=hq.cap;Eq.mp (by kernel_rfl) (aI kV1 (aI (sK3 (aI (aT (qAt.lendP (F':=(qBi q)) (fun w hF=>hF) (fun x hx=>qCS (show 0<q.wn→0<q.wn from by omega) hx rfl) (qPH r q e m hq (show q.wn≤100000 from by omega) (show m≤9223372036854775807 from by omega)))) (aI (aT (qAt.lendP (F':=(qBi q)) (fun w hF=>(qKA hF)) (fun x hx=>qCS (show 0<(ctQ q e m).wn→0<q.wn from by have:=qKi  q e m;omega) hx (qXz.trans rfl)) (qYo r (ctQ q e m) (ctE q e m 1) (v53 q e m) (qQP hq e m) (show(ctQ q e m).wn≤100000 from by have:=qKi  q e m;omega) h))) kV1))) (aT (eX (fun(ns:List Nat)=>ns.length=0∧((qME):Value)=(fun _=>(qME)) ns∧([some ⟨r,true,0,(.lit [(v3h q e m),(int (jCv q e m))])⟩]:List (Option Blk))=(fun _=>[some ⟨r,true,0,(.lit [(qA3 (rbQ q e m)),(int (rbE q e m))])⟩]) ns) [] (aI v0b (aI v2V (v3y r q e m))))))))
def v6N(q:BytL)(e m:Int)(n2:Nat):=spr ((v53 q e m)+n2) (v53 q e m) (fun k=>u8 ((ctQ q e m).wf k)) (u8 0)
def qSJ (r:Nat) (q:BytL) (e m:Int) (hq:OkB q) (hl:q.wn≤100000) (hm:m≤9223372036854775807) (h:tkE (ctQ q e m) (ctE q e m 1) (ctN q e m 1)=0) (h0:0<ctN q e m 1):qAt (qBi q) TP 38 [(ptr r 0),(int m)] [⟨r,true,0,(.lit [(Value.slice q.wa q.wn q.wc),(int e)])⟩] 2 (fun ns=>(Value.slice (some ⟨(ns.getD 0 0),0,none⟩) (ctN q e m 1) ((ctN q e m 1)+(ns.getD 1 0)))) (fun ns=>[some ⟨r,true,0,(.lit [(qA3 (rbQ q e m)),(int (rbE q e m))])⟩,some ⟨(ns.getD 0 0),true,0,(spr ((ctN q e m 1)+(ns.getD 1 0)) (ctN q e m 1) (fun k=>u8 ((ctQ q e m).wf k)) (u8 0))⟩]):=
 qAm (F:=(qBi q)) mix Tryz.func38 rfl rfl 400 (.reg (rg [.g]) (.regn (rg [.g,.g,.g,(v0S q e m r),(.callF [(0,false)] 2 1 (fun ns=>vS (some ⟨(g0 ns),0,none⟩) (v53 q e m) ((v53 q e m)+(g1 ns))) (fun ns=>[some ⟨r,true,0,(.lit [(qA3 (qTe q e m)),(int (jCv q e m))])⟩,some ⟨(g0 ns),true,0,(spr ((v53 q e m)+(g1 ns)) (v53 q e m) (fun k=>u8 ((ctQ q e m).wf k)) (u8 0))⟩])),.g]) v40)) [] [1] rfl
  (have f1:=hq.cap;Eq.mp (by kernel_rfl) (aI kV1 (fun(n1 n2:Nat)=>aI (sK3 (aI (aT (qAt.lendP (F':=(qBi q)) (fun w hF=>hF) (fun x hx=>qCS (show 0<q.wn→0<q.wn from by omega) hx rfl) (qPH r q e m hq (show q.wn≤100000 from by omega) (show m≤9223372036854775807 from by omega)))) (aI (aT (qAt.lendP (F':=(qBi q)) (fun w hF=>(qKA hF)) (fun x hx=>qCS (show 0<(ctQ q e m).wn→0<q.wn from by have:=qKi  q e m;omega) hx (qXz.trans rfl)) (qWC r (ctQ q e m) (ctE q e m 1) (v53 q e m) (qQP hq e m) (show(ctQ q e m).wn≤100000 from by have:=qKi  q e m;omega) h h0))) kV1))) (aT (eX (fun(ns:List Nat)=>ns.length=2∧((vS (some ⟨n1,0,none⟩) (v53 q e m) ((v53 q e m)+n2)):Value)=(fun ns=>(vS (some ⟨(g0 ns),0,none⟩) (v53 q e m) ((v53 q e m)+(g1 ns)))) ns∧([some ⟨r,true,0,(.lit [(v3h q e m),(int (jCv q e m))])⟩,some ⟨n1,true,0,(v6N q e m n2)⟩]:List (Option Blk))=(fun ns=>[some ⟨r,true,0,(.lit [(qA3 (rbQ q e m)),(int (rbE q e m))])⟩,some ⟨(g0 ns),true,0,(spr ((v53 q e m)+(g1 ns)) (v53 q e m) (fun k=>u8 ((ctQ q e m).wf k)) (u8 0))⟩]) ns) [n1,n2] (aI v0W (aI (@rfl Value (vS (some ⟨n1,0,none⟩) (v53 q e m) ((v53 q e m)+n2))) (@rfl (List (Option Blk)) [some ⟨r,true,0,(.lit [(qA3 (rbQ q e m)),(int (rbE q e m))])⟩,some ⟨n1,true,0,(v6N q e m n2)⟩]))))))))
def v1a:=more (fun n1=>fun _=>.done)
def qQg (r:Nat) (q:BytL) (e m:Int) (hq:OkB q) (hl:q.wn≤100000) (hm:m≤9223372036854775807) (h:tkE (ctQ q e m) (ctE q e m 1) (ctN q e m 1)=0) (h0:¬0<ctN q e m 1):qAt (qBi q) TP 38 [(ptr r 0),(int m)] [⟨r,true,0,(.lit [(Value.slice q.wa q.wn q.wc),(int e)])⟩] 1 (fun ns=>(Value.slice (zA (ctQ q e m).wa.isNone (ns.getD 0 0)) 0 0)) (fun ns=>[some ⟨r,true,0,(.lit [(qA3 (rbQ q e m)),(int (rbE q e m))])⟩]):=
 qAm (F:=(qBi q)) mix Tryz.func38 rfl rfl 400 (.reg (rg [.g]) (.regn (rg [.g,.g,.g,(v0S q e m r),(.callF [(0,false)] 1 0 (fun ns=>zV (ctQ q e m).wa.isNone (g0 ns)) (fun ns=>[some ⟨r,true,0,(.lit [(qA3 (qTe q e m)),(int (jCv q e m))])⟩])),.g]) v1a)) [] [] rfl
  (have f1:=hq.cap;Eq.mp (by kernel_rfl) (aI kV1 (fun(n1:Nat)=>aI (sK3 (aI (aT (qAt.lendP (F':=(qBi q)) (fun w hF=>hF) (fun x hx=>qCS (show 0<q.wn→0<q.wn from by omega) hx rfl) (qPH r q e m hq (show q.wn≤100000 from by omega) (show m≤9223372036854775807 from by omega)))) (aI (aT (qAt.lendP (F':=(qBi q)) (fun w hF=>(qKA hF)) (fun x hx=>qCS (show 0<(ctQ q e m).wn→0<q.wn from by have:=qKi  q e m;omega) hx (qXz.trans rfl)) (qVD r (ctQ q e m) (ctE q e m 1) (v53 q e m) (qQP hq e m) (show(ctQ q e m).wn≤100000 from by have:=qKi  q e m;omega) (Nat.eq_zero_of_not_pos h0) h))) kV1))) (aT (eX (fun(ns:List Nat)=>ns.length=1∧((vS (zA (ctQ q e m).wa.isNone n1) 0 0):Value)=(fun ns=>(vS (zA (ctQ q e m).wa.isNone (g0 ns)) 0 0)) ns∧([some ⟨r,true,0,(.lit [(v3h q e m),(int (jCv q e m))])⟩]:List (Option Blk))=(fun ns=>[some ⟨r,true,0,(.lit [(qA3 (rbQ q e m)),(int (rbE q e m))])⟩]) ns) [n1] (aI v0R (aI (@rfl Value (vS (zA (ctQ q e m).wa.isNone n1) 0 0)) (v3y r q e m))))))))
def qXG (r:Nat) (q:BytL) (e m:Int) (hq:OkB q) (hl:q.wn≤100000) (hm:m≤9223372036854775807) (h0:¬0<rbN q e m):qAt (qBi q) TP 38 [ptr r 0,int m] [⟨r,true,0,.lit [qA3 q,int e]⟩] 1 (fun ns=>zV (rbZ q e m) (ns.getD 0 0)) (fun _=>[some ⟨r,true,0,.lit [qA3 (rbQ q e m),int (rbE q e m)]⟩]):=by
 by_cases h:tkE (ctQ q e m) (ctE q e m 1) (ctN q e m 1)=0
 ·obtain⟨e1,e2⟩:=qQn h
  rw[e2];exact qQg r q e m hq hl hm h (by omega)
 ·obtain⟨e1,e2⟩:=qZn h
  rw[e2];exact(qR8 r q e m hq hl hm h).name1
def qWI (r:Nat) (q:BytL) (e m:Int) (hq:OkB q) (hl:q.wn≤100000) (hm:m≤9223372036854775807) (h0:0<rbN q e m):qAt (qBi q) TP 38 [ptr r 0,int m] [⟨r,true,0,.lit [qA3 q,int e]⟩] 2 (fun ns=>.slice (some ⟨ns.getD 0 0,0,none⟩) (rbN q e m) (rbN q e m+ns.getD 1 0)) (fun ns=>[some ⟨r,true,0,.lit [qA3 (rbQ q e m),int (rbE q e m)]⟩,some ⟨ns.getD 0 0,true,0,spr (rbN q e m+ns.getD 1 0) (rbN q e m) (fun k=>u8 ((ctQ q e m).wf k)) (u8 0)⟩]):=by
 by_cases h:tkE (ctQ q e m) (ctE q e m 1) (ctN q e m 1)=0
 ·obtain⟨e1,e2⟩:=qQn h
  rw[e1];exact qSJ r q e m hq hl hm h (by omega)
 ·exact absurd (qZn h).1 (by omega)
def v0O(n1:Nat):=@rfl Value (ptr n1 0)
def v1l:=vS none 0 0
def v6q:OpH:=.call [] 0 0 (fun _=>v1l) (fun _=>[])
def jC9 (c:Nat):qBI TP 36 [(Value.slice none 0 c)] [] 1 (fun ns=>(ptr (ns.getD 0 0) 0)) (fun ns=>[some ⟨(ns.getD 0 0),true,0,(.lit [(Value.slice none 0 0),(int 0)])⟩]):=
 qAl mix Tryz.func36 rfl rfl 400 (.reg (rg [.g]) (.regn (rg [.g,v6q,.g,.new,.g]) v1a)) [] [0] rfl
  (Eq.mp (by kernel_rfl) (aI kV1 (fun(n1:Nat)=>aI (sk (aI (aT (qHf c)) kV3)) (aT (eX (fun(ns:List Nat)=>ns.length=1∧((v1M n1):Value)=(fun ns=>(ptr (g0 ns) 0)) ns∧([some ⟨n1,true,0,(.lit [v1l,(int 0)])⟩]:List (Option Blk))=(fun ns=>[some ⟨(g0 ns),true,0,(.lit [v1l,(int 0)])⟩]) ns) [n1] (aI v0R (aI (v0O n1) (@rfl (List (Option Blk)) [some ⟨n1,true,0,(.lit [v1l,(int 0)])⟩]))))))))
def jEa (A:Addr) (c:Nat):qBI TP 36 [(Value.slice (some A) 0 c)] [] 2 (fun ns=>(ptr (ns.getD 0 0) 0)) (fun ns=>[some ⟨(ns.getD 0 0),true,0,(.lit [(Value.slice (some ⟨(ns.getD 1 0),0,none⟩) 0 (0+0)),(int 0)])⟩,some ⟨(ns.getD 1 0),true,0,(spr (0+0) 0 (fun k=>u8 ((fun _=>0) k)) (u8 0))⟩]):=
 qAl mix Tryz.func36 rfl rfl 400 (.reg (rg [.g]) (.regn (rg [.g,v6b,.g,.new,.g]) v40)) [] [1,0] rfl
  (Eq.mp (by kernel_rfl) (aI kV1 (fun(n1 n2:Nat)=>aI (sk (aI (aT (qJQ A c)) kV3)) (aT (eX (fun(ns:List Nat)=>ns.length=2∧((ptr n2 0):Value)=(fun ns=>(ptr (g0 ns) 0)) ns∧([some ⟨n2,true,0,(.lit [(v2y n1),(int 0)])⟩,some ⟨n1,true,0,v0i⟩]:List (Option Blk))=(fun ns=>[some ⟨(g0 ns),true,0,(.lit [(vS (some ⟨(g1 ns),0,none⟩) 0 (0+0)),(int 0)])⟩,some ⟨(g1 ns),true,0,v0i⟩]) ns) [n2,n1] (aI v0W (aI (@rfl Value (ptr n2 0)) (@rfl (List (Option Blk)) [some ⟨n2,true,0,(.lit [(v2y n1),(int 0)])⟩,some ⟨n1,true,0,v0i⟩]))))))))
end Go.Proofs.YtmdpendnbkajdaaGreatDoor
end
