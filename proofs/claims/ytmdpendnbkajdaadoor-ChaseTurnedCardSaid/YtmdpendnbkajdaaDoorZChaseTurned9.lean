/-
  Many in one: Maps, Fams, Byt, Grow, PurFair, PurSum, PurFns, Opt, Pile, BytIn, GsU8, ShaOps, ShaHash, ShaMore, ShaRefL, LendW, Heap, Timer, Timer2, CodG, CodDef, CodRead, CodStay, CodAgn, CodBck, CodFwd, NatL, LendV, CodFns, CodRd, CodAw.
-/
import Derived.Test.YtmdpendnbkajdaaDoorZChaseTurned8
import Derived.MapKept
import Derived.WideKeyRuns
set_option linter.unusedVariables false
set_option linter.unusedSimpArgs false
set_option maxRecDepth 100000
set_option maxHeartbeats 1000000
section
namespace Go.Eng
open Go.WideShapes
theorem run_gm {P:Program} {w:World} {r:Nat} {es:Array MapEntry} {clock:Nat} (hb:w.heap[r]? = some (.map es clock)):(getObj r).run P w = .ok (.map es clock) w:=by
  simp [getObj,Sem.run,hb]
theorem run_sm {P:Program} {w:World} {r:Nat} {es:Array MapEntry} {clock:Nat} (o:Obj) (hb:w.heap[r]? = some (.map es clock)):(setObj r o).run P w = .ok () { w with heap:=w.heap.setIfInBounds r o }:=by
  simp [setObj,Sem.run,hb]
theorem heap_set' {w:World} {r:Nat} {o o':Obj} (hb:w.heap[r]? = some o):(w.heap.setIfInBounds r o')[r]? = some o'∧∀ r',r'≠r→(w.heap.setIfInBounds r o')[r']? = w.heap[r']?:=by
  have hlt:r < w.heap.size:=(Array.getElem?_eq_some_iff.1 hb).1
  exact⟨by simp [hlt],fun r' hne=>by simp [Ne.symm hne]⟩
theorem heap_alloc' (w:World) (o:Obj):(w.alloc o).heap[w.heap.size]? = some o∧∀ r',r' < w.heap.size→(w.alloc o).heap[r']? = w.heap[r']?:=by
  have e:(w.alloc o).heap=w.heap.push o:=rfl
  rw [e]
  exact⟨by simp,fun r' h=>by simp [Array.getElem?_push,Nat.ne_of_lt h]⟩
def entsL {α β:Type} (kv:α→Value) (ev:β→Value):List (α × β)→Nat→List MapEntry
  | [],_=>[]
  | (k,x) :: r,i=>⟨kv k,ev x,i⟩ :: entsL kv ev r (i+1)
def mapC {α β:Type} (kv:α→Value) (ev:β→Value) (l:List (α × β)):Cont:=.map (entsL kv ev l 0).toArray l.length
def findE {α β:Type} (eqb:α→α→Bool) (k:α):List (α × β)→Option β
  | []=>none
  | (h,x) :: r=>if eqb k h=true then some x else findE eqb k r
def putE {α β:Type} (eqb:α→α→Bool) (k:α) (x:β):List (α × β)→List (α × β)
  | []=>[(k,x)]
  | (h,y) :: r=>if eqb k h=true then (k,x) :: r else (h,y) :: putE eqb k x r
def findI {α β:Type} (eqb:α→α→Bool) (k:α):List (α × β)→Nat→Option (Nat × β)
  | [],_=>none
  | (h,x) :: r,i=>if eqb k h=true then some (i,x) else findI eqb k r (i+1)
structure MapT {α β:Type} (P:Program) (mt kt et:TypeId) (kv:α→Value) (ev:β→Value) (z:β) (eqb:α→α→Bool):Prop where
  hm:P.underlying mt=some (.map kt et)
  chk:∀ em k w,(Instr.checkKey em 10000 kt (kv k)).run P w = .ok () w
  fnd:∀ k (l:List (α × β)) n w,(Instr.findKey kt (kv k) (entsL kv ev l n)).run P w = .ok ((findI eqb k l 0).map fun p=>(p.1,ev p.2)) w
  eqr:∀ k h w,(Op.equal kt (kv k) (kv h)).run P w = .ok (eqb k h) w
  eqv:∀ k h,eqb k h=true→Instr.sameBits 10000 (kv h) (kv k)=true
  zer:∀ w,(zeroValue et).run P w = .ok (ev z) w
section
variable {α β:Type} {P:Program} {mt kt et:TypeId} {kv:α→Value} {ev:β→Value} {z:β} {eqb:α→α→Bool}
theorem run_asking (eqr:∀ (k h:α) w,(Op.equal kt (kv k) (kv h)).run P w = .ok (eqb k h) w) (k:α) (w:World):∀ (l:List (α × β)) (n i:Nat),(Instr.findAsking kt (kv k) (entsL kv ev l n) i).run P w = .ok ((findI eqb k l i).map fun p=>(p.1,ev p.2)) w
  | [],_,_=>rfl
  | (h,x) :: r,n,i=>by
    simp only [entsL,Instr.findAsking,Sem.run_bind,eqr,Result.andThen_ok,findI]
    by_cases e:eqb k h=true
    · rw [if_pos e,if_pos e]; rfl
    · rw [if_neg e,if_neg e]; exact run_asking eqr k w r (n+1) (i+1)
theorem run_findKeyM (M:MapT P mt kt et kv ev z eqb) (k:α) (w:World) (l:List (α × β)):(Instr.findKey kt (kv k) (entsL kv ev l 0)).run P w = .ok ((findI eqb k l 0).map fun p=>(p.1,ev p.2)) w:=by
  exact M.fnd k l 0 w
theorem findI_E (k:α):∀ (l:List (α × β)) (i:Nat),(findI eqb k l i).map (·.2)=findE eqb k l
  | [],_=>rfl
  | (h,x) :: r,i=>by
    simp only [findI,findE]
    split
    · rfl
    · exact findI_E k r (i+1)
theorem findI_spec (k:α):∀ (l:List (α × β)) (i j:Nat) (x:β),findI eqb k l i=some (j,x)→∃ h,i≤j∧l[j - i]? = some (h,x)∧eqb k h=true
  | [],_,_,_,e=>by cases e
  | (h,y) :: r,i,j,x,e=>by
    simp only [findI] at e
    split at e
    · rename_i he
      injection e with e; injection e with e1 e2; subst e1; subst e2
      exact⟨h,Nat.le_refl _,by simp,he⟩
    · obtain⟨h',h1,h2,h3⟩:=findI_spec k r (i+1) j x e
      exact⟨h',by omega,by rw [show j - i=(j - (i+1))+1 by omega]; simpa using h2,h3⟩
theorem entsL_get:∀ (l:List (α × β)) (n j:Nat) (h:α) (x:β),l[j]? = some (h,x)→(entsL kv ev l n)[j]? = some ⟨kv h,ev x,n+j⟩
  | [],_,_,_,_,e=>by simp at e
  | (h0,x0) :: r,n,0,h,x,e=>by
    simp at e; obtain⟨rfl,rfl⟩:=e; simp [entsL]
  | (h0,x0) :: r,n,j+1,h,x,e=>by
    simp only [List.getElem?_cons_succ] at e
    simp only [entsL,List.getElem?_cons_succ]
    rw [entsL_get r (n+1) j h x e,show n+1+j=n+(j+1) by omega]
theorem entsL_len:∀ (l:List (α × β)) (n:Nat),(entsL kv ev l n).length=l.length
  | [],_=>rfl
  | _ :: r,n=>by simp [entsL,entsL_len r]
theorem entsL_put (k : α) (x : β) : ∀ (l : List (α × β)) (n i : Nat) (j : Nat) (y : β), findI eqb k l i = some (j, y) →
    (entsL kv ev l n).modify (j - i) (fun e=>{ e with key:=kv k,val:=ev x })=entsL kv ev (putE eqb k x l) n∧(putE eqb k x l).length=l.length
  | [],_,_,_,_,e=>by cases e
  | (h,y0) :: r,n,i,j,y,e=>by
    simp only [findI] at e
    split at e
    · rename_i he
      injection e with e; injection e with e1 e2; subst e1
      simp [putE,he,entsL]
    · rename_i he
      obtain⟨_,h1,_,_⟩:=findI_spec k r (i+1) j y e
      obtain⟨i1,i2⟩:=entsL_put k x r (n+1) (i+1) j y e
      rw [show j - i=(j - (i+1))+1 by omega]
      simp only [putE,he,entsL]
      simp [i1,i2,entsL]
theorem entsL_new (k : α) (x : β) : ∀ (l : List (α × β)) (n i : Nat), findI eqb k l i = none →
    entsL kv ev l n ++ [⟨kv k,ev x,n+l.length⟩]=entsL kv ev (putE eqb k x l) n∧(putE eqb k x l).length=l.length+1
  | [],n,i,e=>by simp [putE,entsL]
  | (h,y0) :: r,n,i,e=>by
    simp only [findI] at e
    split at e
    · cases e
    · rename_i he
      obtain⟨i1,i2⟩:=entsL_new k x r (n+1) (i+1) e
      simp only [putE,he,entsL]
      simp only [Bool.false_eq_true,if_false,entsL,List.cons_append,List.length_cons]
      refine⟨?_,by simp [i2]⟩
      rw [← i1,show n+(r.length+1)=n+1+r.length by omega]
def lookSem (t:TypeId) (x k:Value) (ok:Bool):Sem Next:=do pure (.value (← Instr.lookup t x k ok))
theorem srun_look (M : MapT P mt kt et kv ev z eqb) (b : Nat) (own : Bool) (l : List (α × β)) (k : α) :
    SRuns P (lookSem mt (.map (some b)) (kv k) true) [⟨b,own,0,mapC kv ev l⟩] 0 (fun _=>.tuple #[ev ((findE eqb k l).getD z),.bool (findE eqb k l).isSome]) (fun _=>[none]):=by
  intro w hall ha
  have hb:=(hall _ (List.mem_singleton.2 rfl)).objm rfl
  refine⟨[],w,rfl,.inl (run_value ?_),⟨fun p c hpc=>?_,fun p p' c d hpp hc hd ho=>?_,⟨rfl,rfl,rfl,Nat.le_refl _,fun _ _ _=>rfl,fun j hj=>?_,fun p c hpc ho=>?_⟩⟩⟩
  · simp only at hb
    unfold Instr.lookup
    simp only [Sem.run_bind,run_underlying M.hm,Result.andThen_ok,run_gm hb,Sem.run_pure,M.chk,run_findKeyM M]
    have hE:=findI_E (eqb:=eqb) k l 0
    cases hf:findI eqb k l 0 with
    | none =>
      rw [hf] at hE; simp only [Option.map_none] at hE
      rw [← hE]
      simp [M.zer]
    | some q =>
      rw [hf] at hE; simp only [Option.map_some] at hE
      rw [← hE]
      simp
  · rcases p with _ | p <;> simp [lM] at hpc
  · rcases p with _ | p <;> simp [lM] at hc
  · obtain⟨p,c,hpc,_,_⟩:=hj
    rcases p with _ | p <;> simp [lM] at hpc
  · rcases p with _ | p <;> simp [lM] at hpc
def updSem (t:TypeId) (x k v:Value):Sem Next:=do Instr.mapUpdate t x k v; pure .skip
theorem post_map {b : Nat} {es es' : Array MapEntry} {c c' : Nat} {w : World} (h : Holds ⟨b, true, 0, .map es c⟩ w) :
    Post (lM ([⟨b,true,0,.map es c⟩].map some)) w (lM [some ⟨b,true,0,.map es' c'⟩]) { w with heap:=w.heap.setIfInBounds b (.map es' c') }:=by
  have hb:=h.objm rfl
  obtain⟨h1,h2⟩:=heap_set' (o':=.map es' c') hb
  refine⟨fun p q hpq=>?_,fun p p' q d hpp hc hd ho=>?_,⟨rfl,rfl,rfl,by simp,fun j hj hn=>h2 j fun e=>?_,fun j hj=>?_,fun p q hpq ho=>?_⟩⟩
  · rcases p with _ | p
    · injection hpq with hpq; subst hpq
      exact⟨by simpa using h.lt,(fun o v ho=>by cases ho),(fun _ o v ho=>by cases ho),h1⟩
    · simp [lM] at hpq
  · rcases p with _ | p
    · rcases p' with _ | p'
      · exact absurd rfl hpp
      · simp [lM] at hd
    · simp [lM] at hc
  · subst e
    exact hn ⟨0,_,rfl,rfl,rfl⟩
  · obtain⟨p,q,hpq,ho,hjk⟩:=hj
    rcases p with _ | p
    · injection hpq with hpq; subst hpq; exact .inl ⟨0,_,rfl,rfl,hjk⟩
    · simp [lM] at hpq
  · rcases p with _ | p
    · injection hpq with hpq; subst hpq; cases ho
    · simp [lM] at hpq
theorem srun_upd (M : MapT P mt kt et kv ev z eqb) (b : Nat) (l : List (α × β)) (k : α) (x : β) :
    SRuns P (updSem mt (.map (some b)) (kv k) (ev x)) [⟨b,true,0,mapC kv ev l⟩] 0 (fun _=>undef) (fun _=>[some ⟨b,true,0,mapC kv ev (putE eqb k x l)⟩]):=by
  intro w hall ha
  have hH:=hall _ (List.mem_singleton.2 rfl)
  have hb:=hH.objm rfl
  simp only at hb
  refine⟨[],_,rfl,.inr ⟨?_,rfl⟩,post_map hH⟩
  unfold updSem Instr.mapUpdate
  simp only [Sem.run_bind,run_underlying M.hm,Result.andThen_ok,run_gm hb,M.chk,run_findKeyM M]
  cases hf:findI eqb k l 0 with
  | none =>
    obtain⟨i1,i2⟩:=entsL_new (kv:=kv) (ev:=ev) k x l 0 0 hf
    simp only [Option.map_none,run_sm _ hb,Sem.run_pure,Result.andThen_ok]
    congr 4
    · rw [← i1]; simp
    · exact i2.symm
  | some q =>
    obtain⟨j,y⟩:=q
    obtain⟨h,_,h2,h3⟩:=findI_spec k l 0 j y hf
    obtain⟨i1,i2⟩:=entsL_put (kv:=kv) (ev:=ev) k x l 0 0 j y hf
    have hj:=entsL_get (kv:=kv) (ev:=ev) l 0 j h y (by simpa using h2)
    have hs:=M.eqv k h h3
    simp only [Option.map_some,List.getElem?_toArray,hj,Option.getD_some,Instr.keyThatStays,hs,if_true,Sem.run_pure,Result.andThen_ok,run_sm _ hb]
    rw [i2,← i1]
    simp [run_sm _ hb]
def mkmSem (t:TypeId):Sem Next:=do pure (.value (← Instr.makeMap t none))
theorem srun_mkm (t:TypeId):SRuns P (mkmSem t) [] 1 (fun ns=>.map (some (ns.getD 0 0))) (fun ns=>[some ⟨ns.getD 0 0,true,0,mapC kv ev []⟩]):=by
  intro w hall ha
  obtain⟨h1,h2⟩:=heap_alloc' w (.map #[] 0)
  refine⟨[w.heap.size],w.alloc (.map #[] 0),rfl,.inl (run_value rfl),⟨fun p c hpc=>?_,fun p p' c d hpp hc hd ho=>?_,⟨rfl,rfl,rfl,by simp,fun j hj _=>h2 j hj,fun j hj=>?_,fun p c hpc ho=>?_⟩⟩⟩
  · rcases p with _ | p
    · injection hpc with hpc; subst hpc
      exact⟨by simp,(fun o v ho=>by cases ho),(fun _ o v ho=>by cases ho),h1⟩
    · simp [lM] at hpc
  · rcases p with _ | p
    · rcases p' with _ | p'
      · exact absurd rfl hpp
      · simp [lM] at hd
    · simp [lM] at hc
  · obtain⟨p,c,hpc,ho,hjk⟩:=hj
    rcases p with _ | p
    · injection hpc with hpc; subst hpc; exact .inr (Nat.le_of_eq hjk)
    · simp [lM] at hpc
  · rcases p with _ | p
    · injection hpc with hpc; subst hpc; cases ho
    · simp [lM] at hpc
end
def ev0 (_:Unit):Value:=.agg #[]
theorem run_part_int {P:Program} {e:TypeId} {k:IntKind} {cs:Array Value} {i:Nat} {v:Value} (w:World) (he:P.underlying e=some (.int k)) (hv:cs[i]? = some v):(part e cs i).run P w = .ok v w:=pureRun_run (pureRun_part he hv) w
end Go.Eng
end
section
namespace Go.Eng
open Go.RowKit Go.WideShapes Go.ChangeShapes Go.ChangeAt Go.Deep
theorem Runs.toF {F:Blk→Prop} {P:Program} {f:FuncId} {args:List Value} {bs:List Blk} {k:Nat} {v:List Nat→Value} {out:List Nat→List (Option Blk)} (h:Runs P f args bs k v out):RunsF F P f args bs k v out :=
  fun w hb ha _=>h w hb ha
theorem RunsF.mono {F F':Blk→Prop} {P:Program} {f:FuncId} {args:List Value} {bs:List Blk} {k:Nat} {v:List Nat→Value} {out:List Nat→List (Option Blk)} (hs:∀ b,F b→F' b) (h:RunsF F P f args bs k v out):RunsF F' P f args bs k v out :=
  fun w hb ha hF=>h w hb ha fun b hb'=>hF b (hs b hb')
def noneL:List Blk→List (Option Blk)
  | []=>[]
  | _ :: r=>none :: noneL r
theorem noneL_get:∀ (l:List Blk) (p:Nat) (b:Blk),lM (noneL l) p≠some b
  | [],p,b=>by simp [noneL,lM]
  | _ :: r,0,b=>by simp [noneL,lM]
  | _ :: r,p+1,b=>noneL_get r p b
theorem RunsF.read {F : Blk → Prop} {P : Program} {f : FuncId} {args : List Value} {cs : List Blk} {v : Value} (h : RunsF F P f args [] 0 (fun _ => v) (fun _ => []))
    (hF:∀ w:World,(∀ b ∈ cs,Holds b w)→∀ b,F b→Holds b w∧b.own=false) (hb:∀ b ∈ cs,b.own=false):Runs P f args cs 0 (fun _=>v) (fun _=>noneL cs):=by
  intro w hm ha
  have hno:∀ k,¬ Owns (lM (([]:List Blk).map some)) k:=fun k ⟨p,b,h1,h2,_⟩=>by cases h1
  refine Calls.mono (h w (fun b hb'=>by cases hb') (fun p q b c _ hpb _ ho=>by cases hpb) (fun b hFb=>⟨(hF w hm b hFb).1,(hF w hm b hFb).2,fun k _=>hno k⟩)) ?_
  rintro e w' ⟨ns,hns,he,hp⟩
  refine⟨ns,hns,he,⟨fun p b hpb=>absurd hpb (noneL_get _ _ _),fun p q b c _ hpb _ _=>absurd hpb (noneL_get _ _ _),⟨hp.adv.os,hp.adv.output,hp.adv.tape,hp.adv.size,fun k hk _=>hp.adv.heap k hk (hno k),fun k ⟨p,b,h1,_,_⟩=>absurd h1 (noneL_get _ _ _),fun p b hpb _=>absurd hpb (noneL_get _ _ _)⟩⟩⟩
section
variable {P:Program} {t e:TypeId} {x ix:Operand}
theorem is_ixSq {sz:Nat} (ht:P.underlying t=some (.slice e)) (he:sizeB P e=some sz) (b o n c i:Nat) (wa:Option Addr) (hwa:wa=some ⟨b,o,none⟩) (hi:i < n):IsOp P (.indexAddr t x ix) [.slice wa n c,nat i] (ptr b (o+i*sz)):=by
  subst hwa; exact is_ixSl ht he b o n c i hi
end
theorem runsF_law {F : Blk → Prop} {P : Program} {f : FuncId} {args : List Value} {bs : List Blk} {v : Value} {out : List Nat → List (Option Blk)} {W : World} (h : RunsF F P f args bs 0 (fun _ => v) out) (hb : ∀ b ∈ bs, Holds b W) (hro : ∀ b ∈ bs, b.own = false)
    (hF:∀ b,F b→Holds b W∧b.own=false):Calls P f args.toArray W fun e w'=>e = .returned v∧Below W.heap.size W w':=by
  have hl:∀ p b,lM (bs.map some) p=some b→b.own=false:=fun p b hp=>hro b (List.mem_of_getElem? (listMem_some.1 hp))
  refine Calls.mono (h W hb (fun p q x y _ hx _ ho=>?_) fun b hb=>⟨(hF b hb).1,(hF b hb).2,fun _ _ ⟨p,x,hp,ho,_⟩=>?_⟩) fun e w' ⟨ns,_,he,hp⟩=>⟨he,below_of_adv hp.adv hl⟩
  · rw [hl p x hx] at ho; cases ho
  · rw [hl p x hp] at ho; cases ho
def fromA (a:Option Addr) (cap i sz:Nat):Option Addr:=if cap=i then a else a.map (·.add (i*sz))
theorem is_slqFrom {P:Program} {t e:TypeId} {x y:Operand} (ht:P.underlying t=some (.slice e)) {sz:Nat} (hs:sizeB P e=some sz) (wa:Option Addr) (len cap i:Nat) (hi:i≤len∧len≤cap):IsOp P (.slice t x (some y) none none) [.slice wa len cap,nat i] (.slice (fromA wa cap i sz) (len - i) (cap - i)):=by
  intro ρ o' ho hv
  rw [ho] at hv
  have hv':[ρ x,ρ y]=[Value.slice wa len cap,nat i]:=hv
  injection hv' with h1 hv'
  injection hv' with h2 _
  unfold execOp
  rw [ho]
  simp only [Option.map]
  show pureRun P (Sem.bind (Instr.sliceAt t (ρ x) (some (ρ y)) none none) fun v=>Sem.pure (Next.value v))=_
  rw [pureRun_bind,h1,h2]
  have hi':0≤(i:Int)∧(i:Int)≤(len:Int):=by omega
  have e:pureRun P (Instr.sliceAt t (.slice wa len cap) (some (nat i)) none none)=some (.slice (fromA wa cap i sz) (len - i) (cap - i)):=by
    simp only [Instr.sliceAt,Instr.slice,Instr.sliceBounds,Instr.sliceBound,nat,pureRun_bind',asIntOf,pureRun,pure,pureRun_underlying ht,hi',and_self,if_true,pureRun_sizeOf hs,Int.toNat_natCast]
    rfl
  rw [e]
  rfl
def FamH (F:Blk→Prop) (w:World):Prop:=∀ b,F b→Holds b w∧b.own=false
theorem RunsF.darkF {F : Blk → Prop} {P : Program} {f : FuncId} {args : List Value} {bs : List Blk} {k : Nat} {v : List Nat → Value} {out : List Nat → List (Option Blk)} (fl : List Bool) (h : RunsF F P f args bs k v out) :
    RunsF F P f args bs k v (fun ns=>dkn fl (out ns)):=fun w hb ha hF=>Calls.mono (h w hb ha hF) fun _ _ ⟨ns,h1,h2,h3⟩=>⟨ns,h1,h2,h3.sub (dkn_sub fl (out ns))⟩
theorem is_slqTo {P:Program} {t e:TypeId} {x y:Operand} (ht:P.underlying t=some (.slice e)) {sz:Nat} (hs:sizeB P e=some sz) (wa:Option Addr) (len cap i:Nat) (hi:i≤cap):IsOp P (.slice t x none (some y) none) [.slice wa len cap,nat i] (.slice wa i cap):=by
  intro ρ o' ho hv
  rw [ho] at hv
  have hv':[ρ x,ρ y]=[Value.slice wa len cap,nat i]:=hv
  injection hv' with h1 hv'
  injection hv' with h2 _
  unfold execOp
  rw [ho]
  simp only [Option.map]
  show pureRun P (Sem.bind (Instr.sliceAt t (ρ x) none (some (ρ y)) none) fun v=>Sem.pure (Next.value v))=_
  rw [pureRun_bind,h1,h2]
  have hi':0≤(i:Int)∧(i:Int)≤(cap:Int):=by omega
  have e:pureRun P (Instr.sliceAt t (.slice wa len cap) none (some (nat i)) none)=some (.slice wa i cap):=by
    simp only [Instr.sliceAt,Instr.slice,Instr.sliceBounds,Instr.sliceBound,nat,pureRun_bind',asIntOf,pureRun,pure,pureRun_underlying ht,hi',and_self,if_true,pureRun_sizeOf hs,Int.toNat_natCast]
    cases wa <;> simp [Addr.add]
  rw [e]
  rfl
end Go.Eng
end
section
namespace Go.Eng
structure BytL where
  wa:Option Addr
  wn:Nat
  wc:Nat
  wb:Nat
  wo:Nat
  wf:Nat→UInt8
def slqV (q:BytL):Value:=.slice q.wa q.wn q.wc
def bytB (q:BytL):Blk:=⟨q.wb,false,q.wo,tabF q.wn fun k=>u8 (q.wf k)⟩
structure OkB (q:BytL):Prop where
  cap:q.wn≤q.wc
  ad:0 < q.wn→q.wa=some ⟨q.wb,q.wo,none⟩
  len:q.wn≤9223372036854775807
def famB (q:BytL) (b:Blk):Prop:=0 < q.wn∧b=bytB q
def bytT (x:BytL) (k:Nat):BytL:=⟨x.wa,k,x.wc,x.wb,x.wo,x.wf⟩
def bytF (x:BytL) (k:Nat):BytL:=⟨fromA x.wa x.wc k 1,x.wn - k,x.wc - k,x.wb,x.wo+k,fun i=>x.wf (i+k)⟩
def bytO (nm n c:Nat) (f:Nat→UInt8):BytL:=⟨some ⟨nm,0,none⟩,n,c,nm,0,f⟩
def bytZ (a:Option Addr) (c:Nat):BytL:=⟨a,0,c,0,0,fun _=>0⟩
theorem okb_to {x:BytL} {k:Nat} (h:OkB x) (hk:k≤x.wn):OkB (bytT x k):=⟨Nat.le_trans hk h.cap,fun h0=>h.ad (Nat.lt_of_lt_of_le h0 hk),Nat.le_trans hk h.len⟩
theorem okb_from {x:BytL} {k:Nat} (h:OkB x) (hk:k≤x.wn):OkB (bytF x k):=⟨Nat.sub_le_sub_right h.cap k,fun h0=>by
  have h1:0 < x.wn - k:=h0
  show fromA x.wa x.wc k 1=some ⟨x.wb,x.wo+k,none⟩
  have hc:=h.cap
  unfold fromA
  rw [if_neg (by omega),h.ad (by omega)]
  simp [add_none],Nat.le_trans (Nat.sub_le _ _) h.len⟩
theorem okb_own {nm n c:Nat} {f:Nat→UInt8} (h1:n≤c) (h2:n≤9223372036854775807):OkB (bytO nm n c f):=⟨h1,fun _=>rfl,h2⟩
theorem okb_nil {a:Option Addr} {c:Nat}:OkB (bytZ a c):=⟨Nat.zero_le _,fun h=>absurd h (Nat.lt_irrefl 0),Nat.zero_le _⟩
theorem tabU_less {nm o n k:Nat} {f:Nat→UInt8} {w:World} (h:Holds ⟨nm,false,o,tabF n fun k=>u8 (f k)⟩ w) (hk:k≤n):Holds ⟨nm,false,o,tabF k fun k=>u8 (f k)⟩ w :=
  h.recont rfl fun j v hj=>by
    by_cases hl:j < k
    · rw [tabF_in hl] at hj
      rw [tabF_in (by omega)]; exact hj
    · rw [tabF_out hl] at hj; cases hj
theorem tabU_tail {nm o n k:Nat} {f:Nat→UInt8} {w:World} (h:Holds ⟨nm,false,o,tabF n fun k=>u8 (f k)⟩ w) (hk:k≤n):Holds ⟨nm,false,o+k,tabF (n - k) fun i=>u8 (f (i+k))⟩ w:=by
  refine⟨h.lt,fun j v hj=>?_,(fun hb=>by cases hb),obj_not rfl⟩
  by_cases hl:j < n - k
  · rw [tabF_in hl] at hj
    have:=h.cell (k+j) v (by show(tabF n _).get (k+j)=_; rw [tabF_in (by omega)]; rw [Nat.add_comm k j]; exact hj)
    show w.cell? ⟨nm,o+k+j,none⟩=some v
    rw [Nat.add_assoc]; exact this
  · rw [tabF_out hl] at hj; cases hj
theorem holdb_own {nm n c:Nat} {f:Nat→UInt8} {w:World} (h:Holds ⟨nm,false,0,tabF n fun k=>u8 (f k)⟩ w):FamH (famB (bytO nm n c f)) w:=fun b hb=>by
  obtain⟨_,rfl⟩:=hb
  exact⟨h,rfl⟩
theorem holdb_nil {a:Option Addr} {c:Nat} {w:World}:FamH (famB (bytZ a c)) w:=fun b hb=>absurd hb.1 (Nat.lt_irrefl 0)
theorem holdb_to {x:BytL} {k:Nat} {w:World} (hk:k≤x.wn) (h:FamH (famB x) w):FamH (famB (bytT x k)) w:=fun b hb=>by
  obtain⟨h0,rfl⟩:=hb
  have h1:0 < k:=h0
  obtain⟨h2,_⟩:=h (bytB x) ⟨by omega,rfl⟩
  exact⟨tabU_less h2 hk,rfl⟩
theorem holdb_from {x:BytL} {k:Nat} {w:World} (hk:k≤x.wn) (h:FamH (famB x) w):FamH (famB (bytF x k)) w:=fun b hb=>by
  obtain⟨h0,rfl⟩:=hb
  have h1:0 < x.wn - k:=h0
  obtain⟨h2,_⟩:=h (bytB x) ⟨by omega,rfl⟩
  exact⟨tabU_tail h2 hk,rfl⟩
theorem hold_or {F G:Blk→Prop} {w:World} (hx:FamH F w) (hy:FamH G w):FamH (fun b=>F b∨G b) w:=fun b hb=>by
  rcases hb with hb | hb
  · exact hx b hb
  · exact hy b hb
section
variable {P:Program} {t e t':TypeId} {x y z:Operand}
theorem is_slArr {n : Nat} (ht : P.underlying t = some (.array n e)) (hs : sizeB P e = some 1) (b o i : Nat) (k : IntKind) (hi : i ≤ n) :
    IsOp P (.slice t x (some y) none none) [ptr b o,.int k (i:Int)] (.slice (some ⟨b,if n=i then o else o+i,none⟩) (n - i) (n - i)):=by
  intro ρ o' ho hv
  rw [ho] at hv
  have hv':[ρ x,ρ y]=[ptr b o,.int k (i:Int)]:=hv
  injection hv' with h1 hv'
  injection hv' with h2 _
  unfold execOp
  rw [ho]
  simp only [Option.map]
  show pureRun P (Sem.bind (Instr.sliceAt t (ρ x) (some (ρ y)) none none) fun v=>Sem.pure (Next.value v))=_
  rw [pureRun_bind,h1,h2]
  have hi':0≤(i:Int)∧(i:Int)≤(n:Int):=by omega
  have e:pureRun P (Instr.sliceAt t (ptr b o) (some (.int k (i:Int))) none none)=some (.slice (some ⟨b,if n=i then o else o+i,none⟩) (n - i) (n - i)):=by
    simp only [Instr.sliceAt,Instr.slice,ptr,Instr.sliceBounds,Instr.sliceBound,nat,pureRun_bind',asIntOf,pureRun,pure,pureRun_underlying ht,hi',and_self,if_true,pureRun_sizeOf hs,Int.toNat_natCast]
    by_cases h:n=i
    · simp [h,Instr.sureAddr,pureRun,pure]
    · simp [h,Instr.sureAddr,pureRun,pure,add_none,Nat.mul_one]
  rw [e]
  rfl
end
section
variable {P:Program} {t ty e:TypeId}
theorem mk_build0 {B : Nat} {z : Value} (ht : P.underlying t = some (.slice e)) (h1 : OneC P e z B) {α : Type} (K : α → Value) (g : Nat → α) :
    SRuns P (buildSem t 0 #[]) [] 1 (fun ns=>.slice (some ⟨ns.getD 0 0,0,none⟩) 0 0) (fun ns=>[some ⟨ns.getD 0 0,true,0,spr (0+0) 0 (fun k=>K (g k)) z⟩]):=by
  obtain⟨i,hi,hz,hsz,hB,hzc⟩:=h1
  have h0:SRuns P (buildSem t 0 #[]) [] 1 (fun ns=>.slice (some ⟨ns.getD 0 0,0,none⟩) 0 0) (fun ns=>[some ⟨ns.getD 0 0,true,0,.lit (#[]:Array Value).toList⟩]):=srun_made (e:=e) fun w=>by
    refine run_value ?_
    simp [Instr.buildSlice,run_underlying ht,sizeOf,typeInfo,hi,newRow,Instr.fill]
    exact congrArg (fun a=>w.alloc (Obj.cells a e)) (Array.eq_empty_of_size_eq_zero (by simp))
  exact h0.recont (C':=fun _=>spr (0+0) 0 (fun k=>K (g k)) z) (fun _=>rfl) fun ns o v ho=>by
    rw [spr,tabF_out (by omega)] at ho; cases ho
theorem mk_append0 {B : Nat} {z : Value} (ht : P.underlying t = some (.slice e)) (h1 : OneC P e z B) (b : Nat) (C : Cont) (al : Option Addr) (cl : Nat) :
    SRuns P (appendSem t ty (.slice (some ⟨b,0,none⟩) 0 (0+0)) (.slice al 0 cl)) [⟨b,true,0,C⟩] 1 (fun ns=>.slice (some ⟨ns.getD 0 0,0,none⟩) 0 (0+0)) (fun ns=>[some ⟨ns.getD 0 0,true,0,C⟩]):=by
  obtain⟨i,hi,hz,hsz,hB,hzc⟩:=h1
  intro w hall ha
  refine⟨[b],w,rfl,.inl (run_value ?_),Post.refl (fun p c h=>?_) ha⟩
  · cases al <;> simp [Builtin.append_,run_underlying ht,sizeOf,typeInfo,hi,Builtin.lenOf,Builtin.firstCells,storeCells,loadCells,loadCellsFrom]
  · rcases p with _ | p
    · cases h; exact hall _ (by simp)
    · simp [lM] at h
end
theorem srun_copyG {P : Program} {dT sT ty e : TypeId} {n k od dl dc bs os sl sc : Nat} {D D' cs : List Value} {S : Cont}
    (hu:P.underlying dT=some (.slice e)) (hs:sizeB P e=some 1) (hcs:∀ j,j < cs.length→S.get (os+j)=cs[j]?) (hlen:cs.length=min sl dl) (h1:cs.all Value.oneCell'=true)
    (hst:(Cont.lit D).store (.lit od) cs=some (.lit D')) :
    SRuns P (copySem dT sT ty (.slice (some ⟨n,od,none⟩) dl dc) (.slice (some ⟨k,bs+os,none⟩) sl sc)) [⟨n,true,0,.lit D⟩,⟨k,false,bs,S⟩] 0 (fun _=>nat cs.length) (fun _=>[some ⟨n,true,0,.lit D'⟩,none]):=by
  intro w hm ha
  have hD:Holds ⟨n,true,0,.lit D⟩ w:=hm _ (by simp)
  have hS:Holds ⟨k,false,bs,S⟩ w:=hm _ (by simp)
  obtain⟨g1,g2⟩:=Cont.store_get hst trivial
  have hr:=run_copy_cells (P:=P) w dT sT ty e n od dl dc ⟨k,bs+os,none⟩ sl sc cs hu (by simpa [sizeB] using hs) (by rw [hlen])
    (fun j v hj=>by
      have hjl:j < cs.length:=(List.getElem?_eq_some_iff.1 hj).1
      have:=hS.cell (os+j) v (by rw [← hj]; exact hcs j hjl)
      rw [show(⟨k,bs+os,none⟩:Addr).add j=⟨k,bs+(os+j),none⟩ by rw [← Nat.add_assoc]; exact add_none k (bs+os) j]
      exact this)
    (fun j hj=>by
      obtain⟨u,hu⟩:=g1 j hj
      have:=hD.cell _ u hu
      simp only [Cont.off,Nat.zero_add] at this
      rw [this]; rfl)
    (fun j hj=>by
      obtain⟨u,hu⟩:=g1 j hj
      have:=hD.free rfl _ u hu
      simpa [Cont.off] using this) (List.all_eq_true.1 h1)
  refine⟨[],w.setCells n od cs,rfl,.inl ?_,?_⟩
  · show((Builtin.copy_ #[dT,sT] ty #[.slice (some ⟨n,od,none⟩) dl dc,.slice (some ⟨k,bs+os,none⟩) sl sc]).bind fun v=>Sem.pure (Next.value v)).run P w=_
    have:∀ (s:Sem Value) (v:Value) (w':World),s.run P w = .ok v w'→(s.bind fun v=>Sem.pure (Next.value v)).run P w = .ok (Next.value v) w':=fun s v w' h=>by
      show(s >>= fun v=>Sem.pure (Next.value v)).run P w=_
      rw [Sem.run_bind,h]; rfl
    exact this _ _ _ hr
  · have hp := post_store (m := lM ([⟨n, true, 0, .lit D⟩, ⟨k, false, bs, S⟩].map some)) (w := w) (p := 0) (b := ⟨n, true, 0, .lit D⟩) (l := .lit od) (cs := cs) (c := .lit D')
      (fun p b hb=>hm b (List.mem_of_getElem? (listMem_some.1 hb))) ha rfl rfl hst trivial
    rw [show([⟨n,true,0,.lit D⟩,⟨k,false,bs,S⟩].map some:List (Option Blk))=[some ⟨n,true,0,.lit D⟩,some ⟨k,false,bs,S⟩] from rfl] at hp ⊢
    rw [listMem_set0] at hp
    have hp2:Post (lM [some ⟨n,true,0,.lit D⟩,some ⟨k,false,bs,S⟩]) w (lM [some ⟨n,true,0,.lit D'⟩,some ⟨k,false,bs,S⟩]) (w.setCells n od cs):=by simpa [Cont.off] using hp
    have hsub:∀ p b,lM [some (⟨n,true,0,.lit D'⟩:Blk),none] p=some b→lM [some ⟨n,true,0,.lit D'⟩,some ⟨k,false,bs,S⟩] p=some b:=fun p b hpb=>by
      rcases p with _ | _ | p
      · exact hpb
      · cases hpb
      · simp [lM] at hpb
    exact⟨fun p b hpb=>hp2.holds p b (hsub p b hpb),fun p q b c hpq hb hc=>hp2.apart p q b c hpq (hsub p b hb) (hsub q c hc),hp2.adv.weak hsub⟩
end Go.Eng
namespace Go.Eng
end Go.Eng
namespace Go.Eng
theorem listMem_app {a b:List (Option Blk)} {p:Nat} {x:Blk} (h:lM (a ++ b) p=some x):(p < a.length∧lM a p=some x)∨(a.length≤p∧lM b (p - a.length)=some x):=by
  unfold lM at h ⊢
  by_cases hp:p < a.length
  · left; rw [List.getElem?_append_left hp] at h; exact⟨hp,h⟩
  · right; rw [List.getElem?_append_right (by omega)] at h; exact⟨by omega,h⟩
theorem listMem_left {a b:List (Option Blk)} {p:Nat} (hp:p < a.length):lM (a ++ b) p=lM a p:=by
  unfold lM; rw [List.getElem?_append_left hp]
theorem listMem_right {a b:List (Option Blk)} {p:Nat} (hp:a.length≤p):lM (a ++ b) p=lM b (p - a.length):=by
  unfold lM; rw [List.getElem?_append_right hp]
theorem noneL_length:∀ cs:List Blk,(noneL cs).length=cs.length
  | []=>rfl
  | _ :: r=>congrArg (·+1) (noneL_length r)
theorem RunsF.lendG {F F' : Blk → Prop} {P : Program} {f : FuncId} {args : List Value} {bs cs : List Blk} {k : Nat} {v : List Nat → Value} {o nw : List Nat → List (Option Blk)} (h : RunsF F P f args bs k v (fun ns => o ns ++ nw ns)) (ho : ∀ ns, (o ns).length = bs.length)
    (hF:∀ w:World,FamH F' w→(∀ b ∈ cs,Holds b w)→FamH F w) (hn:∀ x,F x→∀ j,x.has j→(∃ y,F' y∧y.has j)∨∃ c ∈ cs,c.has j) (hc:∀ b ∈ cs,b.own=false) :
    RunsF F' P f args (bs ++ cs) k v (fun ns=>o ns ++ (noneL cs ++ nw ns)):=by
  intro w hm ha hF'
  have hsub:∀ p b,lM (bs.map some) p=some b→p < bs.length∧lM ((bs ++ cs).map some) p=some b:=fun p b hp=>by
    have hl:p < bs.length:=by
      have:=(List.getElem?_eq_some_iff.1 (listMem_some.1 hp)).1
      simpa using this
    exact⟨hl,by rw [List.map_append,listMem_left (by simpa using hl)]; exact hp⟩
  have ho1:∀ k,Owns (lM (bs.map some)) k→Owns (lM ((bs ++ cs).map some)) k:=fun k ⟨p,b,h1,h2,h3⟩=>⟨p,b,(hsub p b h1).2,h2,h3⟩
  have hw:=hF w (fun b hb'=>⟨(hF' b hb').1,(hF' b hb').2.1⟩) (fun b hb'=>hm b (by simp [hb']))
  refine Calls.mono (h w (fun b hb'=>hm b (by simp [hb'])) (fun p q b c hpq hpb hqc hown=>ha p q b c hpq (hsub p b hpb).2 (hsub q c hqc).2 hown) (fun b hFb=>⟨(hw b hFb).1,(hw b hFb).2,fun j hj ⟨p,b',h1,h2,h3⟩=>?_⟩)) ?_
  · obtain⟨hl,hp'⟩:=hsub p b' h1
    rcases hn b hFb j hj with ⟨y,hy,he⟩ | ⟨c,hcm,he⟩
    · exact(hF' y hy).2.2 j he ⟨p,b',hp',h2,h3⟩
    · obtain⟨i,hi⟩:=List.getElem?_of_mem hcm
      have hq:lM ((bs ++ cs).map some) (bs.length+i)=some c:=by
        rw [List.map_append,listMem_right (by simp)]
        simp [lM,hi]
      exact ha p (bs.length+i) b' c (by omega) hp' hq h2 j h3 he
  · rintro e w' ⟨ns,hns,he,hp⟩
    have hout:∀ p b,lM (o ns ++ (noneL cs ++ nw ns)) p=some b→(p < bs.length∧lM (o ns ++ nw ns) p=some b)∨(bs.length+cs.length≤p∧lM (o ns ++ nw ns) (p - cs.length)=some b):=fun p b hpb=>by
      rcases listMem_app hpb with ⟨h1,h2⟩ | ⟨h1,h2⟩
      · left; rw [ho] at h1; exact⟨h1,by rw [listMem_left (by rw [ho]; exact h1)]; exact h2⟩
      · rw [ho] at h1 h2
        rcases listMem_app h2 with ⟨h3,h4⟩ | ⟨h3,h4⟩
        · exact absurd h4 (noneL_get _ _ _)
        · right
          rw [noneL_length] at h3 h4
          refine⟨by omega,?_⟩
          rw [listMem_right (by rw [ho]; omega),ho,show p - cs.length - bs.length=p - bs.length - cs.length by omega]; exact h4
    have hpos:∀ p b,lM (o ns ++ (noneL cs ++ nw ns)) p=some b→∃ p',lM (o ns ++ nw ns) p'=some b∧((p < bs.length∧p'=p)∨(bs.length+cs.length≤p∧p'=p - cs.length)):=fun p b hpb=>by
      rcases hout p b hpb with ⟨h1,h2⟩ | ⟨h1,h2⟩
      · exact⟨p,h2,.inl ⟨h1,rfl⟩⟩
      · exact⟨p - cs.length,h2,.inr ⟨h1,rfl⟩⟩
    refine⟨ns,hns,he,⟨fun p b hpb=>?_,fun p q b c hpq hpb hqc=>?_,⟨hp.adv.os,hp.adv.output,hp.adv.tape,hp.adv.size,fun k hk hno=>hp.adv.heap k hk (fun hk'=>hno (ho1 k hk')),fun k ⟨p,b,h1,h2,h3⟩=>?_,fun p b hpb hob=>?_⟩⟩⟩
    · obtain⟨p',h1,_⟩:=hpos p b hpb; exact hp.holds p' b h1
    · obtain⟨p',h1,h2⟩:=hpos p b hpb
      obtain⟨q',h3,h4⟩:=hpos q c hqc
      exact hp.apart p' q' b c (by omega) h1 h3
    · obtain⟨p',h4,_⟩:=hpos p b h1
      rcases hp.adv.names k ⟨p',b,h4,h2,h3⟩ with h5 | h5
      · exact .inl (ho1 k h5)
      · exact .inr h5
    · obtain⟨p',h1,h2⟩:=hpos p b hpb
      have h3:=hp.adv.ro p' b h1 hob
      obtain⟨h4,h5⟩:=hsub p' b h3
      rcases h2 with ⟨_,rfl⟩ | ⟨h6,rfl⟩
      · exact h5
      · omega
end Go.Eng
namespace Go.Eng
theorem holds_sprB {nm n r:Nat} {f:Nat→UInt8} {w:World} (h:Holds ⟨nm,false,0,spr (n+r) n (fun k=>u8 (f k)) (u8 0)⟩ w):Holds ⟨nm,false,0,tabF n fun k=>u8 (f k)⟩ w :=
  h.recont rfl fun j v hj=>by
    by_cases hl:j < n
    · rw [tabF_in hl] at hj
      show(spr (n+r) n (fun k=>u8 (f k)) (u8 0)).get j=_
      rw [spr,tabF_in (by omega),if_pos hl]; exact hj
    · rw [tabF_out hl] at hj; cases hj
theorem Runs.fam {F:Blk→Prop} {P:Program} {f:FuncId} {args:List Value} {B:Blk} {v:Value} {o:List (Option Blk)} (h:Runs P f args [B] 0 (fun _=>v) (fun _=>o)) (hB:F B):RunsF F P f args [] 0 (fun _=>v) (fun _=>[]):=by
  intro w hm ha hF
  obtain⟨h1,h2,_⟩:=hF B hB
  have hno:∀ k,¬ Owns (lM ([B].map some)) k:=fun k ⟨p,b,hp,ho,_⟩=>by
    rcases p with _ | p
    · cases hp; rw [h2] at ho; cases ho
    · simp [lM] at hp
  refine Calls.mono (h w (fun b hb=>by simp at hb; subst hb; exact h1) (fun p q b c _ hb _ ho=>by
    rcases p with _ | p
    · cases hb; rw [h2] at ho; cases ho
    · simp [lM] at hb)) ?_
  rintro e w' ⟨ns,hns,he,hp⟩
  have hnil:∀ p b,lM ([]:List (Option Blk)) p≠some b:=fun p b=>by simp [lM]
  exact⟨ns,hns,he,⟨fun p b hpb=>absurd hpb (hnil p b),fun p q b c _ hpb=>absurd hpb (hnil p b),⟨hp.adv.os,hp.adv.output,hp.adv.tape,hp.adv.size,fun k hk _=>hp.adv.heap k hk (hno k),fun k ⟨p,b,hpb,_⟩=>absurd hpb (hnil p b),fun p b hpb=>absurd hpb (hnil p b)⟩⟩⟩
section
variable {P:Program} {t e t':TypeId} {x y z:Operand}
theorem is_slqPartK (ht : P.underlying t = some (.slice e)) {sz : Nat} (hs : sizeB P e = some sz) (k1 k2 : IntKind) (wa : Option Addr) (len cap i j : Nat) (hi : i ≤ j ∧ j ≤ cap) :
    IsOp P (.slice t x (some y) (some z) none) [.slice wa len cap,.int k1 (i:Int),.int k2 (j:Int)] (.slice (fromA wa cap i sz) (j - i) (cap - i)):=by
  intro ρ o' ho hv
  rw [ho] at hv
  have hv':[ρ x,ρ y,ρ z]=[Value.slice wa len cap,.int k1 (i:Int),.int k2 (j:Int)]:=hv
  injection hv' with h1 hv'
  injection hv' with h2 hv'
  injection hv' with h3 _
  unfold execOp
  rw [ho]
  simp only [Option.map]
  show pureRun P (Sem.bind (Instr.sliceAt t (ρ x) (some (ρ y)) (some (ρ z)) none) fun v=>Sem.pure (Next.value v))=_
  rw [pureRun_bind,h1,h2,h3]
  have hi':0≤(i:Int)∧(i:Int)≤(j:Int):=by omega
  have hj':0≤(j:Int)∧(j:Int)≤(cap:Int):=by omega
  have e:pureRun P (Instr.sliceAt t (.slice wa len cap) (some (.int k1 (i:Int))) (some (.int k2 (j:Int))) none)=some (.slice (fromA wa cap i sz) (j - i) (cap - i)):=by
    simp only [Instr.sliceAt,Instr.slice,Instr.sliceBounds,Instr.sliceBound,nat,pureRun_bind',asIntOf,pureRun,pure,pureRun_underlying ht,hi',hj',and_self,if_true,pureRun_sizeOf hs,Int.toNat_natCast]
    rfl
  rw [e]
  rfl
theorem is_slqFromK (ht:P.underlying t=some (.slice e)) {sz:Nat} (hs:sizeB P e=some sz) (k:IntKind) (wa:Option Addr) (len cap i:Nat) (hi:i≤len∧len≤cap):IsOp P (.slice t x (some y) none none) [.slice wa len cap,.int k (i:Int)] (.slice (fromA wa cap i sz) (len - i) (cap - i)):=by
  intro ρ o' ho hv
  rw [ho] at hv
  have hv':[ρ x,ρ y]=[Value.slice wa len cap,.int k (i:Int)]:=hv
  injection hv' with h1 hv'
  injection hv' with h2 _
  unfold execOp
  rw [ho]
  simp only [Option.map]
  show pureRun P (Sem.bind (Instr.sliceAt t (ρ x) (some (ρ y)) none none) fun v=>Sem.pure (Next.value v))=_
  rw [pureRun_bind,h1,h2]
  have hi':0≤(i:Int)∧(i:Int)≤(len:Int):=by omega
  have e:pureRun P (Instr.sliceAt t (.slice wa len cap) (some (.int k (i:Int))) none none)=some (.slice (fromA wa cap i sz) (len - i) (cap - i)):=by
    simp only [Instr.sliceAt,Instr.slice,Instr.sliceBounds,Instr.sliceBound,nat,pureRun_bind',asIntOf,pureRun,pure,pureRun_underlying ht,hi',and_self,if_true,pureRun_sizeOf hs,Int.toNat_natCast]
    rfl
  rw [e]
  rfl
end
section
variable {P:Program} {t t':TypeId} {x y:Operand} (a b:UInt8)
theorem is_add8:IsOp P (.binOp .add t x y t') [u8 a,u8 b] (u8 (a+b)):=isOp_bin guard_int (by
  show some (Value.int .u8 (IntKind.u8.wrap ((a.toNat:Int)+b.toNat)))=_
  rw [wrap_u8,u8,UInt8.toNat_add]; congr 2)
theorem is_leq8:IsOp P (.binOp .leq t x y t') [u8 a,u8 b] (.bool (decide (a.toNat≤b.toNat))):=isOp_bin guard_int (by
  show some (Value.bool (decide ((a.toNat:Int)≤(b.toNat:Int))))=_
  congr 2; exact decide_eq_decide.2 Int.ofNat_le)
theorem is_gtr8:IsOp P (.binOp .gtr t x y t') [u8 a,u8 b] (.bool (decide (b.toNat < a.toNat))):=isOp_bin guard_int (by
  show some (Value.bool (decide ((b.toNat:Int) < (a.toNat:Int))))=_
  congr 2; exact decide_eq_decide.2 Int.ofNat_lt)
end
end Go.Eng
namespace Go.Eng
theorem Runs.famN {F:Blk→Prop} {P:Program} {f:FuncId} {args:List Value} {B:Blk} {k:Nat} {v:List Nat→Value} {x:List Nat→Option Blk} {nw:List Nat→List (Option Blk)} (h:Runs P f args [B] k v (fun ns=>x ns :: nw ns)) (hB:F B):RunsF F P f args [] k v nw:=by
  intro w hm ha hF
  obtain⟨h1,h2,_⟩:=hF B hB
  have hno:∀ k,¬ Owns (lM ([B].map some)) k:=fun k ⟨p,b,hp,ho,_⟩=>by
    rcases p with _ | p
    · cases hp; rw [h2] at ho; cases ho
    · simp [lM] at hp
  refine Calls.mono (h w (fun b hb=>by simp at hb; subst hb; exact h1) (fun p q b c _ hb _ ho=>by
    rcases p with _ | p
    · cases hb; rw [h2] at ho; cases ho
    · simp [lM] at hb)) ?_
  rintro e w' ⟨ns,hns,he,hp⟩
  have hs:∀ p b,lM (nw ns) p=some b→lM (x ns :: nw ns) (p+1)=some b:=fun p b h=>by simpa [lM] using h
  refine⟨ns,hns,he,⟨fun p b hpb=>hp.holds _ b (hs p b hpb),fun p q b c hpq hpb hqc=>hp.apart _ _ b c (by omega) (hs p b hpb) (hs q c hqc),⟨hp.adv.os,hp.adv.output,hp.adv.tape,hp.adv.size,fun k hk _=>hp.adv.heap k hk (hno k),fun k ⟨p,b,hpb,h3,h4⟩=>?_,fun p b hpb hob=>?_⟩⟩⟩
  · rcases hp.adv.names k ⟨p+1,b,hs p b hpb,h3,h4⟩ with h5 | h5
    · exact absurd h5 (hno k)
    · exact .inr h5
  · have:=hp.adv.ro (p+1) b (hs p b hpb) hob
    simp [lM] at this
end Go.Eng
namespace Go.Eng
theorem RunsF.lendP {F F' : Blk → Prop} {P : Program} {f : FuncId} {args : List Value} {bs : List Blk} {k : Nat} {v : List Nat → Value} {out : List Nat → List (Option Blk)}
    (hF:∀ w:World,FamH F' w→FamH F w) (hn:∀ x,F x→∃ y,F' y∧∀ j,x.has j→y.has j) (h:RunsF F P f args bs k v out):RunsF F' P f args bs k v out:=fun w hb ha hF'=>h w hb ha fun b hb'=>by
  obtain⟨h1,h2⟩:=hF w (fun x hx=>⟨(hF' x hx).1,(hF' x hx).2.1⟩) b hb'
  obtain⟨y,hy,he⟩:=hn b hb'
  exact⟨h1,h2,fun j hj=>(hF' y hy).2.2 j (he j hj)⟩
theorem famB_part {b c:BytL} {x:Blk} (h:0 < c.wn→0 < b.wn) (hx:famB c x) (hb:c.wb=b.wb:=by rfl):∃ y,famB b y∧∀ j,x.has j→y.has j:=by
  obtain⟨h0,rfl⟩:=hx
  exact⟨bytB b,⟨h h0,rfl⟩,fun j hj=>hb.symm.trans hj⟩
end Go.Eng
namespace Go.Eng
section
variable {P:Program} {t t':TypeId} {x y:Operand}
theorem is_eql8 (a b:UInt8):IsOp P (.binOp .eql t x y t') [u8 a,u8 b] (.bool (a == b)):=isOp_bin guard_int (by
  show some (Value.bool ((a.toNat:Int) == (b.toNat:Int)))=_
  have:((a.toNat:Int) == (b.toNat:Int))=(a == b):=by
    rw [Bool.eq_iff_iff,beq_iff_eq,beq_iff_eq]
    constructor
    · intro h; exact UInt8.toNat_inj.1 (by omega)
    · intro h; rw [h]
  rw [this])
end
end Go.Eng
namespace Go.Eng
theorem map_get {α:Type} (K:α→Value) (g:Nat→α) (n k:Nat) (h:k < n):((List.range n).map fun j=>K (g j))[k]? = some (K (g k)):=by
  rw [List.getElem?_map,List.getElem?_range h]; rfl
theorem holds_litB {nm:Nat} {l:List Value} {n:Nat} {f:Nat→UInt8} {w:World} (h:Holds ⟨nm,false,0,.lit l⟩ w) (hl:l=(List.range n).map fun k=>u8 (f k)):Holds ⟨nm,false,0,tabF n fun k=>u8 (f k)⟩ w:=by
  subst hl
  exact h.recont rfl fun j v hj=>by
    by_cases hl:j < n
    · rw [tabF_in hl] at hj
      show((List.range n).map fun k=>u8 (f k))[j]? = _
      rw [map_get u8 f n j hl]; exact hj
    · rw [tabF_out hl] at hj; cases hj
def famBB (x y:BytL) (b:Blk):Prop:=famB x b∨famB y b
end Go.Eng
namespace Go.Eng
theorem RunsF.drop {F:Blk→Prop} {P:Program} {f:FuncId} {args:List Value} {bs:List Blk} {k:Nat} {v:List Nat→Value} {o nw:List Nat→List (Option Blk)} (h:RunsF F P f args bs k v (fun ns=>o ns ++ nw ns)):RunsF F P f args bs k v o:=fun w hb ha hF =>
  Calls.mono (h w hb ha hF) fun e w' ⟨ns,h1,h2,hp⟩=>by
    have hs:∀ p b,lM (o ns) p=some b→lM (o ns ++ nw ns) p=some b:=fun p b h=>by
      have hl:p < (o ns).length:=(List.getElem?_eq_some_iff.1 (show(o ns)[p]? = some (some b) by
        unfold lM at h
        cases h3:(o ns)[p]? with
        | none=>rw [h3] at h; cases h
        | some x=>rw [h3] at h; simp at h; rw [h])).1
      rw [listMem_left hl]; exact h
    exact⟨ns,h1,h2,⟨fun p b h=>hp.holds p b (hs p b h),fun p q b c hpq hb hc=>hp.apart p q b c hpq (hs p b hb) (hs q c hc),hp.adv.weak hs⟩⟩
theorem RunsF.name1 {F:Blk→Prop} {P:Program} {f:FuncId} {args:List Value} {bs:List Blk} {v:Value} {o:List (Option Blk)} (h:RunsF F P f args bs 0 (fun _=>v) (fun _=>o)):RunsF F P f args bs 1 (fun _=>v) (fun _=>o):=fun w hb ha hF =>
  Calls.mono (h w hb ha hF) fun e w' ⟨ns,h1,h2,hp⟩=>⟨[0],rfl,h2,hp⟩
theorem spr_as {c n:Nat} {f g:Nat→Value} {z:Value} (h:∀ k,k < n→f k=g k):spr c n f z=spr c n g z:=by
  unfold spr
  congr 1
  funext k
  by_cases hk:k < n
  · rw [if_pos hk,if_pos hk,h k hk]
  · rw [if_neg hk,if_neg hk]
end Go.Eng
end
section
namespace Go.Eng
structure Grw (α:Type) where
  z:Bool
  nm:Nat
  n:Nat
  r:Nat
  f:Nat→α
def grO {α:Type} (K:α→Value) (zv:Value) (A:Grw α):Option Blk:=match A.z with
  | true=>none
  | false=>some ⟨A.nm,true,0,spr (A.n+A.r) A.n (fun k=>K (A.f k)) zv⟩
section
variable {α:Type} {K:α→Value} {zv:Value} {A:Grw α}
theorem grO_own (h:A.z=false):grO K zv A=some ⟨A.nm,true,0,spr (A.n+A.r) A.n (fun k=>K (A.f k)) zv⟩:=by unfold grO; rw [h]
end
section
variable {P:Program} {t ty e:TypeId}
theorem srun_append_none {sz : Nat} (ht : P.underlying t = some (.slice e)) (hs : sizeB P e = some sz) (a : Option Addr) (n c : Nat) (hn : n ≤ c) (al : Option Addr) (cl : Nat) :
    SRuns P (appendSem t ty (.slice a n c) (.slice al 0 cl)) [] 0 (fun _=>.slice a n c) (fun _=>[]):=by
  intro w hall ha
  obtain⟨i,hi,hi2⟩:∃ i,P.info? e=some i∧i.size=sz:=by
    unfold sizeB at hs
    cases h:P.info? e with
    | none=>simp [h] at hs
    | some i=>simp [h] at hs; exact⟨i,rfl,hs⟩
  refine⟨[],w,rfl,.inl (run_value ?_),Post.refl (fun p c h=>by cases h) ha⟩
  have hn':¬ c < n:=by omega
  cases al <;> cases a <;> simp [Builtin.append_,run_underlying ht,sizeOf,typeInfo,hi,hn',Builtin.lenOf,Builtin.firstCells,storeCells,loadCells,loadCellsFrom]
end
end Go.Eng
namespace Go.Eng
theorem srun_append_noneM {P : Program} {t ty e : TypeId} {sz : Nat} (ht : P.underlying t = some (.slice e)) (hs : sizeB P e = some sz) (a : Option Addr) (n c : Nat) (hn : n ≤ c) (al : Option Addr) (m cl : Nat) (hm : m = 0) :
    SRuns P (appendSem t ty (.slice a n c) (.slice al m cl)) [] 0 (fun _=>.slice a n c) (fun _=>[]):=by
  subst hm; exact srun_append_none ht hs a n c hn al cl
section
variable {P:Program} {t ty e:TypeId}
end
end Go.Eng
end
section
namespace Go.Eng
open Go.RowKit Go.WideShapes Go.ChangeShapes Go.ChangeAt Go.Deep
theorem N4.a_of_lt {q:N4} (h:q.val < 2 ^ 64):q.a.toNat=q.val:=by
  have hb:=q.b.toNat_lt
  unfold N4.val at h ⊢
  omega
section
variable {n:Nat} {w:Nat→UInt64} {pot:UInt64}
end
end Go.Eng
end
section
namespace Go.Eng
open Go.RowKit Go.WideShapes Go.ChangeShapes Go.ChangeAt Go.Deep
end Go.Eng
end
section
namespace Go.Proofs.YtmdpendnbkajdaaDoor
open Go Go.Eng
theorem one30:OneC Tryd.prog 30 (u64 0) 8:=oneC_of (by kernel_rfl) rfl
def total_runs_S1 (p:Nat) (o:Nat) (n:Nat) (c:Nat) (f:Nat→UInt64) (n1:Nat) (n2:Nat) (x1:Nat × N4):St:=⟨[(2,.v (ptr n1 0)),(3,.v (ptr n2 0)),(6,.v (Value.slice (some ⟨p,o,none⟩) n c)),(7,.v (nat n)),(8,.v (nat x1.1))],[(0,some ⟨p,false,o,(tabF n (fun k=>u64 (f k)))⟩),(1,some ⟨n1,true,0,(.lit [(u64 0),(u64 0),(u64 0),(u64 0)])⟩),(2,some ⟨n2,true,0,(.lit [(u64 x1.2.a),(u64 x1.2.b),(u64 x1.2.c),(u64 x1.2.d)])⟩)],3⟩
def total_runs_R1 (p:Nat) (o:Nat) (n:Nat) (c:Nat) (f:Nat→UInt64) (n1:Nat) (n2:Nat) (x1:Nat × N4):Prop:=(x1.1≤n)∧(x1.2=totN f x1.1)
def total_runs_mu1 (p:Nat) (o:Nat) (n:Nat) (c:Nat) (f:Nat→UInt64) (n1:Nat) (n2:Nat) (x1:Nat × N4):Nat:=n - x1.1
theorem total_runs (p o n c:Nat) (f:Nat→UInt64) (hn:n≤9223372036854775807):Runs Tryd.prog 26 [(Value.slice (some ⟨p,o,none⟩) n c)] [⟨p,false,o,(tabF n (fun k=>u64 (f k)))⟩] 0 (fun _=>nat4 (totN f n)) (fun _=>[some ⟨p,false,o,(tabF n (fun k=>u64 (f k)))⟩]) :=
  runs_of_ev mix Tryd.func26 rfl rfl 400 (.regn (rg [.new]) (more (fun n1=>fun _=>(.regn (rg [.new]) (more (fun n2=>fun _=>(.reg (rg [.g,(.as (nat n)),.g]) (.inv [2,3,6,7,8] [0,1,2] 3 (total_runs_R1 p o n c f n1 n2) (total_runs_S1 p o n c f n1 n2) (total_runs_mu1 p o n c f n1 n2) ((0,(N4.mk 0 0 0 0)):Nat × N4) (fun(x1:Nat × N4)=>(.reg (rg [(.as (Value.bool (decide (x1.1 < n))))]) (.br (.reg (rg [(.as (ptr p (o+x1.1*1))),(.ld 0 (.tab x1.1 0)),.g]) (.reg (rg [(.ld 2 (.lit 0)),.g,(.call [] 0 0 (fun _=>(Value.agg #[(u64 (f x1.1)),(u64 0),(u64 0),(u64 0)])) (fun _=>[])),(.call [] 0 0 (fun _=>(Value.tuple #[(nat4 (add4 x1.2 (N4.mk (f x1.1) 0 0 0))),(u64 (b2u (add4c x1.2 (N4.mk (f x1.1) 0 0 0))))])) (fun _=>[])),.g,.g,.g,(.st 2 (.lit 0))]) (.reg (rg [(.as (nat (x1.1+1))),.g]) .done))) (.reg (rg [(.ld 2 (.lit 0)),(.st 1 (.lit 0))]) .done)))))))))))) [(1,0)] [] rfl
    (Eq.mp (by kernel_rfl) (fun(n1:Nat)=>aI kV1 (fun(n2:Nat)=>aI kV1 (aI (sk (aI (aT (@is_len Tryd.prog 22 30 (.tmp 6) (by kernel_rfl) (some ⟨p,o,none⟩) n c)) kV1)) (aI (show(total_runs_R1 p o n c f n1 n2) ((0,(N4.mk 0 0 0 0)):Nat × N4) from(show(0≤n)∧((N4.mk 0 0 0 0)=totN f 0) from by exact⟨by omega,rfl⟩)) (aI (@rfl St ((total_runs_S1 p o n c f n1 n2) ((0,(N4.mk 0 0 0 0)):Nat × N4))) (fun(x1:Nat × N4) (hx1:(total_runs_R1 p o n c f n1 n2) x1)=>have B0:x1.1≤n:=hx1.1; have B1:x1.2=totN f x1.1:=hx1.2; aI (aI (aT (@is_lssn Tryd.prog 3 3 (.tmp 8) (.tmp 7)  x1.1 n)) tV) (aT (aI (fun(h1:(decide (x1.1 < n))=true)=>have f3:=(oT h1); aI (aI (aT (@is_ixSl Tryd.prog 22 30 (.tmp 6) (.tmp 8) 1 (by kernel_rfl) (by kernel_rfl) p o n c x1.1 (show x1.1 < n from by omega))) (aI (aT (aI (show x1.1 < n from by omega) (@rfl Value (ptr p (o+x1.1*1))))) kV1)) (aI (aI (aT (ad n2 0)) (sk (aI (aT (small_pure (f x1.1))) (aI (aT (add_pure x1.2 (N4.mk (f x1.1) 0 0 0))) (sK3 (aI (aT (ad n2 0)) tV)))))) (aI (aI (aT (@is_addn Tryd.prog 3 3 (.tmp 8) (.const (.int .i64 1))  x1.1 1 (show x1.1+1≤9223372036854775807 from by omega))) kV1) ((rnd (total_runs_R1 p o n c f n1 n2) (total_runs_S1 p o n c f n1 n2) (total_runs_mu1 p o n c f n1 n2) x1 ((x1.1+1,(add4 x1.2 (N4.mk (f x1.1) 0 0 0))):Nat × N4) (show(total_runs_R1 p o n c f n1 n2) ((x1.1+1,(add4 x1.2 (N4.mk (f x1.1) 0 0 0))):Nat × N4)∧(total_runs_mu1 p o n c f n1 n2) ((x1.1+1,(add4 x1.2 (N4.mk (f x1.1) 0 0 0))):Nat × N4) < (total_runs_mu1 p o n c f n1 n2) x1 from(show(((x1.1+1)≤n)∧((add4 x1.2 (N4.mk (f x1.1) 0 0 0))=totN f (x1.1+1)))∧(n - (x1.1+1)) < (n - x1.1) from by exact⟨⟨by omega,by rw [B1] <;> rfl⟩,by omega⟩))))))) (fun(h1:(decide (x1.1 < n))=false)=>have f3:=(oF h1); aI (aI (aT (ad n2 0)) (aI (aT (ad n1 0)) tV)) (aI (aI (@rfl Value (ptr n1 0)) tV) (eX (fun(ns:List Nat)=>ns.length=0∧((nat4 x1.2):Value)=(fun _=>nat4 (totN f n)) ns∧([some ⟨p,false,o,(tabF n (fun k=>u64 (f k)))⟩]:List (Option Blk))=(fun _=>[some ⟨p,false,o,(tabF n (fun k=>u64 (f k)))⟩]) ns) [] (aI (@rfl Nat 0) (aI ((show(nat4 x1.2)=nat4 (totN f n) from by have e:x1.1=n:=(by omega); rw [e] at B1; rw [← B1] <;> rfl)) (@rfl (List (Option Blk)) [some ⟨p,false,o,(tabF n (fun k=>u64 (f k)))⟩])))))))))))))))
theorem clone_raw (p o n c:Nat) (f:Nat→UInt64) (hn:0 < n∧n≤40):Runs Tryd.prog 16 [(Value.slice (some ⟨p,o,none⟩) n c)] [⟨p,false,o,(tabF n (fun k=>u64 (f k)))⟩] 2 (fun(ns:List Nat)=>(Value.slice (some ⟨(ns.getD 0 0),0,none⟩) (0+n) (0+n+(ns.getD 1 0)))) (fun(ns:List Nat)=>[some ⟨p,false,o,(tabF n (fun k=>u64 (f k)))⟩,some ⟨(ns.getD 0 0),true,0,(spr (0+n+(ns.getD 1 0)) (0+n) (fun k=>u64 (catU (fun _=>0) 0 f k)) (u64 0))⟩]) :=
  runs_of_ev mix Tryd.func16 rfl rfl 400 (.reg (rg [.g]) (.reg (rg [.g,.g]) (.no (.regn (rg [(.oth [] 1 1 (fun ns=>Value.slice (some ⟨ns.getD 0 0,0,none⟩) 0 0) (fun ns=>[some ⟨ns.getD 0 0,true,0,(spr (0+0) 0 (fun k=>u64 ((fun _=>0) k)) (u64 0))⟩])),.g,(.oth [(1,false),(0,true)] 2 0 (fun ns=>Value.slice (some ⟨(ns.getD 0 0),0,none⟩) (0+n) (0+n+(ns.getD 1 0))) (fun ns=>[some ⟨(ns.getD 0 0),true,0,(spr (0+n+(ns.getD 1 0)) (0+n) (fun k=>u64 (catU (fun _=>0) 0 f k)) (u64 0))⟩,none])),.g]) (more (fun n1=>more (fun n2=>more (fun n3=>fun _=>.done)))))))) [] [1] rfl
    (Eq.mp (by kernel_rfl) (aI kV1 (aI kV2 (aT (aI (@rfl Bool false) (fun(n1 n2 n3:Nat)=>aI (aI (aT (mk_build0 (P:=Tryd.prog) (t:=22) (e:=30) (by kernel_rfl) one30 u64 (fun _=>0))) (sk (aI (aT (SRuns.dark [false,true] (mk_append (P:=Tryd.prog) (t:=22) (ty:=22) (e:=30) (by kernel_rfl) one30 n1 0 0 p o 0 n c u64 (fun _=>0) f (tabF n (fun k=>u64 (f k))) (fun j hj=>by rw [Nat.zero_add]; exact tabF_in hj) (fun _=>rfl) (show(0+n)*8≤140737488355328∧0+n≤9223372036854775807 from by omega)))) kV1))) (aT (eX (fun(ns:List Nat)=>ns.length=2∧((Value.slice (some ⟨n2,0,none⟩) (0+n) (0+n+n3)):Value)=(fun(ns:List Nat)=>(Value.slice (some ⟨(ns.getD 0 0),0,none⟩) (0+n) (0+n+(ns.getD 1 0)))) ns∧([some ⟨p,false,o,(tabF n (fun k=>u64 (f k)))⟩,some ⟨n2,true,0,(spr (0+n+n3) (0+n) (fun k=>u64 (catU (fun _=>0) 0 f k)) (u64 0))⟩]:List (Option Blk))=(fun(ns:List Nat)=>[some ⟨p,false,o,(tabF n (fun k=>u64 (f k)))⟩,some ⟨(ns.getD 0 0),true,0,(spr (0+n+(ns.getD 1 0)) (0+n) (fun k=>u64 (catU (fun _=>0) 0 f k)) (u64 0))⟩]) ns) [n2,n3] (aI (@rfl Nat 2) (aI (@rfl Value (Value.slice (some ⟨n2,0,none⟩) (0+n) (0+n+n3))) (@rfl (List (Option Blk)) [some ⟨p,false,o,(tabF n (fun k=>u64 (f k)))⟩,some ⟨n2,true,0,(spr (0+n+n3) (0+n) (fun k=>u64 (catU (fun _=>0) 0 f k)) (u64 0))⟩])))))))))))
theorem uclone_runs (p o n c:Nat) (f:Nat→UInt64) (hn:0 < n∧n≤40):Runs Tryd.prog 16 [.slice (some ⟨p,o,none⟩) n c] [⟨p,false,o,tabF n fun k=>u64 (f k)⟩] 2 (fun ns=>.slice (some ⟨ns.getD 0 0,0,none⟩) n (n+ns.getD 1 0)) (fun ns=>[some ⟨p,false,o,tabF n fun k=>u64 (f k)⟩,some ⟨ns.getD 0 0,true,0,tabF n fun k=>u64 (f k)⟩]):=by
  have h:=clone_raw p o n c f hn
  simp only [Nat.zero_add] at h
  exact h.weak fun ns q x hq=>by
    rcases q with _ | _ | q
    · cases hq; exact⟨_,rfl,rfl,rfl,rfl,fun _=>rfl,.inl rfl⟩
    · cases hq; exact⟨_,rfl,rfl,rfl,rfl,(fun h=>by cases h),.inr ⟨rfl,rfl,to_noroomK (g:=f) (g':=catU (fun _=>0) 0 f) (by omega) fun k _=>rfl⟩⟩
    · simp [lM] at hq
end Go.Proofs.YtmdpendnbkajdaaDoor
end
section
namespace Go.Eng
theorem Post.conv {m m' n n' : Nat → Option Blk} {w w' : World} (hp : Post m w m' w') (h0 : ∀ k, Owns m k → Owns n k) (π : Nat → Nat)
    (hπ:∀ p q b c,n' p=some b→n' q=some c→π p=π q→p=q)
    (h2:∀ p b,n' p=some b→b.own=true∧∃ b',m' (π p)=some b'∧(∀ k,b.has k→b'.has k)∧b'.own=true∧∀ w,Holds b' w→Holds b w):Post n w n' w' where
  holds p b hb:=by obtain⟨_,b',h3,_,_,h6⟩:=h2 p b hb; exact h6 _ (hp.holds _ _ h3)
  apart p q b c hpq hb hc ho:=by
    obtain⟨_,b',h3,h4,h5,_⟩:=h2 p b hb
    obtain⟨_,c',k3,k4,k5,_⟩:=h2 q c hc
    exact fun k l1 l2=>hp.apart _ _ b' c' (fun e=>hpq (hπ p q b c hb hc e)) h3 k3 h5 k (h4 k l1) (k4 k l2)
  adv := ⟨hp.adv.os, hp.adv.output, hp.adv.tape, hp.adv.size, fun k hk hn => hp.adv.heap k hk fun ho => hn (h0 k ho), fun k ⟨p, b, hb, ho, hk⟩ => by
      obtain⟨_,b',h3,h4,h5,_⟩:=h2 p b hb
      rcases hp.adv.names k ⟨π p,b',h3,h5,h4 k hk⟩ with h6 | h6
      · exact .inl (h0 k h6)
      · exact .inr h6,fun p b hb ho=>by
      have:=(h2 p b hb).1
      rw [ho] at this; cases this⟩
structure Suf (bs bs':List (Option Blk)) (ρ:Nat→Nat):Prop where
  inj:∀ p q b c,lM bs p=some b→lM bs q=some c→ρ p=ρ q→p=q
  sub:∀ p b,lM bs p=some b→∃ b',lM bs' (ρ p)=some b'∧(∀ k,b.has k→b'.has k)∧b'.own=b.own∧∀ w,Holds b' w→Holds b w
theorem Suf.owns {bs bs':List (Option Blk)} {ρ:Nat→Nat} (h:Suf bs bs' ρ) (k:Nat):Owns (lM bs) k→Owns (lM bs') k:=fun⟨p,b,hb,ho,hk⟩=>by
  obtain⟨b',h1,h2,h3,_⟩:=h.sub p b hb
  exact⟨ρ p,b',h1,by rw [h3,ho],h2 k hk⟩
theorem Suf.holds {bs bs':List (Option Blk)} {ρ:Nat→Nat} (h:Suf bs bs' ρ) {w:World} (hm:∀ p b,lM bs' p=some b→Holds b w):∀ p b,lM bs p=some b→Holds b w:=fun p b hb=>by
  obtain⟨b',h1,_,_,h4⟩:=h.sub p b hb
  exact h4 w (hm _ _ h1)
theorem Suf.apart {bs bs':List (Option Blk)} {ρ:Nat→Nat} (h:Suf bs bs' ρ) (ha:Apart (lM bs')):Apart (lM bs):=fun p q b c hpq hb hc ho=>by
  obtain⟨b',h1,h2,h3,_⟩:=h.sub p b hb
  obtain⟨c',k1,k2,k3,_⟩:=h.sub q c hc
  exact fun k l1 l2=>ha _ _ b' c' (fun e=>hpq (h.inj p q b c hb hc e)) h1 k1 (by rw [h3,ho]) k (h2 k l1) (k2 k l2)
theorem Suf.fam {F:Blk→Prop} {bs bs':List (Option Blk)} {ρ:Nat→Nat} (h:Suf bs bs' ρ) {w:World} (hF:Fam F (lM bs') w):Fam F (lM bs) w:=fun b hb=>by
  obtain⟨h1,h2,h3⟩:=hF b hb
  exact⟨h1,h2,fun k hk ho=>h3 k hk (h.owns _ ho)⟩
def Leaves (out out':List (Option Blk)) (π:Nat→Nat):Prop :=
  (∀ p q b c,lM out' p=some b→lM out' q=some c→π p=π q→p=q) ∧
  ∀ p b,lM out' p=some b→b.own=true∧∃ b',lM out (π p)=some b'∧(∀ k,b.has k→b'.has k)∧b'.own=true∧∀ w,Holds b' w→Holds b w
theorem SRunsO.conv {P : Program} {s : Sem Next} {bs bs' : List (Option Blk)} {k k' : Nat} {v v' : List Nat → Value} {out out' : List Nat → List (Option Blk)} (h : SRunsO P s bs k v out)
    (ρ:Nat→Nat) (h1:Suf bs bs' ρ) (π:Nat→Nat) (σ:List Nat→List Nat) (hσ:∀ ns,ns.length=k→(σ ns).length=k'∧v' (σ ns)=v ns∧Leaves (out ns) (out' (σ ns)) π):SRunsO P s bs' k' v' out':=by
  intro w hm ha
  obtain⟨ns,w',hns,he,hp⟩:=h w (h1.holds hm) (h1.apart ha)
  obtain⟨h3,h4,h5,h6⟩:=hσ ns hns
  exact⟨σ ns,w',h3,by rw [h4]; exact he,hp.conv h1.owns π h5 h6⟩
theorem RunsF.toO {F:Blk→Prop} {P:Program} {f:FuncId} {args:List Value} {bs:List Blk} {k:Nat} {v:List Nat→Value} {out:List Nat→List (Option Blk)} (h:RunsF F P f args bs k v out):RunsO F P f args (bs.map some) k v out :=
  fun w hm ha hF=>h w (fun b hb=>by obtain⟨i,hi⟩:=List.getElem?_of_mem hb; exact hm i b (listMem_some.2 hi)) ha hF
theorem Runs.toO {F:Blk→Prop} {P:Program} {f:FuncId} {args:List Value} {bs:List Blk} {k:Nat} {v:List Nat→Value} {out:List Nat→List (Option Blk)} (h:Runs P f args bs k v out):RunsO F P f args (bs.map some) k v out:=h.toF.toO
theorem SRuns.toO {P:Program} {s:Sem Next} {bs:List Blk} {k:Nat} {v:List Nat→Value} {out:List Nat→List (Option Blk)} (h:SRuns P s bs k v out):SRunsO P s (bs.map some) k v out :=
  fun w hm ha=>h w (fun b hb=>by obtain⟨i,hi⟩:=List.getElem?_of_mem hb; exact hm i b (listMem_some.2 hi)) ha
theorem RunsO.toF {F:Blk→Prop} {P:Program} {f:FuncId} {args:List Value} {bs:List Blk} {k:Nat} {v:List Nat→Value} {out:List Nat→List (Option Blk)} (h:RunsO F P f args (bs.map some) k v out):RunsF F P f args bs k v out :=
  fun w hm ha hF=>h w (fun i b hb=>hm b (List.mem_of_getElem? (listMem_some.1 hb))) ha hF
theorem lm0 {o:Option Blk} {r:List (Option Blk)}:lM (o :: r) 0=o:=rfl
theorem lm1 {o:Option Blk} {r:List (Option Blk)} (p:Nat):lM (o :: r) (p+1)=lM r p:=by simp [lM]
theorem lmN (p:Nat):lM ([]:List (Option Blk)) p=none:=by simp [lM]
inductive Sub:List (Option Blk)→List (Option Blk)→Prop where
  | zz (l:List (Option Blk)):Sub [] l
  | dr {l l':List (Option Blk)} (o:Option Blk):Sub l l'→Sub (none :: l) (o :: l')
  | kp {l l':List (Option Blk)} (b b':Blk) (h:(∀ k,b.has k→b'.has k)∧b'.own=b.own∧∀ w,Holds b' w→Holds b w):Sub l l'→Sub (some b :: l) (some b' :: l')
  | gp {l l':List (Option Blk)} (o:Option Blk):Sub l l'→Sub l (o :: l')
  | dn {l l':List (Option Blk)}:Sub l l'→Sub (none :: l) l'
theorem Sub.at {l l':List (Option Blk)} (h:Sub l l'):∃ ρ,Suf l l' ρ:=by
  induction h with
  | zz l=>exact⟨id,⟨fun p q b c hb=>(by rw [lmN] at hb; cases hb),fun p b hb=>(by rw [lmN] at hb; cases hb)⟩⟩
  | @dr l l' o _ ih =>
    obtain⟨ρ,h1,h2⟩:=ih
    refine⟨fun p=>match p with | 0=>0 | p+1=>ρ p+1,⟨fun p q b c hb hc e=>?_,fun p b hb=>?_⟩⟩
    · cases p with
      | zero=>cases hb
      | succ p=>cases q with
        | zero=>cases hc
        | succ q=>rw [lm1] at hb hc; simp only at e; have:=h1 p q b c hb hc (by omega); omega
    · cases p with
      | zero=>cases hb
      | succ p=>rw [lm1] at hb; simp only [lm1]; exact h2 p b hb
  | @kp l l' b0 b0' h0 _ ih =>
    obtain⟨ρ,h1,h2⟩:=ih
    refine⟨fun p=>match p with | 0=>0 | p+1=>ρ p+1,⟨fun p q b c hb hc e=>?_,fun p b hb=>?_⟩⟩
    · cases p with
      | zero=>cases q with
        | zero=>rfl
        | succ q=>simp only at e; omega
      | succ p=>cases q with
        | zero=>simp only at e; omega
        | succ q=>rw [lm1] at hb hc; simp only at e; have:=h1 p q b c hb hc (by omega); omega
    · cases p with
      | zero=>rw [lm0] at hb; injection hb with hb; subst hb; exact⟨b0',rfl,h0⟩
      | succ p=>rw [lm1] at hb; simp only [lm1]; exact h2 p b hb
  | dn _ ih =>
    obtain⟨ρ,h1,h2⟩:=ih
    refine⟨fun p=>match p with | 0=>0 | p+1=>ρ p,⟨fun p q b c hb hc e=>?_,fun p b hb=>?_⟩⟩
    · cases p with
      | zero=>cases hb
      | succ p=>cases q with
        | zero=>cases hc
        | succ q=>rw [lm1] at hb hc; simp only at e; have:=h1 p q b c hb hc e; omega
    · cases p with
      | zero=>cases hb
      | succ p=>rw [lm1] at hb; simp only; exact h2 p b hb
  | gp _ _ ih =>
    obtain⟨ρ,h1,h2⟩:=ih
    exact⟨fun p=>ρ p+1,⟨fun p q b c hb hc e=>h1 p q b c hb hc (by omega),fun p b hb=>by simp only [lm1]; exact h2 p b hb⟩⟩
def ownL:List (Option Blk)→Prop
  | []=>True
  | none :: r=>ownL r
  | some b :: r=>b.own=true∧ownL r
theorem ownL_at:∀ {l:List (Option Blk)},ownL l→∀ p b,lM l p=some b→b.own=true
  | [],_,p,b,hb=>by rw [lmN] at hb; cases hb
  | none :: r,h,0,b,hb=>by cases hb
  | some c :: r,h,0,b,hb=>by rw [lm0] at hb; injection hb with hb; subst hb; exact h.1
  | none :: r,h,p+1,b,hb=>by rw [lm1] at hb; exact ownL_at (l:=r) h p b hb
  | some c :: r,h,p+1,b,hb=>by rw [lm1] at hb; exact ownL_at h.2 p b hb
theorem Sub.leaves {l l':List (Option Blk)} (h:Sub l' l) (ho:ownL l'):∃ π,Leaves l l' π:=by
  obtain⟨ρ,h1,h2⟩:=h.at
  refine⟨ρ,h1,fun p b hb=>?_⟩
  have hown:=ownL_at ho p b hb
  obtain⟨b',k1,k2,k3,k4⟩:=h2 p b hb
  exact⟨hown,b',k1,k2,by rw [k3,hown],k4⟩
theorem RunsO.as {F : Blk → Prop} {P : Program} {f : FuncId} {args : List Value} {bs bs' : List (Option Blk)} {k k' : Nat} {v v' : List Nat → Value} {out out' : List Nat → List (Option Blk)} (h : RunsO F P f args bs k v out)
    (h1:Sub bs bs') (σ:List Nat→List Nat) (hσ:∀ ns,ns.length=k→(σ ns).length=k'∧v' (σ ns)=v ns∧Sub (out' (σ ns)) (out ns)∧ownL (out' (σ ns))):RunsO F P f args bs' k' v' out':=by
  obtain⟨ρ,hρ⟩:=h1.at
  intro w hm ha hF
  refine Calls.mono (h w (hρ.holds hm) (hρ.apart ha) (hρ.fam hF)) ?_
  rintro e w' ⟨ns,hns,he,hp⟩
  obtain⟨h3,h4,h5,h6⟩:=hσ ns hns
  obtain⟨π,h7,h8⟩:=h5.leaves h6
  exact⟨σ ns,h3,by rw [h4,he],hp.conv hρ.owns π h7 h8⟩
theorem SRunsO.as {P : Program} {s : Sem Next} {bs bs' : List (Option Blk)} {k k' : Nat} {v v' : List Nat → Value} {out out' : List Nat → List (Option Blk)} (h : SRunsO P s bs k v out)
    (h1:Sub bs bs') (σ:List Nat→List Nat) (hσ:∀ ns,ns.length=k→(σ ns).length=k'∧v' (σ ns)=v ns∧Sub (out' (σ ns)) (out ns)∧ownL (out' (σ ns))):SRunsO P s bs' k' v' out':=by
  obtain⟨ρ,hρ⟩:=h1.at
  intro w hm ha
  obtain⟨ns,w',hns,he,hp⟩:=h w (hρ.holds hm) (hρ.apart ha)
  obtain⟨h3,h4,h5,h6⟩:=hσ ns hns
  obtain⟨π,h7,h8⟩:=h5.leaves h6
  exact⟨σ ns,w',h3,by rw [h4]; exact he,hp.conv hρ.owns π h7 h8⟩
theorem Sub.refl:∀ (l:List (Option Blk)),Sub l l
  | []=>.zz _
  | none :: r=>.dr _ (Sub.refl r)
  | some b :: r=>.kp b b ⟨fun _ h=>h,rfl,fun _ h=>h⟩ (Sub.refl r)
theorem Sub.cons {l l':List (Option Blk)} (o:Option Blk) (h:Sub l l'):Sub (o :: l) (o :: l'):=match o with
  | none=>.dr _ h
  | some b=>.kp b b ⟨fun _ h=>h,rfl,fun _ h=>h⟩ h
theorem Holds.retab {b:Blk} {c:Cont} (hnm:c.isMap=false) (hbm:b.cont.isMap=false) (hc:∀ o v,c.get o=some v→b.cont.get o=some v):(∀ k,Blk.has { b with cont:=c } k→b.has k)∧b.own=b.own∧∀ w,Holds b w→Holds { b with cont:=c } w :=
  ⟨fun k hk=>(has_not hbm).2 ((has_not (b:={ b with cont:=c }) hnm).1 hk),rfl,fun _ h=>h.recont hnm hc⟩
theorem RunsO.mono {F F':Blk→Prop} {P:Program} {f:FuncId} {args:List Value} {bs:List (Option Blk)} {k:Nat} {v:List Nat→Value} {out:List Nat→List (Option Blk)} (hs:∀ b,F b→F' b) (h:RunsO F P f args bs k v out):RunsO F' P f args bs k v out :=
  fun w hm ha hF=>h w hm ha fun b hb=>hF b (hs b hb)
theorem RunsO.frame {F : Blk → Prop} {P : Program} {f : FuncId} {args : List Value} {bs : List (Option Blk)} {ps : List (Nat × Bool)} {k k' : Nat} {v v' : List Nat → Value} {out out' : List Nat → List (Option Blk)}
    (h:RunsO F P f args (lendO (lM bs) ps) k v out) (hn:nodupPs ps=true) (σ:List Nat→List Nat)
    (hσ:∀ ns,ns.length=k→(σ ns).length=k'∧v' (σ ns)=v ns∧ps.length≤(out ns).length∧∀ p b,lM (out' (σ ns)) p=some b→memApply (lM bs) (outUpd ps bs.length (out ns)) p=some b):RunsO F P f args bs k' v' out':=by
  intro w hm ha hF
  refine Calls.mono (h w (lendO_holds hm) (lendO_apart ha hn) (fam_lendO hF)) ?_
  rintro e w' ⟨ns,hns,he,hp⟩
  obtain⟨h1,h2,h3,h4⟩:=hσ ns hns
  exact⟨σ ns,h1,by rw [h2,he],(post_frameO hm ha h3 hp).sub h4⟩
theorem RunsO.reads {F : Blk → Prop} {P : Program} {f : FuncId} {args : List Value} {bs : List (Option Blk)} (ps : List (Nat × Bool)) {k : Nat} {v0 : Value} {out : List Nat → List (Option Blk)}
    (h:RunsO F P f args (lendO (lM bs) ps) 0 (fun _=>v0) out) (hn:nodupPs ps=true) (hr:ps.all (fun x=>x.2)=true):RunsO F P f args bs k (fun _=>v0) (fun _=>bs):=by
  have hout:∀ (qs:List (Nat × Bool)) (nx:Nat) (m:Nat),qs.all (fun x=>x.2)=true→outUpd qs nx (List.replicate qs.length none)=[]:=by
    intro qs
    induction qs with
    | nil=>intro nx m _; rfl
    | cons x r ih =>
      obtain⟨p,ro⟩:=x
      intro nx m hx
      simp only [List.all_cons,Bool.and_eq_true] at hx
      have:ro=true:=hx.1
      subst this
      simp only [List.length_cons,List.replicate_succ,outUpd]
      exact ih nx m hx.2
  have h':RunsO F P f args (lendO (lM bs) ps) 0 (fun _=>v0) (fun _=>List.replicate ps.length none):=fun w hm ha hF=>Calls.mono (h w hm ha hF) fun e w' ⟨ns,h1,h2,h3⟩=>⟨ns,h1,h2,h3.sub fun p b hb=>by
    have:∀ (n p:Nat),lM (List.replicate n (none:Option Blk)) p=none:=fun n p=>by
      simp only [lM,List.getElem?_replicate]
      split <;> simp_all
    rw [this] at hb; cases hb⟩
  refine h'.frame hn (fun _=>List.replicate k 0) fun ns _=>⟨by simp,rfl,by simp,fun p b hb=>?_⟩
  rw [hout ps bs.length 0 hr]
  exact hb
section
variable {α:Type}
def gsA (A:Grw α):Option Addr:=match A.z with
  | true=>none
  | false=>some ⟨A.nm,0,none⟩
def gsC (A:Grw α):Nat:=match A.z with
  | true=>0
  | false=>A.n+A.r
def gsV (A:Grw α):Value:=.slice (gsA A) A.n (gsC A)
def gsE (C:α→List Value) (zc:List Value) (sz:Nat) (A:Grw α):Option Blk:=match A.z with
  | true=>none
  | false=>some ⟨A.nm,true,0,sprE sz (A.n+A.r) A.n (fun k=>C (A.f k)) zc⟩
def Grw.ok (A:Grw α):Prop:=A.z=true→A.n=0
def Grw.cat (A:Grw α) (m:Nat) (h:Nat→α) (nm r:Nat):Grw α:=⟨decide (m=0) && A.z,nm,A.n+m,r,catU A.f A.n h⟩
def gsOf (S:Nat) (F:Nat→α) (a r:Nat):Grw α:=⟨decide (S=0),a,S,r,F⟩
theorem gsOf_ok (S:Nat) (F:Nat→α) (a r:Nat):(gsOf S F a r).ok:=fun h=>of_decide_eq_true h
variable {A:Grw α} {C:α→List Value} {zc:List Value} {sz:Nat} {K:α→Value} {zv:Value}
theorem gsA_nil (h:A.z=true):gsA A=none:=by unfold gsA; rw [h]
theorem gsC_nil (h:A.z=true):gsC A=0:=by unfold gsC; rw [h]
theorem gsE_nil (h:A.z=true):gsE C zc sz A=none:=by unfold gsE; rw [h]
theorem gsA_own (h:A.z=false):gsA A=some ⟨A.nm,0,none⟩:=by unfold gsA; rw [h]
theorem gsC_own (h:A.z=false):gsC A=A.n+A.r:=by unfold gsC; rw [h]
theorem gsE_own (h:A.z=false):gsE C zc sz A=some ⟨A.nm,true,0,sprE sz (A.n+A.r) A.n (fun k=>C (A.f k)) zc⟩:=by unfold gsE; rw [h]
theorem gsV_nil (h:A.z=true) (hk:A.ok):gsV A = .slice none 0 0:=by unfold gsV; rw [gsA_nil h,gsC_nil h,hk h]
theorem gsV_own (h:A.z=false):gsV A = .slice (some ⟨A.nm,0,none⟩) A.n (A.n+A.r):=by unfold gsV; rw [gsA_own h,gsC_own h]
theorem Grw.ok.pos (hk:A.ok) (h:0 < A.n):A.z=false:=by
  cases hz:A.z with
  | false=>rfl
  | true=>have:=hk hz; omega
theorem sprE_row {c n:Nat} {f g:Nat→α} (hg:∀ k,k < n→f k=g k):sprE sz c n (fun k=>C (f k)) zc=sprE sz c n (fun k=>C (g k)) zc:=by
  unfold sprE
  congr 1; funext k
  by_cases h:k < n
  · rw [if_pos h,if_pos h]; show C (f k)=C (g k); rw [hg k h]
  · rw [if_neg h,if_neg h]
theorem gsE_row {A':Grw α} (h1:A'.z=A.z) (h2:A'.nm=A.nm) (h3:A'.n=A.n) (h4:A'.r=A.r) (h5:∀ k,k < A.n→A'.f k=A.f k):gsE C zc sz A'=gsE C zc sz A:=by
  obtain⟨z,nm,n,r,f⟩:=A; obtain⟨z',nm',n',r',f'⟩:=A'
  simp only at h1 h2 h3 h4 h5; subst h1; subst h2; subst h3; subst h4
  unfold gsE
  cases z' <;> simp only [sprE_row h5]
structure Prt (α:Type) where
  wa:Option Addr
  n:Nat
  c:Nat
  nm:Nat
  o:Nat
  f:Nat→α
def Prt.ok (D:Prt α):Prop:=(0 < D.n→D.wa=some ⟨D.nm,D.o,none⟩)∧D.n≤D.c
theorem gsE_ownL {r:List (Option Blk)} (h:ownL r):ownL (gsE C zc sz A :: r):=by
  unfold gsE
  cases A.z with
  | true=>exact h
  | false=>exact⟨rfl,h⟩
section
variable {P:Program} {t ty e:TypeId} {B:Nat}
theorem sizeB_agg (h1:AggC P e zc sz B):sizeB P e=some sz:=by
  obtain⟨i,z,hi,_,hsz,_⟩:=h1
  simp [sizeB,hi,hsz]
theorem mkG_catE (ht : P.underlying t = some (.slice e)) (h1 : AggC P e zc sz B) (A : Grw α) (hA : A.ok) (hC : ∀ a, (C a).length = sz ∧ (C a).all Value.oneCell' = true) (h : Nat → α) (m : Nat) (adr : Option Addr) (cc : Nat) (ob : Option Blk)
    (hs:0 < m→∃ k bo os S,adr=some ⟨k,bo+os,none⟩∧ob=some ⟨k,false,bo,S⟩∧∀ j,j < m*sz→S.get (os+j)=some (cf sz (fun k=>C (h k)) j))
    (hb:(A.n+m)*B≤140737488355328∧A.n+m≤9223372036854775807) :
    SRunsO P (appendSem t ty (gsV A) (.slice adr m cc)) [gsE C zc sz A,ob] 2 (fun ns=>gsV (A.cat m h (ns.getD 0 0) (ns.getD 1 0))) (fun ns=>[gsE C zc sz (A.cat m h (ns.getD 0 0) (ns.getD 1 0)),none]):=by
  rcases Nat.eq_zero_or_pos m with hm | hm
  · subst hm
    have hcap:A.n≤gsC A:=by
      unfold gsC; cases hz:A.z with
      | true=>rw [hA hz]; exact Nat.zero_le _
      | false=>simp only; omega
    have key:=(srun_append_noneM (P:=P) (t:=t) (ty:=ty) ht (sizeB_agg h1) (gsA A) A.n (gsC A) hcap adr 0 cc rfl).toO
    intro w hm ha
    obtain⟨ns,w',hns,he,hp⟩:=key w (fun p b hb=>by cases p <;> cases hb) (fun p q b c _ hb=>by cases p <;> cases hb)
    refine⟨[A.nm,A.r],w',rfl,?_,?_⟩
    · have ec : A.cat 0 h A.nm A.r = ⟨A.z, A.nm, A.n, A.r, catU A.f A.n h⟩ := by
        unfold Grw.cat; rw [show(decide (0=0) && A.z)=A.z from by simp]; rfl
      have e:gsV (A.cat 0 h A.nm A.r) = .slice (gsA A) A.n (gsC A):=by rw [ec]; rfl
      show _∨_
      simp only [List.getD_cons_zero,List.getD_cons_succ,e]
      exact he
    · have e:gsE C zc sz (A.cat 0 h A.nm A.r)=gsE C zc sz A:=gsE_row (by simp [Grw.cat]) rfl rfl rfl fun k hk=>by simp [Grw.cat,catU,hk]
      simp only [List.getD_cons_zero,List.getD_cons_succ,e]
      have hnil:∀ p:Nat,lM (List.map some ([]:List Blk)) p=none:=fun p=>by simp [lM]
      have hadv:=hp.adv
      have hw:∀ k,k < w.heap.size→w'.heap[k]? = w.heap[k]?:=fun k hk=>hadv.heap k hk fun⟨p,b,hb,_⟩=>by rw [hnil] at hb; cases hb
      have hsub:∀ p b,lM [gsE C zc sz A,none] p=some b→p=0∧gsE C zc sz A=some b:=fun p b hb=>by
        rcases p with _ | _ | p
        · exact⟨rfl,hb⟩
        · cases hb
        · simp [lM] at hb
      refine⟨fun p b hb=>?_,fun p q b c hpq hb hc ho=>?_,⟨hadv.os,hadv.output,hadv.tape,hadv.size,fun k hk _=>hw k hk,fun k ⟨p,b,hb,ho,hk⟩=>?_,fun p b hb ho=>?_⟩⟩
      · obtain⟨rfl,h2⟩:=hsub p b hb
        have:=hm 0 b h2
        exact this.of_heap hadv.size fun k hk=>hw _ (this.has_lt hk)
      · obtain⟨rfl,_⟩:=hsub p b hb
        obtain⟨rfl,_⟩:=hsub q c hc
        exact absurd rfl hpq
      · obtain⟨rfl,h2⟩:=hsub p b hb
        exact .inl ⟨0,b,h2,ho,hk⟩
      · obtain⟨rfl,h2⟩:=hsub p b hb
        cases hz:A.z with
        | true=>rw [gsE_nil hz] at h2; cases h2
        | false=>rw [gsE_own hz] at h2; exact absurd (by injection h2 with h2; rw [← h2]) (show ¬ b.own=true from by rw [ho]; decide)
  · obtain⟨k,bo,os,S,rfl,rfl,hS⟩:=hs hm
    have hmz:decide (m=0)=false:=decide_eq_false (by omega)
    cases hz:A.z with
    | true =>
      have hn:=hA hz
      rw [gsV_nil hz hA,gsE_nil hz]
      have key:=(mkE_append_nil (P:=P) (t:=t) (ty:=ty) ht h1 k bo os m cc C hC h S hS ⟨hm,by rw [hn,Nat.zero_add] at hb; exact hb.1,by omega⟩).toO
      have e1:∀ ns:List Nat,gsV (A.cat m h (ns.getD 0 0) (ns.getD 1 0)) = .slice (some ⟨ns.getD 0 0,0,none⟩) m (m+ns.getD 1 0):=fun ns=>by
        rw [gsV_own (by simp [Grw.cat,hmz])]; simp only [Grw.cat,hn,Nat.zero_add]
      have e2:∀ ns:List Nat,gsE C zc sz (A.cat m h (ns.getD 0 0) (ns.getD 1 0))=some ⟨ns.getD 0 0,true,0,sprE sz (m+ns.getD 1 0) m (fun k=>C (h k)) zc⟩:=fun ns=>by
        rw [gsE_own (by simp [Grw.cat,hmz])]; simp only [Grw.cat,hn,Nat.zero_add]
        rw [sprE_row (g:=h) fun k _=>by simp [catU]]
      refine key.conv (fun p=>p+1) ⟨fun p q b c _ _ e=>Nat.succ.inj e,fun p b hb=>⟨b,by rw [lm1]; exact hb,fun _ h=>h,rfl,fun _ h=>h⟩⟩ (fun p=>p+1) id fun ns hns=>⟨hns,e1 ns,fun p q b c _ _ e=>Nat.succ.inj e,fun p b hb=>?_⟩
      rcases p with _ | _ | p
      · rw [lm0] at hb; simp only [id,e2] at hb; injection hb with hb; subst hb
        exact⟨rfl,_,rfl,fun _ h=>h,rfl,fun _ h=>h⟩
      · cases hb
      · simp [lM] at hb
    | false =>
      rw [gsV_own hz,gsE_own hz]
      have key:=(mkE_append (P:=P) (t:=t) (ty:=ty) ht h1 A.nm A.n A.r k bo os m cc C hC A.f h S hS hb).toO
      refine key.as (.refl _) id fun ns _=>⟨by assumption,?_,?_,?_⟩
      · show gsV _=_
        rw [gsV_own (by simp [Grw.cat,hmz])]; simp only [Grw.cat,id]
      · rw [gsE_own (by simp [Grw.cat,hmz])]
        simp only [Grw.cat,id]
        exact .kp _ _ ⟨fun _ h=>h,rfl,fun w hw=>hw⟩ (.dr _ (.zz _))
      · rw [gsE_own (by simp [Grw.cat,hmz])]; exact⟨rfl,trivial⟩
end
theorem gs_le (hA:A.ok):A.n≤gsC A:=by
  unfold gsC; cases hz:A.z with
  | true=>rw [hA hz]; exact Nat.zero_le _
  | false=>simp only; omega
end
section
variable {P:Program} {t ty e:TypeId}
end
section
end
theorem RunsO.darkO {F : Blk → Prop} {P : Program} {f : FuncId} {args : List Value} {bs : List (Option Blk)} {k : Nat} {v : List Nat → Value} {out : List Nat → List (Option Blk)} (fl : List Bool) (h : RunsO F P f args bs k v out) :
    RunsO F P f args bs k v (fun ns=>dkn fl (out ns)):=fun w hb ha hF=>Calls.mono (h w hb ha hF) fun _ _ ⟨ns,h1,h2,h3⟩=>⟨ns,h1,h2,h3.sub (dkn_sub fl (out ns))⟩
end Go.Eng
end
section
namespace Go.Eng
def lpB (q:Nat) (ow:Bool) (L:List (Nat × Piece)):Blk:=⟨q,ow,0,.pile L.length fun i=>L[i]?⟩
def lpO (q:Nat) (L:List (Nat × Piece)):Option Blk:=some (lpB q true L)
def blkP (ow:Bool) (x:Nat × Piece):Blk:=⟨x.1,ow,0,x.2.cont⟩
theorem blkP_has {ow:Bool} {x:Nat × Piece} {k:Nat}:(blkP ow x).has k ↔ x.1=k:=by
  obtain⟨n,pc⟩:=x
  cases pc with
  | row=>exact has_not rfl
  | obj es c=>exact has_map (es:=es) (c:=c) rfl
theorem lpB_has {q:Nat} {ow:Bool} {L:List (Nat × Piece)} {k:Nat}:(lpB q ow L).has k ↔ ∃ (i:Nat) (x:Nat × Piece),L[i]? = some x∧x.1=k:=by
  constructor
  · rintro⟨i,p,_,h⟩; exact⟨i,(k,p),h,rfl⟩
  · rintro⟨i,⟨n,p⟩,h,rfl⟩; exact⟨i,p,(List.getElem?_eq_some_iff.1 h).1,h⟩
theorem lpB_ok {q:Nat} {ow:Bool} {L:List (Nat × Piece)} {w:World} (h:Holds (lpB q ow L) w):(∀ i k p,i < L.length→L[i]? = some (k,p)→PieceOk k ow p w)∧InjP L.length (fun i=>L[i]?):=h.obj
theorem lpB_piece {q:Nat} {ow:Bool} {L:List (Nat × Piece)} {w:World} (h:Holds (lpB q ow L) w) {j:Nat} {x:Nat × Piece} (hj:L[j]? = some x):PieceOk x.1 ow x.2 w :=
  (lpB_ok h).1 j x.1 x.2 (List.getElem?_eq_some_iff.1 hj).1 hj
theorem lpB_inj {q:Nat} {ow:Bool} {L:List (Nat × Piece)} {w:World} (h:Holds (lpB q ow L) w) {i j:Nat} {x y:Nat × Piece} (hi:L[i]? = some x) (hj:L[j]? = some y) (e:x.1=y.1):i=j :=
  (lpB_ok h).2 i j x.1 x.2 y.2 (List.getElem?_eq_some_iff.1 hi).1 (List.getElem?_eq_some_iff.1 hj).1 hi (show L[j]? = some (x.1,y.2) by rw [hj,e])
theorem piece_blk {ow:Bool} {x:Nat × Piece} {w:World} (h:PieceOk x.1 ow x.2 w):Holds (blkP ow x) w where
  lt:=h.lt
  cell:=h.cell
  free:=h.free
  obj:=by
    have:=h.obj
    show x.2.cont.ObjOk x.1 ow w
    cases e:x.2 with
    | row=>exact obj_not rfl
    | obj es c=>exact this es c e
theorem blk_piece {ow:Bool} {x:Nat × Piece} {w:World} (h:Holds (blkP ow x) w):PieceOk x.1 ow x.2 w where
  lt:=h.lt
  cell:=h.cell
  free:=h.free
  obj es c e:=by
    have:=h.obj
    change x.2.cont.ObjOk x.1 ow w at this
    rw [e] at this; exact this
structure Foc (m m1:Nat→Option Blk) (p0:Nat) (X Y:Blk):Prop where
  x:m p0=some X
  y:m1 p0=some Y
  o:∀ p,p≠p0→m p=m1 p
theorem Foc.inn {m m1 : Nat → Option Blk} {p0 q j : Nat} {o1 o2 : Bool} {L : List (Nat × Piece)} {x : Nat × Piece} {w : World} (h : Foc m m1 p0 (blkP o1 x) (lpB q o2 L)) (hj : L[j]? = some x) (ho : o1 = true → o2 = true)
    (hm:∀ p b,m1 p=some b→Holds b w) (ha:Apart m1):(∀ p b,m p=some b→Holds b w)∧Apart m∧∀ k,Owns m k→Owns m1 k:=by
  have hY:=hm p0 _ h.y
  have hX:Holds (blkP o1 x) w:=by
    have:=piece_blk (lpB_piece hY hj)
    cases o1 with
    | true=>rw [ho rfl] at this; exact this
    | false=>exact this.ro
  have hx:∀ k,(blkP o1 x).has k→(lpB q o2 L).has k:=fun k hk=>lpB_has.2 ⟨j,x,hj,blkP_has.1 hk⟩
  refine⟨fun p b hb=>?_,fun p r b c hpr hb hc hown k hk1 hk2=>?_,fun k ⟨p,b,h1,h2,h3⟩=>?_⟩
  · by_cases e:p=p0
    · subst e; rw [h.x] at hb; injection hb with hb; subst hb; exact hX
    · rw [h.o p e] at hb; exact hm p b hb
  · by_cases e:p=p0
    · subst e
      rw [h.x] at hb; injection hb with hb; subst hb
      have e2:r≠p:=fun z=>hpr z.symm
      rw [h.o r e2] at hc
      exact ha p r _ c hpr h.y hc (ho hown) k (hx k hk1) hk2
    · rw [h.o p e] at hb
      by_cases e2:r=p0
      · subst e2
        rw [h.x] at hc; injection hc with hc; subst hc
        exact ha p r b _ hpr hb h.y hown k hk1 (hx k hk2)
      · rw [h.o r e2] at hc
        exact ha p r b c hpr hb hc hown k hk1 hk2
  · by_cases e:p=p0
    · subst e; rw [h.x] at h1; injection h1 with h1; subst h1
      exact⟨p,_,h.y,ho h2,hx k h3⟩
    · rw [h.o p e] at h1; exact⟨p,b,h1,h2,h3⟩
theorem Foc.rest {m m1 : Nat → Option Blk} {p0 q j : Nat} {o1 : Bool} {L : List (Nat × Piece)} {x : Nat × Piece} {w : World} (h : Foc m m1 p0 (blkP o1 x) (lpB q true L)) (hj : L[j]? = some x)
    (hY:Holds (lpB q true L) w) (ha:Apart m1) {i:Nat} {y:Nat × Piece} (hi:L[i]? = some y) (hij:o1=true→i≠j):¬ Owns m y.1:=fun⟨p,b,h1,h2,h3⟩=>by
  by_cases e:p=p0
  · subst e
    rw [h.x] at h1; injection h1 with h1; subst h1
    exact hij h2 (lpB_inj hY hi hj (blkP_has.1 h3).symm)
  · rw [h.o p e] at h1
    exact ha p0 p _ b (fun z=>e z.symm) h.y h1 rfl y.1 (lpB_has.2 ⟨i,y,hi,rfl⟩) h3
theorem lp_set {L:List (Nat × Piece)} {j k:Nat} {pc pc':Piece} (hj:L[j]? = some (k,pc)) (q:Nat) (ow:Bool) (n:Nat):(lpB q ow (L.set j (k,pc'))).has n ↔ (lpB q ow L).has n:=by
  have hlt:j < L.length:=(List.getElem?_eq_some_iff.1 hj).1
  rw [lpB_has,lpB_has]
  constructor
  · rintro⟨i,x,hi,rfl⟩
    rw [List.getElem?_set] at hi
    by_cases e:j=i
    · subst e; rw [if_pos rfl,if_pos hlt] at hi; injection hi with hi; subst hi; exact⟨j,_,hj,rfl⟩
    · rw [if_neg e] at hi; exact⟨i,x,hi,rfl⟩
  · rintro⟨i,x,hi,rfl⟩
    by_cases e:j=i
    · subst e; rw [hj] at hi; injection hi with hi; subst hi
      exact⟨j,(k,pc'),by rw [List.getElem?_set,if_pos rfl,if_pos hlt],rfl⟩
    · exact⟨i,x,by rw [List.getElem?_set,if_neg e]; exact hi,rfl⟩
theorem Foc.out {m m1 mo mo1 : Nat → Option Blk} {p0 q j k : Nat} {L : List (Nat × Piece)} {pc pc' : Piece} {w w' : World} (h : Foc m m1 p0 (blkP true (k, pc)) (lpB q true L)) (h' : Foc mo mo1 p0 (blkP true (k, pc')) (lpB q true (L.set j (k, pc')))) (hj : L[j]? = some (k, pc))
    (hm:∀ p b,m1 p=some b→Holds b w) (ha:Apart m1) (hp:Post m w mo w'):Post m1 w mo1 w':=by
  have hlt:j < L.length:=(List.getElem?_eq_some_iff.1 hj).1
  have hY:=hm p0 _ h.y
  obtain⟨_,_,hown⟩:=h.inn hj id hm ha
  have hX':=blk_piece (hp.holds p0 _ h'.x)
  have hrest:∀ (i:Nat) (y:Nat × Piece),L[i]? = some y→i≠j→¬ Owns m y.1:=fun i y hi hij=>h.rest hj hY ha hi fun _=>hij
  have hsep:∀ r c,r≠p0→mo r=some c→∀ n,(lpB q true L).has n→¬ c.has n:=fun r c hr hc n hn hcn=>by
    obtain⟨i,y,hi,rfl⟩:=lpB_has.1 hn
    by_cases e:i=j
    · subst e
      rw [hj] at hi; injection hi with hi; subst hi
      exact hp.apart p0 r _ c (fun z=>hr z.symm) h'.x hc rfl k (blkP_has.2 rfl) hcn
    · cases hco:c.own with
      | true =>
        rcases hp.adv.names y.1 ⟨r,c,hc,hco,hcn⟩ with h5 | h5
        · exact hrest i y hi e h5
        · have:=(lpB_piece hY hi).lt; omega
      | false =>
        have h5:=hp.adv.ro r c hc hco
        rw [h.o r hr] at h5
        exact ha p0 r _ c (fun z=>hr z.symm) h.y h5 rfl y.1 (lpB_has.2 ⟨i,y,hi,rfl⟩) hcn
  refine⟨fun p b hb=>?_,fun p r b c hpr hb hc ho n hn1 hn2=>?_,⟨hp.adv.os,hp.adv.output,hp.adv.tape,hp.adv.size,fun n hn hno=>hp.adv.heap n hn fun z=>hno (hown n z),fun n ⟨p,b,h1,h2,h3⟩=>?_,fun p b hb ho=>?_⟩⟩
  · by_cases e:p=p0
    · subst e
      rw [h'.y] at hb; injection hb with hb; subst hb
      refine⟨Nat.lt_of_lt_of_le hY.lt hp.adv.size,(fun o v hv=>by cases hv),(fun _ o v hv=>by cases hv),⟨fun i n pc2 hi hg=>?_,fun i i' n pc2 pc3 hi hi' hg hg'=>?_⟩⟩
      · change (L.set j (k,pc'))[i]? = some (n,pc2) at hg
        rw [List.getElem?_set] at hg
        by_cases e:j=i
        · subst e; rw [if_pos rfl,if_pos hlt] at hg; injection hg with hg; injection hg with h1 h2; subst h1; subst h2; exact hX'
        · rw [if_neg e] at hg
          have h1:=lpB_piece hY hg
          exact h1.of_heap hp.adv.size (hp.adv.heap n h1.lt (hrest i _ hg fun z=>e z.symm))
      · change (L.set j (k,pc'))[i]? = some (n,pc2) at hg
        change (L.set j (k,pc'))[i']? = some (n,pc3) at hg'
        have key:∀ (a:Nat) (pc4:Piece),(L.set j (k,pc'))[a]? = some (n,pc4)→∃ pc5,L[a]? = some (n,pc5):=fun a pc4 ha=>by
          rw [List.getElem?_set] at ha
          by_cases e:j=a
          · subst e; rw [if_pos rfl,if_pos hlt] at ha; injection ha with ha; injection ha with h1 h2; subst h1; exact⟨_,hj⟩
          · rw [if_neg e] at ha; exact⟨_,ha⟩
        obtain⟨_,k1⟩:=key i pc2 hg
        obtain⟨_,k2⟩:=key i' pc3 hg'
        exact lpB_inj hY k1 k2 rfl
    · rw [← h'.o p e] at hb; exact hp.holds p b hb
  · by_cases e:p=p0
    · subst e
      rw [h'.y] at hb; injection hb with hb; subst hb
      have e2:r≠p:=fun z=>hpr z.symm
      rw [← h'.o r e2] at hc
      exact hsep r c e2 hc n ((lp_set hj q true n).1 hn1) hn2
    · rw [← h'.o p e] at hb
      by_cases e2:r=p0
      · subst e2
        rw [h'.y] at hc; injection hc with hc; subst hc
        exact hsep p b e hb n ((lp_set hj q true n).1 hn2) hn1
      · rw [← h'.o r e2] at hc
        exact hp.apart p r b c hpr hb hc ho n hn1 hn2
  · by_cases e:p=p0
    · subst e
      rw [h'.y] at h1; injection h1 with h1; subst h1
      exact .inl ⟨p,_,h.y,rfl,(lp_set hj q true n).1 h3⟩
    · rw [← h'.o p e] at h1
      rcases hp.adv.names n ⟨p,b,h1,h2,h3⟩ with h5 | h5
      · exact .inl (hown n h5)
      · exact .inr h5
  · by_cases e:p=p0
    · subst e; rw [h'.y] at hb; injection hb with hb; subst hb; cases ho
    · rw [← h'.o p e] at hb
      rw [← h.o p e]; exact hp.adv.ro p b hb ho
theorem listMem_at (bs cs:List (Option Blk)) (x:Option Blk):lM (bs ++ x :: cs) bs.length=x:=by
  rw [listMem_right (Nat.le_refl _),Nat.sub_self]; unfold lM; cases x <;> rfl
theorem listMem_off (bs cs:List (Option Blk)) (x y:Option Blk) {p:Nat} (h:p≠bs.length):lM (bs ++ x :: cs) p=lM (bs ++ y :: cs) p:=by
  by_cases h1:p < bs.length
  · rw [listMem_left h1,listMem_left h1]
  · rw [listMem_right (by omega),listMem_right (by omega)]
    obtain⟨s,hs⟩:∃ s,p - bs.length=s+1:=⟨p - bs.length - 1,by omega⟩
    rw [hs]; unfold lM; rfl
theorem RunsO.focus {F : Blk → Prop} {P : Program} {f : FuncId} {args : List Value} {bs cs : List (Option Blk)} {n : Nat} {v : List Nat → Value} {o r : List Nat → List (Option Blk)} {q j k : Nat} {L : List (Nat × Piece)} {pc : Piece} {pc' : List Nat → Piece}
    (h:RunsO F P f args (bs ++ some (blkP true (k,pc)) :: cs) n v (fun ns=>o ns ++ some (blkP true (k,pc' ns)) :: r ns)) (hj:L[j]? = some (k,pc)) (ho:∀ ns,(o ns).length=bs.length) :
    RunsO F P f args (bs ++ lpO q L :: cs) n v (fun ns=>o ns ++ lpO q (L.set j (k,pc' ns)) :: r ns):=by
  intro w hm ha hF
  have hf:Foc (lM (bs ++ some (blkP true (k,pc)) :: cs)) (lM (bs ++ lpO q L :: cs)) bs.length (blkP true (k,pc)) (lpB q true L):=⟨listMem_at ..,listMem_at ..,fun p hp=>listMem_off _ _ _ _ hp⟩
  obtain⟨h1,h2,h3⟩:=hf.inn hj id hm ha
  refine Calls.mono (h w h1 h2 fun b hb=>⟨(hF b hb).1,(hF b hb).2.1,fun k hk ho=>(hF b hb).2.2 k hk (h3 k ho)⟩) ?_
  rintro e w' ⟨ns,hns,he,hp⟩
  refine⟨ns,hns,he,hf.out (mo:=lM (o ns ++ some (blkP true (k,pc' ns)) :: r ns)) (pc':=pc' ns) ⟨?_,?_,fun p hp=>?_⟩ hj hm ha hp⟩
  · rw [← ho ns]; exact listMem_at ..
  · rw [← ho ns]; exact listMem_at ..
  · rw [← ho ns] at hp; exact listMem_off _ _ _ _ hp
theorem RunsO.focusL {F : Blk → Prop} {P : Program} {f : FuncId} {args : List Value} {bs cs : List (Option Blk)} {n : Nat} {v : List Nat → Value} {o r : List Nat → List (Option Blk)} {q j : Nat} {ow : Bool} {L : List (Nat × Piece)} {x : Nat × Piece}
    (h:RunsO F P f args (bs ++ some (blkP false x) :: cs) n v (fun ns=>o ns ++ none :: r ns)) (hj:L[j]? = some x) (ho:∀ ns,(o ns).length=bs.length) :
    RunsO F P f args (bs ++ some (lpB q ow L) :: cs) n v (fun ns=>o ns ++ none :: r ns):=by
  intro w hm ha hF
  have hf:Foc (lM (bs ++ some (blkP false x) :: cs)) (lM (bs ++ some (lpB q ow L) :: cs)) bs.length (blkP false x) (lpB q ow L):=⟨listMem_at ..,listMem_at ..,fun p hp=>listMem_off _ _ _ _ hp⟩
  obtain⟨h1,h2,h3⟩:=hf.inn hj (fun z=>by cases z) hm ha
  refine Calls.mono (h w h1 h2 fun b hb=>⟨(hF b hb).1,(hF b hb).2.1,fun k hk ho=>(hF b hb).2.2 k hk (h3 k ho)⟩) ?_
  rintro e w' ⟨ns,hns,he,hp⟩
  refine⟨ns,hns,he,hp.holds,hp.apart,⟨hp.adv.os,hp.adv.output,hp.adv.tape,hp.adv.size,fun k hk hno=>hp.adv.heap k hk fun z=>hno (h3 k z),fun k hk=>?_,fun p b hb hob=>?_⟩⟩
  · rcases hp.adv.names k hk with h5 | h5
    · exact .inl (h3 k h5)
    · exact .inr h5
  · have h5:=hp.adv.ro p b hb hob
    by_cases e:p=bs.length
    · subst e
      have:lM (o ns ++ none :: r ns) bs.length=none:=by rw [← ho ns]; exact listMem_at ..
      rw [this] at hb; cases hb
    · rw [hf.o p e] at h5; exact h5
theorem Post.gather {m mo mo1 : Nat → Option Blk} {p0 p1 q : Nat} {L : List (Nat × Piece)} {x : Nat × Piece} {w w' : World} (h01 : p0 ≠ p1) (h0 : mo p0 = some (lpB q true L)) (h1 : mo p1 = some (blkP true x)) (h2 : mo1 p0 = some (lpB q true (L ++ [x]))) (h3 : mo1 p1 = none)
    (ho:∀ p,p≠p0→p≠p1→mo1 p=mo p) (hp:Post m w mo w'):Post m w mo1 w':=by
  have hY:=hp.holds p0 _ h0
  have hX:=blk_piece (hp.holds p1 _ h1)
  have hcat:∀ (i:Nat) (y:Nat × Piece),(L ++ [x])[i]? = some y→L[i]? = some y∨(i=L.length∧y=x):=fun i y hi=>by
    rw [List.getElem?_append] at hi
    split at hi
    · exact .inl hi
    · rename_i hlt
      have:i - L.length=0:=by
        have:=(List.getElem?_eq_some_iff.1 hi).1
        simp at this; omega
      rw [this] at hi
      simp at hi
      exact .inr ⟨by omega,hi.symm⟩
  have hsep:∀ (i:Nat) (y:Nat × Piece),L[i]? = some y→y.1≠x.1:=fun i y hi e =>
    hp.apart p0 p1 _ _ h01 h0 h1 rfl x.1 (lpB_has.2 ⟨i,y,hi,e⟩) (blkP_has.2 rfl)
  have hfrom:∀ k,(lpB q true (L ++ [x])).has k→(lpB q true L).has k∨(blkP true x).has k:=fun k hk=>by
    obtain⟨i,y,hi,rfl⟩:=lpB_has.1 hk
    rcases hcat i y hi with h5 | ⟨_,rfl⟩
    · exact .inl (lpB_has.2 ⟨i,y,h5,rfl⟩)
    · exact .inr (blkP_has.2 rfl)
  have hat:∀ p b,mo1 p=some b→(p=p0∧b=lpB q true (L ++ [x]))∨(p≠p0∧p≠p1∧mo p=some b):=fun p b hb=>by
    by_cases e:p=p0
    · subst e; rw [h2] at hb; injection hb with hb; exact .inl ⟨rfl,hb.symm⟩
    · by_cases e2:p=p1
      · subst e2; rw [h3] at hb; cases hb
      · exact .inr ⟨e,e2,by rw [← ho p e e2]; exact hb⟩
  refine⟨fun p b hb=>?_,fun p r b c hpr hb hc hown k hk1 hk2=>?_,⟨hp.adv.os,hp.adv.output,hp.adv.tape,hp.adv.size,hp.adv.heap,fun k ⟨p,b,k1,k2,k3⟩=>?_,fun p b hb hob=>?_⟩⟩
  · rcases hat p b hb with ⟨_,rfl⟩ | ⟨_,_,h5⟩
    · refine⟨hY.lt,(fun o v hv=>by cases hv),(fun _ o v hv=>by cases hv),⟨fun i k pc hi hg=>?_,fun i j k pc pc' hi hj hg hg'=>?_⟩⟩
      · rcases hcat i _ hg with h5 | ⟨_,h5⟩
        · exact lpB_piece hY h5
        · rw [← h5] at hX; exact hX
      · rcases hcat i _ hg with h5 | ⟨h5,h6⟩
        · rcases hcat j _ hg' with h7 | ⟨h7,h8⟩
          · exact lpB_inj hY h5 h7 rfl
          · exact(hsep i (k,pc) h5 (show k=x.1 from congrArg Prod.fst h8)).elim
        · rcases hcat j _ hg' with h7 | ⟨h7,h8⟩
          · exact(hsep j (k,pc') h7 (show k=x.1 from congrArg Prod.fst h6)).elim
          · omega
    · exact hp.holds p b h5
  · rcases hat p b hb with ⟨e,rfl⟩ | ⟨k1,k2,h5⟩
    · rcases hat r c hc with ⟨e2,_⟩ | ⟨k3,k4,h6⟩
      · exact hpr (e.trans e2.symm)
      · rcases hfrom k hk1 with h7 | h7
        · exact hp.apart p0 r _ c (fun z=>k3 z.symm) h0 h6 rfl k h7 hk2
        · exact hp.apart p1 r _ c (fun z=>k4 z.symm) h1 h6 rfl k h7 hk2
    · rcases hat r c hc with ⟨e2,rfl⟩ | ⟨k3,k4,h6⟩
      · rcases hfrom k hk2 with h7 | h7
        · exact hp.apart p p0 b _ k1 h5 h0 hown k hk1 h7
        · exact hp.apart p p1 b _ k2 h5 h1 hown k hk1 h7
      · exact hp.apart p r b c hpr h5 h6 hown k hk1 hk2
  · rcases hat p b k1 with ⟨_,rfl⟩ | ⟨_,_,h5⟩
    · rcases hfrom k k3 with h7 | h7
      · exact hp.adv.names k ⟨p0,_,h0,rfl,h7⟩
      · exact hp.adv.names k ⟨p1,_,h1,rfl,h7⟩
    · exact hp.adv.names k ⟨p,b,h5,k2,k3⟩
  · rcases hat p b hb with ⟨_,rfl⟩ | ⟨_,_,h5⟩
    · cases hob
    · exact hp.adv.ro p b h5 hob
theorem RunsO.gather {F : Blk → Prop} {P : Program} {f : FuncId} {args : List Value} {bs : List (Option Blk)} {n : Nat} {v : List Nat → Value} {o r t : List Nat → List (Option Blk)} {q : Nat} {L : List Nat → List (Nat × Piece)} {x : List Nat → Nat × Piece}
    (h:RunsO F P f args bs n v (fun ns=>o ns ++ lpO q (L ns) :: (r ns ++ some (blkP true (x ns)) :: t ns))) :
    RunsO F P f args bs n v (fun ns=>o ns ++ lpO q (L ns ++ [x ns]) :: (r ns ++ none :: t ns)):=by
  refine fun w hm ha hF=>(h w hm ha hF).mono ?_
  rintro e w' ⟨ns,hns,he,hp⟩
  refine⟨ns,hns,he,hp.gather (p0:=(o ns).length) (p1:=(o ns).length+((r ns).length+1)) (by omega) (listMem_at ..) ?_ (listMem_at ..) ?_ fun p k1 k2=>?_⟩
  · rw [listMem_right (by omega),Nat.add_sub_cancel_left,lm1]; exact listMem_at ..
  · rw [listMem_right (by omega),Nat.add_sub_cancel_left,lm1]; exact listMem_at ..
  · by_cases h1:p < (o ns).length
    · rw [listMem_left h1,listMem_left h1]
    · rw [listMem_right (by omega),listMem_right (by omega)]
      obtain⟨s,hs⟩:∃ s,p - (o ns).length=s+1:=⟨p - (o ns).length - 1,by omega⟩
      rw [hs,lm1,lm1]
      exact listMem_off _ _ _ _ (by omega)
theorem RunsO.pile0 {F : Blk → Prop} {P : Program} {f : FuncId} {args : List Value} {bs : List (Option Blk)} {n : Nat} {v : List Nat → Value} {o : List Nat → List (Option Blk)} {q : List Nat → Nat} (h : RunsO F P f args bs n v o) (hq : ∀ ns, ∃ p b, lM (o ns) p = some b ∧ b.name = q ns) :
    RunsO F P f args bs n v (fun ns=>o ns ++ [lpO (q ns) []]):=by
  refine fun w hm ha hF=>(h w hm ha hF).mono ?_
  rintro e w' ⟨ns,hns,he,hp⟩
  obtain⟨p1,b1,h1,h2⟩:=hq ns
  have hlt:q ns < w'.heap.size:=by rw [← h2]; exact(hp.holds p1 b1 h1).lt
  have hno:∀ k,¬ (lpB (q ns) true []).has k:=fun k hk=>by
    obtain⟨i,x,hi,_⟩:=lpB_has.1 hk; simp at hi
  have hat:∀ p b,lM (o ns ++ [lpO (q ns) []]) p=some b→b=lpB (q ns) true []∨lM (o ns) p=some b:=fun p b hb=>by
    rcases listMem_app hb with ⟨_,h5⟩ | ⟨_,h5⟩
    · exact .inr h5
    · unfold lM at h5
      cases hz:p - (o ns).length with
      | zero=>rw [hz] at h5; exact .inl (by injection h5 with h5; exact h5.symm)
      | succ s=>rw [hz] at h5; simp at h5
  refine⟨ns,hns,he,fun p b hb=>?_,fun p r b c hpr hb hc hown k hk1 hk2=>?_,⟨hp.adv.os,hp.adv.output,hp.adv.tape,hp.adv.size,hp.adv.heap,fun k ⟨p,b,k1,k2,k3⟩=>?_,fun p b hb hob=>?_⟩⟩
  · rcases hat p b hb with rfl | h5
    · exact⟨hlt,(fun o v hv=>by cases hv),(fun _ o v hv=>by cases hv),⟨fun i k pc hi hg=>(by cases hi),fun i j k pc pc' hi=>(by cases hi)⟩⟩
    · exact hp.holds p b h5
  · rcases hat p b hb with rfl | h5
    · exact hno k hk1
    · rcases hat r c hc with rfl | h6
      · exact hno k hk2
      · exact hp.apart p r b c hpr h5 h6 hown k hk1 hk2
  · rcases hat p b k1 with rfl | h5
    · exact absurd k3 (hno k)
    · exact hp.adv.names k ⟨p,b,h5,k2,k3⟩
  · rcases hat p b hb with rfl | h5
    · cases hob
    · exact hp.adv.ro p b h5 hob
theorem lp_lent {q:Nat} {ow:Bool} {L:List (Nat × Piece)} {j:Nat} {x:Nat × Piece} (hj:L[j]? = some x) {w:World} (hb:∀ b,roO (some (lpB q ow L))=some b→Holds b w):Holds (blkP false x) w :=
  piece_blk (lpB_piece (q:=q) (ow:=false) (hb _ rfl) hj)
end Go.Eng
end
section
namespace Go.Eng
open Go.RowKit Go.WideShapes Go.ChangeShapes Go.ChangeAt Go.Deep
structure BytS where
  wa:Option Addr
  wn:Nat
  wc:Nat
  wb:Nat
  wo:Nat
  wf:Nat→BytL
def bysB (q:BytS):Blk:=⟨q.wb,false,q.wo,tabF q.wn fun k=>slqV (q.wf k)⟩
structure OkS (q:BytS):Prop where
  cap:q.wn≤q.wc
  ad:0 < q.wn→q.wa=some ⟨q.wb,q.wo,none⟩
  len:q.wn≤9223372036854775807
  el:∀ k,k < q.wn→OkB (q.wf k)
def famS (q:BytS) (b:Blk):Prop:=(0 < q.wn∧b=bysB q)∨∃ k,k < q.wn∧famB (q.wf k) b
section
variable {H:Type} {enc:TypeId × Value→H} {P:Program}
theorem bytes_cell {W : World} {base : Nat} {sp : Nat → Bool} {held : Bool} {t e : TypeId} {v : Value} {fuel : Nat} {x : DataW H × List MemPlace} (ht : P.underlying t = some (.slice e)) (he : P.underlying e = some (.int .u8))
    (hc:P.cellsOf e=1) (hf:DataW.trod enc P W base sp held fuel t [v]=some x):∃ q:BytL,v=slqV q∧OkB q∧FamH (famB q) W:=by
  rcases open_slice1 ht hc hf with ⟨hcs,_⟩ | ⟨a,len,cap,m,n,V,D,Pl,hcs,_,hl,hm,hmm,_,hx⟩
  · simp only [List.cons.injEq,and_true] at hcs
    subst hcs
    exact⟨bytZ none 0,rfl,okb_nil,holdb_nil⟩
  · simp only [List.cons.injEq,and_true] at hcs
    subst hcs
    by_cases h0:len=0
    · subst h0
      exact⟨bytZ (some a) cap,rfl,okb_nil,holdb_nil⟩
    have hlm:len≤m:=by rw [hmm]; split <;> omega
    have hspot:a.spot=none:=World.cell?_spot (by
      have:=(hx 0 (by omega)).1
      rwa [show a.add 0=a from by cases a; simp [Addr.add]] at this)
    obtain⟨ab,ao,spot⟩:=a
    simp only at hspot
    subst hspot
    have hV:∀ i,i < len→∃ x:UInt8,V i=u8 x:=fun i hi=>by
      obtain⟨_,h2⟩:=hx i (by omega)
      obtain⟨x0,e0,_,w0⟩:=DataW.trod_int he h2
      simp at e0
      rw [e0]
      exact u8_of w0
    obtain⟨f,hfV⟩:=choose_lt (α:=UInt8) (p:=fun i x=>V i=u8 x) hV
    refine⟨⟨some ⟨ab,ao,none⟩,len,cap,ab,ao,f⟩,rfl,⟨hl,fun _=>rfl,by unfold maxLen at hm; show len≤_; omega⟩,fun b hb=>?_⟩
    obtain⟨_,rfl⟩:=hb
    refine⟨⟨lt_of_cell (hx 0 (by omega)).1,fun o v ho=>?_,(fun h=>by cases h),obj_not rfl⟩,rfl⟩
    have ho':(tabF len fun k=>u8 (f k)).get o=some v:=ho
    by_cases hol:o < len
    · rw [tabF_in hol] at ho'
      injection ho' with ho'
      have:=(hx o (by omega)).1
      rw [add_none] at this
      show W.cell? ⟨ab,ao+o,none⟩=some v
      rw [this,hfV o hol,ho']
    · rw [tabF_out hol] at ho'; cases ho'
theorem open_bytes {r : Reach} {b0 : Nat} {W : World} {base : Nat} {sp : Nat → Bool} {held : Bool} {t e : TypeId} {v : Value} {d : DataW H} {ps : List MemPlace} (ht : P.underlying t = some (.slice e)) (he : P.underlying e = some (.int .u8))
    (hc:P.cellsOf e=1) (hval:Value.okWide P W r b0 t v) (hd:DataW.Trod enc P W base sp held t v d ps):∃ q:BytL,v = .slice q.wa q.wn q.wc∧OkB q∧FamH (famB q) W:=by
  obtain⟨a1,len,cap,rfl⟩:=okWide_slice ht hval
  obtain⟨fuel,hf⟩:=hd
  exact bytes_cell ht he hc hf
theorem u64_cell {W : World} {base : Nat} {sp : Nat → Bool} {held : Bool} {i : TypeId} (hi : P.underlying i = some (.int .u64)) {c : Value} {fuel : Nat} {z : DataW H × List MemPlace} (h : DataW.trod enc P W base sp held fuel i [c] = some z) :
    ∃ x:UInt64,c=u64 x:=by
  obtain⟨x0,e0,_,w0⟩:=DataW.trod_int hi h
  simp at e0
  obtain⟨x,hx⟩:=u64_of w0
  exact⟨x,e0.trans hx⟩
theorem slice1_cell {α : Type} [Inhabited α] (K : α → Value) (G : α → Prop) {W : World} {base : Nat} {sp : Nat → Bool} {held : Bool} {t e : TypeId} {v : Value} {fuel : Nat} {x : DataW H × List MemPlace} (ht : P.underlying t = some (.slice e))
    (hc:P.cellsOf e=1) (hel:∀ n v x,DataW.trod enc P W base sp held n e [v]=some x→∃ a,v=K a∧G a) (hf:DataW.trod enc P W base sp held fuel t [v]=some x) :
    ∃ (wa:Option Addr) (wn wc wb wo:Nat) (f:Nat→α),v = .slice wa wn wc∧wn≤wc∧(0 < wn→wa=some ⟨wb,wo,none⟩)∧wn≤9223372036854775807∧(∀ k,k < wn→G (f k))∧(0 < wn→Holds ⟨wb,false,wo,tabF wn fun k=>K (f k)⟩ W):=by
  rcases open_slice1 ht hc hf with ⟨hcs,_⟩ | ⟨a,len,cap,m,n,V,D,Pl,hcs,_,hl,hm,hmm,_,hx⟩
  · simp only [List.cons.injEq,and_true] at hcs
    subst hcs
    exact⟨none,0,0,0,0,fun _=>default,rfl,Nat.le_refl _,fun h=>absurd h (Nat.lt_irrefl 0),Nat.zero_le _,fun k hk=>absurd hk (Nat.not_lt_zero k),fun h=>absurd h (Nat.lt_irrefl 0)⟩
  · simp only [List.cons.injEq,and_true] at hcs
    subst hcs
    by_cases h0:len=0
    · subst h0
      exact⟨some a,0,cap,0,0,fun _=>default,rfl,Nat.zero_le _,fun h=>absurd h (Nat.lt_irrefl 0),Nat.zero_le _,fun k hk=>absurd hk (Nat.not_lt_zero k),fun h=>absurd h (Nat.lt_irrefl 0)⟩
    have hlm:len≤m:=by rw [hmm]; split <;> omega
    have hspot:a.spot=none:=World.cell?_spot (by
      have:=(hx 0 (by omega)).1
      rwa [show a.add 0=a from by cases a; simp [Addr.add]] at this)
    obtain⟨ab,ao,spot⟩:=a
    simp only at hspot
    subst hspot
    have hV:∀ i,i < len→∃ x:α,V i=K x∧G x:=fun i hi=>by
      obtain⟨_,h2⟩:=hx i (by omega)
      exact hel _ _ _ h2
    obtain⟨f,hfV⟩:=choose_lt (α:=α) (p:=fun i x=>V i=K x∧G x) hV
    refine⟨some ⟨ab,ao,none⟩,len,cap,ab,ao,f,rfl,hl,fun _=>rfl,by unfold maxLen at hm; omega,fun k hk=>(hfV k hk).2,fun _=>⟨lt_of_cell (hx 0 (by omega)).1,fun o v ho=>?_,(fun h=>by cases h),obj_not rfl⟩⟩
    have ho':(tabF len fun k=>K (f k)).get o=some v:=ho
    by_cases hol:o < len
    · rw [tabF_in hol] at ho'
      injection ho' with ho'
      have:=(hx o (by omega)).1
      rw [add_none] at this
      show W.cell? ⟨ab,ao+o,none⟩=some v
      rw [this,(hfV o hol).1,ho']
    · rw [tabF_out hol] at ho'; cases ho'
instance:Inhabited BytL:=⟨bytZ none 0⟩
end
end Go.Eng
namespace Go.Eng
open Go.RowKit Go.WideShapes Go.ChangeShapes Go.ChangeAt Go.Deep
section
variable {H:Type} {enc:TypeId × Value→H} {P:Program}
end
end Go.Eng
end
section
namespace Go.Eng
open Go.RowKit Go.WideShapes Go.ChangeShapes Go.ChangeAt Go.Deep
theorem catU_zero (f g:Nat→UInt8):catU f 0 g=g:=by funext k; unfold catU; rw [if_neg (by omega)]; rfl
def u8C (x:UInt8):List Value:=[u8 x]
theorem gsE_u8 (A:Grw UInt8):gsE u8C [u8 0] 1 A=grO u8 (u8 0) A:=by
  unfold gsE grO
  cases A.z with
  | true=>rfl
  | false =>
    simp only
    congr 2
    unfold sprE spr tabF
    congr 1
    funext k
    by_cases h:k < A.n
    · show _=[if k < A.n then u8 (A.f k) else u8 0]
      rw [if_pos h,if_pos h]; rfl
    · show _=[if k < A.n then u8 (A.f k) else u8 0]
      rw [if_neg h,if_neg h]
theorem gs_src {α : Type} {C : α → List Value} {zc : List Value} {sz : Nat} (A : Grw α) (hA : A.ok) (hsz : 0 < sz) (hC : ∀ a, (C a).length = sz) (hz : zc.length = sz) :
    0 < A.n→∃ k bo os S,gsA A=some ⟨k,bo+os,none⟩∧roO (gsE C zc sz A)=some ⟨k,false,bo,S⟩∧∀ j,j < A.n*sz→S.get (os+j)=some (cf sz (fun k=>C (A.f k)) j):=fun h0=>by
  have hz':=hA.pos h0
  refine⟨A.nm,0,0,sprE sz (A.n+A.r) A.n (fun k=>C (A.f k)) zc,gsA_own hz',by rw [gsE_own hz']; rfl,fun j hj=>?_⟩
  have h1:j < (A.n+A.r)*sz:=by rw [Nat.add_mul]; omega
  rw [Nat.zero_add]
  unfold sprE
  rw [tabE_in hsz (fun k _=>by split; exact hC _; exact hz) h1,cf_spr_lt hj]
theorem app_one {P : Program} {t ty e : TypeId} (ht : P.underlying t = some (.slice e)) (h1 : AggC P e [u8 0] 1 1) (b : Nat) (x : UInt8) (D : Grw UInt8) (hD : D.ok) (hb : D.n + 1 ≤ 140737488355328) :
    SRunsO P (appendSem t ty (.slice (some ⟨b,0,none⟩) 1 1) (gsV D)) [some ⟨b,true,0,.lit [u8 x]⟩,roO (gsE u8C [u8 0] 1 D)] 2 (fun ns=>gsV (⟨false,ns.getD 0 0,1+D.n,ns.getD 1 0,catU (fun _=>x) 1 D.f⟩:Grw UInt8)) (fun ns=>[gsE u8C [u8 0] 1 (⟨false,ns.getD 0 0,1+D.n,ns.getD 1 0,catU (fun _=>x) 1 D.f⟩:Grw UInt8),none]):=by
  have h:=mkG_catE (P:=P) (t:=t) (ty:=ty) (e:=e) ht h1 (⟨false,b,1,0,fun _=>x⟩:Grw UInt8) (fun h=>by cases h) (C:=u8C) (fun _=>⟨rfl,rfl⟩) D.f D.n (gsA D) (gsC D) (roO (gsE u8C [u8 0] 1 D)) (gs_src D hD (by decide) (fun _=>rfl) rfl) (show(1+D.n)*1≤140737488355328∧1+D.n≤9223372036854775807 by omega)
  have e0:∀ a r,Grw.cat (⟨false,b,1,0,fun _=>x⟩:Grw UInt8) D.n D.f a r=⟨false,a,1+D.n,r,catU (fun _=>x) 1 D.f⟩:=fun a r=>by
    unfold Grw.cat
    rw [Bool.and_false]
  simp only [e0] at h
  refine h.as ?_ id fun ns hns=>⟨hns,rfl,.refl _,?_⟩
  · refine .kp _ _ ⟨fun _ h=>h,rfl,fun w hw=>hw.recont (b:=⟨b,true,0,.lit [u8 x]⟩) rfl fun o v hv=>?_⟩ (.refl _)
    by_cases ho:o < 1
    · have h0:o=0:=by omega
      subst h0
      exact hv
    · have:(sprE 1 (1+0) 1 (fun k=>u8C ((fun _=>x) k)) [u8 0]).get o=none:=tabE_out (by omega)
      rw [this] at hv; cases hv
  · exact⟨rfl,trivial⟩
end Go.Eng
end
section
namespace Go.Eng
section words32
variable {P:Program} {t t':TypeId} {x y:Operand} (a b:UInt32)
theorem is_add32:IsOp P (.binOp .add t x y t') [u32 a,u32 b] (u32 (a+b)):=isOp_bin guard_int (by
  show some (Value.int .u32 (IntKind.u32.wrap ((a.toNat:Int)+b.toNat)))=_
  rw [wrap_u32,u32,UInt32.toNat_add]; congr 2)
theorem ofInt32 (a:UInt32):BitVec.ofInt 32 (a.toNat:Int)=a.toBitVec:=by
  apply BitVec.eq_of_toNat_eq
  simp
theorem is_and32:IsOp P (.binOp .and t x y t') [u32 a,u32 b] (u32 (a &&& b)):=isOp_bin guard_int (by
  show some (Value.int .u32 (IntKind.u32.wrap (((BitVec.ofInt 32 (a.toNat:Int)) &&& (BitVec.ofInt 32 (b.toNat:Int))).toNat)))=_
  rw [wrap_u32,ofInt32,ofInt32,u32]; congr 2
  have:=(a &&& b).toNat_lt
  have h:(a.toBitVec &&& b.toBitVec).toNat=(a &&& b).toNat:=rfl
  rw [h]; omega)
theorem is_or32:IsOp P (.binOp .or t x y t') [u32 a,u32 b] (u32 (a ||| b)):=isOp_bin guard_int (by
  show some (Value.int .u32 (IntKind.u32.wrap (((BitVec.ofInt 32 (a.toNat:Int)) ||| (BitVec.ofInt 32 (b.toNat:Int))).toNat)))=_
  rw [wrap_u32,ofInt32,ofInt32,u32]; congr 2
  have:=(a ||| b).toNat_lt
  have h:(a.toBitVec ||| b.toBitVec).toNat=(a ||| b).toNat:=rfl
  rw [h]; omega)
theorem is_xor32:IsOp P (.binOp .xor t x y t') [u32 a,u32 b] (u32 (a ^^^ b)):=isOp_bin guard_int (by
  show some (Value.int .u32 (IntKind.u32.wrap (((BitVec.ofInt 32 (a.toNat:Int)) ^^^ (BitVec.ofInt 32 (b.toNat:Int))).toNat)))=_
  rw [wrap_u32,ofInt32,ofInt32,u32]; congr 2
  have:=(a ^^^ b).toNat_lt
  have h:(a.toBitVec ^^^ b.toBitVec).toNat=(a ^^^ b).toNat:=rfl
  rw [h]; omega)
def shl32 (a:UInt32) (n:Nat):UInt32:=.ofNat (a.toNat*2 ^ n)
def shr32 (a:UInt32) (n:Nat):UInt32:=.ofNat (a.toNat / 2 ^ n)
theorem shl32_toNat (n:Nat):(shl32 a n).toNat=a.toNat*2 ^ n % 4294967296:=by
  simp [shl32,UInt32.toNat_ofNat']
theorem shr32_toNat (n:Nat):(shr32 a n).toNat=a.toNat / 2 ^ n:=by
  have h:a.toNat / 2 ^ n < 4294967296:=Nat.lt_of_le_of_lt (Nat.div_le_self _ _) a.toNat_lt
  simp [shr32,UInt32.toNat_ofNat',Nat.mod_eq_of_lt h]
theorem is_shl32 (k:IntKind) (n:Nat):IsOp P (.binOp .shl t x y t') [u32 a,.int k (n:Int)] (u32 (shl32 a n)):=isOp_bin guard_int (by
  show pureRun P (Op.shift .shl .u32 (a.toNat:Int) k (n:Int))=_
  unfold Op.shift
  rw [if_neg (by omega)]
  show some (Value.int .u32 (IntKind.u32.wrap ((a.toNat:Int)*2 ^ min (n:Int).toNat 32)))=_
  rw [wrap_u32,u32,shl32_toNat]
  congr 2
  rw [Int.toNat_natCast]
  by_cases h:n≤32
  · rw [Nat.min_eq_left h]; rw [Int.natCast_emod,Int.natCast_mul,Int.natCast_pow]; rfl
  · rw [Nat.min_eq_right (by omega)]
    have e:n=32+(n - 32):=by omega
    have h1:a.toNat*2 ^ n % 4294967296=0:=by
      rw [e,Nat.pow_add,Nat.mul_comm (2 ^ 32),← Nat.mul_assoc]
      exact Nat.mul_mod_left _ _
    rw [h1]
    have h2:((a.toNat:Int)*2 ^ 32) % 4294967296=0:=Int.mul_emod_left _ _
    exact h2)
theorem is_shr32 (k:IntKind) (n:Nat):IsOp P (.binOp .shr t x y t') [u32 a,.int k (n:Int)] (u32 (shr32 a n)):=isOp_bin guard_int (by
  show pureRun P (Op.shift .shr .u32 (a.toNat:Int) k (n:Int))=_
  unfold Op.shift
  rw [if_neg (by omega)]
  show some (Value.int .u32 (Int.fdiv (a.toNat:Int) (2 ^ min (n:Int).toNat 32)))=_
  rw [u32,shr32_toNat]
  congr 2
  rw [Int.toNat_natCast]
  have key:∀ m:Nat,Int.fdiv (a.toNat:Int) (2 ^ m)=((a.toNat / 2 ^ m:Nat):Int):=fun m=>by
    rw [Int.fdiv_eq_ediv_of_nonneg _ (Int.pow_nonneg (by omega))]
    push_cast; rfl
  rw [key]
  congr 1
  by_cases h:n≤32
  · rw [Nat.min_eq_left h]
  · rw [Nat.min_eq_right (by omega)]
    have hlt:=a.toNat_lt
    rw [Nat.div_eq_of_lt hlt,Nat.div_eq_of_lt]
    exact Nat.lt_of_lt_of_le hlt (Nat.pow_le_pow_right (by omega) (by omega)))
theorem is_not32:IsOp P (.unOp .xor t x) [u32 a] (u32 (~~~a)):=isOp_un (by
  show some (Value.int .u32 (IntKind.u32.wrap (((BitVec.ofInt 32 (4294967295:Int)) ^^^ (BitVec.ofInt 32 (a.toNat:Int))).toNat)))=_
  rw [wrap_u32,ofInt32,u32]; congr 2
  have h1:(BitVec.ofInt 32 4294967295 ^^^ a.toBitVec)=(~~~a).toBitVec:=by
    show _ = ~~~a.toBitVec
    rw [← BitVec.allOnes_xor]; rfl
  rw [h1]
  have:=(~~~a).toNat_lt
  have h:((~~~a).toBitVec).toNat=(~~~a).toNat:=rfl
  rw [h]; omega)
end words32
section
variable {P:Program} {s d:TypeId} {x:Operand}
theorem conv_u8_u32 (hs:P.underlying s=some (.int .u8)) (hd:P.underlying d=some (.int .u32)) (a:UInt8):IsOp P (.convert s d x) [u8 a] (u32 a.toUInt32):=by
  have h:=conv_int (x:=x) hs hd a.toNat
  rw [wrap_u32] at h
  have:((a.toNat:Int) % 4294967296)=(a.toUInt32.toNat:Int):=by have:=a.toNat_lt; simp; omega
  rw [this] at h; exact h
theorem conv_u32_u8 (hs:P.underlying s=some (.int .u32)) (hd:P.underlying d=some (.int .u8)) (a:UInt32):IsOp P (.convert s d x) [u32 a] (u8 a.toUInt8):=by
  have h:=conv_int (x:=x) hs hd a.toNat
  rw [wrap_u8] at h
  have:((a.toNat:Int) % 256)=(a.toUInt8.toNat:Int):=by simp
  rw [this] at h; exact h
end
end Go.Eng
namespace Go.Eng
def rot (x:UInt32) (n:Nat):UInt32:=shl32 x (32 - n) ||| shr32 x n
structure W8 where
  a:UInt32
  b:UInt32
  c:UInt32
  d:UInt32
  e:UInt32
  f:UInt32
  g:UInt32
  h:UInt32
def w8V (s:W8):Value:=.agg #[u32 s.a,u32 s.b,u32 s.c,u32 s.d,u32 s.e,u32 s.f,u32 s.g,u32 s.h]
def rndX (s:W8) (add:UInt32):UInt32:=s.h+(rot s.e 6 ^^^ rot s.e 11 ^^^ rot s.e 25)+(s.e &&& s.f ^^^ ~~~s.e &&& s.g)+add
def rndY (s:W8):UInt32:=(rot s.a 2 ^^^ rot s.a 13 ^^^ rot s.a 22)+(s.a &&& s.b ^^^ s.a &&& s.c ^^^ s.b &&& s.c)
def rndS (s:W8) (add:UInt32):W8:=⟨rndX s add+rndY s,s.a,s.b,s.c,s.d+rndX s add,s.e,s.f,s.g⟩
end Go.Eng
namespace Go.Eng
section
variable {P:Program} {t e:TypeId} {x y:Operand}
theorem is_ixVec {len : Nat} (ht : P.underlying t = some (.array len e)) (hs : sizeB P e = some 1) (he : ∃ k, P.underlying e = some (.int k)) (g : Nat → Value) (i : Nat) (hi : i < len) :
    IsOp P (.index t x y) [vecV len g,nat i] (g i):=by
  intro ρ o ho hv
  rw [ho] at hv
  simp only [Op.operands,List.map_cons,List.map_nil,List.cons.injEq,and_true] at hv
  obtain⟨h1,h2⟩:=hv
  obtain⟨k,he⟩:=he
  unfold execOp
  rw [ho]
  simp only
  show pureRun P (Sem.bind (Instr.index t (ρ x) (ρ y)) fun v=>Sem.pure (Next.value v))=_
  rw [pureRun_bind,h1,h2]
  have hi':(0:Int)≤(i:Int)∧(i:Int) < (len:Int):=by omega
  have hg:(((List.range len).map g).toArray)[i]? = some (g i):=by
    simp [hi]
  have e':pureRun P (Instr.index t (vecV len g) (nat i))=some (g i):=by
    simp only [Instr.index,vecV,nat,pureRun_bind',asIntOf,pureRun,pure,pureRun_underlying ht,hi',and_self,if_true,pureRun_sizeOf hs,Int.toNat_natCast,Nat.mul_one,part,isAgg,pureRun_underlying he,hg]
    first | rfl | simp [hg,pureRun]
  rw [e']
  rfl
end
end Go.Eng
namespace Go.Eng
def sp1 (b:Nat→UInt8):Nat→(Nat→UInt32)
  | 0=>fun _=>0
  | i+1=>upd (sp1 b i) (i / 4) (shl32 (sp1 b i (i / 4)) 8 ||| (b i).toUInt32)
def sg0 (x:UInt32):UInt32:=rot x 7 ^^^ rot x 18 ^^^ shr32 x 3
def sg1 (x:UInt32):UInt32:=rot x 17 ^^^ rot x 19 ^^^ shr32 x 10
def sp2 (b:Nat→UInt8):Nat→(Nat→UInt32)
  | 0=>sp1 b 64
  | j+1=>upd (sp2 b j) (j+16) (sp2 b j (j+16 - 16)+sp2 b j (j+16 - 7)+sg0 (sp2 b j (j+16 - 15))+sg1 (sp2 b j (j+16 - 2)))
def sprW (b:Nat→UInt8):Nat→UInt32:=sp2 b 48
theorem sp_step {b : Nat → UInt8} {j : Nat} {v : Nat → UInt32} (h : 16 ≤ j) (hv : v = sp2 b (j - 16)) :
    upd v j (v (j - 16)+v (j - 7)+(rot (v (j - 15)) 7 ^^^ rot (v (j - 15)) 18 ^^^ shr32 (v (j - 15)) 3)+(rot (v (j - 2)) 17 ^^^ rot (v (j - 2)) 19 ^^^ shr32 (v (j - 2)) 10))=sp2 b (j+1 - 16):=by
  subst hv
  obtain⟨k,rfl⟩:∃ k,j=k+16:=⟨j - 16,by omega⟩
  rw [show k+16+1 - 16=k+1 by omega,show k+16 - 16=k by omega,sp2,show k+16 - 16=k by omega]
  rfl
end Go.Eng
namespace Go.Eng
def W8.get (s:W8):Nat→UInt32
  | 0=>s.a
  | 1=>s.b
  | 2=>s.c
  | 3=>s.d
  | 4=>s.e
  | 5=>s.f
  | 6=>s.g
  | _=>s.h
def w8F (s:Nat→UInt32):W8:=⟨s 0,s 1,s 2,s 3,s 4,s 5,s 6,s 7⟩
def rndF (s:Nat→UInt32) (add:UInt32):Nat→UInt32:=(rndS (w8F s) add).get
def rndK:List Nat:=[1116352408,1899447441,3049323471,3921009573,961987163,1508970993,2453635748,2870763221,3624381080,310598401,607225278,1426881987,1925078388,2162078206,2614888103,3248222580,3835390401,4022224774,264347078,604807628,770255983,1249150122,1555081692,1996064986,2554220882,2821834349,2952996808,3210313671,3336571891,3584528711,113926993,338241895,666307205,773529912,1294757372,1396182291,1695183700,1986661051,2177026350,2456956037,2730485921,2820302411,3259730800,3345764771,3516065817,3600352804,4094571909,275423344,430227734,506948616,659060556,883997877,958139571,1322822218,1537002063,1747873779,1955562222,2024104815,2227730452,2361852424,2428436474,2756734187,3204031479,3329325298]
def rndW (i:Nat):UInt32:=.ofNat (rndK.getD i 0)
def mixR (s w:Nat→UInt32):Nat→(Nat→UInt32)
  | 0=>s
  | i+1=>rndF (mixR s w i) (rndW i+w i)
def addR (s t:Nat→UInt32):Nat→(Nat→UInt32)
  | 0=>t
  | i+1=>upd (addR s t i) i (addR s t i i+s i)
def mixS (s:Nat→UInt32) (b:Nat→UInt8):Nat→UInt32:=addR s (mixR s (sprW b) 64) 8
def begK:List Nat:=[1779033703,3144134277,1013904242,2773480762,1359893119,2600822924,528734635,1541459225]
def begW (i:Nat):UInt32:=.ofNat (begK.getD i 0)
def begB:Blk:=⟨1,false,0,litF 8 fun k=>u32 (begW k)⟩
def rndB:Blk:=⟨2,false,0,tabF 64 fun k=>u32 (rndW k)⟩
def famT (b:Blk):Prop:=b=begB∨b=rndB
end Go.Eng
namespace Go.Eng
end Go.Eng
end
section
namespace Go.Eng
structure HS where
  s:Nat→UInt32
  l:Nat→UInt8
  n:UInt64
def hashL (H:HS):List Value:=(List.range 8).map (fun k=>u32 (H.s k)) ++ ((List.range 64).map (fun k=>u8 (H.l k)) ++ [u64 H.n])
def hashC (H:HS):Cont:=.lit (hashL H)
theorem hashL_length (H:HS):(hashL H).length=73:=by simp [hashL]
theorem hash_get (H:HS) (k:Nat):(hashL H)[k]? = if k < 8 then some (u32 (H.s k)) else if k < 72 then some (u8 (H.l (k - 8))) else if k=72 then some (u64 H.n) else none:=by
  unfold hashL
  by_cases h1:k < 8
  · rw [if_pos h1,List.getElem?_append_left (by simpa using h1),List.getElem?_map,List.getElem?_range h1]; rfl
  rw [if_neg h1,List.getElem?_append_right (by simp; omega)]
  simp only [List.length_map,List.length_range]
  by_cases h2:k < 72
  · rw [if_pos h2,List.getElem?_append_left (by simp; omega),List.getElem?_map,List.getElem?_range (by omega)]; rfl
  rw [if_neg h2,List.getElem?_append_right (by simp; omega)]
  simp only [List.length_map,List.length_range]
  by_cases h3:k=72
  · subst h3; rfl
  · rw [if_neg h3]
    rw [List.getElem?_eq_none (by simp; omega)]
def cpyL {α:Type} (l:Nat→α) (i n:Nat) (g:Nat→α):Nat→α:=fun k=>if i≤k∧k < i+n then g (k - i) else l k
theorem cpyL_zero {α:Type} (l:Nat→α) (i:Nat) (g:Nat→α):cpyL l i 0 g=l:=by
  funext k; unfold cpyL; rw [if_neg (by omega)]
theorem cpyL_succ {α:Type} (l:Nat→α) (i n:Nat) (g:Nat→α):upd (cpyL l i n g) (i+n) (g n)=cpyL l i (n+1) g:=by
  funext k; unfold upd cpyL
  by_cases h:k=i+n
  · subst h; rw [if_pos rfl,if_pos (by omega),Nat.add_sub_cancel_left]
  · rw [if_neg h]
    by_cases h2:i≤k∧k < i+n
    · rw [if_pos h2,if_pos (by omega)]
    · rw [if_neg h2,if_neg (by omega)]
theorem splice_last (H:HS) (i n:Nat) (g:Nat→UInt8) (h:i+n≤64):splice (hashL H) (8+i) ((List.range n).map fun j=>u8 (g j))=hashL ⟨H.s,cpyL H.l i n g,H.n⟩:=by
  apply List.ext_getElem?
  intro k
  rw [splice_get _ _ _ (by rw [hashL_length]; simp; omega),hash_get,hash_get]
  simp only [List.length_map,List.length_range]
  by_cases h1:8+i≤k∧k < 8+i+n
  · rw [if_pos h1,map_get u8 g n _ (by omega),if_neg (by omega),if_pos (by omega)]
    simp only [cpyL]
    rw [if_pos (by omega),show k - 8 - i=k - (8+i) by omega]
  · rw [if_neg h1]
    by_cases h2:k < 8
    · rw [if_pos h2,if_pos h2]
    · rw [if_neg h2,if_neg h2]
      by_cases h3:k < 72
      · rw [if_pos h3,if_pos h3]
        simp only [cpyL]
        rw [if_neg (by omega)]
      · rw [if_neg h3,if_neg h3]
theorem splice_words (H:HS) (g:Nat→UInt32):splice (hashL H) 0 ((List.range 8).map fun j=>u32 (g j))=hashL ⟨g,H.l,H.n⟩:=by
  apply List.ext_getElem?
  intro k
  rw [splice_get _ _ _ (by rw [hashL_length]; simp),hash_get,hash_get]
  simp only [List.length_map,List.length_range,Nat.zero_add,Nat.zero_le,true_and,Nat.sub_zero]
  by_cases h1:k < 8
  · rw [if_pos h1,map_get u32 g 8 _ h1,if_pos h1]
  · rw [if_neg h1,if_neg h1,if_neg h1]
theorem splice_num (H:HS) (m:UInt64):splice (hashL H) 72 [u64 m]=hashL ⟨H.s,H.l,m⟩:=by
  apply List.ext_getElem?
  intro k
  rw [splice_get _ _ _ (by rw [hashL_length]; simp),hash_get,hash_get]
  simp only [List.length_singleton]
  by_cases h1:72≤k∧k < 72+1
  · obtain rfl:k=72:=by omega
    rfl
  · rw [if_neg h1]
    by_cases h2:k < 8
    · rw [if_pos h2,if_pos h2]
    · rw [if_neg h2,if_neg h2]
      by_cases h3:k < 72
      · rw [if_pos h3,if_pos h3]
      · rw [if_neg h3,if_neg h3,if_neg (by omega),if_neg (by omega)]
theorem all_one {α:Type} (K:α→Value) (hK:∀ a,Value.oneCell' (K a)=true) (g:Nat→α) (n:Nat):((List.range n).map fun j=>K (g j)).all Value.oneCell'=true:=by
  rw [List.all_eq_true]; intro x hx; obtain⟨j,_,rfl⟩:=List.mem_map.1 hx; exact hK _
theorem store_lit {D cs D':List Value} {o:Nat} (h:o+cs.length≤D.length) (he:splice D o cs=D'):(Cont.lit D).store (.lit o) cs=some (.lit D'):=by
  show(match Nat.ble (o+cs.length) D.length with
    | true=>some (Cont.lit (splice D o cs))
    | false=>none)=_
  rw [Nat.ble_eq_true_of_le h,he]
theorem st_words (H:HS) (g:Nat→UInt32):(hashC H).store (.lit 0) (vecV 8 fun k=>u32 (g k)).cells.toList=some (hashC ⟨g,H.l,H.n⟩) :=
  store_lit (by rw [hashL_length]; exact Nat.le_of_ble_eq_true rfl) (splice_words H g)
theorem st_num (H:HS) (m:UInt64):(hashC H).store (.lit 72) (u64 m).cells.toList=some (hashC ⟨H.s,H.l,m⟩) :=
  store_lit (by rw [hashL_length]; exact Nat.le_of_ble_eq_true rfl) (splice_num H m)
section
variable {P:Program} {dT sT ty e:TypeId}
theorem srun_cpLast (hu : P.underlying dT = some (.slice e)) (hs : sizeB P e = some 1) (H : HS) (g : Nat → UInt8) (b k bs os i sl sc dc : Nat) (N : Nat) (hi : i < 64) (hN : os + sl ≤ N) :
    SRuns P (copySem dT sT ty (.slice (some ⟨b,8+i,none⟩) (64 - i) dc) (.slice (some ⟨k,bs+os,none⟩) sl sc)) [⟨b,true,0,hashC H⟩,⟨k,false,bs,tabF N fun j=>u8 (g j)⟩] 0 (fun _=>nat (min sl (64 - i)))
      (fun _=>[some ⟨b,true,0,hashC ⟨H.s,cpyL H.l i (min sl (64 - i)) (fun j=>g (os+j)),H.n⟩⟩,none]):=by
  have h:=srun_copyG (P:=P) (dT:=dT) (sT:=sT) (ty:=ty) (e:=e) (n:=b) (k:=k) (od:=8+i) (dl:=64 - i) (dc:=dc) (bs:=bs) (os:=os) (sl:=sl) (sc:=sc)
    (D:=hashL H) (cs:=(List.range (min sl (64 - i))).map fun j=>u8 (g (os+j))) (S:=tabF N fun j=>u8 (g j)) hu hs (fun j hj=>by
      have hj':j < min sl (64 - i):=by simpa using hj
      rw [tabF_in (by omega),map_get u8 (fun j=>g (os+j)) _ _ hj']) (by simp) (all_one u8 (fun _=>rfl) _ _)
    (store_lit (by rw [hashL_length]; simp; omega) (splice_last H i (min sl (64 - i)) (fun j=>g (os+j)) (by omega)))
  rw [show((List.range (min sl (64 - i))).map fun j=>u8 (g (os+j))).length=min sl (64 - i) by simp] at h
  exact h
theorem srun_cpWords (hu : P.underlying dT = some (.slice e)) (hs : sizeB P e = some 1) (H G : HS) (b k : Nat) :
    SRuns P (copySem dT sT ty (.slice (some ⟨b,0,none⟩) 8 8) (.slice (some ⟨k,0,none⟩) 8 8)) [⟨b,true,0,hashC H⟩,⟨k,false,0,hashC G⟩] 0 (fun _=>nat 8)
      (fun _=>[some ⟨b,true,0,hashC ⟨G.s,H.l,H.n⟩⟩,none]) :=
  srun_copyG (P:=P) (dT:=dT) (sT:=sT) (ty:=ty) (e:=e) (n:=b) (k:=k) (od:=0) (dl:=8) (dc:=8) (bs:=0) (os:=0) (sl:=8) (sc:=8)
    (D:=hashL H) (cs:=(List.range 8).map fun j=>u32 (G.s j)) (S:=hashC G) hu hs (fun j hj=>by
      have hj':j < 8:=by simpa using hj
      rw [map_get u32 G.s _ _ hj']; show(hashL G)[0+j]? = _; rw [hash_get,if_pos (by omega),Nat.zero_add]) (by simp) (all_one u32 (fun _=>rfl) _ _)
    (store_lit (by rw [hashL_length]; simp) (splice_words H G.s))
theorem srun_cpBytes (hu : P.underlying dT = some (.slice e)) (hs : sizeB P e = some 1) (H G : HS) (b k : Nat) :
    SRuns P (copySem dT sT ty (.slice (some ⟨b,8,none⟩) 64 64) (.slice (some ⟨k,8,none⟩) 64 64)) [⟨b,true,0,hashC H⟩,⟨k,false,0,hashC G⟩] 0 (fun _=>nat 64)
      (fun _=>[some ⟨b,true,0,hashC ⟨H.s,cpyL H.l 0 64 G.l,H.n⟩⟩,none]) :=
  srun_copyG (P:=P) (dT:=dT) (sT:=sT) (ty:=ty) (e:=e) (n:=b) (k:=k) (od:=8) (dl:=64) (dc:=64) (bs:=0) (os:=8) (sl:=64) (sc:=64)
    (D:=hashL H) (cs:=(List.range 64).map fun j=>u8 (G.l j)) (S:=hashC G) hu hs (fun j hj=>by
      have hj':j < 64:=by simpa using hj
      rw [map_get u8 G.l _ _ hj']; show(hashL G)[8+j]? = _; rw [hash_get,if_neg (by omega),if_pos (by omega),Nat.add_sub_cancel_left]) (by simp) (all_one u8 (fun _=>rfl) _ _)
    (store_lit (by rw [hashL_length]; simp) (splice_last H 0 64 G.l (by omega)))
theorem is_slArrN {t : TypeId} {x y : Operand} {n : Nat} (ht : P.underlying t = some (.array n e)) (hs : sizeB P e = some 1) (b o i : Nat) (k : IntKind) (hi : i < n) :
    IsOp P (.slice t x (some y) none none) [ptr b o,.int k (i:Int)] (.slice (some ⟨b,o+i,none⟩) (n - i) (n - i)):=by
  have h:=is_slArr (x:=x) (y:=y) ht hs b o i k (by omega)
  rwa [if_neg (by omega)] at h
end
def put (H:HS) (x:UInt8):HS :=
  if (H.n+1) % 64=0 then ⟨mixS H.s (upd H.l (H.n % 64).toNat x),upd H.l (H.n % 64).toNat x,H.n+1⟩ else ⟨H.s,upd H.l (H.n % 64).toNat x,H.n+1⟩
def puts (H:HS) (f:Nat→UInt8):Nat→HS
  | 0=>H
  | k+1=>put (puts H f k) (f k)
theorem puts_add (H:HS) (f:Nat→UInt8) (a:Nat):∀ b,puts H f (a+b)=puts (puts H f a) (fun k=>f (a+k)) b
  | 0=>rfl
  | b+1=>by show put (puts H f (a+b)) (f (a+b))=put _ (f (a+b)); rw [puts_add H f a b]
theorem puts_congr (H:HS) {f g:Nat→UInt8}:∀ {n:Nat},(∀ k,k < n→f k=g k)→puts H f n=puts H g n
  | 0,_=>rfl
  | n+1,h=>by rw [puts,puts,puts_congr H (fun k hk=>h k (by omega)),h n (by omega)]
theorem n64_lt (n:UInt64):(n % 64).toNat < 64:=by
  rw [UInt64.toNat_mod]; exact Nat.mod_lt _ (by decide)
theorem n64_add (n:UInt64) (k:Nat) (h:(n % 64).toNat+k < 64):((n+UInt64.ofNat k) % 64).toNat=(n % 64).toNat+k:=by
  have h1:(64:UInt64).toNat=64:=rfl
  rw [UInt64.toNat_mod,h1] at h
  rw [UInt64.toNat_mod,UInt64.toNat_mod,h1]
  rw [UInt64.toNat_add,UInt64.toNat_ofNat']
  have:=n.toNat_lt
  omega
theorem n64_end (n:UInt64) (k:Nat) (h:(n % 64).toNat+k=64):(n+UInt64.ofNat k) % 64=0:=by
  apply UInt64.toNat_inj.1
  have h1:(64:UInt64).toNat=64:=rfl
  rw [UInt64.toNat_mod,h1] at h ⊢
  rw [UInt64.toNat_add,UInt64.toNat_ofNat']
  have:=n.toNat_lt
  show _=0
  omega
theorem n_succ (n:UInt64) (k:Nat):n+UInt64.ofNat k+1=n+UInt64.ofNat (k+1):=by
  apply UInt64.toNat_inj.1
  simp only [UInt64.toNat_add,UInt64.toNat_ofNat']
  have h1:(1:UInt64).toNat=1:=rfl
  rw [h1]
  omega
theorem puts_mid (H:HS) (g:Nat→UInt8):∀ {k:Nat},(H.n % 64).toNat+k < 64→puts H g k=⟨H.s,cpyL H.l (H.n % 64).toNat k g,H.n+UInt64.ofNat k⟩
  | 0,_=>by
    rw [puts,cpyL_zero]
    show H=⟨H.s,H.l,H.n+0⟩
    rw [UInt64.add_zero]
  | k+1,h=>by
    have hz:¬ (H.n+UInt64.ofNat (k+1)) % 64=0:=fun e=>by
      have h1:=n64_add H.n (k+1) (by omega)
      rw [e] at h1
      have h2:(0:UInt64).toNat=0:=rfl
      omega
    rw [puts,puts_mid H g (by omega),put]
    simp only [n_succ]
    rw [if_neg hz,n64_add H.n k (by omega),cpyL_succ]
theorem puts_end (H:HS) (g:Nat→UInt8) {k:Nat} (h:(H.n % 64).toNat+k=64):puts H g k=⟨mixS H.s (cpyL H.l (H.n % 64).toNat k g),cpyL H.l (H.n % 64).toNat k g,H.n+UInt64.ofNat k⟩:=by
  have:=n64_lt H.n
  obtain⟨k,rfl⟩:∃ j,k=j+1:=⟨k - 1,by omega⟩
  rw [puts,puts_mid H g (by omega),put]
  simp only [n_succ]
  rw [if_pos (n64_end H.n (k+1) h),n64_add H.n k (by omega),cpyL_succ]
theorem wr_no {H:HS} {g:Nat→UInt8} {k m:Nat} (hk:k=min m (64 - (H.n % 64).toNat)) (h:((H.n+UInt64.ofNat k) % 64 == 0)=false):(HS.mk H.s (cpyL H.l (H.n % 64).toNat k g) (H.n+UInt64.ofNat k))=puts H g k:=by
  have:=n64_lt H.n
  rw [puts_mid]
  rcases Nat.lt_or_ge ((H.n % 64).toNat+k) 64 with h1 | h1
  · exact h1
  · rw [n64_end H.n k (by omega)] at h
    cases h
theorem wr_yes {H:HS} {g:Nat→UInt8} {k m:Nat} (hm:0 < m) (hk:k=min m (64 - (H.n % 64).toNat)) (h:((H.n+UInt64.ofNat k) % 64 == 0)=true):(HS.mk (mixS H.s (cpyL H.l (H.n % 64).toNat k g)) (cpyL H.l (H.n % 64).toNat k g) (H.n+UInt64.ofNat k))=puts H g k:=by
  have:=n64_lt H.n
  rw [puts_end]
  rcases Nat.lt_or_ge ((H.n % 64).toNat+k) 64 with h1 | h1
  · exfalso
    have h2:=n64_add H.n k h1
    rw [beq_iff_eq.1 h] at h2
    have h3:(0:UInt64).toNat=0:=rfl
    omega
  · omega
def wakeH (H:HS):HS:=if (H.n == 0)=true then ⟨begW,H.l,H.n⟩ else H
def wrH (H:HS) (f:Nat→UInt8) (n:Nat):HS:=puts (wakeH H) f n
def famTB (b:BytL) (x:Blk):Prop:=famT x∨famB b x
end Go.Eng
end
section
namespace Go.Eng
theorem hash_copy (H:HS) (z:Nat→UInt8):hashC ⟨H.s,cpyL z 0 64 H.l,H.n⟩=hashC H:=by
  refine congrArg Cont.lit (List.ext_getElem? fun k=>?_)
  rw [hash_get,hash_get]
  by_cases h2:k < 8
  · rw [if_pos h2,if_pos h2]
  · rw [if_neg h2,if_neg h2]
    by_cases h3:k < 72
    · rw [if_pos h3,if_pos h3]
      simp only [cpyL]
      rw [if_pos (by omega),Nat.sub_zero]
    · rw [if_neg h3,if_neg h3]
def newH:HS:=⟨fun _=>0,fun _=>0,0⟩
section
variable {P:Program} {t ty e:TypeId}
def ldSem (t:TypeId) (x:Value):Sem Next:=do pure (.value (← Instr.loadAt t x))
theorem srun_ldW (ha:aggB P t=some false) (H:HS) (b i:Nat) (hi:i < 8):SRuns P (ldSem t (.pointer (some ⟨b,0+i*1,none⟩))) [⟨b,false,0,hashC H⟩] 0 (fun _=>u32 (H.s i)) (fun _=>[none]):=by
  intro w hm hap
  have hS:Holds ⟨b,false,0,hashC H⟩ w:=hm _ (by simp)
  have hc:=hS.cell i (u32 (H.s i)) (by show(hashL H)[i]? = _; rw [hash_get,if_pos hi])
  refine⟨[],w,rfl,.inl ?_,?_⟩
  · have hr:=run_loadAt_one (P:=P) (t:=t) (w:=w) (b:=b) (o:=0+i*1) (v:=u32 (H.s i)) ha (by rw [Nat.mul_one]; exact hc)
    show(Instr.loadAt t _ >>= fun v=>Sem.pure (Next.value v)).run P w=_
    rw [Sem.run_bind,hr]; rfl
  · exact⟨fun p b hpb=>by rcases p with _ | p <;> simp [lM] at hpb,fun p q b c _ hpb=>by rcases p with _ | p <;> simp [lM] at hpb,(Adv.refl _ _).weak fun p b hpb=>by rcases p with _ | p <;> simp [lM] at hpb⟩
theorem mk_make_cap {B : Nat} {z : Value} (ht : P.underlying t = some (.slice e)) (h1 : OneC P e z B) (n c : Nat) (k1 k2 : IntKind) (hn : n ≤ c) (hb : (B : Int) * (c : Int) ≤ 281474976710656 ∧ c ≤ 9223372036854775807) {α : Type} (K : α → Value) (a : α) (hz : K a = z) :
    SRuns P (makeSem t (.int k1 (n:Int)) (.int k2 (c:Int))) [] 1 (fun ns=>.slice (some ⟨ns.getD 0 0,0,none⟩) n (n+(c - n))) (fun ns=>[some ⟨ns.getD 0 0,true,0,spr (n+(c - n)) n (fun _=>K a) z⟩]):=by
  subst hz
  obtain⟨i,hi,hz,hsz,hB,hzc⟩:=h1
  subst hB
  rw [show n+(c - n)=c by omega]
  refine(srun_made (P:=P) (e:=e) (s:=makeSem t (.int k1 (n:Int)) (.int k2 (c:Int))) (cs:=madeCells (K a).cells (c*i.size)) (len:=n) (cap:=c) fun w=>?_).recont (fun _=>rfl) fun ns o v ho=>?_
  · refine run_value ?_
    have:=run_make (P:=P) w t e i (K a) ht hi hz k1 k2 (n:Int) (c:Int) (by omega) (by omega) hb.1 (by omega)
    simpa using this
  · by_cases hon:o < c
    · rw [spr,tabF_in hon] at ho
      rw [hzc,hsz]
      simp [Cont.get,madeCells,hon,Nat.mod_one]
      simpa using ho
    · rw [spr,tabF_out hon] at ho; cases ho
end
theorem store_spr {α:Type} (c n:Nat) (K:α→Value) (f:Nat→α) (z:Value) (i:Nat) (v:α) (hi:i < n):(spr c n (fun k=>K (f k)) z).store (.tab i 0) [K v]=some (spr c n (fun k=>K (upd f i v k)) z):=by
  show some (Cont.tab c 1 fun k=>if k=i then [K v] else [if k < n then K (f k) else z])=_
  unfold spr tabF
  congr 2
  funext k
  by_cases h:k=i
  · subst h; simp [upd,hi]
  · simp [upd,h]
def zerosU (n:UInt64):UInt64:=(119 - n % 64) % 64
def tailZ (n:UInt64):Nat:=(1+zerosU n).toNat
def lenB (n:UInt64) (i:Nat):UInt8:=(shr64 (8*n) (56 - 8*i)).toUInt8
def tailF (n:UInt64):Nat→UInt8:=fun k=>if k=0 then 128 else if k < tailZ n then 0 else lenB n (k - tailZ n)
theorem zeros_lt (n:UInt64):(zerosU n).toNat < 64:=n64_lt _
theorem tailZ_val (n:UInt64):tailZ n=1+(zerosU n).toNat:=by
  unfold tailZ
  rw [UInt64.toNat_add]
  have:=zeros_lt n
  have h1:(1:UInt64).toNat=1:=rfl
  omega
theorem zeros_mod (n:UInt64):(n.toNat+(zerosU n).toNat) % 64=55:=by
  unfold zerosU
  have h64:(64:UInt64).toNat=64:=rfl
  have h119:(119:UInt64).toNat=119:=rfl
  have h1:=n64_lt n
  have h2:(n % 64).toNat=n.toNat % 64:=by rw [UInt64.toNat_mod,h64]
  rw [UInt64.toNat_mod,h64,UInt64.toNat_sub_of_le _ _ (by rw [UInt64.le_iff_toNat_le]; omega),h119]
  omega
theorem tail_mod (n:UInt64):(n.toNat+(tailZ n+8)) % 64=0:=by
  have:=zeros_mod n
  rw [tailZ_val]; omega
def digB (s:Nat→UInt32) (i:Nat):UInt8:=(shr32 (s (i / 4)) (24 - i % 4*8)).toUInt8
def digR (s:Nat→UInt32) (i:Nat):Nat→UInt8:=fun k=>if k < i then digB s k else 0
theorem digR_succ (s:Nat→UInt32) (i:Nat):upd (digR s i) i (digB s i)=digR s (i+1):=by
  funext k; unfold upd digR
  by_cases h:k=i
  · subst h; rw [if_pos rfl,if_pos (by omega)]
  · rw [if_neg h]
    by_cases h2:k < i
    · rw [if_pos h2,if_pos (by omega)]
    · rw [if_neg h2,if_neg (by omega)]
def endH (H:HS):HS:=wrH H (tailF H.n) (tailZ H.n+8)
def sumD (H:HS):Nat→UInt8:=digB (endH H).s
theorem vec_digR (s:Nat→UInt32):vecV 32 (fun k=>u8 (digR s 32 k))=vecV 32 fun k=>u8 (digB s k) :=
  vecV_ext fun k hk=>by rw [digR,if_pos hk]
theorem RunsF.lendW {F F' : Blk → Prop} {P : Program} {f : FuncId} {args : List Value} {b0 : Blk} {cs : List Blk} {v : Value} {o : Blk} (h : RunsF F P f args [b0] 0 (fun _ => v) (fun _ => [some o]))
    (hF:∀ w:World,FamH F' w→(∀ b ∈ cs,Holds b w)→FamH F w) (hn:∀ x,F x→∀ j,x.has j→(∃ y,F' y∧y.has j)∨∃ c ∈ cs,c.has j) (hb0:b0.own=true) (hc:∀ b ∈ cs,b.own=false) :
    RunsF F' P f args (b0 :: cs) 0 (fun _=>v) (fun _=>some o :: noneL cs):=by
  intro w hm ha hF'
  have hsub:∀ p b,lM ([b0].map some) p=some b→p=0∧b=b0:=fun p b hp=>by
    rcases p with _ | p
    · cases hp; exact⟨rfl,rfl⟩
    · simp [lM] at hp
  have ho1:∀ k,Owns (lM ([b0].map some)) k→Owns (lM ((b0 :: cs).map some)) k:=fun k ⟨p,b,h1,h2,h3⟩=>by
    obtain⟨rfl,rfl⟩:=hsub p b h1
    exact⟨0,b,rfl,h2,h3⟩
  have hapart:∀ c ∈ cs,∀ k,b0.has k→¬ c.has k:=fun c hcm=>by
    obtain⟨i,hi⟩:=List.getElem?_of_mem hcm
    exact ha 0 (i+1) b0 c (by omega) rfl (by show lM (some b0 :: cs.map some) (i+1)=some c; simp [lM,hi]) hb0
  have hw:=hF w (fun b hb'=>⟨(hF' b hb').1,(hF' b hb').2.1⟩) (fun b hb'=>hm b (by simp [hb']))
  refine Calls.mono (h w (fun b hb'=>hm b (by simp at hb'; simp [hb'])) (fun p q b c hpq hpb hqc ho=>?_) (fun b hFb=>⟨(hw b hFb).1,(hw b hFb).2,fun j hj ⟨p,b',h1,h2,h3⟩=>?_⟩)) ?_
  · obtain⟨rfl,_⟩:=hsub p b hpb
    obtain⟨rfl,_⟩:=hsub q c hqc
    exact absurd rfl hpq
  · obtain⟨rfl,rfl⟩:=hsub p b' h1
    rcases hn b hFb j hj with ⟨y,hy,he⟩ | ⟨c,hcm,he⟩
    · exact(hF' y hy).2.2 j he (ho1 _ ⟨0,b',rfl,h2,h3⟩)
    · exact hapart c hcm j h3 he
  · rintro e w' ⟨ns,hns,he,hp⟩
    have hout:∀ p b,lM (some o :: noneL cs) p=some b→lM [some o] p=some b:=fun p b hpb=>by
      rcases p with _ | p
      · exact hpb
      · exact absurd (show lM (noneL cs) p=some b by simpa [lM] using hpb) (noneL_get _ _ _)
    exact⟨ns,hns,he,⟨fun p b hpb=>hp.holds p b (hout p b hpb),fun p q b c hpq hpb hqc=>hp.apart p q b c hpq (hout p b hpb) (hout q c hqc),
      ⟨hp.adv.os,hp.adv.output,hp.adv.tape,hp.adv.size,fun k hk hno=>hp.adv.heap k hk (fun hk'=>hno (ho1 k hk')),fun k ⟨p,b,h1,h2,h3⟩=>by
        rcases hp.adv.names k ⟨p,b,hout p b h1,h2,h3⟩ with h4 | h4
        · exact .inl (ho1 k h4)
        · exact .inr h4,fun p b hpb hob=>by
        have h1:=hp.adv.ro p b (hout p b hpb) hob
        obtain⟨rfl,rfl⟩:=hsub p b h1
        exact rfl⟩⟩⟩
end Go.Eng
namespace Go.Eng
theorem srun_cpLastA {P : Program} {dT sT ty e : TypeId} (hu : P.underlying dT = some (.slice e)) (hs : sizeB P e = some 1) (H : HS) (g : Nat → UInt8) (b k bs os i sl sc dc : Nat) (N : Nat) (hi : i < 64) (hN : os + sl ≤ N) {A : Option Addr} (hA : A = some ⟨k, bs + os, none⟩) :
    SRuns P (copySem dT sT ty (.slice (some ⟨b,8+i,none⟩) (64 - i) dc) (.slice A sl sc)) [⟨b,true,0,hashC H⟩,⟨k,false,bs,tabF N fun j=>u8 (g j)⟩] 0 (fun _=>nat (min sl (64 - i)))
      (fun _=>[some ⟨b,true,0,hashC ⟨H.s,cpyL H.l i (min sl (64 - i)) (fun j=>g (os+j)),H.n⟩⟩,none]):=by
  subst hA; exact srun_cpLast hu hs H g b k bs os i sl sc dc N hi hN
theorem wr_init {H G:HS} {b:BytL} (hb:OkB b) (hG:G=wakeH H):b.wn≤b.wn∧b.wn≤b.wc∧G=puts (wakeH H) b.wf (b.wn - b.wn)∧(0 < b.wn→b.wa=some ⟨b.wb,b.wo+(b.wn - b.wn),none⟩)∧b.wc≤b.wc:=by
  rw [Nat.sub_self]
  exact⟨Nat.le_refl _,hb.cap,hG,hb.ad,Nat.le_refl _⟩
theorem wr_step {H G G' : HS} {b : BytL} {A : Option Addr} {m q k i : Nat} (hm : 0 < m) (h0 : m ≤ b.wn) (h1 : m ≤ q) (h2 : G = puts (wakeH H) b.wf (b.wn - m)) (h3 : 0 < m → A = some ⟨b.wb, b.wo + (b.wn - m), none⟩) (h4 : q ≤ b.wc)
    (hG:G'=puts G (fun j=>b.wf (b.wn - m+j)) k) (hk:k=min m (64 - i)) (hi:i < 64) :
    (m - k≤b.wn∧m - k≤q - k∧G'=puts (wakeH H) b.wf (b.wn - (m - k))∧(0 < m - k→fromA A q k 1=some ⟨b.wb,b.wo+(b.wn - (m - k)),none⟩)∧q - k≤b.wc)∧m - k < m:=by
  refine⟨⟨by omega,by omega,?_,fun h5=>?_,by omega⟩,by omega⟩
  · rw [hG,h2,show b.wn - (m - k)=(b.wn - m)+k by omega,puts_add]
  · rw [h3 hm]
    unfold fromA
    rw [if_neg (by omega)]
    simp [add_none] <;> omega
theorem wr_fin {H G:HS} {b:BytL} {m:Nat} (h:G=puts (wakeH H) b.wf (b.wn - m)) (hm:¬ 0 < m):hashC G=hashC (wrH H b.wf b.wn):=by
  rw [h,show b.wn - m=b.wn by omega]; rfl
end Go.Eng
namespace Go.Eng
theorem tailZ_le (n:UInt64):0 < (1+(119 - n % 64) % 64).toNat∧(1+(119 - n % 64) % 64).toNat≤64:=by
  have h:=tailZ_val n
  have h2:=zeros_lt n
  unfold tailZ zerosU at h
  unfold zerosU at h2
  omega
theorem tail_cat (n : UInt64) (k : Nat) (hk : k < (1 + (119 - n % 64) % 64).toNat + 8) {z : Nat} (hz : z = (1 + (119 - n % 64) % 64).toNat) :
    catU (catU (catU (catU (catU (catU (catU (catU (upd (fun _=>0) 0 128) z (fun _=>(shr64 (8*n) 56).toUInt8)) (z+1) (fun _=>(shr64 (8*n) 48).toUInt8)) (z+1+1) (fun _=>(shr64 (8*n) 40).toUInt8)) (z+1+1+1) (fun _=>(shr64 (8*n) 32).toUInt8)) (z+1+1+1+1) (fun _=>(shr64 (8*n) 24).toUInt8)) (z+1+1+1+1+1) (fun _=>(shr64 (8*n) 16).toUInt8)) (z+1+1+1+1+1+1) (fun _=>(shr64 (8*n) 8).toUInt8)) (z+1+1+1+1+1+1+1) (fun _=>(shr64 (8*n) 0).toUInt8) k=tailF n k:=by
  have h0:=tailZ_le n
  have e:tailZ n=z:=hz.symm
  unfold tailF
  rw [e]
  rw [← hz] at hk h0
  by_cases h1:k < z
  · have:∀ j,k < z+j:=fun j=>by omega
    simp only [catU,upd]
    rw [if_pos (by omega),if_pos (by omega),if_pos (by omega),if_pos (by omega),if_pos (by omega),if_pos (by omega),if_pos (by omega),if_pos h1,if_pos h1]
  · obtain⟨j,rfl⟩:∃ j,k=z+j:=⟨k - z,by omega⟩
    rw [if_neg (by omega),if_neg h1,Nat.add_sub_cancel_left]
    rcases j with _ | _ | _ | _ | _ | _ | _ | _ | j
    · simp only [catU]; rw [if_pos (by omega),if_pos (by omega),if_pos (by omega),if_pos (by omega),if_pos (by omega),if_pos (by omega),if_pos (by omega),if_neg (by omega)]; rfl
    · simp only [catU]; rw [if_pos (by omega),if_pos (by omega),if_pos (by omega),if_pos (by omega),if_pos (by omega),if_pos (by omega),if_neg (by omega)]; rfl
    · simp only [catU]; rw [if_pos (by omega),if_pos (by omega),if_pos (by omega),if_pos (by omega),if_pos (by omega),if_neg (by omega)]; rfl
    · simp only [catU]; rw [if_pos (by omega),if_pos (by omega),if_pos (by omega),if_pos (by omega),if_neg (by omega)]; rfl
    · simp only [catU]; rw [if_pos (by omega),if_pos (by omega),if_pos (by omega),if_neg (by omega)]; rfl
    · simp only [catU]; rw [if_pos (by omega),if_pos (by omega),if_neg (by omega)]; rfl
    · simp only [catU]; rw [if_pos (by omega),if_neg (by omega)]; rfl
    · simp only [catU]; rw [if_neg (by omega)]; rfl
    · omega
theorem digR_zero (s:Nat→UInt32):(fun _=>0)=digR s 0:=by
  funext k; unfold digR; rw [if_neg (by omega)]
theorem famTB_own {F : Blk → Prop} (hT : ∀ x, famT x → F x) {nm n cc : Nat} {f : Nat → UInt8} {B : Blk} (hH : ∀ w : World, Holds B w → Holds ⟨nm, false, 0, tabF n fun k => u8 (f k)⟩ w) :
    ∀ w:World,FamH F w→(∀ b ∈ [B],Holds b w)→FamH (famTB (bytO nm n cc f)) w:=fun w hF hb x hx=>by
  rcases hx with hx | hx
  · exact hF x (hT x hx)
  · exact holdb_own (hH w (hb B (by simp))) x hx
theorem famTB_names {F : Blk → Prop} (hT : ∀ x, famT x → F x) {nm n cc : Nat} {f : Nat → UInt8} {B : Blk} (hn : B.has nm) :
    ∀ x,famTB (bytO nm n cc f) x→∀ j,x.has j→(∃ y,F y∧y.has j)∨∃ c ∈ [B],c.has j:=fun x hx j hj=>by
  rcases hx with hx | ⟨_,rfl⟩
  · exact .inl ⟨x,hT x hx,hj⟩
  · have hj:nm=j:=hj
    subst hj
    exact .inr ⟨B,by simp,hn⟩
end Go.Eng
namespace Go.Eng
theorem digR_step {s:Nat→UInt32} {d:Nat→UInt8} {i:Nat} (h:d=digR s i):upd d i ((shr32 (s (i / 4)) (24 - i % 4*8)).toUInt8)=digR s (i+1):=by
  subst h; exact digR_succ s i
theorem sum_fin (H:HS) {d:Nat→UInt8} {i:Nat} (h:d=digR (wrH H (tailF H.n) (tailZ H.n+8)).s i) (hi:i=32):vecV 32 (fun k=>u8 (d k))=vecV 32 fun k=>u8 (sumD H k):=by
  subst h hi; exact vec_digR _
end Go.Eng
namespace Go.Eng
theorem mixS_congr {s:Nat→UInt32} {f g:Nat→UInt8} (h:∀ k,k < 64→f k=g k):mixS s f=mixS s g:=by
  have h1:sp1 f 64=sp1 g 64:=by
    have:∀ n,n≤64→sp1 f n=sp1 g n:=fun n=>by
      induction n with
      | zero=>intro _; rfl
      | succ n ih=>intro hn; rw [sp1,sp1,ih (by omega),h n (by omega)]
    exact this 64 (Nat.le_refl _)
  have h2:∀ n,sp2 f n=sp2 g n:=fun n=>by
    induction n with
    | zero=>exact h1
    | succ n ih=>rw [sp2,sp2,ih]
  unfold mixS sprW
  rw [h2]
def foldS (f:Nat→UInt8):Nat→(Nat→UInt32)
  | 0=>begW
  | j+1=>mixS (foldS f j) (fun k=>f (64*j+k))
def begH:HS:=⟨begW,fun _=>0,0⟩
theorem wake_new:wakeH newH=begH:=by unfold wakeH newH; rw [if_pos (by rfl)]; rfl
theorem puts_n (H:HS) (f:Nat→UInt8):∀ n,(puts H f n).n=H.n+UInt64.ofNat n
  | 0=>by show H.n=H.n+0; rw [UInt64.add_zero]
  | n+1=>by
    rw [puts,put,← n_succ,← puts_n H f n]
    split <;> rfl
theorem puts_fold (f:Nat→UInt8):∀ j,(puts begH f (64*j)).s=foldS f j
  | 0=>rfl
  | j+1=>by
    have hn:((puts begH f (64*j)).n % 64).toNat=0:=by
      rw [puts_n]
      have h1:(64:UInt64).toNat=64:=rfl
      show((0+UInt64.ofNat (64*j)) % 64).toNat=0
      rw [UInt64.zero_add,UInt64.toNat_mod,UInt64.toNat_ofNat',h1]
      omega
    rw [show 64*(j+1)=64*j+64 by omega,puts_add,puts_end _ _ (k:=64) (by omega),foldS,← puts_fold f j]
    exact mixS_congr fun k hk=>by
      unfold cpyL
      rw [hn,if_pos (by omega),Nat.sub_zero]
structure Stands (H:HS) (f:Nat→UInt8) (n:Nat):Prop where
  wake:wakeH H=puts begH f n
  num:H.n=UInt64.ofNat n
theorem stands_new (f:Nat→UInt8):Stands newH f 0:=⟨wake_new,rfl⟩
theorem wake_puts (f:Nat→UInt8) {n:Nat} (h:n < 18446744073709551616):wakeH (puts begH f n)=puts begH f n:=by
  rcases Nat.eq_zero_or_pos n with h0 | h0
  · subst h0; rfl
  · unfold wakeH
    have:(puts begH f n).n≠0:=fun e=>by
      rw [puts_n] at e
      have h2:=congrArg UInt64.toNat e
      rw [show begH.n=0 from rfl,UInt64.zero_add,UInt64.toNat_ofNat',Nat.mod_eq_of_lt h] at h2
      have h3:(0:UInt64).toNat=0:=rfl
      omega
    rw [if_neg (by simpa using this)]
theorem Stands.wr {H:HS} {f:Nat→UInt8} {n:Nat} (h:Stands H f n) (g:Nat→UInt8) (m:Nat):wrH H g m=puts begH (catU f n g) (n+m):=by
  unfold wrH
  rw [h.wake,puts_add begH (catU f n g) n m,puts_congr begH (f:=f) (g:=catU f n g) (fun k hk=>by unfold catU; rw [if_pos hk])]
  exact puts_congr _ fun k hk=>by unfold catU; rw [if_neg (by omega),Nat.add_sub_cancel_left]
theorem Stands.write {H:HS} {f g:Nat→UInt8} {n m:Nat} (h:Stands H f n) (hm:n+m < 18446744073709551616):Stands (wrH H g m) (catU f n g) (n+m):=by
  have e:=h.wr g m
  refine⟨?_,?_⟩
  · rw [e,wake_puts _ hm]
  · rw [e,puts_n]; show 0+_=_; rw [UInt64.zero_add]
theorem Stands.congr {H:HS} {f g:Nat→UInt8} {n:Nat} (h:Stands H f n) (hfg:∀ k,k < n→f k=g k):Stands H g n :=
  ⟨by rw [h.wake]; exact puts_congr _ hfg,h.num⟩
def padF (f:Nat→UInt8) (n:Nat):Nat→UInt8:=catU f n (tailF (UInt64.ofNat n))
def digOf (f:Nat→UInt8) (n:Nat):Nat→UInt8:=digB (foldS (padF f n) ((n+(tailZ (UInt64.ofNat n)+8)) / 64))
theorem Stands.sum {H:HS} {f:Nat→UInt8} {n:Nat} (h:Stands H f n) (hn:n < 18446744073709551616 - 128):sumD H=digOf f n:=by
  have hz:=tailZ_le (UInt64.ofNat n)
  have hz2:tailZ (UInt64.ofNat n)≤64:=hz.2
  have hm:=tail_mod (UInt64.ofNat n)
  rw [UInt64.toNat_ofNat',Nat.mod_eq_of_lt (show n < 2 ^ 64 by omega)] at hm
  unfold sumD digOf endH
  rw [h.num]
  refine congrArg digB ?_
  have e:=h.wr (tailF (UInt64.ofNat n)) (tailZ (UInt64.ofNat n)+8)
  have hq:64*((n+(tailZ (UInt64.ofNat n)+8)) / 64)=n+(tailZ (UInt64.ofNat n)+8):=by omega
  rw [e]
  show _=foldS (padF f n) _
  rw [← puts_fold,hq]; rfl
end Go.Eng
namespace Go.Eng
def bytP (nm at_ n c:Nat) (f:Nat→UInt8):BytL:=⟨some ⟨nm,at_,none⟩,n,c,nm,at_,fun k=>f (at_+k)⟩
theorem okb_part {nm at_ n c:Nat} {f:Nat→UInt8} (h1:n≤c) (h2:n≤9223372036854775807):OkB (bytP nm at_ n c f):=⟨h1,fun _=>rfl,h2⟩
end Go.Eng
end
section
namespace Go.Eng
end Go.Eng
end
section
namespace Go.Eng
theorem noneO_get {α:Type} (cs:List α) (p:Nat) (b:Blk):lM (cs.map fun _=>(none:Option Blk)) p≠some b:=fun h=>by
  unfold lM at h
  rw [List.getElem?_map] at h
  cases hc:cs[p]? <;> rw [hc] at h <;> simp at h
theorem RunsO.lendQ {F F' : Blk → Prop} {P : Program} {f : FuncId} {args : List Value} {bs cs : List (Option Blk)} {k : Nat} {v : List Nat → Value} {o nw : List Nat → List (Option Blk)} (h : RunsO F P f args bs k v (fun ns => o ns ++ nw ns)) (ho : ∀ ns, (o ns).length = bs.length)
    (hF:∀ w:World,FamH F' w→(∀ b,some b ∈ cs→Holds b w)→FamH F w) (hn:∀ x,F x→∀ j,x.has j→(∃ y,F' y∧y.has j)∨∃ c,some c ∈ cs∧c.has j) :
    RunsO F' P f args (bs ++ cs) k v (fun ns=>o ns ++ (cs.map (fun _=>none) ++ nw ns)):=by
  intro w hm ha hF'
  have hin:∀ (l:List (Option Blk)) p b,lM l p=some b→p < l.length∧some b ∈ l:=fun l p b hp=>by
    unfold lM at hp
    cases hc:l[p]? with
    | none=>rw [hc] at hp; cases hp
    | some x =>
      rw [hc] at hp
      obtain⟨h1,h2⟩:=List.getElem?_eq_some_iff.1 hc
      have h3:x=some b:=hp
      exact⟨h1,by rw [← h3,← h2]; exact List.getElem_mem h1⟩
  have hsub:∀ p b,lM bs p=some b→p < bs.length∧lM (bs ++ cs) p=some b:=fun p b hp=>by
    have hl:=(hin bs p b hp).1
    exact⟨hl,by rw [listMem_left hl]; exact hp⟩
  have hcs:∀ b,some b ∈ cs→∃ q,bs.length≤q∧lM (bs ++ cs) q=some b:=fun b hb=>by
    obtain⟨i,hi⟩:=List.getElem?_of_mem hb
    refine⟨bs.length+i,by omega,?_⟩
    rw [listMem_right (by omega),Nat.add_sub_cancel_left]
    unfold lM; rw [hi]
  have ho1:∀ k,Owns (lM bs) k→Owns (lM (bs ++ cs)) k:=fun k ⟨p,b,h1,h2,h3⟩=>⟨p,b,(hsub p b h1).2,h2,h3⟩
  have hw:=hF w (fun b hb'=>⟨(hF' b hb').1,(hF' b hb').2.1⟩) (fun b hb'=>by
    obtain⟨q,_,hq⟩:=hcs b hb'
    exact hm q b hq)
  refine Calls.mono (h w (fun p b hp=>hm p b (hsub p b hp).2) (fun p q b c hpq hpb hqc hown=>ha p q b c hpq (hsub p b hpb).2 (hsub q c hqc).2 hown) (fun b hFb=>⟨(hw b hFb).1,(hw b hFb).2,fun j hj ⟨p,b',h1,h2,h3⟩=>?_⟩)) ?_
  · obtain⟨hl,hp'⟩:=hsub p b' h1
    rcases hn b hFb j hj with ⟨y,hy,he⟩ | ⟨c,hcm,he⟩
    · exact(hF' y hy).2.2 j he ⟨p,b',hp',h2,h3⟩
    · obtain⟨q,hq1,hq⟩:=hcs c hcm
      exact ha p q b' c (by omega) hp' hq h2 j h3 he
  · rintro e w' ⟨ns,hns,he,hp⟩
    have hpos:∀ p b,lM (o ns ++ (cs.map (fun _=>none) ++ nw ns)) p=some b→∃ p',lM (o ns ++ nw ns) p'=some b∧((p < bs.length∧p'=p)∨(bs.length+cs.length≤p∧p'=p - cs.length)):=fun p b hpb=>by
      rcases listMem_app hpb with ⟨h1,h2⟩ | ⟨h1,h2⟩
      · rw [ho] at h1
        exact⟨p,by rw [listMem_left (by rw [ho]; exact h1)]; exact h2,.inl ⟨h1,rfl⟩⟩
      · rw [ho] at h1 h2
        rcases listMem_app h2 with ⟨h3,h4⟩ | ⟨h3,h4⟩
        · exact absurd h4 (noneO_get _ _ _)
        · rw [List.length_map] at h3 h4
          refine⟨p - cs.length,?_,.inr ⟨by omega,rfl⟩⟩
          rw [listMem_right (by rw [ho]; omega),ho,show p - cs.length - bs.length=p - bs.length - cs.length by omega]; exact h4
    refine⟨ns,hns,he,⟨fun p b hpb=>?_,fun p q b c hpq hpb hqc=>?_,⟨hp.adv.os,hp.adv.output,hp.adv.tape,hp.adv.size,fun k hk hno=>hp.adv.heap k hk (fun hk'=>hno (ho1 k hk')),fun k ⟨p,b,h1,h2,h3⟩=>?_,fun p b hpb hob=>?_⟩⟩⟩
    · obtain⟨p',h1,_⟩:=hpos p b hpb
      exact hp.holds p' b h1
    · obtain⟨p',h1,h2⟩:=hpos p b hpb
      obtain⟨q',h3,h4⟩:=hpos q c hqc
      exact hp.apart p' q' b c (by omega) h1 h3
    · obtain⟨p',h4,_⟩:=hpos p b h1
      rcases hp.adv.names k ⟨p',b,h4,h2,h3⟩ with h5 | h5
      · exact .inl (ho1 k h5)
      · exact .inr h5
    · obtain⟨p',h1,h2⟩:=hpos p b hpb
      have h3:=hp.adv.ro p' b h1 hob
      exact(hsub p' b h3).2 |> fun h4=>by
        rcases h2 with ⟨_,rfl⟩ | ⟨h5,rfl⟩
        · exact h4
        · have:=(hsub _ b h3).1
          omega
end Go.Eng
end
section
namespace Go.Eng
structure SWO {α:Type} (lt:α→α→Bool):Prop where
  irr:∀ a,lt a a=false
  tr:∀ a b c,lt a b=true→lt b c=true→lt a c=true
  neg:∀ a b c,lt a b=false→lt b c=false→lt a c=false
section
variable {α:Type} {lt:α→α→Bool}
theorem SWO.asy (h:SWO lt) {a b:α} (hab:lt a b=true):lt b a=false:=by
  cases hb:lt b a with
  | false=>rfl
  | true=>have:=h.tr a b a hab hb; rw [h.irr a] at this; cases this
def swp (f:Nat→α) (i k:Nat):Nat→α:=upd (upd f i (f k)) k (f i)
theorem swp_i (f:Nat→α) (i k:Nat):swp f i k i=f k:=by
  unfold swp upd
  by_cases h:i=k
  · subst h; simp
  · simp [h]
theorem swp_k (f:Nat→α) (i k:Nat):swp f i k k=f i:=by unfold swp upd; simp
theorem swp_o (f:Nat→α) {i k x:Nat} (h1:x≠i) (h2:x≠k):swp f i k x=f x:=by unfold swp upd; simp [h1,h2]
structure En (f:Nat→α) (n:Nat) (S:α→Prop):Prop where
  mem:∀ k,k < n→S (f k)
  sur:∀ x,S x→∃ k,k < n∧f k=x
  inj:∀ j k,j < n→k < n→f j=f k→j=k
theorem En.swp {f:Nat→α} {n:Nat} {S:α→Prop} (h:En f n S) {i k:Nat} (hi:i < n) (hk:k < n):En (swp f i k) n S:=by
  have hs:∀ x,Go.Eng.swp f i k x=f (if x=i then k else if x=k then i else x):=fun x=>by
    by_cases h1:x=i
    · subst h1; rw [swp_i,if_pos rfl]
    · by_cases h2:x=k
      · subst h2; rw [swp_k,if_neg h1,if_pos rfl]
      · rw [swp_o f h1 h2,if_neg h1,if_neg h2]
  have hlt:∀ x,x < n→(if x=i then k else if x=k then i else x) < n:=fun x hx=>by
    by_cases h1:x=i
    · rw [if_pos h1]; exact hk
    · rw [if_neg h1]
      by_cases h2:x=k
      · rw [if_pos h2]; exact hi
      · rw [if_neg h2]; exact hx
  refine⟨fun x hx=>by rw [hs]; exact h.mem _ (hlt x hx),fun y hy=>?_,fun x z hx hz e=>?_⟩
  · obtain⟨x,hx,rfl⟩:=h.sur y hy
    refine⟨if x=i then k else if x=k then i else x,hlt x hx,?_⟩
    rw [hs]
    congr 1
    by_cases h1:x=i
    · subst h1
      rw [if_pos rfl]
      by_cases h2:k=x
      · rw [if_pos h2]; exact h2
      · rw [if_neg h2,if_pos rfl]
    · rw [if_neg h1]
      by_cases h2:x=k
      · subst h2; rw [if_pos rfl,if_pos rfl]
      · rw [if_neg h2,if_neg h1,if_neg h2]
  · rw [hs,hs] at e
    have e:=h.inj _ _ (hlt x hx) (hlt z hz) e
    by_cases h1:x=i <;> by_cases h2:x=k <;> by_cases h3:z=i <;> by_cases h4:z=k <;> simp_all
theorem En.push {f:Nat→α} {n:Nat} {S:α→Prop} (h:En f n S) {x:α} (hx:¬ S x):En (catU f n fun _=>x) (n+1) fun y=>S y∨y=x:=by
  have h1:∀ k,k < n→catU f n (fun _=>x) k=f k:=fun k hk=>if_pos hk
  have h2:catU f n (fun _=>x) n=x:=if_neg (Nat.lt_irrefl n)
  refine⟨fun k hk=>?_,fun y hy=>?_,fun j k hj hk e=>?_⟩
  · by_cases h3:k < n
    · rw [h1 k h3]; exact .inl (h.mem k h3)
    · rw [show k=n by omega,h2]; exact .inr rfl
  · rcases hy with hy | rfl
    · obtain⟨k,hk,rfl⟩:=h.sur y hy
      exact⟨k,by omega,h1 k hk⟩
    · exact⟨n,by omega,h2⟩
  · by_cases h3:j < n <;> by_cases h4:k < n
    · rw [h1 j h3,h1 k h4] at e; exact h.inj j k h3 h4 e
    · rw [h1 j h3,show k=n by omega,h2] at e; exact absurd (e ▸ h.mem j h3) hx
    · rw [h1 k h4,show j=n by omega,h2] at e; exact absurd (e ▸ h.mem k h4) hx
    · omega
theorem En.pop {f:Nat→α} {n:Nat} {S:α→Prop} (h:En f (n+1) S):En f n fun y=>S y∧y≠f n :=
  ⟨fun k hk=>⟨h.mem k (by omega),fun e=>by have:=h.inj k n (by omega) (by omega) e; omega⟩,fun y hy=>by
    obtain⟨k,hk,rfl⟩:=h.sur y hy.1
    refine⟨k,?_,rfl⟩
    rcases Nat.lt_or_ge k n with h1 | h1
    · exact h1
    · exact absurd (by rw [show k=n by omega]) hy.2,fun j k hj hk e=>h.inj j k (by omega) (by omega) e⟩
theorem En.congr {f g:Nat→α} {n:Nat} {S:α→Prop} (h:En f n S) (hg:∀ k,k < n→g k=f k):En g n S :=
  ⟨fun k hk=>by rw [hg k hk]; exact h.mem k hk,fun x hx=>by obtain⟨k,hk,e⟩:=h.sur x hx; exact⟨k,hk,by rw [hg k hk,e]⟩,fun j k hj hk e=>h.inj j k hj hk (by rw [← hg j hj,← hg k hk,e])⟩
theorem En.iff {f:Nat→α} {n:Nat} {S T:α→Prop} (h:En f n S) (hT:∀ x,T x ↔ S x):En f n T :=
  ⟨fun k hk=>(hT _).2 (h.mem k hk),fun x hx=>h.sur x ((hT x).1 hx),h.inj⟩
theorem En.none {f:Nat→α}:En f 0 fun _=>False:=⟨fun k h=>absurd h (Nat.not_lt_zero k),fun _ h=>h.elim,fun j k h=>absurd h (Nat.not_lt_zero j)⟩
def HpB (lt:α→α→Bool) (b:Nat) (f:Nat→α) (n:Nat):Prop:=∀ k,0 < k→k < n→b≤(k - 1) / 2→lt (f k) (f ((k - 1) / 2))=false
theorem HpB.root (h:SWO lt) {f:Nat→α} {n:Nat} (hp:HpB lt 0 f n):∀ k,k < n→lt (f k) (f 0)=false:=by
  intro k
  induction k using Nat.strongRecOn with
  | _ k ih =>
    intro hk
    by_cases h0:k=0
    · subst h0; exact h.irr _
    · exact h.neg _ _ _ (hp k (by omega) hk (Nat.zero_le _)) (ih ((k - 1) / 2) (by omega) (by omega))
def upH (lt:α→α→Bool):Nat→(Nat→α)→Nat→Nat→α
  | 0,f,_=>f
  | m+1,f,j=>if j=0 then f else if lt (f j) (f ((j - 1) / 2))=true then upH lt m (swp f ((j - 1) / 2) j) ((j - 1) / 2) else f
def upF (lt:α→α→Bool) (f:Nat→α) (j:Nat):Nat→α:=upH lt j f j
theorem upH_zero (f:Nat→α):∀ m,upH lt m f 0=f
  | 0=>rfl
  | m+1=>by rw [upH,if_pos rfl]
theorem upH_more (f:Nat→α):∀ m j,j≤m→upH lt m f j=upH lt j f j:=by
  intro m
  induction m using Nat.strongRecOn generalizing f with
  | _ m ih =>
    intro j hj
    rcases Nat.eq_zero_or_pos j with h0 | h0
    · subst h0; rw [upH_zero,upH_zero]
    · obtain⟨m,rfl⟩:∃ q,m=q+1:=⟨m - 1,by omega⟩
      obtain⟨j,rfl⟩:∃ q,j=q+1:=⟨j - 1,by omega⟩
      rw [upH,upH]
      split
      · rfl
      · split
        · rw [ih m (by omega) _ _ (by omega),ih j (by omega) _ ((j+1 - 1) / 2) (by omega)]
        · rfl
theorem upF_end {f:Nat→α} {j:Nat} (h:j=0∨lt (f j) (f ((j - 1) / 2))=false):upF lt f j=f:=by
  unfold upF
  cases j with
  | zero=>rfl
  | succ j =>
    rw [upH,if_neg (by omega)]
    rcases h with h | h
    · omega
    · rw [if_neg (by rw [h]; decide)]
theorem upF_go {f:Nat→α} {j:Nat} (h0:0 < j) (h:lt (f j) (f ((j - 1) / 2))=true):upF lt f j=upF lt (swp f ((j - 1) / 2) j) ((j - 1) / 2):=by
  unfold upF
  obtain⟨j,rfl⟩:∃ q,j=q+1:=⟨j - 1,by omega⟩
  rw [upH,if_neg (by omega),if_pos h,upH_more _ j _ (by omega)]
def HpU (lt:α→α→Bool) (f:Nat→α) (n j:Nat):Prop :=
  (∀ k,0 < k→k < n→k≠j→lt (f k) (f ((k - 1) / 2))=false)∧∀ k,0 < k→k < n→(k - 1) / 2=j→0 < j→lt (f k) (f ((j - 1) / 2))=false
theorem HpU.end {f:Nat→α} {n j:Nat} (hp:HpU lt f n j) (he:j=0∨lt (f j) (f ((j - 1) / 2))=false):HpB lt 0 f n:=fun k h0 hk _=>by
  by_cases e:k=j
  · subst e
    rcases he with he | he
    · omega
    · exact he
  · exact hp.1 k h0 hk e
theorem HpU.step (h:SWO lt) {f:Nat→α} {n j:Nat} (hp:HpU lt f n j) (hj:0 < j) (hn:j < n) (hl:lt (f j) (f ((j - 1) / 2))=true):HpU lt (swp f ((j - 1) / 2) j) n ((j - 1) / 2):=by
  have ho:∀ x,x≠(j - 1) / 2→x≠j→swp f ((j - 1) / 2) j x=f x:=fun x h1 h2=>swp_o f h1 h2
  have hi:swp f ((j - 1) / 2) j ((j - 1) / 2)=f j:=swp_i _ _ _
  have hk:swp f ((j - 1) / 2) j j=f ((j - 1) / 2):=swp_k _ _ _
  refine⟨fun k h0 hkn hkp=>?_,fun k h0 hkn hkp h1=>?_⟩
  · by_cases e:k=j
    · subst e; rw [hk,hi]; exact h.asy hl
    · rw [ho k hkp e]
      by_cases e2:(k - 1) / 2=j
      · rw [e2,hk]; exact hp.2 k h0 hkn e2 hj
      · by_cases e3:(k - 1) / 2=(j - 1) / 2
        · rw [e3,hi]; exact h.neg _ _ _ (e3 ▸ hp.1 k h0 hkn e) (h.asy hl)
        · rw [ho _ e3 e2]; exact hp.1 k h0 hkn e
  · rw [ho ((((j - 1) / 2) - 1) / 2) (by omega) (by omega)]
    by_cases e:k=j
    · subst e; rw [hk]; exact hp.1 _ h1 (by omega) (by omega)
    · rw [ho k (by omega) e]
      exact h.neg _ _ _ (hkp ▸ hp.1 k h0 hkn e) (hp.1 _ h1 (by omega) (by omega))
theorem upF_ok (h:SWO lt) {n:Nat}:∀ (j:Nat) (f:Nat→α),j < n→HpU lt f n j→HpB lt 0 (upF lt f j) n∧(∀ S,En f n S→En (upF lt f j) n S)∧∀ k,n≤k→upF lt f j k=f k:=by
  intro j
  induction j using Nat.strongRecOn with
  | _ j ih =>
    intro f hj hp
    by_cases he:j=0∨lt (f j) (f ((j - 1) / 2))=false
    · rw [upF_end he]; exact⟨hp.end he,fun S hS=>hS,fun _ _=>rfl⟩
    · have h0:0 < j:=by omega
      have hl:lt (f j) (f ((j - 1) / 2))=true:=by
        cases hb:lt (f j) (f ((j - 1) / 2)) with
        | true=>rfl
        | false=>exact absurd (.inr hb) he
      rw [upF_go h0 hl]
      obtain⟨h1,h2,h3⟩:=ih ((j - 1) / 2) (by omega) (swp f ((j - 1) / 2) j) (by omega) (hp.step h h0 hj hl)
      exact⟨h1,fun S hS=>h2 S (hS.swp (by omega) hj),fun k hk=>(h3 k hk).trans (swp_o f (by omega) (by omega))⟩
def pick (lt:α→α→Bool) (n:Nat) (f:Nat→α) (i:Nat):Nat:=if 2*i+2 < n∧lt (f (2*i+2)) (f (2*i+1))=true then 2*i+2 else 2*i+1
def dnH (lt:α→α→Bool) (n:Nat):Nat→(Nat→α)→Nat→(Nat→α) × Nat
  | 0,f,i=>(f,i)
  | m+1,f,i=>if n≤2*i+1 then (f,i) else if lt (f (pick lt n f i)) (f i)=true then dnH lt n m (swp f i (pick lt n f i)) (pick lt n f i) else (f,i)
def dnF (lt:α→α→Bool) (n:Nat) (f:Nat→α) (i:Nat):(Nat→α) × Nat:=dnH lt n n f i
theorem pick_gt (n:Nat) (f:Nat→α) (i:Nat):i < pick lt n f i∧(2*i+1 < n→pick lt n f i < n)∧(pick lt n f i - 1) / 2=i:=by
  unfold pick; split <;> omega
theorem dnH_more {n:Nat}:∀ (m q:Nat) (f:Nat→α) (i:Nat),n≤m+i→n≤q+i→dnH lt n m f i=dnH lt n q f i
  | 0,0,f,i,_,_=>rfl
  | 0,q+1,f,i,h,_=>by rw [dnH,dnH,if_pos (by omega)]
  | m+1,0,f,i,_,h=>by rw [dnH,dnH,if_pos (by omega)]
  | m+1,q+1,f,i,h1,h2=>by
    have:=pick_gt (lt:=lt) n f i
    rw [dnH,dnH]
    split
    · rfl
    · split
      · exact dnH_more m q _ _ (by omega) (by omega)
      · rfl
theorem dnF_end {n:Nat} {f:Nat→α} {i:Nat} (h:n≤2*i+1∨lt (f (pick lt n f i)) (f i)=false):dnF lt n f i=(f,i):=by
  unfold dnF
  cases n with
  | zero=>rfl
  | succ n =>
    rw [dnH]
    rcases h with h | h
    · rw [if_pos h]
    · split
      · rfl
      · rw [if_neg (by rw [h]; decide)]
theorem dnF_go {n:Nat} {f:Nat→α} {i:Nat} (h1:2*i+1 < n) (h:lt (f (pick lt n f i)) (f i)=true):dnF lt n f i=dnF lt n (swp f i (pick lt n f i)) (pick lt n f i):=by
  have:=pick_gt (lt:=lt) n f i
  unfold dnF
  obtain⟨m,rfl⟩:∃ q,n=q+1:=⟨n - 1,by omega⟩
  rw [dnH,if_neg (by omega),if_pos h]
  exact dnH_more _ _ _ _ (by omega) (by omega)
def HpD (lt:α→α→Bool) (b:Nat) (f:Nat→α) (n i:Nat):Prop :=
  (∀ k,0 < k→k < n→b≤(k - 1) / 2→(k - 1) / 2≠i→lt (f k) (f ((k - 1) / 2))=false)∧(0 < i→b≤(i - 1) / 2→∀ k,0 < k→k < n→(k - 1) / 2=i→lt (f k) (f ((i - 1) / 2))=false)
theorem pick_least (h:SWO lt) {n:Nat} {f:Nat→α} {i k:Nat} (h0:0 < k) (hk:k < n) (e:(k - 1) / 2=i):lt (f k) (f (pick lt n f i))=false:=by
  have hk2:k=2*i+1∨k=2*i+2:=by omega
  unfold pick
  split
  · rename_i hc
    rcases hk2 with rfl | rfl
    · exact h.asy hc.2
    · exact h.irr _
  · rename_i hc
    rcases hk2 with rfl | rfl
    · exact h.irr _
    · cases hb:lt (f (2*i+2)) (f (2*i+1)) with
      | false=>rfl
      | true=>exact absurd ⟨hk,hb⟩ hc
theorem HpD.end (h:SWO lt) {b:Nat} {f:Nat→α} {n i:Nat} (hp:HpD lt b f n i) (he:n≤2*i+1∨lt (f (pick lt n f i)) (f i)=false):HpB lt b f n:=fun k h0 hk hb=>by
  by_cases e:(k - 1) / 2=i
  · rcases he with he | he
    · omega
    · rw [e]; exact h.neg _ _ _ (pick_least h h0 hk e) he
  · exact hp.1 k h0 hk hb e
theorem HpD.step (h:SWO lt) {b:Nat} {f:Nat→α} {n i:Nat} (hp:HpD lt b f n i) (hi:2*i+1 < n) (hl:lt (f (pick lt n f i)) (f i)=true):HpD lt b (swp f i (pick lt n f i)) n (pick lt n f i):=by
  obtain⟨g1,g2',g3⟩:=pick_gt (lt:=lt) n f i
  have g2:=g2' hi
  clear g2'
  have hleast:∀ k,0 < k→k < n→(k - 1) / 2=i→lt (f k) (f (pick lt n f i))=false:=fun k a b c=>pick_least h a b c
  generalize pick lt n f i=j at *
  have ho:∀ x,x≠i→x≠j→swp f i j x=f x:=fun x h1 h2=>swp_o f h1 h2
  have hi':swp f i j i=f j:=swp_i _ _ _
  have hk:swp f i j j=f i:=swp_k _ _ _
  refine⟨fun k h0 hkn hb hkp=>?_,fun h0j hb k h0 hkn hkp=>?_⟩
  · by_cases e:(k - 1) / 2=i
    · rw [e,hi']
      by_cases e2:k=j
      · rw [e2,hk]; exact h.asy hl
      · rw [ho k (by omega) e2]; exact hleast k h0 hkn e
    · rw [ho _ e hkp]
      by_cases e2:k=i
      · subst e2; rw [hi']; exact hp.2 h0 hb j (by omega) g2 g3
      · rw [ho k e2 (by intro e3; subst e3; omega)]; exact hp.1 k h0 hkn hb e
  · rw [g3,hi',ho k (by omega) (by omega)]
    have:=hp.1 k h0 hkn (by omega) (by omega)
    rw [hkp] at this; exact this
theorem dnF_ok (h:SWO lt) {b n:Nat}:∀ (m i:Nat) (f:Nat→α),n≤m+i→HpD lt b f n i→HpB lt b (dnF lt n f i).1 n∧(∀ q S,n≤q→En f q S→En (dnF lt n f i).1 q S)∧(∀ k,n≤k→(dnF lt n f i).1 k=f k)∧i≤(dnF lt n f i).2∧∀ k,k < i→(dnF lt n f i).1 k=f k
  | m,i,f,hm,hp=>by
    by_cases he:n≤2*i+1∨lt (f (pick lt n f i)) (f i)=false
    · rw [dnF_end he]; exact⟨hp.end h he,fun q S _ hS=>hS,fun _ _=>rfl,Nat.le_refl _,fun _ _=>rfl⟩
    · have hi:2*i+1 < n:=by omega
      have hl:lt (f (pick lt n f i)) (f i)=true:=by
        cases hb:lt (f (pick lt n f i)) (f i) with
        | true=>rfl
        | false=>exact absurd (.inr hb) he
      obtain⟨g1,g2',g3⟩:=pick_gt (lt:=lt) n f i
      have g2:=g2' hi
      clear g2'
      rw [dnF_go hi hl]
      match m,hm with
      | 0,hm=>omega
      | m+1,hm =>
        obtain⟨h1,h2,h3,h4,h5⟩:=dnF_ok h m (pick lt n f i) (swp f i (pick lt n f i)) (by omega) (hp.step h hi hl)
        exact⟨h1,fun q S hq hS=>h2 q S hq (hS.swp (by omega) (by omega)),fun k hk=>(h3 k hk).trans (swp_o f (by omega) (by omega)),by omega,fun k hk=>(h5 k (by omega)).trans (swp_o f (by omega) (by omega))⟩
def popF (lt:α→α→Bool) (f:Nat→α) (n:Nat):Nat→α:=(dnF lt n (swp f 0 n) 0).1
theorem popF_ok (h:SWO lt) {f:Nat→α} {n:Nat} (hp:HpB lt 0 f (n+1)):HpB lt 0 (popF lt f n) n∧popF lt f n n=f 0∧(∀ S,En f (n+1) S→En (popF lt f n) n fun y=>S y∧y≠f 0)∧∀ k,k < n+1→lt (f k) (f 0)=false:=by
  obtain⟨h1,h2,h3,_⟩:=dnF_ok h (b:=0) (n:=n) n 0 (swp f 0 n) (by omega) ⟨fun k h0 hk _ hkp=>by
    rw [swp_o f (by omega) (by omega),swp_o f (by omega) (by omega)]; exact hp k h0 (by omega) (Nat.zero_le _),fun h=>absurd h (Nat.lt_irrefl 0)⟩
  have e:popF lt f n n=f 0:=(h3 n (Nat.le_refl _)).trans (swp_k f 0 n)
  refine⟨h1,e,fun S hS=>?_,hp.root h⟩
  have:=(h2 (n+1) S (by omega) (hS.swp (by omega) (by omega))).pop
  have e2:(dnF lt n (swp f 0 n) 0).1 n=f 0:=e
  rw [e2] at this; exact this
end
end Go.Eng
namespace Go.Eng
end Go.Eng
namespace Go.Eng
def pshG {α:Type} (g:Nat→α) (len:Nat) (x z:α) (b nm:Nat):Nat→α:=fun j=>if j < len then g j else if j=len then x else if nm=b then g j else z
theorem pshG_lt {α:Type} {g:Nat→α} {len:Nat} {x z:α} {b nm k:Nat} (h:k < len):pshG g len x z b nm k=g k:=if_pos h
theorem pshG_eq {α:Type} {g:Nat→α} {len:Nat} {x z:α} {b nm:Nat}:pshG g len x z b nm len=x:=by unfold pshG; rw [if_neg (Nat.lt_irrefl _),if_pos rfl]
section
variable {P:Program} {t ty e:TypeId} {i:TypeInfo} {z:Value} {sz:Nat} {zc:List Value}
end
section
variable {P:Program} {t t':TypeId} {x y:Operand}
end
section
variable {α:Type} {lt:α→α→Bool}
theorem push_ok (h:SWO lt) {f g:Nat→α} {n:Nat} {x:α} (hp:HpB lt 0 f n) (hg:∀ k,k < n→g k=f k) (hx:g n=x):HpB lt 0 (upF lt g n) (n+1)∧(∀ S,En f n S→¬ S x→En (upF lt g n) (n+1) fun y=>S y∨y=x)∧∀ k,n+1≤k→upF lt g n k=g k:=by
  obtain⟨h1,h2,h3⟩:=upF_ok h (n:=n+1) n g (by omega) ⟨fun k h0 hk hkn=>by rw [hg k (by omega),hg ((k - 1) / 2) (by omega)]; exact hp k h0 (by omega) (Nat.zero_le _),fun k h0 hk e=>by omega⟩
  refine⟨h1,fun S hS hn=>h2 _ ((hS.push hn).congr fun k hk=>?_),h3⟩
  unfold catU
  by_cases hk2:k < n
  · rw [if_pos hk2]; exact hg k hk2
  · rw [if_neg hk2,show k=n by omega]; exact hx
end
end Go.Eng
end
section
namespace Go.Eng
structure TmR where
  a:UInt64
  i:Int
  n:UInt64
deriving DecidableEq
def tmZ:TmR:=⟨0,0,0⟩
def ltT (a b:TmR):Bool:=selB (decide (a.a < b.a)) true (selB (a.a == b.a) (decide (a.n < b.n)) false)
theorem ltT_iff {a b:TmR}:ltT a b=true ↔ a.a.toNat < b.a.toNat∨a.a.toNat=b.a.toNat∧a.n.toNat < b.n.toNat:=by
  have e1:(a.a < b.a)=(a.a.toNat < b.a.toNat):=rfl
  have e2:(a.n < b.n)=(a.n.toNat < b.n.toNat):=rfl
  have e3:(a.a == b.a)=true ↔ a.a.toNat=b.a.toNat:=by rw [beq_iff_eq]; exact UInt64.toNat_inj.symm
  unfold ltT
  by_cases h1:a.a.toNat < b.a.toNat
  · simp [selB,e1,h1]
  · by_cases h2:a.a.toNat=b.a.toNat
    · simp [selB,e1,h1,e3.2 h2,e2,h2]
    · have : (a.a == b.a) = false := by
        cases h:(a.a == b.a) with
        | false=>rfl
        | true=>exact absurd (e3.1 h) h2
      simp [selB,e1,h1,this,h2]
theorem ltT_not {a b:TmR}:ltT a b=false ↔ ¬ (a.a.toNat < b.a.toNat∨a.a.toNat=b.a.toNat∧a.n.toNat < b.n.toNat):=by
  rw [← ltT_iff]; simp
theorem ltT_swo:SWO ltT:=⟨fun a=>by rw [ltT_not]; omega,fun a b c h k=>by rw [ltT_iff] at *; omega,fun a b c h k=>by rw [ltT_not] at *; omega⟩
def popN (F:Nat→TmR) (n:Nat):Nat→Nat→TmR
  | 0=>F
  | k+1=>popF ltT (popN F n k) (n - k - 1)
structure IsDue (F:Nat→TmR) (n:Nat) (now:UInt64) (d:Nat):Prop where
  le:d≤n
  due:∀ k,k < d→decide ((popN F n k 0).a≤now)=true
  stop:d < n→decide ((popN F n d 0).a≤now)=false
theorem IsDue.lt {F:Nat→TmR} {n d k:Nat} {now:UInt64} (h:IsDue F n now d) (hk:k≤d) (hg:selB (decide (0 < n - k)) (decide ((popN F n k 0).a≤now)) false=true):k < d:=by
  have h1:=h.stop
  have:=h.le
  rcases Nat.lt_or_ge k d with h2 | h2
  · exact h2
  · have e:k=d:=by omega
    subst e
    by_cases h3:0 < n - k
    · rw [h1 (by omega)] at hg; cases hd:decide (0 < n - k) <;> rw [hd] at hg <;> cases hg
    · rw [decide_eq_false h3] at hg; cases hg
structure Std (F:Nat→TmR) (n:Nat) (L:List TmR):Prop where
  hp:HpB ltT 0 F n
  en:En F n (· ∈ L)
  up:L.Pairwise fun x y=>ltT x y=true
  len:L.length=n
theorem Std.none {F:Nat→TmR}:Std F 0 []:=⟨fun k _ h=>absurd h (Nat.not_lt_zero k),En.none.iff fun x=>by simp,List.Pairwise.nil,rfl⟩
def insT (x:TmR):List TmR→List TmR
  | []=>[x]
  | y :: L=>if y.a.toNat≤x.a.toNat then y :: insT x L else x :: y :: L
theorem insT_len (x:TmR):∀ L,(insT x L).length=L.length+1
  | []=>rfl
  | y :: L=>by unfold insT; split <;> simp [insT_len x L]
theorem insT_mem (x z:TmR):∀ L,z ∈ insT x L ↔ z ∈ L∨z=x
  | []=>by simp [insT]
  | y :: L=>by
    unfold insT; split
    · rw [List.mem_cons,insT_mem x z L,List.mem_cons]; exact or_assoc.symm
    · rw [List.mem_cons]; exact or_comm
theorem insT_up (x:TmR):∀ L,(L.Pairwise fun x y=>ltT x y=true)→(∀ y ∈ L,y.n.toNat < x.n.toNat)→(insT x L).Pairwise fun x y=>ltT x y=true
  | [],_,_=>by simp [insT]
  | y :: L,h,hn=>by
    have h1:=List.pairwise_cons.1 h
    unfold insT; split
    · rename_i hy
      refine List.pairwise_cons.2 ⟨fun z hz=>?_,insT_up x L h1.2 fun w hw=>hn w (List.mem_cons_of_mem _ hw)⟩
      rcases(insT_mem x z L).1 hz with hz | rfl
      · exact h1.1 z hz
      · rw [ltT_iff]; have:=hn y (by simp); omega
    · rename_i hy
      refine List.pairwise_cons.2 ⟨fun z hz=>?_,h⟩
      rcases List.mem_cons.1 hz with rfl | hz
      · rw [ltT_iff]; omega
      · have:=h1.1 z hz; rw [ltT_iff] at this ⊢; omega
theorem Std.push {F g:Nat→TmR} {n:Nat} {L:List TmR} {x:TmR} (h:Std F n L) (hg:∀ k,k < n→g k=F k) (hx:g n=x) (hn:∀ y ∈ L,y.n.toNat < x.n.toNat):Std (upF ltT g n) (n+1) (insT x L):=by
  obtain⟨h1,h2,_⟩:=push_ok ltT_swo h.hp hg hx
  refine⟨h1,(h2 _ h.en fun hm=>?_).iff fun y=>insT_mem x y L,insT_up x L h.up hn,by rw [insT_len,h.len]⟩
  have:=hn x hm; omega
theorem Std.pop {F:Nat→TmR} {n:Nat} {x:TmR} {L:List TmR} (h:Std F n (x :: L)):0 < n∧F 0=x∧popF ltT F (n - 1) (n - 1)=x∧Std (popF ltT F (n - 1)) (n - 1) L:=by
  have hl:=h.len
  simp only [List.length_cons] at hl
  obtain⟨m,rfl⟩:∃ q,n=q+1:=⟨n - 1,by omega⟩
  simp only [Nat.add_sub_cancel]
  obtain⟨h1,h2,h3,h4⟩:=popF_ok ltT_swo h.hp
  have hu:=List.pairwise_cons.1 h.up
  have e:F 0=x:=by
    have hm:=h.en.mem 0 (by omega)
    rcases List.mem_cons.1 hm with hm | hm
    · exact hm
    · obtain⟨k,hk,e⟩:=h.en.sur x (by simp)
      have:=h4 k hk
      rw [e,hu.1 _ hm] at this; cases this
  refine⟨by omega,e,h2.trans e,⟨h1,(h3 _ h.en).iff fun y=>?_,hu.2,by omega⟩⟩
  rw [e]
  constructor
  · intro hy
    refine⟨List.mem_cons_of_mem _ hy,fun e=>?_⟩
    subst e
    have:=hu.1 _ hy
    rw [ltT_swo.irr] at this; cases this
  · rintro⟨hy,hne⟩
    rcases List.mem_cons.1 hy with hy | hy
    · exact absurd hy hne
    · exact hy
theorem popN_next {F:Nat→TmR} {n:Nat} (hn:0 < n):∀ k,popN F n (k+1)=popN (popF ltT F (n - 1)) (n - 1) k
  | 0=>rfl
  | k+1=>by
    rw [popN,popN_next hn k,popN]
    congr 1; omega
theorem Std.popN {F:Nat→TmR}:∀ {n:Nat} {L:List TmR} (k:Nat),Std F n L→k≤n→Std (popN F n k) (n - k) (L.drop k)∧(k < n→Go.Eng.popN F n k 0=L.getD k tmZ)
  | n,[],k,h,hk=>by
    have:=h.len; simp at this
    subst this
    have e:k=0:=by omega
    subst e
    exact⟨h,fun h=>absurd h (Nat.lt_irrefl _)⟩
  | n,x :: L,0,h,hk=>⟨h,fun _=>h.pop.2.1⟩
  | n,x :: L,k+1,h,hk=>by
    obtain⟨h0,_,_,h1⟩:=h.pop
    obtain⟨h2,h3⟩:=Std.popN k h1 (by omega)
    rw [popN_next h0]
    refine⟨by rw [show n - (k+1)=n - 1 - k by omega]; exact h2,fun hk2=>?_⟩
    rw [h3 (by omega)]; rfl
def dueN (now:UInt64):List TmR→Nat
  | []=>0
  | x :: L=>if decide (x.a≤now)=true then dueN now L+1 else 0
theorem dueN_le (now:UInt64):∀ L,dueN now L≤L.length
  | []=>Nat.le_refl 0
  | x :: L=>by unfold dueN; have:=dueN_le now L; split <;> simp <;> omega
theorem dueN_lt (now:UInt64):∀ (L:List TmR) (k:Nat),k < dueN now L→decide ((L.getD k tmZ).a≤now)=true
  | [],k,h=>absurd h (Nat.not_lt_zero k)
  | x :: L,k,h=>by
    unfold dueN at h
    split at h
    · rename_i hx
      cases k with
      | zero=>exact hx
      | succ k=>exact dueN_lt now L k (by omega)
    · omega
theorem dueN_stop (now:UInt64):∀ (L:List TmR),dueN now L < L.length→decide ((L.getD (dueN now L) tmZ).a≤now)=false
  | [],h=>absurd h (Nat.lt_irrefl 0)
  | x :: L,h=>by
    unfold dueN at h ⊢
    split at h
    · rename_i hx
      rw [if_pos hx]
      exact dueN_stop now L (by simp at h; omega)
    · rename_i hx
      rw [if_neg hx]
      cases hb:decide (x.a≤now) with
      | true=>exact absurd hb hx
      | false=>exact hb
theorem Std.due {F:Nat→TmR} {n:Nat} {L:List TmR} (h:Std F n L) (now:UInt64):IsDue F n now (dueN now L):=by
  have hle:dueN now L≤n:=h.len ▸ dueN_le now L
  refine⟨hle,fun k hk=>?_,fun hs=>?_⟩
  · rw [(h.popN k (by omega)).2 (by omega)]; exact dueN_lt now L k hk
  · rw [(h.popN _ (by omega)).2 hs]; exact dueN_stop now L (by rw [h.len]; exact hs)
theorem Std.left {F:Nat→TmR} {n:Nat} {L:List TmR} (h:Std F n L) (now:UInt64):Std (Go.Eng.popN F n (dueN now L)) (n - dueN now L) (L.drop (dueN now L)):=(h.popN _ (h.len ▸ dueN_le now L)).1
end Go.Eng
end
section
namespace Go.Eng
section
variable {P:Program} {t ty e:TypeId} {sz B:Nat} {zc:List Value}
end
section
variable {α:Type} {lt:α→α→Bool}
end
theorem Std.congr {F G:Nat→TmR} {n:Nat} {L:List TmR} (h:Std F n L) (hg:∀ k,k < n→G k=F k):Std G n L :=
  ⟨fun k h0 hk hb=>by rw [hg k hk,hg _ (by omega)]; exact h.hp k h0 hk hb,h.en.congr hg,h.up,h.len⟩
theorem Std.add {F:Nat→TmR} {n:Nat} {L:List TmR} {x:TmR} {b nm:Nat} (h:Std F n L) (hn:∀ y ∈ L,y.n.toNat < x.n.toNat):Std (upF ltT (pshG F n x tmZ b nm) (n+1 - 1)) (n+1) (insT x L) :=
  Std.push h (fun k hk=>pshG_lt hk) pshG_eq hn
theorem Std.next {F:Nat→TmR} {n:Nat} {x:TmR} {L:List TmR} (h:Std F n (x :: L)):Std (popF ltT F (n - 1)) (n - 1) L:=h.pop.2.2.2
end Go.Eng
end
section
namespace Go.Eng
theorem gsE_own8 {n a r:Nat} {f:Nat→UInt8}:gsE u8C [u8 0] 1 (⟨false,a,n,r,f⟩:Grw UInt8)=some ⟨a,true,0,spr (n+r) n (fun k=>u8 (f k)) (u8 0)⟩:=by rw [gsE_u8]; rfl
end Go.Eng
namespace Go.Eng
def skipP (n p:Nat):Nat:=if p < n then p else p+1
theorem skip_inj {n p q:Nat} (h:skipP n p=skipP n q):p=q:=by
  unfold skipP at h
  split at h <;> split at h <;> omega
theorem skip_get {l r:List (Option Blk)} {x:Option Blk} {n p:Nat} (hn:l.length=n):lM (l ++ x :: r) (skipP n p)=lM (l ++ r) p:=by
  subst hn
  unfold skipP
  by_cases h:p < l.length
  · rw [if_pos h]; unfold lM
    rw [List.getElem?_append_left h,List.getElem?_append_left h]
  · rw [if_neg h]; unfold lM
    rw [List.getElem?_append_right (by omega),List.getElem?_append_right (by omega),show p+1 - l.length=(p - l.length)+1 by omega,List.getElem?_cons_succ]
theorem skip_out {l r:List (Option Blk)} {x:Option Blk} {n q:Nat} (hn:l.length=n) (hq:q≠n):∃ p,q=skipP n p:=by
  by_cases h:q < n
  · exact⟨q,by unfold skipP; rw [if_pos h]⟩
  · exact⟨q - 1,by unfold skipP; rw [if_neg (by omega)]; omega⟩
theorem RunsO.famI {F : Blk → Prop} {P : Program} {f : FuncId} {args : List Value} {l r : List (Option Blk)} {B : Blk} {k : Nat} {v : List Nat → Value} {ol nw : List Nat → List (Option Blk)} {x : List Nat → Option Blk} (h : RunsO F P f args (l ++ some B :: r) k v (fun ns => ol ns ++ x ns :: nw ns)) (hl : ∀ ns, (ol ns).length = l.length) (hB : F B) :
    RunsO F P f args (l ++ r) k v (fun ns=>ol ns ++ nw ns):=by
  intro w hm ha hF
  obtain⟨h1,h2,h3⟩:=hF B hB
  have hmid:lM (l ++ some B :: r) l.length=some B:=by
    unfold lM; rw [List.getElem?_append_right (Nat.le_refl _)]; simp
  have hpos:∀ q b,lM (l ++ some B :: r) q=some b→(q=l.length∧b=B)∨∃ p,q=skipP l.length p∧lM (l ++ r) p=some b:=fun q b hq=>by
    by_cases hq2:q=l.length
    · subst hq2; rw [hmid] at hq; cases hq; exact .inl ⟨rfl,rfl⟩
    · obtain⟨p,rfl⟩:=skip_out (l:=l) (r:=r) (x:=none) rfl hq2
      rw [skip_get rfl] at hq
      exact .inr ⟨p,rfl,hq⟩
  have hown:∀ j,Owns (lM (l ++ some B :: r)) j→Owns (lM (l ++ r)) j:=fun j ⟨q,b,k1,k2,k3⟩=>by
    rcases hpos q b k1 with ⟨_,rfl⟩ | ⟨p,_,hp⟩
    · rw [h2] at k2; cases k2
    · exact⟨p,b,hp,k2,k3⟩
  have hown2:∀ j,Owns (lM (l ++ r)) j→Owns (lM (l ++ some B :: r)) j:=fun j ⟨p,b,k1,k2,k3⟩=>⟨skipP l.length p,b,by rw [skip_get rfl]; exact k1,k2,k3⟩
  refine Calls.mono (h w (fun q b hq=>?_) (fun q q' b c hqq hb hc ho=>?_) fun b hb=>?_) ?_
  · rcases hpos q b hq with ⟨_,rfl⟩ | ⟨p,_,hp⟩
    · exact h1
    · exact hm p b hp
  · rcases hpos q b hb with ⟨_,rfl⟩ | ⟨p,rfl,hp⟩
    · rw [h2] at ho; cases ho
    · rcases hpos q' c hc with ⟨_,rfl⟩ | ⟨p',rfl,hp'⟩
      · exact fun j k1 k2=>h3 j k2 ⟨p,b,hp,ho,k1⟩
      · exact ha p p' b c (fun e=>hqq (by rw [e])) hp hp' ho
  · obtain⟨k1,k2,k3⟩:=hF b hb
    exact⟨k1,k2,fun j hj hj2=>k3 j hj (hown j hj2)⟩
  · rintro e w' ⟨ns,hns,he,hp⟩
    have hs:∀ p b,lM (ol ns ++ nw ns) p=some b→lM (ol ns ++ x ns :: nw ns) (skipP l.length p)=some b:=fun p b hb=>by rw [skip_get (hl ns)]; exact hb
    refine⟨ns,hns,he,⟨fun p b hb=>hp.holds _ b (hs p b hb),fun p q b c hpq hb hc=>hp.apart _ _ b c (fun e=>hpq (skip_inj e)) (hs p b hb) (hs q c hc),⟨hp.adv.os,hp.adv.output,hp.adv.tape,hp.adv.size,fun j hj hno=>hp.adv.heap j hj fun h'=>hno (hown j h'),fun j ⟨p,b,k1,k2,k3⟩=>?_,fun p b hb ho=>?_⟩⟩⟩
    · rcases hp.adv.names j ⟨_,b,hs p b k1,k2,k3⟩ with k4 | k4
      · exact .inl (hown j k4)
      · exact .inr k4
    · have:=hp.adv.ro _ b (hs p b hb) ho
      rw [skip_get rfl] at this
      exact this
end Go.Eng
namespace Go.Eng
theorem gsE_ownG {A:Grw UInt8} {b:Blk} (h:gsE u8C [u8 0] 1 A=some b):b.own=true:=by
  unfold gsE at h
  cases hz:A.z with
  | true=>rw [hz] at h; cases h
  | false=>rw [hz] at h; injection h with h; rw [← h]
def reB (A:Grw UInt8) (n:Nat) (f:Nat→UInt8):Grw UInt8:=⟨A.z,A.nm,n,A.r,f⟩
theorem reB_ok {A:Grw UInt8} (h:A.ok) {n:Nat} {f:Nat→UInt8} (hn:n=A.n):(reB A n f).ok:=by subst hn; exact h
theorem reB_V {A:Grw UInt8} {n:Nat} {f:Nat→UInt8} (hn:n=A.n):gsV A=gsV (reB A n f):=by subst hn; rfl
theorem reB_B {A:Grw UInt8} {n:Nat} {f:Nat→UInt8} (hn:n=A.n) (h:∀ k,k < A.n→f k=A.f k):gsE u8C [u8 0] 1 A=gsE u8C [u8 0] 1 (reB A n f):=by
  subst hn; exact(gsE_row (A:=A) (A':=reB A A.n f) rfl rfl rfl rfl h).symm
end Go.Eng
end
section
namespace Go.Eng
def smA (x:UInt64):N4:=⟨x,0,0,0⟩
theorem smA_val (x:UInt64):(smA x).val=x.toNat:=by
  show x.toNat+_=_
  simp [smA]
def szU (x:UInt64):Nat:=(len4 (smA x)+7) / 8
end Go.Eng
namespace Go.Eng
theorem szU_le (x:UInt64):szU x≤8:=by
  unfold szU
  rw [len4_val,smA_val]
  have:=bitLen_le_of_lt (n:=x.toNat) (k:=64) x.toNat_lt
  omega
theorem szU_lt (x:UInt64):x.toNat < 256 ^ szU x:=by
  rw [pow256]
  refine Nat.lt_of_lt_of_le (bitLen_lt _) (Nat.pow_le_pow_right (by omega) ?_)
  unfold szU
  rw [len4_val,smA_val]; omega
theorem szU_ge {x:UInt64} (h:szU x≠0):256 ^ (szU x - 1)≤x.toNat:=by
  have h0:x.toNat≠0:=fun e=>h (by unfold szU; rw [len4_val,smA_val,e]; rfl)
  rw [pow256]
  refine Nat.le_trans (Nat.pow_le_pow_right (by omega) ?_) (bitLen_le h0)
  unfold szU
  rw [len4_val,smA_val]; omega
def smN (x:UInt64):Nat:=szU x+1
def smB (x:UInt64):Nat→UInt8:=fun k=>if k=0 then UInt8.ofNat (szU x) else bytesF (smA x) (32 - szU x+(k - 1))
theorem smB_dig (x:UInt64) {k:Nat} (h:0 < k) (h2:k≤szU x):smB x k=UInt8.ofNat (dig x.toNat (szU x - k)):=by
  have:=szU_le x
  unfold smB bytesF
  rw [if_neg (by omega),if_pos (by omega),smA_val]
  congr 2; omega
theorem catU_nil {α:Type} (f g:Nat→α):catU f 0 g=g:=by
  funext k; unfold catU; rw [if_neg (by omega),Nat.sub_zero]
end Go.Eng
namespace Go.Eng
def smV (f:Nat→UInt8):UInt64:=(ofN (fun k=>f (k+1)) ((1+f 0).toNat - 1)).a
def wrE (f:Nat→UInt8) (n:Nat) (limit:UInt64):Int :=
  if n=0 then 3 else if (f 0).toNat≤8∧n - 1 < (f 0).toNat then 3 else if 8 < (f 0).toNat∨(0 < (f 0).toNat∧(f 1 == 0)=true) then 31 else if limit < smV f then 2 else 0
def failE (e e2:Int):Int:=if e=0 then e2 else e
theorem add1_8 {x:UInt8} (h:x.toNat≤254):(1+x).toNat=1+x.toNat:=by
  rw [UInt8.toNat_add]
  have:(1:UInt8).toNat=1:=rfl
  omega
theorem wrE_zero {f:Nat→UInt8} {n:Nat} {l:UInt64} (h:wrE f n l=0):0 < n∧(f 0).toNat≤8∧(f 0).toNat+1≤n∧(1+f 0).toNat=1+(f 0).toNat∧¬ l < smV f∧¬ (0 < (f 0).toNat∧(f 1 == 0)=true):=by
  unfold wrE at h
  by_cases h1:n=0
  · rw [if_pos h1] at h; cases h
  rw [if_neg h1] at h
  by_cases h2:(f 0).toNat≤8∧n - 1 < (f 0).toNat
  · rw [if_pos h2] at h; cases h
  rw [if_neg h2] at h
  by_cases h3:8 < (f 0).toNat∨(0 < (f 0).toNat∧(f 1 == 0)=true)
  · rw [if_pos h3] at h; cases h
  rw [if_neg h3] at h
  by_cases h4:l < smV f
  · rw [if_pos h4] at h; cases h
  have h5:(f 0).toNat≤8:=by omega
  exact⟨by omega,h5,by omega,add1_8 (by omega),h4,fun h=>h3 (.inr h)⟩
def rsE (q:BytL) (e:Int) (l:UInt64):Int:=failE e (wrE q.wf q.wn l)
def rsQ (q:BytL) (e:Int) (l:UInt64):BytL:=if rsE q e l=0 then bytF q (1+q.wf 0).toNat else q
def rsV (q:BytL) (e:Int) (l:UInt64):UInt64:=if rsE q e l=0 then smV q.wf else 0
theorem failE_zero {e e2:Int} (h:failE e e2=0):e=0∧e2=0:=by
  unfold failE at h
  by_cases h1:e=0
  · rw [if_pos h1] at h; exact⟨h1,h⟩
  · rw [if_neg h1] at h; exact absurd h h1
theorem rs_zero {q:BytL} {e:Int} {l:UInt64} (h:rsE q e l=0):0 < q.wn∧(q.wf 0).toNat≤8∧(q.wf 0).toNat+1≤q.wn∧(1+q.wf 0).toNat=1+(q.wf 0).toNat:=by
  obtain⟨a,b,c,d,_⟩:=wrE_zero (failE_zero h).2
  exact⟨a,b,c,d⟩
def endE (n:Nat) (e:Int):Int:=if e=0∧0 < n then 30 else e
end Go.Eng
namespace Go.Eng
theorem smN_le (x:UInt64):smN x≤9:=by have:=szU_le x; unfold smN; omega
def byN (n:Nat):Nat:=smN (UInt64.ofNat n)+n
def byB (f:Nat→UInt8) (n:Nat):Nat→UInt8:=catU (smB (UInt64.ofNat n)) (smN (UInt64.ofNat n)) f
theorem smN_rng (x:UInt64):1≤smN x∧smN x≤9:=⟨by unfold smN; omega,smN_le x⟩
theorem byN_rng (n:Nat):1≤byN n∧byN n≤n+9:=by have:=smN_rng (UInt64.ofNat n); unfold byN; omega
end Go.Eng
namespace Go.Eng
theorem wr_3 {f:Nat→UInt8} {n:Nat} {l:UInt64} (h:n=0∨((f 0).toNat≤8∧n - 1 < (f 0).toNat)):(3:Int)=wrE f n l:=by
  unfold wrE
  by_cases h1:n=0
  · rw [if_pos h1]
  · rw [if_neg h1,if_pos (by omega)]
theorem wr_31 {f:Nat→UInt8} {n:Nat} {l:UInt64} (h1:n≠0) (h2:¬ ((f 0).toNat≤8∧n - 1 < (f 0).toNat)) (h3:8 < (f 0).toNat∨(0 < (f 0).toNat∧(f 1 == 0)=true)):(31:Int)=wrE f n l:=by
  unfold wrE; rw [if_neg h1,if_neg h2,if_pos h3]
theorem wr_2 {f:Nat→UInt8} {n:Nat} {l:UInt64} (h1:n≠0) (h2:¬ ((f 0).toNat≤8∧n - 1 < (f 0).toNat)) (h3:¬ (8 < (f 0).toNat∨(0 < (f 0).toNat∧(f 1 == 0)=true))) (h4:l < smV f):(2:Int)=wrE f n l:=by
  unfold wrE; rw [if_neg h1,if_neg h2,if_neg h3,if_pos h4]
theorem wr_0 {f:Nat→UInt8} {n:Nat} {l:UInt64} (h1:n≠0) (h2:¬ ((f 0).toNat≤8∧n - 1 < (f 0).toNat)) (h3:¬ (8 < (f 0).toNat∨(0 < (f 0).toNat∧(f 1 == 0)=true))) (h4:¬ l < smV f):(0:Int)=wrE f n l:=by
  unfold wrE; rw [if_neg h1,if_neg h2,if_neg h3,if_neg h4]
theorem ofN_nil (f:Nat→UInt8):ofN f 0=⟨0,0,0,0⟩∧ofE 0=0:=⟨(show ofN f 0=N4.ofNat 0 from rfl).trans (N4.ext_val (by rw [N4.val_ofNat]; rfl)),rfl⟩
end Go.Eng
namespace Go.Eng
theorem wr_31s {f:Nat→UInt8} {n:Nat} {l:UInt64} (h1:n≠0) (h2:¬ ((f 0).toNat≤8∧n - 1 < (f 0).toNat)) (h3:selB (decide (8 < (f 0).toNat)) true (selB (decide (0 < (f 0).toNat)) (f 1 == 0) false)=true):(31:Int)=wrE f n l:=by
  refine wr_31 h1 h2 ?_
  simpa [selB_or,selB_and] using h3
theorem wr_not {f:Nat→UInt8} (h3:selB (decide (8 < (f 0).toNat)) true (selB (decide (0 < (f 0).toNat)) (f 1 == 0) false)=false):¬ (8 < (f 0).toNat∨(0 < (f 0).toNat∧(f 1 == 0)=true)):=by
  intro h
  rw [← Bool.not_eq_true] at h3
  exact h3 (by simpa [selB_or,selB_and] using h)
theorem rs_out {q:BytL} {e:Int} {l:UInt64} (h:rsE q e l≠0):rsQ q e l=q∧rsV q e l=0:=⟨if_neg h,if_neg h⟩
theorem rs_in {q:BytL} {e:Int} {l:UInt64} (h:rsE q e l=0):rsQ q e l=bytF q (1+q.wf 0).toNat∧rsV q e l=smV q.wf:=⟨if_pos h,if_pos h⟩
theorem okb_rs {q:BytL} (hq:OkB q) (e:Int) (l:UInt64):OkB (rsQ q e l):=by
  unfold rsQ
  split
  · rename_i h
    obtain⟨a,b,c,d⟩:=rs_zero h
    exact okb_from hq (by omega)
  · exact hq
theorem holdb_rs {q:BytL} {e:Int} {l:UInt64} {w:World} (h:FamH (famB q) w):FamH (famB (rsQ q e l)) w:=by
  unfold rsQ
  split
  · rename_i h0
    obtain⟨a,b,c,d⟩:=rs_zero h0
    exact holdb_from (by omega) h
  · exact h
end Go.Eng
namespace Go.Eng
theorem rs_wb {q:BytL} {e:Int} {l:UInt64}:(rsQ q e l).wb=q.wb:=by unfold rsQ; split <;> rfl
end Go.Eng
end
section
namespace Go.Eng
def u64i (m:Int):UInt64:=UInt64.ofNat (m % 18446744073709551616).toNat
theorem conv_i64_u64 {P:Program} {s d:TypeId} {x:Operand} (hs:P.underlying s=some (.int .i64)) (hd:P.underlying d=some (.int .u64)) (m:Int):IsOp P (.convert s d x) [int m] (u64 (u64i m)):=by
  have h:=conv_int (x:=x) hs hd m
  have e:(IntKind.u64.wrap m)=((u64i m).toNat:Int):=by
    unfold u64i
    rw [UInt64.toNat_ofNat']
    have h0:IntKind.u64.wrap m=m % 18446744073709551616:=by simp [IntKind.wrap,IntKind.signed,IntKind.bits]
    rw [h0]
    omega
  rw [e] at h; exact h
theorem u64i_nat {m:Int} (h:0≤m) (h2:m≤9223372036854775807):(u64i m).toNat=m.toNat:=by
  unfold u64i; rw [UInt64.toNat_ofNat']; omega
theorem rsE_ne {q:BytL} {e:Int} {l:UInt64} (h:e≠0):rsE q e l=e:=if_neg h
theorem rsV_le (q:BytL) (e:Int) (l:UInt64):(rsV q e l).toNat≤l.toNat:=by
  unfold rsV
  split
  · rename_i h
    obtain⟨_,_,_,_,h5,_⟩:=wrE_zero (failE_zero h).2
    rw [UInt64.lt_iff_toNat_lt] at h5
    omega
  · exact Nat.zero_le _
def ctE1 (e m:Int):Int:=if m < 0 then failE e 2 else e
def ctV (q:BytL) (e m:Int):Nat:=(rsV q (ctE1 e m) (u64i m)).toNat
def ctQ (q:BytL) (e m:Int):BytL:=rsQ q (ctE1 e m) (u64i m)
def ctE (q:BytL) (e m:Int) (z:Nat):Int:=if (ctQ q e m).wn / z < ctV q e m then failE (rsE q (ctE1 e m) (u64i m)) 3 else rsE q (ctE1 e m) (u64i m)
def ctN (q:BytL) (e m:Int) (z:Nat):Nat:=if (ctQ q e m).wn / z < ctV q e m then 0 else ctV q e m
theorem ctE1_ne {e m:Int} (h:m < 0):ctE1 e m≠0:=by
  unfold ctE1 failE; rw [if_pos h]; split <;> omega
theorem ctV_le {q:BytL} {e m:Int} (h2:m≤9223372036854775807):ctV q e m≤9223372036854775807:=by
  unfold ctV
  by_cases h:m < 0
  · have h1:rsV q (ctE1 e m) (u64i m)=0:=if_neg (by rw [rsE_ne (ctE1_ne h)]; exact ctE1_ne h)
    rw [h1]; exact Nat.zero_le _
  · have h3:=rsV_le q (ctE1 e m) (u64i m)
    rw [u64i_nat (by omega) h2] at h3
    omega
theorem rsQ_wn (q:BytL) (e:Int) (l:UInt64):(rsQ q e l).wn≤q.wn:=by
  unfold rsQ
  split
  · exact Nat.sub_le _ _
  · exact Nat.le_refl _
theorem ctQ_wn (q:BytL) (e m:Int):(ctQ q e m).wn≤q.wn:=rsQ_wn _ _ _
def tkE (q:BytL) (e:Int) (n:Nat):Int:=if q.wn < n then failE e 3 else e
def tkQ (q:BytL) (e:Int) (n:Nat):BytL:=if tkE q e n=0 then bytF q n else q
theorem tkE_zero {q:BytL} {e:Int} {n:Nat} (h:tkE q e n=0):e=0∧n≤q.wn:=by
  unfold tkE at h
  by_cases h1:q.wn < n
  · rw [if_pos h1] at h; exact absurd (failE_zero h).2 (by decide)
  · rw [if_neg h1] at h; exact⟨h,by omega⟩
theorem tk_in {q:BytL} {e:Int} {n:Nat} (h:tkE q e n=0):tkQ q e n=bytF q n:=if_pos h
theorem tk_out {q:BytL} {e:Int} {n:Nat} (h:tkE q e n≠0):tkQ q e n=q:=if_neg h
theorem okb_tk {q:BytL} (hq:OkB q) (e:Int) (n:Nat):OkB (tkQ q e n):=by
  unfold tkQ
  split
  · rename_i h; exact okb_from hq (tkE_zero h).2
  · exact hq
theorem holdb_tk {q:BytL} {e:Int} {n:Nat} {w:World} (h:FamH (famB q) w):FamH (famB (tkQ q e n)) w:=by
  unfold tkQ
  split
  · rename_i h0; exact holdb_from (tkE_zero h0).2 h
  · exact h
theorem tk_wb {q:BytL} {e:Int} {n:Nat}:(tkQ q e n).wb=q.wb:=by unfold tkQ; split <;> rfl
theorem tkQ_wn (q:BytL) (e:Int) (n:Nat):(tkQ q e n).wn≤q.wn:=by
  unfold tkQ
  split
  · exact Nat.sub_le _ _
  · exact Nat.le_refl _
def zA (b:Bool) (n:Nat):Option Addr:=match b with
  | true=>none
  | false=>some ⟨n,0,none⟩
def zV (b:Bool) (n:Nat):Value:=.slice (zA b n) 0 0
def rbN (q:BytL) (e m:Int):Nat:=if tkE (ctQ q e m) (ctE q e m 1) (ctN q e m 1)=0 then ctN q e m 1 else 0
def rbE (q:BytL) (e m:Int):Int:=tkE (ctQ q e m) (ctE q e m 1) (ctN q e m 1)
def rbQ (q:BytL) (e m:Int):BytL:=tkQ (ctQ q e m) (ctE q e m 1) (ctN q e m 1)
end Go.Eng
namespace Go.Eng
theorem ct_in {q:BytL} {e m:Int} {z:Nat} (h:(rsQ q (ctE1 e m) (u64i m)).wn / z < (rsV q (ctE1 e m) (u64i m)).toNat):ctE q e m z=failE (rsE q (ctE1 e m) (u64i m)) 3∧ctN q e m z=0:=⟨if_pos h,if_pos h⟩
theorem ct_out {q:BytL} {e m:Int} {z:Nat} (h:¬ (rsQ q (ctE1 e m) (u64i m)).wn / z < (rsV q (ctE1 e m) (u64i m)).toNat):ctE q e m z=rsE q (ctE1 e m) (u64i m)∧ctN q e m z=(rsV q (ctE1 e m) (u64i m)).toNat:=⟨if_neg h,if_neg h⟩
theorem okb_ct {q:BytL} (hq:OkB q) (e m:Int):OkB (ctQ q e m):=okb_rs hq _ _
theorem holdb_ct {q:BytL} {e m:Int} {w:World} (h:FamH (famB q) w):FamH (famB (ctQ q e m)) w:=holdb_rs h
theorem ct_wb {q:BytL} {e m:Int}:(ctQ q e m).wb=q.wb:=rs_wb
theorem rb_wn (q:BytL) (e m:Int):(rbQ q e m).wn≤q.wn:=Nat.le_trans (tkQ_wn _ _ _) (ctQ_wn _ _ _)
theorem okb_rb {q:BytL} (hq:OkB q) (e m:Int):OkB (rbQ q e m):=okb_tk (okb_ct hq e m) _ _
theorem holdb_rb {q:BytL} {e m:Int} {w:World} (h:FamH (famB q) w):FamH (famB (rbQ q e m)) w:=holdb_tk (holdb_ct h)
theorem rb_wb {q:BytL} {e m:Int}:(rbQ q e m).wb=q.wb:=tk_wb.trans ct_wb
end Go.Eng
namespace Go.Eng
def rbZ (q:BytL) (e m:Int):Bool:=if rbE q e m=0 then (ctQ q e m).wa.isNone else true
theorem rb_bad {q:BytL} {e m:Int} (h:tkE (ctQ q e m) (ctE q e m 1) (ctN q e m 1)≠0):rbN q e m=0∧rbZ q e m=true:=⟨if_neg h,if_neg h⟩
theorem rb_good {q:BytL} {e m:Int} (h:tkE (ctQ q e m) (ctE q e m 1) (ctN q e m 1)=0):rbN q e m=ctN q e m 1∧rbZ q e m=(ctQ q e m).wa.isNone:=⟨if_pos h,if_pos h⟩
end Go.Eng
namespace Go.Eng
theorem slqV_from {q:BytL} {A:Option Addr} {k:Nat} (hA:q.wa=A):slqV (bytF q k) = .slice (fromA A q.wc k 1) (q.wn - k) (q.wc - k):=by subst hA; rfl
end Go.Eng
namespace Go.Eng
end Go.Eng
end
section
namespace Go.Eng
open Go.RowKit Go.WideShapes Go.ChangeShapes Go.ChangeAt Go.Deep
section
variable {H:Type} {enc:TypeId × Value→H} {P:Program}
end
theorem failE_ne {e x:Int} (h:e≠0):failE e x=e:=if_neg h
theorem tkE_ne {q:BytL} {e:Int} {n:Nat} (h:e≠0):tkE q e n=e:=by
  unfold tkE; split
  · exact failE_ne h
  · rfl
theorem ctE1_keep {e m:Int} (h:e≠0):ctE1 e m=e:=by
  unfold ctE1; split
  · exact failE_ne h
  · rfl
theorem rs_keep {q:BytL} {e:Int} {l:UInt64} (h:e≠0):rsE q e l=e∧rsV q e l=0:=by
  have h1:=rsE_ne (q:=q) (l:=l) h
  exact⟨h1,if_neg (by rw [h1]; exact h)⟩
theorem ct_keep {q:BytL} {e m:Int} {z:Nat} (h:e≠0):ctE q e m z=e∧ctN q e m z=0:=by
  have h1:ctE1 e m≠0:=by rw [ctE1_keep h]; exact h
  have h2:=rs_keep (q:=q) (l:=u64i m) h1
  have h3:ctV q e m=0:=by unfold ctV; rw [h2.2]; rfl
  unfold ctE ctN
  rw [h3,if_neg (Nat.not_lt_zero _),if_neg (Nat.not_lt_zero _),h2.1,ctE1_keep h]
  exact⟨rfl,rfl⟩
theorem rb_keep {q:BytL} {e m:Int} (h:e≠0):rbE q e m=e∧rbN q e m=0:=by
  have h1:=ct_keep (q:=q) (m:=m) (z:=1) h
  have h2:rbE q e m=e:=by unfold rbE; rw [h1.1]; exact tkE_ne h
  exact⟨h2,if_neg (show rbE q e m≠0 by rw [h2]; exact h)⟩
end Go.Eng
end
section
namespace Go.Eng
def nwN (n:Nat):Nat:=smN (UInt64.ofNat n)+32*n
def nwB (g:Nat→N4) (n:Nat):Nat→UInt8:=fun k=>if k < smN (UInt64.ofNat n) then smB (UInt64.ofNat n) k else bytesF (g ((k - smN (UInt64.ofNat n)) / 32)) ((k - smN (UInt64.ofNat n)) % 32)
end Go.Eng
end
section
namespace Go.Eng
theorem smV_val {f:Nat→UInt8} (h:(f 0).toNat≤8):(smV f).toNat=beN (fun k=>f (k+1)) (f 0).toNat (f 0).toNat:=by
  have h1:=add1_8 (x:=f 0) (by omega)
  unfold smV
  rw [h1,show 1+(f 0).toNat - 1=(f 0).toNat by omega]
  have hlt:beN (fun k=>f (k+1)) (f 0).toNat (f 0).toNat < 2 ^ 64:=Nat.lt_of_lt_of_le (beN_lt _ _ _) (by rw [pow256]; exact Nat.pow_le_pow_right (by omega) (by omega))
  have h2:(ofN (fun k=>f (k+1)) (f 0).toNat)=N4.ofNat (beN (fun k=>f (k+1)) (f 0).toNat (f 0).toNat):=by
    unfold ofN
    rw [show decide (32 < (f 0).toNat)=false from decide_eq_false (by omega)]
  have h3:(N4.ofNat (beN (fun k=>f (k+1)) (f 0).toNat (f 0).toNat)).val=beN (fun k=>f (k+1)) (f 0).toNat (f 0).toNat:=by
    rw [N4.val_ofNat,Nat.mod_eq_of_lt (Nat.lt_trans hlt (by decide))]
  rw [h2]
  generalize N4.ofNat (beN (fun k=>f (k+1)) (f 0).toNat (f 0).toNat)=a at h3
  have ha:=a.a.toNat_lt
  unfold N4.val at h3
  omega
end Go.Eng
namespace Go.Eng
end Go.Eng
namespace Go.Eng
end Go.Eng
namespace Go.Eng
end Go.Eng
end
section
namespace Go.Eng
theorem smB_0 (x:UInt64):(smB x 0).toNat=szU x:=by
  have:=szU_le x
  unfold smB
  rw [if_pos rfl,UInt8.toNat_ofNat',Nat.mod_eq_of_lt (by omega)]
theorem smB_1 {x:UInt64} (h:0 < szU x):0 < (smB x 1).toNat:=by
  rw [smB_dig x (by omega) (by omega),UInt8.toNat_ofNat',Nat.mod_eq_of_lt (dig_lt _ _)]
  have h1:=szU_ge (x:=x) (by omega)
  have h2:=szU_lt x
  unfold dig
  have hp:0 < 256 ^ (szU x - 1):=Nat.pow_pos (by omega)
  have h3:1≤x.toNat / 256 ^ (szU x - 1):=(Nat.le_div_iff_mul_le hp).2 (by omega)
  have h4:x.toNat / 256 ^ (szU x - 1) < 256:=by
    rw [Nat.div_lt_iff_lt_mul hp,Nat.mul_comm,← Nat.pow_succ]
    show _ < 256 ^ (szU x - 1+1)
    rw [show szU x - 1+1=szU x by omega]
    exact h2
  rw [Nat.mod_eq_of_lt h4]
  omega
theorem small_back {x:UInt64} {f:Nat→UInt8} {n:Nat} {l:UInt64} (hf:∀ k,k < smN x→f k=smB x k) (hn:smN x≤n) (hl:¬ l < x):wrE f n l=0∧smV f=x∧(1+f 0).toNat=smN x:=by
  have hz:=szU_le x
  have h0:(f 0).toNat=szU x:=by rw [hf 0 (smN_rng x).1,smB_0]
  have hs:smN x=szU x+1:=rfl
  have hv:smV f=x:=UInt64.toNat_inj.1 (by
    rw [smV_val (by omega),h0]
    have h1:beN (fun k=>f (k+1)) (szU x) (szU x)=numOf (dig x.toNat) (szU x):=numOf_congr fun j hj=>by
      show(f (szU x - 1 - j+1)).toNat=_
      rw [hf _ (by omega),smB_dig x (by omega) (by omega),UInt8.toNat_ofNat',Nat.mod_eq_of_lt (dig_lt _ _),show szU x - (szU x - 1 - j+1)=j by omega]
    rw [h1,numOf_dig,Nat.mod_eq_of_lt (szU_lt x)])
  refine⟨(wr_0 (by omega) (by omega) ?_ (by rw [hv]; exact hl)).symm,hv,by rw [add1_8 (by omega)]; omega⟩
  rintro(h1 | ⟨h1,h2⟩)
  · omega
  · have h3:=smB_1 (x:=x) (by omega)
    rw [← hf 1 (by omega)] at h3
    rw [beq_iff_eq] at h2
    rw [h2] at h3
    exact absurd h3 (by decide)
theorem small_short {x:UInt64} {f:Nat→UInt8} {n:Nat} {l:UInt64} (hf:∀ k,k < n→f k=smB x k) (hn:n < smN x):wrE f n l=3:=by
  have hz:=szU_le x
  have hs:smN x=szU x+1:=rfl
  refine(wr_3 ?_).symm
  rcases Nat.eq_zero_or_pos n with h0 | h0
  · exact .inl h0
  · have h1:(f 0).toNat=szU x:=by rw [hf 0 h0,smB_0]
    exact .inr ⟨by omega,by omega⟩
def FwS (Q Q':BytL) (E':Int) (n:Nat) (V:Prop):Prop:=(n≤Q.wn∧E'=0∧Q'.wn+n=Q.wn∧(∀ k,Q'.wf k=Q.wf (n+k))∧V)∨(Q.wn < n∧E'=3)
def At (Q:BytL) (n:Nat) (g:Nat→UInt8):Prop:=∀ k,k < n→k < Q.wn→Q.wf k=g k
theorem fw_small {Q:BytL} {x l:UInt64} (h:At Q (smN x) (smB x)) (hl:¬ l < x):FwS Q (rsQ Q 0 l) (rsE Q 0 l) (smN x) (rsV Q 0 l=x):=by
  rcases Nat.lt_or_ge Q.wn (smN x) with h1 | h1
  · exact .inr ⟨h1,by show failE 0 _=3; rw [show failE 0 (wrE Q.wf Q.wn l)=wrE Q.wf Q.wn l from if_pos rfl]; exact small_short (fun k hk=>h k (by omega) hk) h1⟩
  · obtain⟨a,b,c⟩:=small_back (f:=Q.wf) (n:=Q.wn) (l:=l) (fun k hk=>h k hk (by omega)) h1 hl
    have hE:rsE Q 0 l=0:=by show failE 0 _=0; rw [a]; rfl
    obtain⟨e1,e2⟩:=rs_in hE
    rw [e1,e2,c]
    refine .inl ⟨h1,hE,?_,fun k=>?_,b⟩
    · show Q.wn - smN x+smN x=_; omega
    · show Q.wf (k+smN x)=_; rw [Nat.add_comm]
theorem fw_count {Q : BytL} {n z : Nat} {m : Int} (hz : 0 < z) (hm : 0 ≤ m) (hm2 : m ≤ 9223372036854775807) (hn : n ≤ m.toNat) (h : At Q (smN (UInt64.ofNat n)) (smB (UInt64.ofNat n))) :
    (smN (UInt64.ofNat n)+n*z≤Q.wn∧ctE Q 0 m z=0∧ctN Q 0 m z=n∧(ctQ Q 0 m).wn+smN (UInt64.ofNat n)=Q.wn∧∀ k,(ctQ Q 0 m).wf k=Q.wf (smN (UInt64.ofNat n)+k)) ∨
    (Q.wn < smN (UInt64.ofNat n)+n*z∧ctE Q 0 m z=3∧ctN Q 0 m z=0):=by
  have e1:ctE1 0 m=0:=by unfold ctE1; rw [if_neg (by omega)]
  have hx:(UInt64.ofNat n).toNat=n:=by rw [UInt64.toNat_ofNat']; omega
  have hl:¬ u64i m < UInt64.ofNat n:=by
    rw [UInt64.lt_iff_toNat_lt,hx,u64i_nat hm hm2]; omega
  rcases fw_small h hl with ⟨h1,h2,h3,h4,h5⟩ | ⟨h1,h2⟩
  · have hv:ctV Q 0 m=n:=by unfold ctV; rw [e1,h5,hx]
    have hq:ctQ Q 0 m=rsQ Q 0 (u64i m):=by unfold ctQ; rw [e1]
    rw [← hq] at h3 h4
    by_cases hd:(ctQ Q 0 m).wn / z < n
    · refine .inr ⟨?_,?_,?_⟩
      · have:=(Nat.div_lt_iff_lt_mul hz).1 hd
        omega
      · unfold ctE; rw [hv,if_pos hd,e1,h2]; rfl
      · unfold ctN; rw [hv,if_pos hd]
    · refine .inl ⟨?_,?_,?_,h3,h4⟩
      · have:=(Nat.le_div_iff_mul_le hz).1 (Nat.le_of_not_lt hd)
        omega
      · unfold ctE; rw [hv,if_neg hd,e1,h2]
      · unfold ctN; rw [hv,if_neg hd]
  · have hv : ctV Q 0 m = 0 := by
      unfold ctV
      rw [e1,(rs_out (by rw [h2]; decide)).2]; rfl
    refine .inr ⟨by omega,?_,?_⟩
    · unfold ctE; rw [hv,if_neg (Nat.not_lt_zero _),e1,h2]
    · unfold ctN; rw [hv,if_neg (Nat.not_lt_zero _)]
theorem at_first {Q:BytL} {n m:Nat} {f g:Nat→UInt8} (h:At Q (n+m) (catU f n g)):At Q n f:=fun k hk hq=>by
  rw [h k (by omega) hq]; unfold catU; rw [if_pos hk]
theorem at_rest {Q Q':BytL} {n m:Nat} {f g:Nat→UInt8} (h:At Q (n+m) (catU f n g)) (hn:Q'.wn+n=Q.wn) (hf:∀ k,Q'.wf k=Q.wf (n+k)):At Q' m g:=fun k hk hq=>by
  rw [hf,h _ (by omega) (by omega)]
  unfold catU
  rw [if_neg (by omega),show n+k - n=k by omega]
theorem fw_bytes {Q : BytL} {n : Nat} {B : Nat → UInt8} {m : Int} (hm : 0 ≤ m) (hm2 : m ≤ 9223372036854775807) (hn : n ≤ m.toNat) (h : At Q (byN n) (byB B n)) :
    FwS Q (rbQ Q 0 m) (rbE Q 0 m) (byN n) (rbN Q 0 m=n∧∀ k,k < n→(ctQ Q 0 m).wf k=B k):=by
  rcases fw_count (z:=1) (by decide) hm hm2 hn (at_first h) with ⟨h1,h2,h3,h4,h5⟩ | ⟨h1,h2,h3⟩
  · have hat:=at_rest h h4 h5
    have hE:tkE (ctQ Q 0 m) (ctE Q 0 m 1) (ctN Q 0 m 1)=0:=by rw [h2,h3]; unfold tkE; rw [if_neg (by omega)]
    refine .inl ⟨by unfold byN; omega,hE,?_,fun k=>?_,?_,fun k hk=>hat k hk (by omega)⟩
    · unfold rbQ byN; rw [tk_in hE,h3]
      show(ctQ Q 0 m).wn - n+_=_
      omega
    · unfold rbQ byN; rw [tk_in hE,h3]
      show(ctQ Q 0 m).wf (k+n)=_
      rw [h5]; congr 1; omega
    · rw [(rb_good hE).1,h3]
  · refine .inr ⟨by unfold byN; omega,?_⟩
    unfold rbE; rw [h2,h3]; unfold tkE; rw [if_neg (Nat.not_lt_zero _)]
end Go.Eng
namespace Go.Eng
theorem rsm_end {x:UInt64} {c:Nat} (h:x.toNat / 256 ^ c=0) (h2:c≠0→x.toNat / 256 ^ (c - 1)≠0):c=szU x:=by
  have hp:0 < 256 ^ c:=Nat.pow_pos (by omega)
  have h3:x.toNat < 256 ^ c:=by
    rcases Nat.lt_or_ge x.toNat (256 ^ c) with h4 | h4
    · exact h4
    · have:=Nat.div_pos h4 hp; omega
  have hl:=szU_lt x
  rcases Nat.lt_trichotomy c (szU x) with h4 | h4 | h4
  · exfalso
    have h5:=szU_ge (x:=x) (by omega)
    have h6:256 ^ c≤256 ^ (szU x - 1):=Nat.pow_le_pow_right (by omega) (by omega)
    omega
  · exact h4
  · exfalso
    have h6:256 ^ szU x≤256 ^ (c - 1):=Nat.pow_le_pow_right (by omega) (by omega)
    exact h2 (by omega) (Nat.div_eq_of_lt (by omega))
theorem rsm_next {x c:Nat} {f:Nat→UInt8} (hf:∀ k,k < c→f k=UInt8.ofNat (dig x (c - 1 - k))) (k:Nat) (hk:k < c+1):catU (fun _=>UInt8.ofNat (x / 256 ^ c % 256)) 1 f k=UInt8.ofNat (dig x (c+1 - 1 - k)):=by
  unfold catU
  by_cases h:k < 1
  · rw [if_pos h,show c+1 - 1 - k=c by omega]; rfl
  · rw [if_neg h,hf _ (by omega),show c - 1 - (k - 1)=c+1 - 1 - k by omega]
end Go.Eng
end
section
namespace Go.Eng
structure NatL where
  la:Option Addr
  ln:Nat
  lc:Nat
  lb:Nat
  lo:Nat
  lf:Nat→N4
instance:Inhabited NatL:=⟨⟨none,0,0,0,0,fun _=>N4.mk 0 0 0 0⟩⟩
section
open Go.RowKit Go.WideShapes Go.ChangeShapes Go.ChangeAt Go.Deep
variable {H:Type} {enc:TypeId × Value→H} {P:Program}
end
end Go.Eng
end
section
namespace Go.Eng
def recG (D:Grw UInt8):BytL:=⟨gsA D,D.n,gsC D,D.nm,0,D.f⟩
theorem recG_ok {D:Grw UInt8} (h:D.ok) (hl:D.n≤9223372036854775807):OkB (recG D):=⟨gs_le h,fun h0=>gsA_own (h.pos h0),hl⟩
theorem recG_fam {D:Grw UInt8} (h:D.ok) {w:World} (hb:∀ b,roO (gsE u8C [u8 0] 1 D)=some b→Holds b w):FamH (famB (recG D)) w:=fun b hb'=>by
  obtain⟨h0,rfl⟩:=hb'
  have hz:=h.pos h0
  have h1:=hb ⟨D.nm,false,0,spr (D.n+D.r) D.n (fun k=>u8 (D.f k)) (u8 0)⟩ (by rw [gsE_u8,grO_own hz]; rfl)
  exact⟨holds_sprB h1,rfl⟩
theorem ro_own {c:Option Blk}:∀ b,roO c=some b→b.own=false:=fun b hb=>by
  cases c with
  | none=>cases hb
  | some x=>injection hb with hb; rw [← hb]
end Go.Eng
end
section
namespace Go.Proofs.YtmdpendnbkajdaaDoor
open Go Go.Eng
end Go.Proofs.YtmdpendnbkajdaaDoor
end
section
namespace Go.Proofs.YtmdpendnbkajdaaDoor
open Go Go.Eng
theorem clone_runs0 (b o n c:Nat) (f:Nat→UInt8) (h0:0 < n) (hl:n≤140737488355328):Runs Tryd.prog 21 [(Value.slice (some ⟨b,o,none⟩) n c)] [⟨b,false,o,(tabF n (fun k=>u8 (f k)))⟩] 2 (fun(ns:List Nat)=>(Value.slice (some ⟨(ns.getD 0 0),0,none⟩) (0+n) (0+n+(ns.getD 1 0)))) (fun(ns:List Nat)=>[some ⟨b,false,o,(tabF n (fun k=>u8 (f k)))⟩,some ⟨(ns.getD 0 0),true,0,(spr (0+n+(ns.getD 1 0)) (0+n) (fun k=>u8 (catU (fun _=>0) 0 f k)) (u8 0))⟩]) :=
  runs_of_ev mix Tryd.func21 rfl rfl 400 (.reg (rg [.g]) (.reg (rg [.g,.g]) (.no (.regn (rg [(.oth [] 1 1 (fun ns=>Value.slice (some ⟨ns.getD 0 0,0,none⟩) 0 0) (fun ns=>[some ⟨ns.getD 0 0,true,0,(spr (0+0) 0 (fun k=>u8 ((fun _=>0) k)) (u8 0))⟩])),.g,(.oth [(1,false),(0,true)] 2 0 (fun ns=>Value.slice (some ⟨(ns.getD 0 0),0,none⟩) (0+n) (0+n+(ns.getD 1 0))) (fun ns=>[some ⟨(ns.getD 0 0),true,0,(spr (0+n+(ns.getD 1 0)) (0+n) (fun k=>u8 (catU (fun _=>0) 0 f k)) (u8 0))⟩,none])),.g]) (more (fun n1=>more (fun n2=>more (fun n3=>fun _=>.done)))))))) [] [1] rfl
    (Eq.mp (by kernel_rfl) (aI kV1 (aI kV2 (aT (aI (@rfl Bool false) (fun(n1 n2 n3:Nat)=>aI (aI (aT (mk_build0 (P:=Tryd.prog) (t:=23) (e:=5) (by kernel_rfl) one5 u8 (fun _=>0))) (sk (aI (aT (SRuns.dark [false,true] (mk_append (P:=Tryd.prog) (t:=23) (ty:=23) (e:=5) (by kernel_rfl) one5 n1 0 0 b o 0 n c u8 (fun _=>0) f (tabF n (fun k=>u8 (f k))) (fun j hj=>by rw [Nat.zero_add]; exact tabF_in hj) (fun _=>rfl) (show(0+n)*1≤140737488355328∧0+n≤9223372036854775807 from by omega)))) kV1))) (aT (eX (fun(ns:List Nat)=>ns.length=2∧((Value.slice (some ⟨n2,0,none⟩) (0+n) (0+n+n3)):Value)=(fun(ns:List Nat)=>(Value.slice (some ⟨(ns.getD 0 0),0,none⟩) (0+n) (0+n+(ns.getD 1 0)))) ns∧([some ⟨b,false,o,(tabF n (fun k=>u8 (f k)))⟩,some ⟨n2,true,0,(spr (0+n+n3) (0+n) (fun k=>u8 (catU (fun _=>0) 0 f k)) (u8 0))⟩]:List (Option Blk))=(fun(ns:List Nat)=>[some ⟨b,false,o,(tabF n (fun k=>u8 (f k)))⟩,some ⟨(ns.getD 0 0),true,0,(spr (0+n+(ns.getD 1 0)) (0+n) (fun k=>u8 (catU (fun _=>0) 0 f k)) (u8 0))⟩]) ns) [n2,n3] (aI (@rfl Nat 2) (aI (@rfl Value (Value.slice (some ⟨n2,0,none⟩) (0+n) (0+n+n3))) (@rfl (List (Option Blk)) [some ⟨b,false,o,(tabF n (fun k=>u8 (f k)))⟩,some ⟨n2,true,0,(spr (0+n+n3) (0+n) (fun k=>u8 (catU (fun _=>0) 0 f k)) (u8 0))⟩])))))))))))
theorem clone_runs (b o n c:Nat) (f:Nat→UInt8) (h0:0 < n) (hl:n≤140737488355328):Runs Tryd.prog 21 [.slice (some ⟨b,o,none⟩) n c] [⟨b,false,o,tabF n (fun k=>u8 (f k))⟩] 2 (fun ns=>.slice (some ⟨ns.getD 0 0,0,none⟩) n (n+ns.getD 1 0)) (fun ns=>[some ⟨b,false,o,tabF n (fun k=>u8 (f k))⟩,some ⟨ns.getD 0 0,true,0,spr (n+ns.getD 1 0) n (fun k=>u8 (f k)) (u8 0)⟩]):=by
  have h:=clone_runs0 b o n c f h0 hl
  simp only [Nat.zero_add,catU_nil] at h
  exact h
theorem clone_fam (q:BytL) (hq:OkB q) (h0:0 < q.wn) (hl:q.wn≤140737488355328):RunsF (famB q) Tryd.prog 21 [slqV q] [] 2 (fun ns=>.slice (some ⟨ns.getD 0 0,0,none⟩) q.wn (q.wn+ns.getD 1 0)) (fun ns=>[some ⟨ns.getD 0 0,true,0,spr (q.wn+ns.getD 1 0) q.wn (fun k=>u8 (q.wf k)) (u8 0)⟩]):=by
  have e:slqV q = .slice (some ⟨q.wb,q.wo,none⟩) q.wn q.wc:=by unfold slqV; rw [hq.ad h0]
  rw [e]
  exact(clone_runs q.wb q.wo q.wn q.wc q.wf h0 hl).famN ⟨h0,rfl⟩
theorem clone_zero (A:Addr) (c:Nat):Runs Tryd.prog 21 [(Value.slice (some A) 0 c)] [] 1 (fun(ns:List Nat)=>(Value.slice (some ⟨(ns.getD 0 0),0,none⟩) 0 (0+0))) (fun(ns:List Nat)=>[some ⟨(ns.getD 0 0),true,0,(spr (0+0) 0 (fun k=>u8 ((fun _=>0) k)) (u8 0))⟩]) :=
  runs_of_ev mix Tryd.func21 rfl rfl 400 (.reg (rg [.g]) (.reg (rg [.g,.g]) (.no (.regn (rg [(.oth [] 1 1 (fun ns=>Value.slice (some ⟨ns.getD 0 0,0,none⟩) 0 0) (fun ns=>[some ⟨ns.getD 0 0,true,0,(spr (0+0) 0 (fun k=>u8 ((fun _=>0) k)) (u8 0))⟩])),.g,(.oth [(0,false)] 1 0 (fun ns=>Value.slice (some ⟨(ns.getD 0 0),0,none⟩) 0 (0+0)) (fun ns=>[some ⟨(ns.getD 0 0),true,0,(spr (0+0) 0 (fun k=>u8 ((fun _=>0) k)) (u8 0))⟩])),.g]) (more (fun n1=>more (fun n2=>fun _=>.done))))))) [] [0] rfl
    (Eq.mp (by kernel_rfl) (aI kV1 (aI kV2 (aT (aI (@rfl Bool false) (fun(n1 n2:Nat)=>aI (aI (aT (mk_build0 (P:=Tryd.prog) (t:=23) (e:=5) (by kernel_rfl) one5 u8 (fun _=>0))) (sk (aI (aT (SRuns.dark [false] (mk_append0 (P:=Tryd.prog) (t:=23) (ty:=23) (e:=5) (by kernel_rfl) one5 n1 (spr (0+0) 0 (fun k=>u8 ((fun _=>0) k)) (u8 0)) (some A) c))) kV1))) (aT (eX (fun(ns:List Nat)=>ns.length=1∧((Value.slice (some ⟨n2,0,none⟩) 0 (0+0)):Value)=(fun(ns:List Nat)=>(Value.slice (some ⟨(ns.getD 0 0),0,none⟩) 0 (0+0))) ns∧([some ⟨n2,true,0,(spr (0+0) 0 (fun k=>u8 ((fun _=>0) k)) (u8 0))⟩]:List (Option Blk))=(fun(ns:List Nat)=>[some ⟨(ns.getD 0 0),true,0,(spr (0+0) 0 (fun k=>u8 ((fun _=>0) k)) (u8 0))⟩]) ns) [n2] (aI (@rfl Nat 1) (aI (@rfl Value (Value.slice (some ⟨n2,0,none⟩) 0 (0+0))) (@rfl (List (Option Blk)) [some ⟨n2,true,0,(spr (0+0) 0 (fun k=>u8 ((fun _=>0) k)) (u8 0))⟩])))))))))))
theorem of_fam (q:BytL) (hq:OkB q):RunsF (famB q) Tryd.prog 69 [slqV q] [] 0 (fun _=>.tuple #[nat4 (ofN q.wf q.wn),int (ofE q.wn)]) (fun _=>[]):=by
  rcases Nat.eq_zero_or_pos q.wn with h0 | h0
  · have e:slqV q = .slice q.wa 0 q.wc:=by unfold slqV; rw [h0]
    rw [e,h0,(ofN_nil q.wf).1,(ofN_nil q.wf).2]
    exact(of_nil q.wa q.wc).toF
  · have e:slqV q = .slice (some ⟨q.wb,q.wo,none⟩) q.wn q.wc:=by unfold slqV; rw [hq.ad h0]
    rw [e]
    exact(of_runs q.wb q.wo q.wn q.wc q.wf hq.len).fam ⟨h0,rfl⟩
theorem small_fam (q:BytL) (hq:OkB q) (hl:q.wn≤100000) (h0:0 < q.wn) (h8:(q.wf 0).toNat≤8) (h9:(q.wf 0).toNat+1≤q.wn):RunsF (famB q) Tryd.prog 51 [(Value.slice q.wa q.wn q.wc)] [] 0 (fun _=>u64 (smV q.wf)) (fun _=>[]) :=
  runsF_of_ev (F:=(famB q)) mix Tryd.func51 rfl rfl 400 (.reg (rg [.g]) (.openr (bytB q) (.regn (rg [.g,.g,(.as (ptr q.wb (q.wo+0*1))),(.ld 0 (.tab 0 0)),(.as (u8 (1+(q.wf 0)))),(.as (Value.slice (fromA q.wa q.wc 1 1) (((1+(q.wf 0)).toNat) - 1) (q.wc - 1))),(.callF [] 0 0 (fun _=>(Value.tuple #[(nat4 (ofN (bytF (bytT q ((1+(q.wf 0)).toNat)) 1).wf (bytF (bytT q ((1+(q.wf 0)).toNat)) 1).wn)),(int (ofE (bytF (bytT q ((1+(q.wf 0)).toNat)) 1).wn))])) (fun _=>[])),.g,.g,.g,.new,(.st 1 (.lit 0)),.g]) (more (fun n1=>fun _=>(.reg (rg [.g,(.ld 1 (.lit 0)),.g]) .done)))))) [] [] rfl
    (have f1:=hq.cap; have f5:(1+q.wf 0).toNat=1+(q.wf 0).toNat:=(add1_8 (Nat.le_trans h8 (by decide))); Eq.mp (by kernel_rfl) (aI kV1 (aI (⟨(show 0 < q.wn from by omega),rfl⟩:famB q (bytB q)) (fun(n1:Nat)=>aI (sK2 (aI (aT (@is_ixSq Tryd.prog 23 5 (.tmp 7) (.const (.int .i64 0)) 1 (by kernel_rfl) (by kernel_rfl) q.wb q.wo q.wn q.wc 0 q.wa (hq.ad (show 0 < q.wn from by omega)) (show 0 < q.wn from by omega))) (aI (aT (aI (show 0 < q.wn from by omega) (@rfl Value (ptr q.wb (q.wo+0*1))))) (aI (aT (@is_add8 Tryd.prog 5 5 (.const (.int .u8 1)) (.tmp 9) 1 (q.wf 0))) (aI (aT (is_slqPartK (P:=Tryd.prog) (t:=23) (e:=5) (x:=(.tmp 6)) (y:=(.const (.int .i64 1))) (z:=(.tmp 10)) (by kernel_rfl) (sz:=1) (by kernel_rfl) .i64 .u8 q.wa q.wn q.wc 1 ((1+(q.wf 0)).toNat) (show 1≤(1+(q.wf 0)).toNat∧(1+(q.wf 0)).toNat≤q.wc from by omega))) (aI (aT (RunsF.lendP (fun w hF=>holdb_from (show 1≤((1+(q.wf 0)).toNat) from by omega) (holdb_to (show((1+(q.wf 0)).toNat)≤q.wn from by omega) hF)) (fun x hx=>famB_part (show 0 < ((1+(q.wf 0)).toNat) - 1→0 < q.wn from by omega) hx) (of_fam (bytF (bytT q ((1+(q.wf 0)).toNat)) 1) (okb_from (okb_to hq (show((1+(q.wf 0)).toNat)≤q.wn from by omega)) (show 1≤((1+(q.wf 0)).toNat) from by omega))))) (sK4 (aI (aT (ad n1 0)) kV1)))))))) (aI (sk (aI (aT (ad n1 0)) kV1)) (aT (eX (fun(ns:List Nat)=>ns.length=0∧((u64 ((ofN (bytF (bytT q ((1+(q.wf 0)).toNat)) 1).wf (bytF (bytT q ((1+(q.wf 0)).toNat)) 1).wn).a)):Value)=(fun _=>u64 (smV q.wf)) ns∧([]:List (Option Blk))=(fun _=>[]) ns) [] (aI (@rfl Nat 0) (aI (@rfl Value (u64 (smV q.wf))) (@rfl (List (Option Blk)) []))))))))))
theorem wrong_fam (q:BytL) (l:UInt64) (hq:OkB q) (hl:q.wn≤100000):RunsF (famB q) Tryd.prog 50 [(Value.slice q.wa q.wn q.wc),(u64 l)] [] 0 (fun _=>int (wrE q.wf q.wn l)) (fun _=>[]) :=
  runsF_of_ev (F:=(famB q)) mix Tryd.func50 rfl rfl 400 (.reg (rg [.g]) (.reg (rg [.g,(.as (nat q.wn)),(.as (Value.bool (decide (q.wn=0)))),.g]) (.br (.reg (rg [.g]) .done) (.openr (bytB q) (.reg (rg [.g,(.as (ptr q.wb (q.wo+0*1))),(.ld 0 (.tab 0 0)),(.as (Value.bool (decide ((q.wf 0).toNat≤8)))),.g,(.opt .g),(.opt (.as (nat q.wn))),(.opt (.as (nat (q.wn - 1)))),(.opt .g),(.opt (.as (ptr q.wb (q.wo+0*1)))),(.opt (.ld 0 (.tab 0 0))),(.opt (.as (nat ((q.wf 0).toNat)))),(.opt (.as (Value.bool (decide ((q.wn - 1) < ((q.wf 0).toNat)))))),.pk,.g]) (.br (.reg (rg [.g]) .done) (.openr (bytB q) (.reg (rg [.g,(.as (ptr q.wb (q.wo+0*1))),(.ld 1 (.tab 0 0)),(.as (Value.bool (decide (8 < (q.wf 0).toNat)))),.g,(.opt .g),(.opt (.as (ptr q.wb (q.wo+0*1)))),(.opt (.ld 1 (.tab 0 0))),(.opt (.as (Value.bool (decide (0 < (q.wf 0).toNat))))),(.opt .g),(.opt .g),(.opt (.as (ptr q.wb (q.wo+1*1)))),(.opt (.ld 1 (.tab 1 0))),(.opt (.as (Value.bool ((q.wf 1) == 0)))),(.opt .pk),.pk,.g]) (.br (.reg (rg [.g]) .done) (.reg (rg [.g,(.callF [] 0 0 (fun _=>(u64 (smV q.wf))) (fun _=>[])),.g,(.as (Value.bool (decide (l < (smV q.wf))))),.g]) (.br (.reg (rg [.g]) .done) (.reg (rg [.g]) .done)))))))))))) [] [] rfl
    (have f1:=hq.cap; Eq.mp (by kernel_rfl) (aI kV1 (aI (sk (aI (aT (@is_len Tryd.prog 23 5 (.tmp 6) (by kernel_rfl) q.wa q.wn q.wc)) (aI (aT (@is_eqln Tryd.prog 3 3 (.tmp 7) (.const (.int .i64 0))  q.wn 0)) kV1))) (aT (aI (fun(h1:(decide (q.wn=0))=true)=>have f2:=(oT h1); aI kV1 (aT (eX (fun(ns:List Nat)=>ns.length=0∧((int 3):Value)=(fun _=>int (wrE q.wf q.wn l)) ns∧([]:List (Option Blk))=(fun _=>[]) ns) [] (aI (@rfl Nat 0) (aI ((show(int 3)=int (wrE q.wf q.wn l) from congrArg int (by have hhh1:=h1; first | exact wr_3 (by omega) | exact wr_31s (by omega) (by omega) (by assumption) | exact wr_2 (by omega) (by omega) (wr_not (by assumption)) (by assumption) | exact wr_0 (by omega) (by omega) (wr_not (by assumption)) (by assumption)))) (@rfl (List (Option Blk)) [])))))) (fun(h1:(decide (q.wn=0))=false)=>have f2:=(oF h1); aI (⟨(show 0 < q.wn from by omega),rfl⟩:famB q (bytB q)) (aI (sk (aI (aT (@is_ixSq Tryd.prog 23 5 (.tmp 10) (.const (.int .i64 0)) 1 (by kernel_rfl) (by kernel_rfl) q.wb q.wo q.wn q.wc 0 q.wa (hq.ad (show 0 < q.wn from by omega)) (show 0 < q.wn from by omega))) (aI (aT (aI (show 0 < q.wn from by omega) (@rfl Value (ptr q.wb (q.wo+0*1))))) (aI (aT (@is_leq8 Tryd.prog 5 5 (.tmp 12) (.const (.int .u8 8)) (q.wf 0) 8)) (sk (aI (fun(hg:(sB (decide ((q.wf 0).toNat≤8)) true)=true)=>t2) (aI (fun(hg:(sB (decide ((q.wf 0).toNat≤8)) true)=true)=>have f3:((q.wf 0).toNat≤8):=(oT (sameB_t hg)); (aI (aI hg tV) (@is_len Tryd.prog 23 5 (.tmp 15) (by kernel_rfl) q.wa q.wn q.wc))) (aI (fun(hg:(sB (decide ((q.wf 0).toNat≤8)) true)=true)=>have f3:((q.wf 0).toNat≤8):=(oT (sameB_t hg)); (aI (aI hg tV) (@is_subn Tryd.prog 3 3 (.tmp 16) (.const (.int .i64 1))  q.wn 1 (show 1≤q.wn∧q.wn - 1≤9223372036854775807 from by omega)))) (aI (fun(hg:(sB (decide ((q.wf 0).toNat≤8)) true)=true)=>t2) (aI (fun(hg:(sB (decide ((q.wf 0).toNat≤8)) true)=true)=>have f3:((q.wf 0).toNat≤8):=(oT (sameB_t hg)); (aI (aI hg tV) (@is_ixSq Tryd.prog 23 5 (.tmp 18) (.const (.int .i64 0)) 1 (by kernel_rfl) (by kernel_rfl) q.wb q.wo q.wn q.wc 0 q.wa (hq.ad (show 0 < q.wn from by omega)) (show 0 < q.wn from by omega)))) (aI (fun(hg:(sB (decide ((q.wf 0).toNat≤8)) true)=true)=>have f3:((q.wf 0).toNat≤8):=(oT (sameB_t hg)); (aI (aI hg tV) (aI (show 0 < q.wn from by omega) (@rfl Value (ptr q.wb (q.wo+0*1)))))) (aI (fun(hg:(sB (decide ((q.wf 0).toNat≤8)) true)=true)=>have f3:((q.wf 0).toNat≤8):=(oT (sameB_t hg)); (aI (aI hg tV) (@conv_u8_int Tryd.prog 5 3 (.tmp 20) (by kernel_rfl) (by kernel_rfl) (q.wf 0)))) (aI (fun(hg:(sB (decide ((q.wf 0).toNat≤8)) true)=true)=>(aI (aI hg (aI hg tV)) (@is_lssn Tryd.prog 3 3 (.tmp 17) (.tmp 21)  (q.wn - 1) ((q.wf 0).toNat)))) (aI (aT (aI (fun(hp:(decide ((q.wf 0).toNat≤8))=true)=>(sameB_mk hp)) (fun(_:(decide ((q.wf 0).toNat≤8))=false)=>tV))) kV1)))))))))))))) (aT (aI (fun(h2:(selB (decide ((q.wf 0).toNat≤8)) (decide ((q.wn - 1) < ((q.wf 0).toNat))) false)=true)=>have f3:((q.wf 0).toNat≤8):=(oT (sband_l h2)); have f4:((q.wn - 1) < ((q.wf 0).toNat)):=(oT (sband_r h2)); aI kV1 (aT (eX (fun(ns:List Nat)=>ns.length=0∧((int 3):Value)=(fun _=>int (wrE q.wf q.wn l)) ns∧([]:List (Option Blk))=(fun _=>[]) ns) [] (aI (@rfl Nat 0) (aI ((show(int 3)=int (wrE q.wf q.wn l) from congrArg int (by have hhh1:=h1; have hhh2:=h2; first | exact wr_3 (by omega) | exact wr_31s (by omega) (by omega) (by assumption) | exact wr_2 (by omega) (by omega) (wr_not (by assumption)) (by assumption) | exact wr_0 (by omega) (by omega) (wr_not (by assumption)) (by assumption)))) (@rfl (List (Option Blk)) [])))))) (fun(h2:(selB (decide ((q.wf 0).toNat≤8)) (decide ((q.wn - 1) < ((q.wf 0).toNat))) false)=false)=>have f3:(¬ ((q.wf 0).toNat≤8))∨(¬ ((q.wn - 1) < ((q.wf 0).toNat))):=(Or.imp (fun h=>(oF h)) (fun h=>(oF h)) (sband_f h2)); aI (⟨(show 0 < q.wn from by omega),rfl⟩:famB q (bytB q)) (aI (sk (aI (aT (@is_ixSq Tryd.prog 23 5 (.tmp 25) (.const (.int .i64 0)) 1 (by kernel_rfl) (by kernel_rfl) q.wb q.wo q.wn q.wc 0 q.wa (hq.ad (show 0 < q.wn from by omega)) (show 0 < q.wn from by omega))) (aI (aT (aI (show 0 < q.wn from by omega) (@rfl Value (ptr q.wb (q.wo+0*1))))) (aI (aT (@is_gtr8 Tryd.prog 5 5 (.tmp 27) (.const (.int .u8 8)) (q.wf 0) 8)) (sk (aI (fun(hg:(sB (decide (8 < (q.wf 0).toNat)) false)=true)=>t2) (aI (fun(hg:(sB (decide (8 < (q.wf 0).toNat)) false)=true)=>have f4:¬ (8 < (q.wf 0).toNat):=(oF (sameB_f hg)); (aI (aI hg tV) (@is_ixSq Tryd.prog 23 5 (.tmp 30) (.const (.int .i64 0)) 1 (by kernel_rfl) (by kernel_rfl) q.wb q.wo q.wn q.wc 0 q.wa (hq.ad (show 0 < q.wn from by omega)) (show 0 < q.wn from by omega)))) (aI (fun(hg:(sB (decide (8 < (q.wf 0).toNat)) false)=true)=>have f4:¬ (8 < (q.wf 0).toNat):=(oF (sameB_f hg)); (aI (aI hg tV) (aI (show 0 < q.wn from by omega) (@rfl Value (ptr q.wb (q.wo+0*1)))))) (aI (fun(hg:(sB (decide (8 < (q.wf 0).toNat)) false)=true)=>(aI (aI hg tV) (@is_gtr8 Tryd.prog 5 5 (.tmp 32) (.const (.int .u8 0)) (q.wf 0) 0))) (aI (fun(hg:(sB (decide (8 < (q.wf 0).toNat)) false)=true)=>(aI (aI hg tV) tV)) (aI (fun(hg:(selB (sB (decide (8 < (q.wf 0).toNat)) false) (sB (decide (0 < (q.wf 0).toNat)) true) false)=true)=>t2) (aI (fun(hg:(selB (sB (decide (8 < (q.wf 0).toNat)) false) (sB (decide (0 < (q.wf 0).toNat)) true) false)=true)=>have f4:¬ (8 < (q.wf 0).toNat):=(oF (sameB_f (pickl hg))); have f5:(0 < (q.wf 0).toNat):=(oT (sameB_t (pickr hg))); (aI (aI hg tV) (@is_ixSq Tryd.prog 23 5 (.tmp 35) (.const (.int .i64 1)) 1 (by kernel_rfl) (by kernel_rfl) q.wb q.wo q.wn q.wc 1 q.wa (hq.ad (show 0 < q.wn from by omega)) (show 1 < q.wn from by omega)))) (aI (fun(hg:(selB (sB (decide (8 < (q.wf 0).toNat)) false) (sB (decide (0 < (q.wf 0).toNat)) true) false)=true)=>have f4:¬ (8 < (q.wf 0).toNat):=(oF (sameB_f (pickl hg))); have f5:(0 < (q.wf 0).toNat):=(oT (sameB_t (pickr hg))); (aI (aI hg tV) (aI (show 1 < q.wn from by omega) (@rfl Value (ptr q.wb (q.wo+1*1)))))) (aI (fun(hg:(selB (sB (decide (8 < (q.wf 0).toNat)) false) (sB (decide (0 < (q.wf 0).toNat)) true) false)=true)=>(aI (aI hg tV) (@is_eql8 Tryd.prog 5 5 (.tmp 37) (.const (.int .u8 0)) (q.wf 1) 0))) (aI (fun(hg:(sB (decide (8 < (q.wf 0).toNat)) false)=true)=>(aI hg (aI (fun(hp:(decide (0 < (q.wf 0).toNat))=true)=>(pickm hg (sameB_mk hp))) (fun(_:(decide (0 < (q.wf 0).toNat))=false)=>tV)))) (aI (aT (aI (fun(_:(decide (8 < (q.wf 0).toNat))=true)=>tV) (fun(hp:(decide (8 < (q.wf 0).toNat))=false)=>(sameB_mkf hp)))) kV1)))))))))))))))) (aT (aI (fun(h3:(selB (decide (8 < (q.wf 0).toNat)) true (selB (decide (0 < (q.wf 0).toNat)) ((q.wf 1) == 0) false))=true)=>aI kV1 (aT (eX (fun(ns:List Nat)=>ns.length=0∧((int 31):Value)=(fun _=>int (wrE q.wf q.wn l)) ns∧([]:List (Option Blk))=(fun _=>[]) ns) [] (aI (@rfl Nat 0) (aI ((show(int 31)=int (wrE q.wf q.wn l) from congrArg int (by have hhh1:=h1; have hhh2:=h2; have hhh3:=h3; first | exact wr_3 (by omega) | exact wr_31s (by omega) (by omega) (by assumption) | exact wr_2 (by omega) (by omega) (wr_not (by assumption)) (by assumption) | exact wr_0 (by omega) (by omega) (wr_not (by assumption)) (by assumption)))) (@rfl (List (Option Blk)) [])))))) (fun(h3:(selB (decide (8 < (q.wf 0).toNat)) true (selB (decide (0 < (q.wf 0).toNat)) ((q.wf 1) == 0) false))=false)=>have f4:¬ (8 < (q.wf 0).toNat):=(oF (sbor_l h3)); have f5:(¬ (0 < (q.wf 0).toNat))∨(((q.wf 1) == 0)=false):=(Or.imp (fun h=>(oF h)) (fun h=>h) (sband_f (sbor_r h3))); aI (sk (aI (aT (small_fam q hq (show q.wn≤100000 from by omega) (show 0 < q.wn from by omega) (show(q.wf 0).toNat≤8 from by omega) (show(q.wf 0).toNat+1≤q.wn from by omega))) (sk (aI (aT (@is_gtr64 Tryd.prog 30 30 (.tmp 43) (.tmp 44) (smV q.wf) l)) kV1)))) (aT (aI (fun(h4:(decide (l < (smV q.wf)))=true)=>have f6:=(oT h4); aI kV1 (aT (eX (fun(ns:List Nat)=>ns.length=0∧((int 2):Value)=(fun _=>int (wrE q.wf q.wn l)) ns∧([]:List (Option Blk))=(fun _=>[]) ns) [] (aI (@rfl Nat 0) (aI ((show(int 2)=int (wrE q.wf q.wn l) from congrArg int (by have hhh1:=h1; have hhh2:=h2; have hhh3:=h3; have hhh4:=h4; first | exact wr_3 (by omega) | exact wr_31s (by omega) (by omega) (by assumption) | exact wr_2 (by omega) (by omega) (wr_not (by assumption)) (by assumption) | exact wr_0 (by omega) (by omega) (wr_not (by assumption)) (by assumption)))) (@rfl (List (Option Blk)) [])))))) (fun(h4:(decide (l < (smV q.wf)))=false)=>have f6:=(oF h4); aI kV1 (aT (eX (fun(ns:List Nat)=>ns.length=0∧((int 0):Value)=(fun _=>int (wrE q.wf q.wn l)) ns∧([]:List (Option Blk))=(fun _=>[]) ns) [] (aI (@rfl Nat 0) (aI ((show(int 0)=int (wrE q.wf q.wn l) from congrArg int (by have hhh1:=h1; have hhh2:=h2; have hhh3:=h3; have hhh4:=h4; first | exact wr_3 (by omega) | exact wr_31s (by omega) (by omega) (by assumption) | exact wr_2 (by omega) (by omega) (wr_not (by assumption)) (by assumption) | exact wr_0 (by omega) (by omega) (wr_not (by assumption)) (by assumption)))) (@rfl (List (Option Blk)) []))))))))))))))))))))))
theorem fail_runs (r:Nat) (V:Value) (e e2:Int):Runs Tryd.prog 49 [(ptr r 0),(int e2)] [⟨r,true,0,(.lit [V,(int e)])⟩] 0 (fun _=>Value.tuple #[]) (fun _=>[some ⟨r,true,0,(.lit [V,(int (failE e e2))])⟩]) :=
  runs_of_ev mix Tryd.func49 rfl rfl 400 (.reg (rg [.g,.g,.g,(.ld 0 (.lit 1)),.g]) (.br (.reg (rg [.g,.g,.g,.g,(.st 0 (.lit 1))]) .done) .done)) [] [] rfl
    (Eq.mp (by kernel_rfl) (aI (sK3 (aI (aT (ad r 1)) kV1)) (aT (aI (fun(h1:((e:Int) == 0)=true)=>aI (sK4 (aI (aT (ad r 1)) tV)) (aT (eX (fun(ns:List Nat)=>ns.length=0∧((Value.tuple #[]):Value)=(fun _=>Value.tuple #[]) ns∧([some ⟨r,true,0,(.lit [V,(int e2)])⟩]:List (Option Blk))=(fun _=>[some ⟨r,true,0,(.lit [V,(int (failE e e2))])⟩]) ns) [] (aI (@rfl Nat 0) (aI (@rfl Value (Value.tuple #[])) ((show([some ⟨r,true,0,(.lit [V,(int e2)])⟩]:List (Option Blk))=[some ⟨r,true,0,(.lit [V,(int (failE e e2))])⟩] from by have hhh1:=h1; have hxh1:=(by simpa using h1:_); unfold failE; first | rw [if_pos (by assumption)] | rw [if_neg (by assumption)]))))))) (fun(h1:((e:Int) == 0)=false)=>aT (eX (fun(ns:List Nat)=>ns.length=0∧((Value.tuple #[]):Value)=(fun _=>Value.tuple #[]) ns∧([some ⟨r,true,0,(.lit [V,(int e)])⟩]:List (Option Blk))=(fun _=>[some ⟨r,true,0,(.lit [V,(int (failE e e2))])⟩]) ns) [] (aI (@rfl Nat 0) (aI (@rfl Value (Value.tuple #[])) ((show([some ⟨r,true,0,(.lit [V,(int e)])⟩]:List (Option Blk))=[some ⟨r,true,0,(.lit [V,(int (failE e e2))])⟩] from by have hhh1:=h1; have hxh1:=(by simpa using h1:_); unfold failE; first | rw [if_pos (by assumption)] | rw [if_neg (by assumption)]))))))))))
theorem rsmall_fam (r:Nat) (q:BytL) (e:Int) (l:UInt64) (hq:OkB q) (hl:q.wn≤100000):RunsF (famB q) Tryd.prog 32 [(ptr r 0),(u64 l)] [⟨r,true,0,(.lit [(Value.slice q.wa q.wn q.wc),(int e)])⟩] 0 (fun _=>u64 (rsV q e l)) (fun _=>[some ⟨r,true,0,(.lit [(slqV (rsQ q e l)),(int (rsE q e l))])⟩]) :=
  runsF_of_ev (F:=(famB q)) mix Tryd.func32 rfl rfl 400 (.reg (rg [.g]) (.reg (rg [.g,.g,.g,.g,(.ld 0 (.lit 0)),.g,(.callF [] 0 0 (fun _=>(int (wrE q.wf q.wn l))) (fun _=>[])),(.call [(0,false)] 0 0 (fun _=>(Value.tuple #[])) (fun _=>[some ⟨r,true,0,(.lit [(Value.slice q.wa q.wn q.wc),(int (failE e (wrE q.wf q.wn l)))])⟩]))]) (.reg (rg [.g,.g,.g,(.ld 0 (.lit 1)),.g]) (.br (.reg (rg [.g]) .done) (.reg (rg [.g,.g,.g,(.ld 0 (.lit 0)),(.callF [] 0 0 (fun _=>(u64 (smV q.wf))) (fun _=>[])),.g]) (.openr (bytB q) (.reg (rg [.g,.g,.g,.g,(.ld 0 (.lit 0)),.g,.g,.g,(.ld 0 (.lit 0)),(.as (ptr q.wb (q.wo+0*1))),(.ld 1 (.tab 0 0)),(.as (u8 (1+(q.wf 0)))),(.as (Value.slice (fromA q.wa q.wc ((1+(q.wf 0)).toNat) 1) (q.wn - ((1+(q.wf 0)).toNat)) (q.wc - ((1+(q.wf 0)).toNat)))),.g,.g,(.st 0 (.lit 0))]) (.reg (rg [.g,.g]) .done)))))))) [] [] rfl
    (have f1:=hq.cap; Eq.mp (by kernel_rfl) (aI kV1 (aI (sK4 (aI (aT (ad r 0)) (sk (aI (aT (wrong_fam q l hq (show q.wn≤100000 from by omega))) (aI (aT (Runs.dark [false] (fail_runs r (Value.slice q.wa q.wn q.wc) e (wrE q.wf q.wn l)))) tV))))) (aI (sK3 (aI (aT (ad r 1)) kV1)) (aT (aI (fun(h1:(((failE e (wrE q.wf q.wn l)):Int) != 0)=true)=>aI kV1 (aT (eX (fun(ns:List Nat)=>ns.length=0∧((u64 0):Value)=(fun _=>u64 (rsV q e l)) ns∧([some ⟨r,true,0,(.lit [(Value.slice q.wa q.wn q.wc),(int (failE e (wrE q.wf q.wn l)))])⟩]:List (Option Blk))=(fun _=>[some ⟨r,true,0,(.lit [(slqV (rsQ q e l)),(int (rsE q e l))])⟩]) ns) [] (aI (@rfl Nat 0) (aI ((show(u64 0)=u64 (rsV q e l) from congrArg u64 (by have hh:=h1; rw [(rs_out (q:=q) (e:=e) (l:=l) (by have h5:=hh; simp at h5; exact h5)).2]))) ((show([some ⟨r,true,0,(.lit [(Value.slice q.wa q.wn q.wc),(int (failE e (wrE q.wf q.wn l)))])⟩]:List (Option Blk))=[some ⟨r,true,0,(.lit [(slqV (rsQ q e l)),(int (rsE q e l))])⟩] from by have hh:=h1; rw [(rs_out (q:=q) (e:=e) (l:=l) (by have h5:=hh; simp at h5; exact h5)).1] <;> rfl))))))) (fun(h1:(((failE e (wrE q.wf q.wn l)):Int) != 0)=false)=>aI (sK3 (aI (aT (ad r 0)) (aI (aT (small_fam q hq (show q.wn≤100000 from by have g0:=(rs_zero (q:=q) (e:=e) (l:=l) (by have h5:=h1; simp at h5; exact h5)); omega) (show 0 < q.wn from by have g0:=(rs_zero (q:=q) (e:=e) (l:=l) (by have h5:=h1; simp at h5; exact h5)); omega) (show(q.wf 0).toNat≤8 from by have g0:=(rs_zero (q:=q) (e:=e) (l:=l) (by have h5:=h1; simp at h5; exact h5)); omega) (show(q.wf 0).toNat+1≤q.wn from by have g0:=(rs_zero (q:=q) (e:=e) (l:=l) (by have h5:=h1; simp at h5; exact h5)); omega))) kV1))) ((have g0:=(rs_zero (q:=q) (e:=e) (l:=l) (by have h5:=h1; simp at h5; exact h5)); aI (⟨(show 0 < q.wn from by omega),rfl⟩:famB q (bytB q)) (aI (sK4 (aI (aT (ad r 0)) (sK3 (aI (aT (ad r 0)) (aI (aT (@is_ixSq Tryd.prog 23 5 (.tmp 32) (.const (.int .i64 0)) 1 (by kernel_rfl) (by kernel_rfl) q.wb q.wo q.wn q.wc 0 q.wa (hq.ad (show 0 < q.wn from by omega)) (show 0 < q.wn from by omega))) (aI (aT (aI (show 0 < q.wn from by omega) (@rfl Value (ptr q.wb (q.wo+0*1))))) (aI (aT (@is_add8 Tryd.prog 5 5 (.const (.int .u8 1)) (.tmp 34) 1 (q.wf 0))) (aI (aT (is_slqFromK (P:=Tryd.prog) (t:=23) (e:=5) (x:=(.tmp 28)) (y:=(.tmp 35)) (by kernel_rfl) (sz:=1) (by kernel_rfl) .u8 q.wa q.wn q.wc ((1+(q.wf 0)).toNat) (show(1+(q.wf 0)).toNat≤q.wn∧q.wn≤q.wc from by omega))) (sK2 (aI (aT (ad r 0)) tV)))))))))) (aI kV2 (aT (eX (fun(ns:List Nat)=>ns.length=0∧((u64 (smV q.wf)):Value)=(fun _=>u64 (rsV q e l)) ns∧([some ⟨r,true,0,(.lit [(Value.slice (fromA q.wa q.wc ((1+(q.wf 0)).toNat) 1) (q.wn - ((1+(q.wf 0)).toNat)) (q.wc - ((1+(q.wf 0)).toNat))),(int (failE e (wrE q.wf q.wn l)))])⟩]:List (Option Blk))=(fun _=>[some ⟨r,true,0,(.lit [(slqV (rsQ q e l)),(int (rsE q e l))])⟩]) ns) [] (aI (@rfl Nat 0) (aI ((show(u64 (smV q.wf))=u64 (rsV q e l) from congrArg u64 (by have hh:=h1; rw [(rs_in (q:=q) (e:=e) (l:=l) (by have h5:=hh; simp at h5; exact h5)).2]))) ((show([some ⟨r,true,0,(.lit [(Value.slice (fromA q.wa q.wc ((1+(q.wf 0)).toNat) 1) (q.wn - ((1+(q.wf 0)).toNat)) (q.wc - ((1+(q.wf 0)).toNat))),(int (failE e (wrE q.wf q.wn l)))])⟩]:List (Option Blk))=[some ⟨r,true,0,(.lit [(slqV (rsQ q e l)),(int (rsE q e l))])⟩] from by have hh:=h1; rw [(rs_in (q:=q) (e:=e) (l:=l) (by have h5:=hh; simp at h5; exact h5)).1] <;> rfl)))))))))))))))))
theorem rend_runs (r:Nat) (q:BytL) (e:Int):Runs Tryd.prog 34 [(ptr r 0)] [⟨r,false,0,(.lit [(Value.slice q.wa q.wn q.wc),(int e)])⟩] 0 (fun _=>int (endE q.wn e)) (fun _=>[some ⟨r,false,0,(.lit [(Value.slice q.wa q.wn q.wc),(int e)])⟩]) :=
  runs_of_ev mix Tryd.func34 rfl rfl 400 (.reg (rg [.g]) (.reg (rg [.g,.g,.g,(.ld 0 (.lit 1)),.g,.g,(.opt .g),(.opt .g),(.opt .g),(.opt (.ld 0 (.lit 0))),(.opt (.as (nat q.wn))),(.opt (.as (Value.bool (decide (0 < q.wn))))),.pk]) (.br (.reg (rg [.g]) .done) (.reg (rg [.g,.g,.g,(.ld 0 (.lit 1)),.g]) .done)))) [] [] rfl
    (Eq.mp (by kernel_rfl) (aI kV1 (aI (sK3 (aI (aT (ad r 1)) (sK2 (aI (fun(hg:(sB ((e:Int) == 0) true)=true)=>t2) (aI (fun(hg:(sB ((e:Int) == 0) true)=true)=>(aI (aI hg tV) tV)) (aI (fun(hg:(sB ((e:Int) == 0) true)=true)=>(aI (aI hg tV) tV)) (aI (fun(hg:(sB ((e:Int) == 0) true)=true)=>(aI (aI hg tV) (ad r 0))) (aI (fun(hg:(sB ((e:Int) == 0) true)=true)=>have f0:((e:Int) == 0)=true:=(sameB_t hg); (aI (aI hg tV) (@is_len Tryd.prog 23 5 (.tmp 12) (by kernel_rfl) q.wa q.wn q.wc))) (aI (fun(hg:(sB ((e:Int) == 0) true)=true)=>(aI (aI hg tV) (@is_gtrn Tryd.prog 3 3 (.tmp 13) (.const (.int .i64 0))  q.wn 0))) (aI (aT (aI (fun(hp:((e:Int) == 0)=true)=>(sameB_mk hp)) (fun(_:((e:Int) == 0)=false)=>tV))) tV)))))))))) (aT (aI (fun(h1:(selB ((e:Int) == 0) (decide (0 < q.wn)) false)=true)=>have f0:((e:Int) == 0)=true:=(sband_l h1); have f1:(0 < q.wn):=(oT (sband_r h1)); aI kV1 (aT (eX (fun(ns:List Nat)=>ns.length=0∧((int 30):Value)=(fun _=>int (endE q.wn e)) ns∧([some ⟨r,false,0,(.lit [(Value.slice q.wa q.wn q.wc),(int e)])⟩]:List (Option Blk))=(fun _=>[some ⟨r,false,0,(.lit [(Value.slice q.wa q.wn q.wc),(int e)])⟩]) ns) [] (aI (@rfl Nat 0) (aI ((show(int 30)=int (endE q.wn e) from congrArg int (by have hhh1:=(by simpa [selB_and] using h1:_); unfold endE; first | rw [if_pos (by omega)] | rw [if_neg (by omega)]))) (@rfl (List (Option Blk)) [some ⟨r,false,0,(.lit [(Value.slice q.wa q.wn q.wc),(int e)])⟩])))))) (fun(h1:(selB ((e:Int) == 0) (decide (0 < q.wn)) false)=false)=>have f0:(((e:Int) == 0)=false)∨(¬ (0 < q.wn)):=(Or.imp (fun h=>h) (fun h=>(oF h)) (sband_f h1)); aI (sK3 (aI (aT (ad r 1)) kV1)) (aT (eX (fun(ns:List Nat)=>ns.length=0∧((int e):Value)=(fun _=>int (endE q.wn e)) ns∧([some ⟨r,false,0,(.lit [(Value.slice q.wa q.wn q.wc),(int e)])⟩]:List (Option Blk))=(fun _=>[some ⟨r,false,0,(.lit [(Value.slice q.wa q.wn q.wc),(int e)])⟩]) ns) [] (aI (@rfl Nat 0) (aI ((show(int e)=int (endE q.wn e) from congrArg int (by have hhh1:=(by simpa [selB_and] using h1:_); unfold endE; first | rw [if_pos (by omega)] | rw [if_neg (by omega)]))) (@rfl (List (Option Blk)) [some ⟨r,false,0,(.lit [(Value.slice q.wa q.wn q.wc),(int e)])⟩])))))))))))
theorem new_pos (q:BytL) (hq:OkB q) (h0:0 < q.wn) (hl:q.wn≤140737488355328):RunsF (famB q) Tryd.prog 31 [(Value.slice q.wa q.wn q.wc)] [] 3 (fun(ns:List Nat)=>(ptr (ns.getD 0 0) 0)) (fun(ns:List Nat)=>[some ⟨(ns.getD 0 0),true,0,(.lit [(Value.slice (some ⟨(ns.getD 1 0),0,none⟩) q.wn (q.wn+(ns.getD 2 0))),(int 0)])⟩,some ⟨(ns.getD 1 0),true,0,(spr (q.wn+(ns.getD 2 0)) q.wn (fun k=>u8 (q.wf k)) (u8 0))⟩]) :=
  runsF_of_ev (F:=(famB q)) mix Tryd.func31 rfl rfl 400 (.reg (rg [.g]) (.regn (rg [.g,(.callF [] 2 1 (fun ns=>Value.slice (some ⟨(ns.getD 0 0),0,none⟩) (q.wn) (q.wn+(ns.getD 1 0))) (fun ns=>[some ⟨(ns.getD 0 0),true,0,(spr (q.wn+(ns.getD 1 0)) q.wn (fun k=>u8 (q.wf k)) (u8 0))⟩])),.g,.new,.g]) (more (fun n1=>more (fun n2=>more (fun n3=>fun _=>.done)))))) [] [1,0] rfl
    (Eq.mp (by kernel_rfl) (aI kV1 (fun(n1 n2 n3:Nat)=>aI (sk (aI (aT (RunsF.mono (fun x hx=>hx) (clone_fam q hq (show 0 < q.wn from by omega) (show q.wn≤140737488355328 from by omega)))) kV3)) (aT (eX (fun(ns:List Nat)=>ns.length=3∧((ptr n3 0):Value)=(fun(ns:List Nat)=>(ptr (ns.getD 0 0) 0)) ns∧([some ⟨n3,true,0,(.lit [(Value.slice (some ⟨n1,0,none⟩) q.wn (q.wn+n2)),(int 0)])⟩,some ⟨n1,true,0,(spr (q.wn+n2) q.wn (fun k=>u8 (q.wf k)) (u8 0))⟩]:List (Option Blk))=(fun(ns:List Nat)=>[some ⟨(ns.getD 0 0),true,0,(.lit [(Value.slice (some ⟨(ns.getD 1 0),0,none⟩) q.wn (q.wn+(ns.getD 2 0))),(int 0)])⟩,some ⟨(ns.getD 1 0),true,0,(spr (q.wn+(ns.getD 2 0)) q.wn (fun k=>u8 (q.wf k)) (u8 0))⟩]) ns) [n3,n1,n2] (aI (@rfl Nat 3) (aI (@rfl Value (ptr n3 0)) (@rfl (List (Option Blk)) [some ⟨n3,true,0,(.lit [(Value.slice (some ⟨n1,0,none⟩) q.wn (q.wn+n2)),(int 0)])⟩,some ⟨n1,true,0,(spr (q.wn+n2) q.wn (fun k=>u8 (q.wf k)) (u8 0))⟩]))))))))
end Go.Proofs.YtmdpendnbkajdaaDoor
end
section
namespace Go.Proofs.YtmdpendnbkajdaaDoor
open Go Go.Eng
def same_fam_S1 (x:BytL) (y:BytL) (x1:Nat):St:=⟨[(0,.v (Value.slice x.wa x.wn x.wc)),(1,.v (Value.slice y.wa y.wn y.wc)),(5,.v (nat x1))],[],0⟩
def same_fam_R1 (x:BytL) (y:BytL) (x1:Nat):Prop:=(x1≤x.wn)∧(∀ k,k < x1→x.wf k=y.wf k)
def same_fam_mu1 (x:BytL) (y:BytL) (x1:Nat):Nat:=x.wn - x1
theorem same_fam (x y:BytL) (hx:OkB x) (hy:OkB y):RunsF (famBB x y) Tryd.prog 12 [(Value.slice x.wa x.wn x.wc),(Value.slice y.wa y.wn y.wc)] [] 0 (fun _=>Value.bool (sameS x.wf x.wn y.wf y.wn)) (fun _=>[]) :=
  runsF_of_ev (F:=(famBB x y)) mix Tryd.func12 rfl rfl 400 (.reg (rg [.g]) (.reg (rg [.g,(.as (nat x.wn)),.g,(.as (nat y.wn)),(.as (Value.bool (!(decide (x.wn=y.wn)))))]) (.br (.reg (rg [.g]) .done) (.reg (rg [.g]) (.inv [0,1,5] [] 0 (same_fam_R1 x y) (same_fam_S1 x y) (same_fam_mu1 x y) (0:Nat) (fun(x1:Nat)=>(.reg (rg [.g,.g,(.as (nat x.wn)),(.as (Value.bool (decide (x1 < x.wn))))]) (.br (.openr (bytB x) (.openr (bytB y) (.reg (rg [.g,.g,(.as (ptr x.wb (x.wo+x1*1))),(.ld 0 (.tab x1 0)),.g,.g,(.as (ptr y.wb (y.wo+x1*1))),(.ld 1 (.tab x1 0)),(.as (Value.bool (!((x.wf x1) == (y.wf x1)))))]) (.br (.reg (rg [.g]) .done) (.reg (rg [.g,(.as (nat (x1+1))),.g]) .done))))) (.reg (rg [.g]) .done))))))))) [] [] rfl
    (have f0:=hx.len; have f1:=hy.len; Eq.mp (by kernel_rfl) (aI kV1 (aI (sk (aI (aT (@is_len Tryd.prog 23 5 (.tmp 6) (by kernel_rfl) x.wa x.wn x.wc)) (sk (aI (aT (@is_len Tryd.prog 23 5 (.tmp 8) (by kernel_rfl) y.wa y.wn y.wc)) (aI (aT (@is_neqn Tryd.prog 3 3 (.tmp 7) (.tmp 9)  x.wn y.wn)) tV))))) (aT (aI (fun(h1:(!(decide (x.wn=y.wn)))=true)=>have f2:¬ (x.wn=y.wn):=(oF (bnot_t h1)); aI kV1 (aT (eX (fun(ns:List Nat)=>ns.length=0∧((Value.bool false):Value)=(fun _=>Value.bool (sameS x.wf x.wn y.wf y.wn)) ns∧([]:List (Option Blk))=(fun _=>[]) ns) [] (aI (@rfl Nat 0) (aI ((show(Value.bool false)=Value.bool (sameS x.wf x.wn y.wf y.wn) from congrArg Value.bool (by first | exact same_len (by omega) | exact same_not (by omega) (same_ne (by assumption))))) (@rfl (List (Option Blk)) [])))))) (fun(h1:(!(decide (x.wn=y.wn)))=false)=>have f2:(x.wn=y.wn):=(oT (bnot_f h1)); aI kV1 (aI (show(same_fam_R1 x y) (0:Nat) from(show(0≤x.wn)∧(∀ k,k < 0→x.wf k=y.wf k) from by exact⟨by omega,fun k hk=>absurd hk (by omega)⟩)) (aI (@rfl St ((same_fam_S1 x y) (0:Nat))) (fun(x1:Nat) (hx1:(same_fam_R1 x y) x1)=>have B0:x1≤x.wn:=hx1.1; have B1:∀ k,k < x1→x.wf k=y.wf k:=hx1.2; aI (sK2 (aI (aT (@is_len Tryd.prog 23 5 (.tmp 12) (by kernel_rfl) x.wa x.wn x.wc)) (aI (aT (@is_lssn Tryd.prog 3 3 (.tmp 11) (.tmp 13)  x1 x.wn)) tV))) (aT (aI (fun(h2:(decide (x1 < x.wn))=true)=>have f5:=(oT h2); aI (Or.inl ⟨(show 0 < x.wn from by omega),rfl⟩:famBB x y (bytB x)) (aI (Or.inr ⟨(show 0 < y.wn from by omega),rfl⟩:famBB x y (bytB y)) (aI (sK2 (aI (aT (@is_ixSq Tryd.prog 23 5 (.tmp 17) (.tmp 18) 1 (by kernel_rfl) (by kernel_rfl) x.wb x.wo x.wn x.wc x1 x.wa (hx.ad (show 0 < x.wn from by omega)) (show x1 < x.wn from by omega))) (aI (aT (aI (show x1 < x.wn from by omega) (@rfl Value (ptr x.wb (x.wo+x1*1))))) (sK2 (aI (aT (@is_ixSq Tryd.prog 23 5 (.tmp 21) (.tmp 22) 1 (by kernel_rfl) (by kernel_rfl) y.wb y.wo y.wn y.wc x1 y.wa (hy.ad (show 0 < y.wn from by omega)) (show x1 < y.wn from by omega))) (aI (aT (aI (show x1 < y.wn from by omega) (@rfl Value (ptr y.wb (y.wo+x1*1))))) (aI (aT (@is_neq8 Tryd.prog 5 5 (.tmp 20) (.tmp 24) (x.wf x1) (y.wf x1))) tV))))))) (aT (aI (fun(h3:(!((x.wf x1) == (y.wf x1)))=true)=>have f6:((x.wf x1) == (y.wf x1))=false:=(bnot_t h3); aI kV1 (aT (eX (fun(ns:List Nat)=>ns.length=0∧((Value.bool false):Value)=(fun _=>Value.bool (sameS x.wf x.wn y.wf y.wn)) ns∧([]:List (Option Blk))=(fun _=>[]) ns) [] (aI (@rfl Nat 0) (aI ((show(Value.bool false)=Value.bool (sameS x.wf x.wn y.wf y.wn) from congrArg Value.bool (by first | exact same_len (by omega) | exact same_not (by omega) (same_ne (by assumption))))) (@rfl (List (Option Blk)) [])))))) (fun(h3:(!((x.wf x1) == (y.wf x1)))=false)=>have f6:((x.wf x1) == (y.wf x1))=true:=(bnot_f h3); aI (sk (aI (aT (@is_addn Tryd.prog 3 3 (.tmp 15) (.const (.int .i64 1))  x1 1 (show x1+1≤9223372036854775807 from by omega))) kV1)) ((rnd (same_fam_R1 x y) (same_fam_S1 x y) (same_fam_mu1 x y) x1 (x1+1:Nat) (show(same_fam_R1 x y) (x1+1:Nat)∧(same_fam_mu1 x y) (x1+1:Nat) < (same_fam_mu1 x y) x1 from(show(((x1+1)≤x.wn)∧(∀ k,k < (x1+1)→x.wf k=y.wf k))∧(x.wn - (x1+1)) < (x.wn - x1) from by exact⟨⟨by omega,same_next B1 (by assumption)⟩,by omega⟩)))))))))) (fun(h2:(decide (x1 < x.wn))=false)=>have f5:=(oF h2); aI kV1 (aT (eX (fun(ns:List Nat)=>ns.length=0∧((Value.bool true):Value)=(fun _=>Value.bool (sameS x.wf x.wn y.wf y.wn)) ns∧([]:List (Option Blk))=(fun _=>[]) ns) [] (aI (@rfl Nat 0) (aI ((show(Value.bool true)=Value.bool (sameS x.wf x.wn y.wf y.wn) from congrArg Value.bool (by exact same_yes (by omega) (by omega) B1))) (@rfl (List (Option Blk)) [])))))))))))))))))
end Go.Proofs.YtmdpendnbkajdaaDoor
end
