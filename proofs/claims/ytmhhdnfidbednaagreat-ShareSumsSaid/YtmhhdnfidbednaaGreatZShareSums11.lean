/-
  Many in one: Maps, Fams, Pratt, PratDef, PratMath, PratAw, PratGen, GroupDef, GroupLaw, GroupFew, GroupTurn, Byt, Grow, Opt.
-/
import Derived.Test.YtmhhdnfidbednaaGreatZShareSums10
import Derived.KernelRfl
import Derived.MapKept
import Derived.WideKeyRuns
set_option linter.unusedVariables false
set_option linter.unusedSimpArgs false
set_option maxRecDepth 100000
set_option maxHeartbeats 1000000
section
namespace Go.Eng
open Go.WideShapes
theorem run_gm {P:Program} {w:World} {r:Nat} {es:Array MapEntry} {clock:Nat} (hb:w.heap[r]? = some (.map es clock)):(getObj r).run P w = .ok (.map es clock) w:=by
  simp [getObj,Sem.run,hb]
theorem run_sm {P:Program} {w:World} {r:Nat} {es:Array MapEntry} {clock:Nat} (o:Obj) (hb:w.heap[r]? = some (.map es clock)):(setObj r o).run P w = .ok () { w with heap:=w.heap.setIfInBounds r o }:=by
  simp [setObj,Sem.run,hb]
theorem heap_set' {w:World} {r:Nat} {o o':Obj} (hb:w.heap[r]? = some o):(w.heap.setIfInBounds r o')[r]? = some o'∧∀ r',r'≠r→(w.heap.setIfInBounds r o')[r']? = w.heap[r']?:=by
  have hlt:r < w.heap.size:=(Array.getElem?_eq_some_iff.1 hb).1
  exact⟨by simp [hlt],fun r' hne=>by simp [Ne.symm hne]⟩
theorem heap_alloc' (w:World) (o:Obj):(w.alloc o).heap[w.heap.size]? = some o∧∀ r',r' < w.heap.size→(w.alloc o).heap[r']? = w.heap[r']?:=by
  have e:(w.alloc o).heap=w.heap.push o:=rfl
  rw [e]
  exact⟨by simp,fun r' h=>by simp [Array.getElem?_push,Nat.ne_of_lt h]⟩
def entsL {α β:Type} (kv:α→Value) (ev:β→Value):List (α × β)→Nat→List MapEntry
  | [],_=>[]
  | (k,x) :: r,i=>⟨kv k,ev x,i⟩ :: entsL kv ev r (i+1)
def mapC {α β:Type} (kv:α→Value) (ev:β→Value) (l:List (α × β)):Cont:=.map (entsL kv ev l 0).toArray l.length
def findE {α β:Type} (eqb:α→α→Bool) (k:α):List (α × β)→Option β
  | []=>none
  | (h,x) :: r=>if eqb k h=true then some x else findE eqb k r
def putE {α β:Type} (eqb:α→α→Bool) (k:α) (x:β):List (α × β)→List (α × β)
  | []=>[(k,x)]
  | (h,y) :: r=>if eqb k h=true then (k,x) :: r else (h,y) :: putE eqb k x r
def findI {α β:Type} (eqb:α→α→Bool) (k:α):List (α × β)→Nat→Option (Nat × β)
  | [],_=>none
  | (h,x) :: r,i=>if eqb k h=true then some (i,x) else findI eqb k r (i+1)
structure MapT {α β:Type} (P:Program) (mt kt et:TypeId) (kv:α→Value) (ev:β→Value) (z:β) (eqb:α→α→Bool):Prop where
  hm:P.underlying mt=some (.map kt et)
  chk:∀ em k w,(Instr.checkKey em 10000 kt (kv k)).run P w = .ok () w
  fnd:∀ k (l:List (α × β)) n w,(Instr.findKey kt (kv k) (entsL kv ev l n)).run P w = .ok ((findI eqb k l 0).map fun p=>(p.1,ev p.2)) w
  eqr:∀ k h w,(Op.equal kt (kv k) (kv h)).run P w = .ok (eqb k h) w
  eqv:∀ k h,eqb k h=true→Instr.sameBits 10000 (kv h) (kv k)=true
  zer:∀ w,(zeroValue et).run P w = .ok (ev z) w
section
variable {α β:Type} {P:Program} {mt kt et:TypeId} {kv:α→Value} {ev:β→Value} {z:β} {eqb:α→α→Bool}
theorem run_asking (eqr:∀ (k h:α) w,(Op.equal kt (kv k) (kv h)).run P w = .ok (eqb k h) w) (k:α) (w:World):∀ (l:List (α × β)) (n i:Nat),(Instr.findAsking kt (kv k) (entsL kv ev l n) i).run P w = .ok ((findI eqb k l i).map fun p=>(p.1,ev p.2)) w
  | [],_,_=>rfl
  | (h,x) :: r,n,i=>by
    simp only [entsL,Instr.findAsking,Sem.run_bind,eqr,Result.andThen_ok,findI]
    by_cases e:eqb k h=true
    · rw [if_pos e,if_pos e]; rfl
    · rw [if_neg e,if_neg e]; exact run_asking eqr k w r (n+1) (i+1)
theorem run_findKeyM (M:MapT P mt kt et kv ev z eqb) (k:α) (w:World) (l:List (α × β)):(Instr.findKey kt (kv k) (entsL kv ev l 0)).run P w = .ok ((findI eqb k l 0).map fun p=>(p.1,ev p.2)) w:=by
  exact M.fnd k l 0 w
theorem findI_E (k:α):∀ (l:List (α × β)) (i:Nat),(findI eqb k l i).map (·.2)=findE eqb k l
  | [],_=>rfl
  | (h,x) :: r,i=>by
    simp only [findI,findE]
    split
    · rfl
    · exact findI_E k r (i+1)
theorem findI_spec (k:α):∀ (l:List (α × β)) (i j:Nat) (x:β),findI eqb k l i=some (j,x)→∃ h,i≤j∧l[j - i]? = some (h,x)∧eqb k h=true
  | [],_,_,_,e=>by cases e
  | (h,y) :: r,i,j,x,e=>by
    simp only [findI] at e
    split at e
    · rename_i he
      injection e with e; injection e with e1 e2; subst e1; subst e2
      exact⟨h,Nat.le_refl _,by simp,he⟩
    · obtain⟨h',h1,h2,h3⟩:=findI_spec k r (i+1) j x e
      exact⟨h',by omega,by rw [show j - i=(j - (i+1))+1 by omega]; simpa using h2,h3⟩
theorem entsL_get:∀ (l:List (α × β)) (n j:Nat) (h:α) (x:β),l[j]? = some (h,x)→(entsL kv ev l n)[j]? = some ⟨kv h,ev x,n+j⟩
  | [],_,_,_,_,e=>by simp at e
  | (h0,x0) :: r,n,0,h,x,e=>by
    simp at e; obtain⟨rfl,rfl⟩:=e; simp [entsL]
  | (h0,x0) :: r,n,j+1,h,x,e=>by
    simp only [List.getElem?_cons_succ] at e
    simp only [entsL,List.getElem?_cons_succ]
    rw [entsL_get r (n+1) j h x e,show n+1+j=n+(j+1) by omega]
theorem entsL_len:∀ (l:List (α × β)) (n:Nat),(entsL kv ev l n).length=l.length
  | [],_=>rfl
  | _ :: r,n=>by simp [entsL,entsL_len r]
theorem entsL_put (k : α) (x : β) : ∀ (l : List (α × β)) (n i : Nat) (j : Nat) (y : β), findI eqb k l i = some (j, y) →
    (entsL kv ev l n).modify (j - i) (fun e=>{ e with key:=kv k,val:=ev x })=entsL kv ev (putE eqb k x l) n∧(putE eqb k x l).length=l.length
  | [],_,_,_,_,e=>by cases e
  | (h,y0) :: r,n,i,j,y,e=>by
    simp only [findI] at e
    split at e
    · rename_i he
      injection e with e; injection e with e1 e2; subst e1
      simp [putE,he,entsL]
    · rename_i he
      obtain⟨_,h1,_,_⟩:=findI_spec k r (i+1) j y e
      obtain⟨i1,i2⟩:=entsL_put k x r (n+1) (i+1) j y e
      rw [show j - i=(j - (i+1))+1 by omega]
      simp only [putE,he,entsL]
      simp [i1,i2,entsL]
theorem entsL_new (k : α) (x : β) : ∀ (l : List (α × β)) (n i : Nat), findI eqb k l i = none →
    entsL kv ev l n ++ [⟨kv k,ev x,n+l.length⟩]=entsL kv ev (putE eqb k x l) n∧(putE eqb k x l).length=l.length+1
  | [],n,i,e=>by simp [putE,entsL]
  | (h,y0) :: r,n,i,e=>by
    simp only [findI] at e
    split at e
    · cases e
    · rename_i he
      obtain⟨i1,i2⟩:=entsL_new k x r (n+1) (i+1) e
      simp only [putE,he,entsL]
      simp only [Bool.false_eq_true,if_false,entsL,List.cons_append,List.length_cons]
      refine⟨?_,by simp [i2]⟩
      rw [← i1,show n+(r.length+1)=n+1+r.length by omega]
def lookSem (t:TypeId) (x k:Value) (ok:Bool):Sem Next:=do pure (.value (← Instr.lookup t x k ok))
theorem srun_look (M : MapT P mt kt et kv ev z eqb) (b : Nat) (own : Bool) (l : List (α × β)) (k : α) :
    SRuns P (lookSem mt (.map (some b)) (kv k) true) [⟨b,own,0,mapC kv ev l⟩] 0 (fun _=>.tuple #[ev ((findE eqb k l).getD z),.bool (findE eqb k l).isSome]) (fun _=>[none]):=by
  intro w hall ha
  have hb:=(hall _ (List.mem_singleton.2 rfl)).objm rfl
  refine⟨[],w,rfl,.inl (run_value ?_),⟨fun p c hpc=>?_,fun p p' c d hpp hc hd ho=>?_,⟨rfl,rfl,rfl,Nat.le_refl _,fun _ _ _=>rfl,fun j hj=>?_,fun p c hpc ho=>?_⟩⟩⟩
  · simp only at hb
    unfold Instr.lookup
    simp only [Sem.run_bind,run_underlying M.hm,Result.andThen_ok,run_gm hb,Sem.run_pure,M.chk,run_findKeyM M]
    have hE:=findI_E (eqb:=eqb) k l 0
    cases hf:findI eqb k l 0 with
    | none =>
      rw [hf] at hE; simp only [Option.map_none] at hE
      rw [← hE]
      simp [M.zer]
    | some q =>
      rw [hf] at hE; simp only [Option.map_some] at hE
      rw [← hE]
      simp
  · rcases p with _ | p <;> simp [listMem] at hpc
  · rcases p with _ | p <;> simp [listMem] at hc
  · obtain⟨p,c,hpc,_,_⟩:=hj
    rcases p with _ | p <;> simp [listMem] at hpc
  · rcases p with _ | p <;> simp [listMem] at hpc
def updSem (t:TypeId) (x k v:Value):Sem Next:=do Instr.mapUpdate t x k v; pure .skip
theorem post_map {b : Nat} {es es' : Array MapEntry} {c c' : Nat} {w : World} (h : Holds ⟨b, true, 0, .map es c⟩ w) :
    Post (listMem ([⟨b,true,0,.map es c⟩].map some)) w (listMem [some ⟨b,true,0,.map es' c'⟩]) { w with heap:=w.heap.setIfInBounds b (.map es' c') }:=by
  have hb:=h.objm rfl
  obtain⟨h1,h2⟩:=heap_set' (o':=.map es' c') hb
  refine⟨fun p q hpq=>?_,fun p p' q d hpp hc hd ho=>?_,⟨rfl,rfl,rfl,by simp,fun j hj hn=>h2 j fun e=>?_,fun j hj=>?_,fun p q hpq ho=>?_⟩⟩
  · rcases p with _ | p
    · injection hpq with hpq; subst hpq
      exact⟨by simpa using h.lt,(fun o v ho=>by cases ho),(fun _ o v ho=>by cases ho),h1⟩
    · simp [listMem] at hpq
  · rcases p with _ | p
    · rcases p' with _ | p'
      · exact absurd rfl hpp
      · simp [listMem] at hd
    · simp [listMem] at hc
  · subst e
    exact hn ⟨0,_,rfl,rfl,rfl⟩
  · obtain⟨p,q,hpq,ho,hjk⟩:=hj
    rcases p with _ | p
    · injection hpq with hpq; subst hpq; exact .inl ⟨0,_,rfl,rfl,hjk⟩
    · simp [listMem] at hpq
  · rcases p with _ | p
    · injection hpq with hpq; subst hpq; cases ho
    · simp [listMem] at hpq
theorem srun_upd (M : MapT P mt kt et kv ev z eqb) (b : Nat) (l : List (α × β)) (k : α) (x : β) :
    SRuns P (updSem mt (.map (some b)) (kv k) (ev x)) [⟨b,true,0,mapC kv ev l⟩] 0 (fun _=>undef) (fun _=>[some ⟨b,true,0,mapC kv ev (putE eqb k x l)⟩]):=by
  intro w hall ha
  have hH:=hall _ (List.mem_singleton.2 rfl)
  have hb:=hH.objm rfl
  simp only at hb
  refine⟨[],_,rfl,.inr ⟨?_,rfl⟩,post_map hH⟩
  unfold updSem Instr.mapUpdate
  simp only [Sem.run_bind,run_underlying M.hm,Result.andThen_ok,run_gm hb,M.chk,run_findKeyM M]
  cases hf:findI eqb k l 0 with
  | none =>
    obtain⟨i1,i2⟩:=entsL_new (kv:=kv) (ev:=ev) k x l 0 0 hf
    simp only [Option.map_none,run_sm _ hb,Sem.run_pure,Result.andThen_ok]
    congr 4
    · rw [← i1]; simp
    · exact i2.symm
  | some q =>
    obtain⟨j,y⟩:=q
    obtain⟨h,_,h2,h3⟩:=findI_spec k l 0 j y hf
    obtain⟨i1,i2⟩:=entsL_put (kv:=kv) (ev:=ev) k x l 0 0 j y hf
    have hj:=entsL_get (kv:=kv) (ev:=ev) l 0 j h y (by simpa using h2)
    have hs:=M.eqv k h h3
    simp only [Option.map_some,List.getElem?_toArray,hj,Option.getD_some,Instr.keyThatStays,hs,if_true,Sem.run_pure,Result.andThen_ok,run_sm _ hb]
    rw [i2,← i1]
    simp [run_sm _ hb]
def mkmSem (t:TypeId):Sem Next:=do pure (.value (← Instr.makeMap t none))
theorem srun_mkm (t:TypeId):SRuns P (mkmSem t) [] 1 (fun ns=>.map (some (ns.getD 0 0))) (fun ns=>[some ⟨ns.getD 0 0,true,0,mapC kv ev []⟩]):=by
  intro w hall ha
  obtain⟨h1,h2⟩:=heap_alloc' w (.map #[] 0)
  refine⟨[w.heap.size],w.alloc (.map #[] 0),rfl,.inl (run_value rfl),⟨fun p c hpc=>?_,fun p p' c d hpp hc hd ho=>?_,⟨rfl,rfl,rfl,by simp,fun j hj _=>h2 j hj,fun j hj=>?_,fun p c hpc ho=>?_⟩⟩⟩
  · rcases p with _ | p
    · injection hpc with hpc; subst hpc
      exact⟨by simp,(fun o v ho=>by cases ho),(fun _ o v ho=>by cases ho),h1⟩
    · simp [listMem] at hpc
  · rcases p with _ | p
    · rcases p' with _ | p'
      · exact absurd rfl hpp
      · simp [listMem] at hd
    · simp [listMem] at hc
  · obtain⟨p,c,hpc,ho,hjk⟩:=hj
    rcases p with _ | p
    · injection hpc with hpc; subst hpc; exact .inr (Nat.le_of_eq hjk)
    · simp [listMem] at hpc
  · rcases p with _ | p
    · injection hpc with hpc; subst hpc; cases ho
    · simp [listMem] at hpc
end
def ev0 (_:Unit):Value:=.agg #[]
theorem eq4_eq {x y:N4} (h:eq4 x y=true):x=y:=by
  simp only [eq4,Bool.and_eq_true,beq_iff_eq] at h
  obtain⟨a,b,c,d⟩:=x
  obtain⟨a',b',c',d'⟩:=y
  simp_all
theorem run_part_int {P:Program} {e:TypeId} {k:IntKind} {cs:Array Value} {i:Nat} {v:Value} (w:World) (he:P.underlying e=some (.int k)) (hv:cs[i]? = some v):(part e cs i).run P w = .ok v w:=pureRun_run (pureRun_part he hv) w
theorem chk_arr4 {P:Program} {t e:TypeId} (ht:P.underlying t=some (.array 4 e)) (he:P.underlying e=some (.int .u64)) (hs:sizeB P e=some 1) (em:Bool) (x:N4) (w:World):(Instr.checkKey em 10000 t (nat4 x)).run P w = .ok () w:=by
  have hsz:(sizeOf e).run P w = .ok 1 w:=pureRun_run (pureRun_sizeOf hs) w
  have hc:∀ k a,(Instr.checkKey em 9999 e (.int k a)).run P w = .ok () w:=fun k a=>by
    unfold Instr.checkKey; simp [run_underlying he]
  have hp:∀ i v,(#[u64 x.a,u64 x.b,u64 x.c,u64 x.d]:Array Value)[i]? = some v→(part e #[u64 x.a,u64 x.b,u64 x.c,u64 x.d] i).run P w = .ok v w:=fun i v h=>run_part_int w he h
  unfold Instr.checkKey
  simp [Std.Legacy.Range.forIn_eq_forIn_range',Std.Legacy.Range.size,List.range',run_underlying ht,nat4,hsz,hc]
  have h0:=hp 0 (u64 x.a) rfl; have h1:=hp 1 (u64 x.b) rfl; have h2:=hp 2 (u64 x.c) rfl; have h3:=hp 3 (u64 x.d) rfl
  simp only [u64] at h0 h1 h2 h3 ⊢
  simp only [h0,Result.andThen_ok,hc,hsz,h1,Nat.mul_one,h2,h3]
theorem nat4_keys {P : Program} {mt kt et u : TypeId} (hm : P.underlying mt = some (.map kt et)) (ht : P.underlying kt = some (.array 4 u)) (hu : P.underlying u = some (.int .u64)) (hs : sizeB P u = some 1) {β : Type} {ev : β → Value} {z : β}
    (hz:∀ w,(zeroValue et).run P w = .ok (ev z) w):MapT P mt kt et nat4 ev z eq4 where
  hm:=hm
  chk em k w:=chk_arr4 ht hu hs em k w
  fnd k l n w:=(run_findKey_eq w (by rw [ht]) _ _).trans (run_asking (fun k h w=>pureRun_run (equal_nat4 ht hu hs k h) w) k w l n 0)
  eqr k h w:=pureRun_run (equal_nat4 ht hu hs k h) w
  eqv k h e:=by
    have:=eq4_eq e
    subst this
    simp [Instr.sameBits,nat4,u64]
  zer:=hz
end Go.Eng
end
section
namespace Go.Eng
open Go.RowKit Go.WideShapes Go.ChangeShapes Go.ChangeAt Go.Deep
theorem Runs.toF {F:Blk→Prop} {P:Program} {f:FuncId} {args:List Value} {bs:List Blk} {k:Nat} {v:List Nat→Value} {out:List Nat→List (Option Blk)} (h:Runs P f args bs k v out):RunsF F P f args bs k v out :=
  fun w hb ha _=>h w hb ha
theorem RunsF.mono {F F':Blk→Prop} {P:Program} {f:FuncId} {args:List Value} {bs:List Blk} {k:Nat} {v:List Nat→Value} {out:List Nat→List (Option Blk)} (hs:∀ b,F b→F' b) (h:RunsF F P f args bs k v out):RunsF F' P f args bs k v out :=
  fun w hb ha hF=>h w hb ha fun b hb'=>hF b (hs b hb')
def noneL:List Blk→List (Option Blk)
  | []=>[]
  | _ :: r=>none :: noneL r
theorem noneL_get:∀ (l:List Blk) (p:Nat) (b:Blk),listMem (noneL l) p≠some b
  | [],p,b=>by simp [noneL,listMem]
  | _ :: r,0,b=>by simp [noneL,listMem]
  | _ :: r,p+1,b=>noneL_get r p b
theorem RunsF.read {F : Blk → Prop} {P : Program} {f : FuncId} {args : List Value} {cs : List Blk} {v : Value} (h : RunsF F P f args [] 0 (fun _ => v) (fun _ => []))
    (hF:∀ w:World,(∀ b ∈ cs,Holds b w)→∀ b,F b→Holds b w∧b.own=false) (hb:∀ b ∈ cs,b.own=false):Runs P f args cs 0 (fun _=>v) (fun _=>noneL cs):=by
  intro w hm ha
  have hno:∀ k,¬ Owns (listMem (([]:List Blk).map some)) k:=fun k ⟨p,b,h1,h2,_⟩=>by cases h1
  refine Calls.mono (h w (fun b hb'=>by cases hb') (fun p q b c _ hpb _ ho=>by cases hpb) (fun b hFb=>⟨(hF w hm b hFb).1,(hF w hm b hFb).2,fun k _=>hno k⟩)) ?_
  rintro e w' ⟨ns,hns,he,hp⟩
  refine⟨ns,hns,he,⟨fun p b hpb=>absurd hpb (noneL_get _ _ _),fun p q b c _ hpb _ _=>absurd hpb (noneL_get _ _ _),⟨hp.adv.os,hp.adv.output,hp.adv.tape,hp.adv.size,fun k hk _=>hp.adv.heap k hk (hno k),fun k ⟨p,b,h1,_,_⟩=>absurd h1 (noneL_get _ _ _),fun p b hpb _=>absurd hpb (noneL_get _ _ _)⟩⟩⟩
section
variable {P:Program} {t e:TypeId} {x ix:Operand}
theorem is_ixSq {sz:Nat} (ht:P.underlying t=some (.slice e)) (he:sizeB P e=some sz) (b o n c i:Nat) (wa:Option Addr) (hwa:wa=some ⟨b,o,none⟩) (hi:i < n):IsOp P (.indexAddr t x ix) [.slice wa n c,nat i] (ptr b (o+i*sz)):=by
  subst hwa; exact is_ixSl ht he b o n c i hi
end
theorem RunsF.over {F F':Blk→Prop} {P:Program} {f:FuncId} {args:List Value} {bs:List Blk} {k:Nat} {v:List Nat→Value} {out:List Nat→List (Option Blk)} (hs:∀ b,F b→∃ b',F' b'∧(∀ k,b.has k→b'.has k)∧b.own=b'.own∧∀ w:World,Holds b' w→Holds b w) (h:RunsF F P f args bs k v out):RunsF F' P f args bs k v out :=
  fun w hb ha hF=>h w hb ha fun b hb'=>by
    obtain⟨b',h1,h2,h3,h4⟩:=hs b hb'
    obtain⟨k1,k2,k3⟩:=hF b' h1
    exact⟨h4 w k1,h3.trans k2,fun k hk=>k3 k (h2 k hk)⟩
theorem runsF_law {F : Blk → Prop} {P : Program} {f : FuncId} {args : List Value} {bs : List Blk} {v : Value} {out : List Nat → List (Option Blk)} {W : World} (h : RunsF F P f args bs 0 (fun _ => v) out) (hb : ∀ b ∈ bs, Holds b W) (hro : ∀ b ∈ bs, b.own = false)
    (hF:∀ b,F b→Holds b W∧b.own=false):Calls P f args.toArray W fun e w'=>e = .returned v∧Below W.heap.size W w':=by
  have hl:∀ p b,listMem (bs.map some) p=some b→b.own=false:=fun p b hp=>hro b (List.mem_of_getElem? (listMem_some.1 hp))
  refine Calls.mono (h W hb (fun p q x y _ hx _ ho=>?_) fun b hb=>⟨(hF b hb).1,(hF b hb).2,fun _ _ ⟨p,x,hp,ho,_⟩=>?_⟩) fun e w' ⟨ns,_,he,hp⟩=>⟨he,below_of_adv hp.adv hl⟩
  · rw [hl p x hx] at ho; cases ho
  · rw [hl p x hp] at ho; cases ho
theorem RunsF.lendR {F F' : Blk → Prop} {P : Program} {f : FuncId} {args : List Value} {bs cs : List Blk} {v : Value} (h : RunsF F P f args bs 0 (fun _ => v) (fun _ => bs.map some))
    (hF:∀ w:World,(∀ b ∈ cs,Holds b w)→∀ b,F b→F' b∨(Holds b w∧b.own=false)) (hb:∀ b ∈ bs ++ cs,b.own=false):RunsF F' P f args (bs ++ cs) 0 (fun _=>v) (fun _=>noneL (bs ++ cs)):=by
  intro w hm ha hF'
  have hno:∀ (l:List Blk) k,(∀ b ∈ l,b.own=false)→¬ Owns (listMem (l.map some)) k:=fun l k hl ⟨p,b,h1,h2,_⟩=>by
    have:=hl b (List.mem_of_getElem? (listMem_some.1 h1))
    rw [h2] at this; cases this
  have hbs:∀ b ∈ bs,b.own=false:=fun b hb'=>hb b (by simp [hb'])
  refine Calls.mono (h w (fun b hb'=>hm b (by simp [hb'])) (fun p q b c _ hpb _ ho=>?_) (fun b hFb=>?_)) ?_
  · have:=hbs b (List.mem_of_getElem? (listMem_some.1 hpb))
    rw [ho] at this; cases this
  · rcases hF w (fun b hb'=>hm b (by simp [hb'])) b hFb with h1 | h1
    · exact⟨(hF' b h1).1,(hF' b h1).2.1,fun k _=>hno bs k hbs⟩
    · exact⟨h1.1,h1.2,fun k _=>hno bs k hbs⟩
  · rintro e w' ⟨ns,hns,he,hp⟩
    refine⟨ns,hns,he,⟨fun p b hpb=>absurd hpb (noneL_get _ _ _),fun p q b c _ hpb _ _=>absurd hpb (noneL_get _ _ _),⟨hp.adv.os,hp.adv.output,hp.adv.tape,hp.adv.size,fun k hk _=>hp.adv.heap k hk (hno bs k hbs),fun k ⟨p,b,h1,_,_⟩=>absurd h1 (noneL_get _ _ _),fun p b hpb _=>absurd hpb (noneL_get _ _ _)⟩⟩⟩
theorem listMem_none (cs:List Blk) (l:List (Option Blk)):∀ (p:Nat) (b:Blk),listMem (noneL cs ++ l) p=some b→∃ p',p=cs.length+p'∧listMem l p'=some b:=by
  induction cs with
  | nil=>intro p b h; exact⟨p,by simp,h⟩
  | cons c r ih =>
    intro p b h
    cases p with
    | zero=>simp [noneL,listMem] at h
    | succ p =>
      obtain⟨p',h1,h2⟩:=ih p b (by simpa [noneL,listMem] using h)
      exact⟨p',by simp only [List.length_cons]; omega,h2⟩
theorem RunsF.lendN {F F' : Blk → Prop} {P : Program} {f : FuncId} {args : List Value} {cs : List Blk} {k : Nat} {v : List Nat → Value} {out : List Nat → List (Option Blk)} (h : RunsF F P f args [] k v out)
    (hF:∀ w:World,(∀ b ∈ cs,Holds b w)→∀ b,F b→F' b∨(Holds b w∧b.own=false)) (hb:∀ b ∈ cs,b.own=false):RunsF F' P f args cs k v (fun ns=>noneL cs ++ out ns):=by
  intro w hm ha hF'
  have hno:∀ k,¬ Owns (listMem (([]:List Blk).map some)) k:=fun k ⟨p,b,h1,h2,_⟩=>by cases h1
  refine Calls.mono (h w (fun b hb'=>by cases hb') (fun p q b c _ hpb _ ho=>by cases hpb) (fun b hFb=>?_)) ?_
  · rcases hF w hm b hFb with h1 | h1
    · exact⟨(hF' b h1).1,(hF' b h1).2.1,fun k _=>hno k⟩
    · exact⟨h1.1,h1.2,fun k _=>hno k⟩
  rintro e w' ⟨ns,hns,he,hp⟩
  refine⟨ns,hns,he,⟨fun p b hpb=>?_,fun p q b c hpq hpb hqc ho=>?_,⟨hp.adv.os,hp.adv.output,hp.adv.tape,hp.adv.size,fun k hk _=>hp.adv.heap k hk (hno k),fun k ⟨p,b,h1,h2,h3⟩=>?_,fun p b hpb ho=>?_⟩⟩⟩
  · obtain⟨p',_,h2⟩:=listMem_none cs _ p b hpb
    exact hp.holds p' b h2
  · obtain⟨p',h1,h2⟩:=listMem_none cs _ p b hpb
    obtain⟨q',h3,h4⟩:=listMem_none cs _ q c hqc
    exact hp.apart p' q' b c (by omega) h2 h4 ho
  · obtain⟨p',_,h4⟩:=listMem_none cs _ p b h1
    rcases hp.adv.names k ⟨p',b,h4,h2,h3⟩ with h5 | h5
    · exact absurd h5 (hno k)
    · exact .inr h5
  · obtain⟨p',_,h4⟩:=listMem_none cs _ p b hpb
    have:=hp.adv.ro p' b h4 ho
    cases this
def FamH (F:Blk→Prop) (w:World):Prop:=∀ b,F b→Holds b w∧b.own=false
theorem RunsF.darkF {F : Blk → Prop} {P : Program} {f : FuncId} {args : List Value} {bs : List Blk} {k : Nat} {v : List Nat → Value} {out : List Nat → List (Option Blk)} (fl : List Bool) (h : RunsF F P f args bs k v out) :
    RunsF F P f args bs k v (fun ns=>dkn fl (out ns)):=fun w hb ha hF=>Calls.mono (h w hb ha hF) fun _ _ ⟨ns,h1,h2,h3⟩=>⟨ns,h1,h2,h3.sub (dkn_sub fl (out ns))⟩
theorem store_tabK {sz n:Nat} {α:Type} (K:α→List Value) (hK:∀ a,(K a).length=sz) (f:Nat→α) (i:Nat) (v:α):(Cont.tab n sz fun k=>K (f k)).store (.tab i 0) (K v)=some (.tab n sz fun k=>K (upd f i v k)):=by
  simp only [Cont.store,hK,Nat.zero_add]
  have e1:Nat.ble sz sz=true:=by simp
  simp only [e1,Nat.beq_refl,Bool.and_self]
  congr 2
  funext k
  unfold upd
  by_cases h:k=i
  · subst h; rw [if_pos rfl,if_pos rfl]; unfold splice; simp [hK,List.drop_eq_nil_of_le]
  · rw [if_neg h,if_neg h]
end Go.Eng
end
section
namespace Go.Eng
open Go.RowKit Go.WideShapes Go.ChangeShapes Go.ChangeAt Go.Deep
structure FacR where
  p:N4
  e:Int
def facC (r:FacR):List Value:=[u64 r.p.a,u64 r.p.b,u64 r.p.c,u64 r.p.d,int r.e]
def tabA (n:Nat) (f:Nat→FacR):Cont:=.tab n 5 fun k=>facC (f k)
structure PrfR where
  n:N4
  g:N4
  wa:Option Addr
  wn:Nat
  wc:Nat
  wb:Nat
  wo:Nat
  wf:Nat→FacR
def prfC (r:PrfR):List Value:=[u64 r.n.a,u64 r.n.b,u64 r.n.c,u64 r.n.d,u64 r.g.a,u64 r.g.b,u64 r.g.c,u64 r.g.d,.slice r.wa r.wn r.wc]
def tabR (n:Nat) (f:Nat→PrfR):Cont:=.tab n 9 fun k=>prfC (f k)
def prfB (r:PrfR):Blk:=⟨r.wb,false,r.wo,tabA r.wn r.wf⟩
structure OkF (r:FacR):Prop where
  el:-9223372036854775808≤r.e
  eh:r.e≤9223372036854775807
structure OkR (r:PrfR):Prop where
  ad:0 < r.wn→r.wa=some ⟨r.wb,r.wo,none⟩
  len:r.wn≤9223372036854775807
  fac:∀ k,OkF (r.wf k)
def famR (r:PrfR) (b:Blk):Prop:=0 < r.wn∧b=prfB r
theorem famR_at {r:PrfR} {i:Nat} (h:i < r.wn):famR r (prfB r):=⟨by omega,rfl⟩
structure PrfL where
  la:Option Addr
  ln:Nat
  lc:Nat
  lb:Nat
  lo:Nat
  lf:Nat→PrfR
def lisB (q:PrfL):Blk:=⟨q.lb,false,q.lo,tabR q.ln q.lf⟩
structure OkL (q:PrfL):Prop where
  cap:q.ln≤q.lc
  ad:0 < q.ln→q.la=some ⟨q.lb,q.lo,none⟩
  len:q.ln≤9223372036854775807
  prf:∀ k,OkR (q.lf k)
def famL (q:PrfL) (b:Blk):Prop:=(0 < q.ln∧b=lisB q)∨∃ k,k < q.ln∧famR (q.lf k) b
theorem famL_at {q:PrfL} {i:Nat} (h:i < q.ln):famL q (lisB q):=.inl ⟨by omega,rfl⟩
theorem famL_in {q:PrfL} {i:Nat} (h:i < q.ln) {b:Blk} (hb:famR (q.lf i) b):famL q b:=.inr ⟨i,h,hb⟩
theorem famL_fac {q:PrfL} {i k:Nat} (h:i < q.ln) (hk:k < (q.lf i).wn):famL q (prfB (q.lf i)):=famL_in h (famR_at hk)
section
variable {H:Type} {enc:TypeId × Value→H} {P:Program}
theorem slice_cellE {α : Type} [Inhabited α] (K : α → List Value) {sz : Nat} (hK : ∀ a, (K a).length = sz) (hs0 : 0 < sz) {W : World} {base : Nat} {sp : Nat → Bool} {held : Bool} {s u : TypeId} (hs : P.underlying s = some (.slice u)) (hc : P.cellsOf u = sz)
    (hel:∀ n cs x,cs.length=sz→DataW.trod enc P W base sp held n u cs=some x→∃ a,cs=K a) {c:Value} {fuel:Nat} {z:DataW H × List MemPlace} (h:DataW.trod enc P W base sp held fuel s [c]=some z) :
    ∃ (wa:Option Addr) (wn wc wb wo:Nat) (wf:Nat→α),c = .slice wa wn wc∧(wn≤9223372036854775807∧wn≤wc)∧(0 < wn→wa=some ⟨wb,wo,none⟩)∧(0 < wn→Holds ⟨wb,false,wo,.tab wn sz fun k=>K (wf k)⟩ W):=by
  rcases open_slice hs h with ⟨hcs,_⟩ | ⟨a,len,cap,m,n,D,Pl,hcs,_,hl,hm,hmm,_,hx⟩
  · simp at hcs
    exact⟨none,0,0,0,0,fun _=>default,hcs,⟨by omega,by omega⟩,fun h=>by omega,fun h=>by omega⟩
  · simp at hcs
    by_cases h0:len=0
    · subst h0
      exact⟨some a,0,cap,0,0,fun _=>default,hcs,⟨by omega,by omega⟩,fun h=>by omega,fun h=>by omega⟩
    rw [hc] at hx
    have hlm:len≤m:=by rw [hmm]; split <;> omega
    have hV:∀ i,i < len→∃ x:α,∀ j,j < sz→W.cell? ((a.add (i*sz)).add j)=(K x)[j]?:=fun i hi=>by
      obtain⟨cs',h1,h2⟩:=hx i (by omega)
      obtain⟨_,hlen,hcell⟩:=World.cells?_some h1
      obtain⟨x,hx⟩:=hel _ _ _ hlen h2
      subst hx
      exact⟨x,hcell⟩
    obtain⟨f,hfV⟩:=choose_lt (α:=α) (p:=fun i x=>∀ j,j < sz→W.cell? ((a.add (i*sz)).add j)=(K x)[j]?) hV
    have hfirst:∃ u,W.cell? a=some u:=by
      have:=hfV 0 (by omega) 0 hs0
      rw [show(a.add (0*sz)).add 0=a from by cases a; simp [Addr.add]] at this
      rw [this,List.getElem?_eq_getElem (by rw [hK]; exact hs0)]
      exact⟨_,rfl⟩
    obtain⟨u0,hu0⟩:=hfirst
    have hspot:a.spot=none:=World.cell?_spot hu0
    obtain⟨ab,ao,spot⟩:=a
    simp only at hspot
    subst hspot
    refine⟨some ⟨ab,ao,none⟩,len,cap,ab,ao,f,hcs,⟨by unfold maxLen at hm; omega,hl⟩,fun _=>rfl,fun _=>⟨lt_of_cell hu0,fun o v ho=>?_,(fun h=>by cases h),obj_not rfl⟩⟩
    by_cases hol:o < len*sz
    · simp only [Cont.get,if_pos hol] at ho
      have:=hfV (o / sz) (div_lt_row hol) (o % sz) (Nat.mod_lt _ hs0)
      rw [add_none,add_none,Nat.add_assoc,show o / sz*sz+o % sz=o by rw [Nat.mul_comm]; exact Nat.div_add_mod o sz] at this
      rw [this]; exact ho
    · rw [tabE_out hol] at ho; cases ho
variable {sp_ e_ sf_ fc_ a_ u_ i_:TypeId}
end
end Go.Eng
end
section
namespace Go.Eng
def hasK (l:List N4) (k:N4):Bool:=l.any fun h=>eq4 k h
def insK (l:List N4) (k:N4):List N4:=match hasK l k with
  | true=>l
  | false=>l ++ [k]
def knC (l:List N4):Cont:=mapC nat4 ev0 (l.map fun k=>(k,()))
theorem find_has (k:N4):∀ l:List N4,(findE eq4 k (l.map fun k=>(k,()))).isSome=hasK l k
  | []=>rfl
  | h :: r=>by
    simp only [List.map_cons,findE,hasK,List.any_cons]
    cases e:eq4 k h with
    | true=>simp
    | false=>simpa [hasK] using find_has k r
theorem hasK_iff {l:List N4} {k:N4}:hasK l k=true ↔ k ∈ l:=by
  unfold hasK
  rw [List.any_eq_true]
  constructor
  · rintro⟨h,h1,h2⟩
    have:=eq4_eq h2
    subst this; exact h1
  · intro h; exact⟨k,h,(eq4_iff k k).2 rfl⟩
theorem put_ins (k:N4):∀ l:List N4,putE eq4 k () (l.map fun k=>(k,()))=(insK l k).map fun k=>(k,())
  | []=>rfl
  | h :: r=>by
    have ih:=put_ins k r
    simp only [List.map_cons,putE]
    cases e:eq4 k h with
    | true =>
      have:=eq4_eq e
      subst this
      have:hasK (k :: r) k=true:=hasK_iff.2 (by simp)
      simp [insK,this]
    | false =>
      have e2:hasK (h :: r) k=hasK r k:=by simp [hasK,e]
      simp only [Bool.false_eq_true,if_false,ih]
      unfold insK
      rw [e2]
      cases hasK r k <;> simp
section
variable {P:Program} {mt kt et u:TypeId}
theorem sr_look (M : MapT P mt kt et nat4 ev0 () eq4) (b : Nat) (own : Bool) (l : List N4) (k : N4) :
    SRuns P (lookSem mt (.map (some b)) (nat4 k) true) [⟨b,own,0,knC l⟩] 0 (fun _=>.tuple #[.agg #[],.bool (hasK l k)]) (fun _=>[none]):=by
  have h:=srun_look M b own (l.map fun k=>(k,())) k
  rw [find_has] at h
  exact h
theorem sr_upd (M : MapT P mt kt et nat4 ev0 () eq4) (b : Nat) (l : List N4) (k : N4) :
    SRuns P (updSem mt (.map (some b)) (nat4 k) (.agg #[])) [⟨b,true,0,knC l⟩] 0 (fun _=>undef) (fun _=>[some ⟨b,true,0,knC (insK l k)⟩]):=by
  have h:=srun_upd M b (l.map fun k=>(k,())) k ()
  rw [put_ins] at h
  exact h
theorem sr_mkm (t:TypeId):SRuns P (mkmSem t) [] 1 (fun ns=>.map (some (ns.getD 0 0))) (fun ns=>[some ⟨ns.getD 0 0,true,0,knC []⟩]):=srun_mkm t
end
def badF (f:Nat→FacR):Nat→Bool
  | 0=>false
  | i+1=>selB (badF f i) true (selB (decide ((f i).e < 1)) true (decide ((f i).e > 255)))
def zeroF (f:Nat→FacR):Nat→Bool
  | 0=>false
  | i+1=>selB (zeroF f i) true (eq4 (f i).p (N4.mk 0 0 0 0))
def mulP (a p:N4):Option N4:=match eq4 (mul8 a p).hi (N4.mk 0 0 0 0) with
  | true=>some (mul8 a p).lo
  | false=>none
def powP (a p:N4):Nat→Option N4
  | 0=>some a
  | j+1=>(powP a p j).bind fun b=>mulP b p
def prodP (f:Nat→FacR):Nat→Option N4
  | 0=>some (N4.mk 1 0 0 0)
  | i+1=>(prodP f i).bind fun a=>powP a (f i).p (f i).e.toNat
def multV (f:Nat→FacR) (n:Nat):N4:=(prodP f n).getD (N4.mk 0 0 0 0)
def multE (f:Nat→FacR) (n:Nat):Int:=if (prodP f n).isSome=true then 0 else 10
def prodE (f:Nat→FacR) (n:Nat):Int:=if 40 < n then 2 else if badF f n=true then 1 else if zeroF f n=true then 0 else multE f n
def prodV (f:Nat→FacR) (n:Nat):N4:=if 40 < n then N4.mk 0 0 0 0 else if badF f n=true then N4.mk 0 0 0 0 else if zeroF f n=true then N4.mk 0 0 0 0 else multV f n
theorem mulP_hi {a p:N4} (h:(!(eq4 (mul8 a p).hi (N4.mk 0 0 0 0)))=false):mulP a p=some (mul8 a p).lo:=by
  unfold mulP
  have:eq4 (mul8 a p).hi (N4.mk 0 0 0 0)=true:=by simpa using h
  rw [this]
theorem mulP_over {a p:N4} (h:(!(eq4 (mul8 a p).hi (N4.mk 0 0 0 0)))=true):mulP a p=none:=by
  unfold mulP
  have:eq4 (mul8 a p).hi (N4.mk 0 0 0 0)=false:=by simpa using h
  rw [this]
theorem powP_none {a p:N4} {j:Nat} (h:powP a p j=none):∀ d,powP a p (j+d)=none
  | 0=>h
  | d+1=>by rw [← Nat.add_assoc,powP,powP_none h d,Option.bind_none]
theorem prodP_none {f:Nat→FacR} {i:Nat} (h:prodP f i=none):∀ d,prodP f (i+d)=none
  | 0=>h
  | d+1=>by rw [← Nat.add_assoc,prodP,prodP_none h d,Option.bind_none]
theorem powP_step {a b p:N4} {j:Nat} (h1:powP a p j=some b) (h2:(!(eq4 (mul8 b p).hi (N4.mk 0 0 0 0)))=false):powP a p (j+1)=some (mul8 b p).lo:=by
  rw [powP,h1,Option.bind_some]; exact mulP_hi h2
theorem prodP_step {f:Nat→FacR} {a b:N4} {i j:Nat} (h:prodP f i=some a) (h1:powP a (f i).p j=some b) (hj:j=(f i).e.toNat):prodP f (i+1)=some b:=by
  rw [prodP,h,← hj,Option.bind_some]; exact h1
theorem mult_over {f : Nat → FacR} {a b : N4} {i j n : Nat} (h : prodP f i = some a) (h1 : powP a (f i).p j = some b) (hj : j < (f i).e.toNat) (hi : i < n) (h2 : (!(eq4 (mul8 b (f i).p).hi (N4.mk 0 0 0 0))) = true) :
    multV f n=N4.mk 0 0 0 0∧multE f n=10:=by
  have e1:powP a (f i).p (j+1)=none:=by rw [powP,h1,Option.bind_some]; exact mulP_over h2
  have e2:prodP f (i+1)=none:=by
    rw [prodP,h,Option.bind_some]
    have:=powP_none e1 ((f i).e.toNat - (j+1))
    rw [show j+1+((f i).e.toNat - (j+1))=(f i).e.toNat by omega] at this
    exact this
  have e3:prodP f n=none:=by
    have:=prodP_none e2 (n - (i+1))
    rwa [show i+1+(n - (i+1))=n by omega] at this
  unfold multV multE
  rw [e3]; exact⟨rfl,rfl⟩
theorem mult_end {f:Nat→FacR} {a:N4} {n:Nat} (h:prodP f n=some a):multV f n=a∧multE f n=0:=by
  unfold multV multE
  rw [h]; exact⟨rfl,rfl⟩
theorem badF_lt {f:Nat→FacR} {i n:Nat} (h:badF f (i+1)=true) (hi:i < n):badF f n=true:=by
  have:∀ d,badF f (i+1+d)=true:=by
    intro d
    induction d with
    | zero=>exact h
    | succ d ih=>rw [← Nat.add_assoc,badF,ih]; rfl
  have:=this (n - (i+1))
  rwa [show i+1+(n - (i+1))=n by omega] at this
theorem badF_step {f:Nat→FacR} {i:Nat} (h:badF f i=false) (h2:(selB (decide ((f i).e < 1)) true (decide ((f i).e > 255)))=false):badF f (i+1)=false:=by rw [badF,h]; exact h2
theorem badF_out {f:Nat→FacR} {i n:Nat} (hi:i < n) (h2:(selB (decide ((f i).e < 1)) true (decide ((f i).e > 255)))=true):badF f n=true :=
  badF_lt (i:=i) (by rw [badF,h2]; cases badF f i <;> rfl) hi
theorem prod_long {f:Nat→FacR} {n:Nat} (h:40 < n):prodV f n=N4.mk 0 0 0 0∧prodE f n=2:=by
  unfold prodV prodE; rw [if_pos h,if_pos h]; exact⟨rfl,rfl⟩
theorem prod_bad {f:Nat→FacR} {n:Nat} (h:¬ 40 < n) (h2:badF f n=true):prodV f n=N4.mk 0 0 0 0∧prodE f n=1:=by
  unfold prodV prodE; rw [if_neg h,if_neg h,if_pos h2,if_pos h2]; exact⟨rfl,rfl⟩
theorem prod_zero {f:Nat→FacR} {n:Nat} (h:¬ 40 < n) (h2:badF f n=false) (h3:zeroF f n=true):prodV f n=N4.mk 0 0 0 0∧prodE f n=0:=by
  unfold prodV prodE; rw [if_neg h,if_neg h,if_neg (show ¬ badF f n=true by simp [h2]),if_neg (show ¬ badF f n=true by simp [h2]),if_pos h3,if_pos h3]; exact⟨rfl,rfl⟩
theorem prod_mult {f:Nat→FacR} {n:Nat} (h:¬ 40 < n) (h2:badF f n=false) (h3:zeroF f n=false):prodV f n=multV f n∧prodE f n=multE f n:=by
  unfold prodV prodE; rw [if_neg h,if_neg h,if_neg (show ¬ badF f n=true by simp [h2]),if_neg (show ¬ badF f n=true by simp [h2]),if_neg (show ¬ zeroF f n=true by simp [h3]),if_neg (show ¬ zeroF f n=true by simp [h3])]; exact⟨rfl,rfl⟩
def quoP (a m:N4):N4:=N4.ofNat (a.val / m.val)
def ordF (m a n:N4) (f:Nat→FacR):Nat→Bool
  | 0=>true
  | i+1=>selB (ordF m a n f i) (!(selB (eq4 (f i).p (N4.mk 1 0 0 0)) true (eq4 (powM m a (quoP n (f i).p)) (N4.mk 1 0 0 0)))) false
def ordB (m a n:N4) (f:Nat→FacR) (k:Nat):Bool:=selB (eq4 (powM m a n) (N4.mk 1 0 0 0)) (ordF m a n f k) false
noncomputable def stepE (r:PrfR):Int:=open Classical in if prodE r.wf r.wn≠0 then prodE r.wf r.wn else if ¬ OddM r.n then 20 else
  if eq4 (prodV r.wf r.wn) (sub4 r.n (N4.mk 1 0 0 0))=false then 20 else if ordB r.n r.g (sub4 r.n (N4.mk 1 0 0 0)) r.wf r.wn=false then 20 else 0
theorem ordF_lt {m a n:N4} {f:Nat→FacR} {i k:Nat} (h:ordF m a n f (i+1)=false) (hi:i < k):ordF m a n f k=false:=by
  have:∀ d,ordF m a n f (i+1+d)=false:=by
    intro d
    induction d with
    | zero=>exact h
    | succ d ih=>rw [← Nat.add_assoc,ordF,ih]; rfl
  have:=this (k - (i+1))
  rwa [show i+1+(k - (i+1))=k by omega] at this
def facIn (L:List N4) (f:Nat→FacR):Nat→Bool
  | 0=>true
  | k+1=>selB (facIn L f k) (hasK L (f k).p) false
def knF (f:Nat→PrfR):Nat→List N4
  | 0=>[N4.mk 2 0 0 0]
  | i+1=>insK (knF f i) (f i).n
noncomputable def chkF (f:Nat→PrfR):Nat→Int
  | 0=>0
  | i+1=>if chkF f i≠0 then chkF f i else if facIn (knF f i) (f i).wf (f i).wn=false then 20 else stepE (f i)
noncomputable def chkE (q:PrfL):Int:=if 40 < q.ln then 2 else chkF q.lf q.ln
noncomputable def prvE (q:PrfL) (n:N4):Int:=if chkE q≠0 then chkE q else if hasK (knF q.lf q.ln) n=true then 0 else 20
theorem chkF_lt {f:Nat→PrfR} {i n:Nat} {e:Int} (h:chkF f (i+1)=e) (he:e≠0) (hi:i < n):chkF f n=e:=by
  have:∀ d,chkF f (i+1+d)=e:=by
    intro d
    induction d with
    | zero=>exact h
    | succ d ih=>rw [← Nat.add_assoc,chkF,ih,if_pos he]
  have:=this (n - (i+1))
  rwa [show i+1+(n - (i+1))=n by omega] at this
theorem facIn_lt {L:List N4} {f:Nat→FacR} {k n:Nat} (h:facIn L f (k+1)=false) (hk:k < n):facIn L f n=false:=by
  have:∀ d,facIn L f (k+1+d)=false:=by
    intro d
    induction d with
    | zero=>exact h
    | succ d ih=>rw [← Nat.add_assoc,facIn,ih]; rfl
  have:=this (n - (k+1))
  rwa [show k+1+(n - (k+1))=n by omega] at this
end Go.Eng
namespace Go.Eng
def restP (a m:N4):N4:=if eq4 m (N4.mk 0 0 0 0)=true then N4.mk 0 0 0 0 else N4.ofNat (a.val % m.val)
def errP (m:N4):Int:=if eq4 m (N4.mk 0 0 0 0)=true then 11 else 0
end Go.Eng
namespace Go.Eng
theorem ord_no {m a n:N4} {f:Nat→FacR} {k:Nat} (h:(!(eq4 (powM m a n) (N4.mk 1 0 0 0)))=true):false=ordB m a n f k:=by
  unfold ordB
  have:eq4 (powM m a n) (N4.mk 1 0 0 0)=false:=by simpa using h
  rw [this]; rfl
theorem ord_out {m a n:N4} {f:Nat→FacR} {i k:Nat} (hi:i < k) (h:(selB (eq4 (f i).p (N4.mk 1 0 0 0)) true (eq4 (powM m a (quoP n (f i).p)) (N4.mk 1 0 0 0)))=true):false=ordB m a n f k:=by
  have h1:ordF m a n f (i+1)=false:=by rw [ordF,h]; cases ordF m a n f i <;> rfl
  unfold ordB
  rw [ordF_lt h1 hi]
  cases eq4 (powM m a n) (N4.mk 1 0 0 0) <;> rfl
theorem ord_step {m a n:N4} {f:Nat→FacR} {i:Nat} (h1:ordF m a n f i=true) (h:(selB (eq4 (f i).p (N4.mk 1 0 0 0)) true (eq4 (powM m a (quoP n (f i).p)) (N4.mk 1 0 0 0)))=false):ordF m a n f (i+1)=true:=by
  rw [ordF,h1,h]; rfl
theorem ord_yes {m a n:N4} {f:Nat→FacR} {k:Nat} (h:(!(eq4 (powM m a n) (N4.mk 1 0 0 0)))=false) (h1:ordF m a n f k=true):true=ordB m a n f k:=by
  unfold ordB
  have:eq4 (powM m a n) (N4.mk 1 0 0 0)=true:=by simpa using h
  rw [this,h1]; rfl
theorem or_skip {a b c:Bool} (h:a=false) (h2:selB a true b=c):b=c:=by subst h; exact h2
theorem step_prod {r:PrfR} (h:(((prodE r.wf r.wn):Int) != 0)=true):stepE r=prodE r.wf r.wn:=by
  unfold stepE; rw [if_pos (by simpa using h)]
theorem step_even {r:PrfR} (h:(((prodE r.wf r.wn):Int) != 0)=false) (h2:¬ OddM r.n):stepE r=20:=by
  unfold stepE; rw [if_neg (by simpa using h),if_pos h2]
theorem step_less {r:PrfR} (h:(((prodE r.wf r.wn):Int) != 0)=false) (h2:OddM r.n) (h3:(!(eq4 (prodV r.wf r.wn) (sub4 r.n (N4.mk 1 0 0 0))))=true):stepE r=20:=by
  unfold stepE; rw [if_neg (by simpa using h),if_neg (fun h=>h h2),if_pos (by simpa using h3)]
theorem step_ord {r:PrfR} (h:(((prodE r.wf r.wn):Int) != 0)=false) (h2:OddM r.n) (h3:(!(eq4 (prodV r.wf r.wn) (sub4 r.n (N4.mk 1 0 0 0))))=false) (h4:(!(ordB r.n r.g (sub4 r.n (N4.mk 1 0 0 0)) r.wf r.wn))=true):stepE r=20:=by
  unfold stepE; rw [if_neg (by simpa using h),if_neg (fun h=>h h2),if_neg (by simpa using h3),if_pos (by simpa using h4)]
theorem step_ok {r:PrfR} (h:(((prodE r.wf r.wn):Int) != 0)=false) (h2:OddM r.n) (h3:(!(eq4 (prodV r.wf r.wn) (sub4 r.n (N4.mk 1 0 0 0))))=false) (h4:(!(ordB r.n r.g (sub4 r.n (N4.mk 1 0 0 0)) r.wf r.wn))=false):stepE r=0:=by
  unfold stepE; rw [if_neg (by simpa using h),if_neg (fun h=>h h2),if_neg (by simpa using h3),if_neg (by simpa using h4)]
theorem chk_has {f:Nat→PrfR} {i k:Nat} {L:List N4} (h0:chkF f i=0) (hL:L=knF f i) (hk:k < (f i).wn) (h:(!(hasK L ((f i).wf k).p))=true):chkF f (i+1)=20:=by
  have e:facIn (knF f i) (f i).wf (k+1)=false:=by
    rw [facIn,← hL]
    have:hasK L ((f i).wf k).p=false:=by simpa using h
    rw [this]; cases facIn L (f i).wf k <;> rfl
  rw [chkF,if_neg (by rw [h0]; simp),if_pos (facIn_lt e hk)]
theorem chk_fac {f:Nat→PrfR} {i:Nat} {L:List N4} (h0:chkF f i=0) (hL:L=knF f i) (h1:facIn L (f i).wf (f i).wn=true):chkF f (i+1)=stepE (f i):=by
  rw [chkF,if_neg (by rw [h0]; simp),if_neg (by rw [← hL,h1]; simp)]
theorem fac_step {L:List N4} {f:Nat→FacR} {k:Nat} (h1:facIn L f k=true) (h:(!(hasK L (f k).p))=false):facIn L f (k+1)=true:=by
  rw [facIn,h1]
  have:hasK L (f k).p=true:=by simpa using h
  rw [this]; rfl
theorem chk_long {q:PrfL} (h:40 < q.ln):chkE q=2:=if_pos h
theorem chk_at {q:PrfL} {i:Nat} {e:Int} (h:¬ 40 < q.ln) (h1:chkF q.lf (i+1)=e) (he:e≠0) (hi:i < q.ln):chkE q=e:=by
  unfold chkE; rw [if_neg h]; exact chkF_lt h1 he hi
theorem chk_end {q:PrfL} (h:¬ 40 < q.ln) (h1:chkF q.lf q.ln=0):chkE q=0:=by unfold chkE; rw [if_neg h]; exact h1
theorem bne0 {x:Int} (h:(x != 0)=true):x≠0:=by simpa using h
theorem beq0 {x:Int} (h:(x != 0)=false):x=0:=by simpa using h
theorem good_short {q:PrfL} (hg:chkE q=0):¬ 40 < q.ln:=fun h=>by rw [chk_long h] at hg; cases hg
theorem good_at {q:PrfL} (hg:chkE q=0) {i:Nat} (hi:i < q.ln):chkF q.lf (i+1)=0:=by
  rcases Decidable.em (chkF q.lf (i+1)=0) with h | h
  · exact h
  · exact absurd ((chk_at (good_short hg) rfl h hi).symm.trans hg) h
theorem good_has {q:PrfL} (hg:chkE q=0) {i k:Nat} {L:List N4} (hi:i < q.ln) (h0:chkF q.lf i=0) (hL:L=knF q.lf i) (hk:k < (q.lf i).wn):(!(hasK L ((q.lf i).wf k).p))=false:=by
  cases h:(!(hasK L ((q.lf i).wf k).p)) with
  | false=>rfl
  | true=>have:=chk_has h0 hL hk h; rw [good_at hg hi] at this; cases this
theorem good_step {q:PrfL} (hg:chkE q=0) {i:Nat} {L:List N4} (hi:i < q.ln) (h0:chkF q.lf i=0) (hL:L=knF q.lf i) (h1:facIn L (q.lf i).wf (q.lf i).wn=true):(((stepE (q.lf i)):Int) != 0)=false:=by
  have:=chk_fac h0 hL h1
  rw [good_at hg hi] at this
  rw [← this]; rfl
theorem bad_on {q:PrfL} (hg:¬ chkE q=0) (h:¬ 40 < q.ln) {i:Nat} (hi:i≤q.ln) (h0:chkF q.lf i=0):i < q.ln:=by
  rcases Nat.lt_or_ge i q.ln with h2 | h2
  · exact h2
  · have e:i=q.ln:=by omega
    rw [e] at h0
    exact absurd (chk_end h h0) hg
theorem prv_bad {q:PrfL} {n:N4} (h:¬ chkE q=0):prvE q n=chkE q:=if_pos h
theorem prv_no {q:PrfL} {n:N4} (hg:chkE q=0) (h:(!(hasK (knF q.lf q.ln) n))=true):prvE q n=20:=by
  unfold prvE; rw [if_neg (by simp [hg]),if_neg (by simpa using h)]
theorem prv_yes {q:PrfL} {n:N4} (hg:chkE q=0) (h:(!(hasK (knF q.lf q.ln) n))=false):prvE q n=0:=by
  unfold prvE; rw [if_neg (by simp [hg]),if_pos (by simpa using h)]
theorem has_ins (l:List N4) (k n:N4):hasK (insK l k) n=(hasK l n || eq4 k n):=by
  unfold insK
  cases h:hasK l k with
  | true =>
    simp only
    cases h2:eq4 k n with
    | false=>simp
    | true=>have:=eq4_eq h2; subst this; simp [h]
  | false =>
    simp only [hasK,List.any_append,List.any_cons,List.any_nil,Bool.or_false]
    have:eq4 n k=eq4 k n:=by
      cases h2:eq4 k n with
      | true=>have:=eq4_eq h2; subst this; exact h2
      | false =>
        cases h3:eq4 n k with
        | false=>rfl
        | true=>have:=eq4_eq h3; subst this; rw [h3] at h2; cases h2
    rw [this]
end Go.Eng
namespace Go.Eng
theorem cmp4_val (x y:N4):cmp4 x y < 0 ↔ x.val < y.val:=by
  rw [cmp4_eq]; unfold ord
  split
  · simp_all
  · split <;> simp_all
end Go.Eng
end
section
namespace Go.Eng
def IsPr (p:Nat):Prop:=2≤p∧∀ d,d∣p→d=1∨d=p
theorem least (P:Nat→Prop):∀ k,P k→∃ j,P j∧∀ i,i < j→¬ P i:=by
  intro k
  induction k using Nat.strongRecOn with
  | _ k ih =>
    intro h
    by_cases h2:∃ i,i < k∧P i
    · obtain⟨i,hi,hp⟩:=h2
      exact ih i hi hp
    · exact⟨k,h,fun i hi hp=>h2 ⟨i,hi,hp⟩⟩
theorem pr_in {q:Nat} (h:2≤q):∃ s,IsPr s∧s∣q:=by
  obtain⟨s,⟨h1,h2⟩,h3⟩:=least (fun s=>2≤s∧s∣q) q ⟨h,Nat.dvd_refl q⟩
  refine⟨s,⟨h1,fun d hd=>?_⟩,h2⟩
  rcases Nat.lt_or_ge d 2 with hlt | hge
  · rcases(show d=0∨d=1 by omega) with rfl | rfl
    · have:=Nat.eq_zero_of_zero_dvd hd; omega
    · exact .inl rfl
  · right
    have hle:=Nat.le_of_dvd (by omega) hd
    rcases Nat.lt_or_ge d s with hl | hg
    · exact absurd ⟨hge,Nat.dvd_trans hd h2⟩ (h3 d hl)
    · omega
theorem pr_mul {s a b:Nat} (hs:IsPr s) (h:s∣a*b):s∣a∨s∣b:=by
  rcases hs.2 (Nat.gcd s a) (Nat.gcd_dvd_left s a) with h1 | h1
  · exact .inr (Nat.Coprime.dvd_of_dvd_mul_left h1 h)
  · left; rw [← h1]; exact Nat.gcd_dvd_right s a
theorem pr_pow {s a:Nat} (hs:IsPr s):∀ {e:Nat},s∣a ^ e→s∣a
  | 0,h=>by
    have h1:=Nat.le_of_dvd (by decide) (show s∣1 by simpa using h)
    have:=hs.1; omega
  | e+1,h=>by
    rw [Nat.pow_succ] at h
    rcases pr_mul hs h with h1 | h1
    · exact pr_pow hs h1
    · exact h1
def prodN (f:Nat→FacR):Nat→Nat
  | 0=>1
  | i+1=>prodN f i*(f i).p.val ^ (f i).e.toNat
theorem pr_prod {s:Nat} {f:Nat→FacR} (hs:IsPr s):∀ {n:Nat},s∣prodN f n→∃ i,i < n∧s∣(f i).p.val
  | 0,h=>by
    have h1:=Nat.le_of_dvd (by decide) (show s∣1 from h)
    have:=hs.1; omega
  | n+1,h=>by
    rcases pr_mul hs h with h1 | h1
    · obtain⟨i,hi,h2⟩:=pr_prod hs h1
      exact⟨i,by omega,h2⟩
    · exact⟨n,by omega,pr_pow hs h1⟩
theorem pigeon:∀ (n:Nat) (f:Nat→Nat),(∀ i,i < n+1→f i < n)→∃ i j,i < j∧j < n+1∧f i=f j
  | 0,f,h=>absurd (h 0 (by omega)) (by omega)
  | n+1,f,h=>by
    by_cases hv:∃ i,i < n+1∧f i=f (n+1)
    · obtain⟨i,hi,e⟩:=hv
      exact⟨i,n+1,hi,by omega,e⟩
    · have hne:∀ i,i < n+1→f i≠f (n+1):=fun i hi e=>hv ⟨i,hi,e⟩
      obtain⟨i,j,h1,h2,h3⟩:=pigeon n (fun i=>if f (n+1) < f i then f i - 1 else f i) (fun i hi=>by
        have a1:=h i (by omega)
        have a2:=h (n+1) (by omega)
        have a3:=hne i hi
        show(if f (n+1) < f i then f i - 1 else f i) < n
        split <;> omega)
      refine⟨i,j,h1,by omega,?_⟩
      have a1:=hne i (by omega)
      have a2:=hne j (by omega)
      split at h3 <;> split at h3 <;> omega
theorem pow_mod_add {g n a b:Nat} (h:g ^ a % n=1):g ^ (a+b) % n=g ^ b % n:=by
  rw [Nat.pow_add,Nat.mul_mod,h,Nat.one_mul,Nat.mod_mod]
theorem pow_mod_mul {g n a:Nat} (hn:1 < n) (h:g ^ a % n=1):∀ k,g ^ (a*k) % n=1
  | 0=>by simp; exact Nat.mod_eq_of_lt hn
  | k+1=>by rw [Nat.mul_succ,Nat.add_comm,pow_mod_add h]; exact pow_mod_mul hn h k
theorem lucas {n g:Nat} {f:Nat→FacR} {k:Nat} (hn:2 < n) (hp:∀ i,i < k→IsPr (f i).p.val) (hm:prodN f k=n - 1) (h1:g ^ (n - 1) % n=1) (h2:∀ i,i < k→g ^ ((n - 1) / (f i).p.val) % n≠1):IsPr n:=by
  obtain⟨t,⟨ht0,ht1⟩,htm⟩:=least (fun t=>0 < t∧g ^ t % n=1) (n - 1) ⟨by omega,h1⟩
  have hdiv:∀ j,g ^ j % n=1→t∣j:=fun j hj=>by
    have e:=Nat.div_add_mod j t
    have hlt:=Nat.mod_lt j ht0
    rcases Nat.eq_zero_or_pos (j % t) with h0 | h0
    · exact Nat.dvd_of_mod_eq_zero h0
    · refine absurd ⟨h0,?_⟩ (htm (j % t) hlt)
      rw [← e,pow_mod_add (pow_mod_mul (by omega) ht1 (j / t))] at hj
      exact hj
  have htn:t=n - 1:=by
    obtain⟨q,hq⟩:=hdiv _ h1
    rcases Nat.lt_or_ge q 2 with hq2 | hq2
    · rcases(show q=0∨q=1 by omega) with rfl | rfl
      · omega
      · omega
    · exfalso
      obtain⟨s,hs,hsq⟩:=pr_in hq2
      have hsn:s∣prodN f k:=by rw [hm,hq]; exact Nat.dvd_trans hsq (Nat.dvd_mul_left q t)
      obtain⟨i,hi,hsi⟩:=pr_prod hs hsn
      have hsp:s=(f i).p.val:=by
        rcases(hp i hi).2 s hsi with h3 | h3
        · have:=hs.1; omega
        · exact h3
      obtain⟨c,hc⟩:=hsq
      refine h2 i hi ?_
      rw [← hsp,hq,hc,show t*(s*c) / s=t*c by
        rw [← Nat.mul_assoc,Nat.mul_comm t s,Nat.mul_assoc,Nat.mul_div_cancel_left _ (by have:=hs.1; omega)]]
      exact pow_mod_mul (by omega) ht1 c
  refine⟨by omega,fun d hd=>?_⟩
  rcases Nat.eq_or_lt_of_le (Nat.le_of_dvd (by omega) hd) with h3 | h3
  · exact .inr h3
  · left
    have hd0:0 < d:=Nat.pos_of_dvd_of_pos hd (by omega)
    have hlt:∀ j,g ^ j % n < n:=fun j=>Nat.mod_lt _ (by omega)
    have hpos:∀ j,j≤n - 1→0 < g ^ j % n:=fun j hj=>by
      rcases Nat.eq_zero_or_pos (g ^ j % n) with h0 | h0
      · have : g ^ (n - 1) % n = 0 := by
          rw [show n - 1=j+(n - 1 - j) by omega,Nat.pow_add,Nat.mul_mod,h0,Nat.zero_mul,Nat.zero_mod]
        omega
      · exact h0
    have hinj:∀ i j,i < j→j < n - 1→g ^ i % n≠g ^ j % n:=fun i j hij hj e=>by
      have h4:g ^ (n - 1 - j+i) % n=g ^ (n - 1) % n:=by
        rw [Nat.pow_add,Nat.mul_mod,e,← Nat.mul_mod,← Nat.pow_add,show n - 1 - j+j=n - 1 by omega]
      rw [h1] at h4
      have:=Nat.le_of_dvd (by omega) (hdiv _ h4)
      omega
    have hex:∃ j,j < n - 1∧g ^ j % n=d:=by
      by_cases hx:∃ j,j < n - 1∧g ^ j % n=d
      · exact hx
      · exfalso
        have hne:∀ j,j < n - 1→g ^ j % n≠d:=fun j hj e=>hx ⟨j,hj,e⟩
        obtain⟨i,j,hij,hj,e⟩:=pigeon (n - 2) (fun j=>if d < g ^ j % n then g ^ j % n - 2 else g ^ j % n - 1) (fun j hj=>by
          have a1:=hlt j
          have a2:=hpos j (by omega)
          have a3:=hne j (by omega)
          show(if d < g ^ j % n then g ^ j % n - 2 else g ^ j % n - 1) < n - 2
          split <;> omega)
        have a1:=hinj i j hij (by omega)
        have a2:=hne i (by omega)
        have a3:=hne j (by omega)
        have a4:=hpos i (by omega)
        have a5:=hpos j (by omega)
        split at e <;> split at e <;> omega
    obtain⟨j,hj,e⟩:=hex
    have hdj:d∣g ^ j:=by
      rw [← Nat.div_add_mod (g ^ j) n,e]
      exact Nat.dvd_add (Nat.dvd_trans hd (Nat.dvd_mul_right n _)) (Nat.dvd_refl d)
    have hdn:d∣g ^ (n - 1):=by
      rw [show n - 1=j+(n - 1 - j) by omega,Nat.pow_add]
      exact Nat.dvd_trans hdj (Nat.dvd_mul_right _ _)
    rw [← Nat.div_add_mod (g ^ (n - 1)) n,h1] at hdn
    have:=(Nat.dvd_add_right (Nat.dvd_trans hd (Nat.dvd_mul_right n (g ^ (n - 1) / n)))).1 hdn
    exact Nat.dvd_one.1 this
theorem mul8_lo {a p:N4} (h:eq4 (mul8 a p).hi (N4.mk 0 0 0 0)=true):(mul8 a p).lo.val=a.val*p.val:=by
  have h1:=mul8_val' a p
  unfold N8.val at h1
  rw [eq4_eq h] at h1
  have:(N4.mk 0 0 0 0).val=0:=rfl
  rw [this] at h1
  omega
theorem mulP_val {a p b:N4} (h:mulP a p=some b):b.val=a.val*p.val:=by
  unfold mulP at h
  cases e:eq4 (mul8 a p).hi (N4.mk 0 0 0 0) with
  | true=>rw [e] at h; rw [← Option.some.inj h]; exact mul8_lo e
  | false=>rw [e] at h; cases h
theorem powP_val {a p:N4}:∀ {j:Nat} {b:N4},powP a p j=some b→b.val=a.val*p.val ^ j
  | 0,b,h=>by rw [← Option.some.inj h]; simp
  | j+1,b,h=>by
    rw [powP] at h
    cases e:powP a p j with
    | none=>rw [e] at h; cases h
    | some c =>
      rw [e,Option.bind_some] at h
      rw [mulP_val h,powP_val e,Nat.pow_succ,Nat.mul_assoc]
theorem prodP_val {f:Nat→FacR}:∀ {n:Nat} {a:N4},prodP f n=some a→a.val=prodN f n
  | 0,a,h=>by rw [← Option.some.inj h]; rfl
  | n+1,a,h=>by
    rw [prodP] at h
    cases e:prodP f n with
    | none=>rw [e] at h; cases h
    | some b =>
      rw [e,Option.bind_some] at h
      rw [powP_val h,prodP_val e]; rfl
theorem ordF_all {m a n:N4} {f:Nat→FacR}:∀ {k:Nat},ordF m a n f k=true→∀ i,i < k→eq4 (powM m a (quoP n (f i).p)) (N4.mk 1 0 0 0)=false
  | 0,_,i,hi=>by omega
  | k+1,h,i,hi=>by
    rw [ordF] at h
    have h1:ordF m a n f k=true:=by cases e:ordF m a n f k with | true=>rfl | false=>rw [e] at h; cases h
    rw [h1] at h
    rcases(show i < k∨i=k by omega) with h2 | rfl
    · exact ordF_all h1 i h2
    · cases e:eq4 (powM m a (quoP n (f i).p)) (N4.mk 1 0 0 0) with
      | false=>rfl
      | true=>rw [e] at h; cases e2:eq4 (f i).p (N4.mk 1 0 0 0) <;> (rw [e2] at h; cases h)
theorem facIn_all {L:List N4} {f:Nat→FacR}:∀ {k:Nat},facIn L f k=true→∀ i,i < k→hasK L (f i).p=true
  | 0,_,i,hi=>by omega
  | k+1,h,i,hi=>by
    rw [facIn] at h
    have h1:facIn L f k=true:=by cases e:facIn L f k with | true=>rfl | false=>rw [e] at h; cases h
    rw [h1] at h
    rcases(show i < k∨i=k by omega) with h2 | rfl
    · exact facIn_all h1 i h2
    · exact h
theorem one_valP:(N4.mk 1 0 0 0).val=1:=rfl
theorem sub_one {n:N4} (h:OddM n):(sub4 n (N4.mk 1 0 0 0)).val=n.val - 1:=by
  have h1:=sub_less n (N4.mk 1 0 0 0)
  rw [← h1,N4.val_ofNat,one_valP]
  unfold lessN
  have h2:=n.val_lt
  have h3:=h.big
  have h4:(256:Nat) ^ 64=2 ^ 256*2 ^ 256:=by decide
  rw [h4]
  have h5:n.val+2 ^ 256*2 ^ 256 - 1=(n.val - 1)+2 ^ 256*2 ^ 256:=by omega
  rw [h5,Nat.add_mul_mod_self_left,Nat.mod_eq_of_lt (by omega)]
theorem quoP_val (a m:N4):(quoP a m).val=a.val / m.val:=by
  unfold quoP
  rw [N4.val_ofNat,Nat.mod_eq_of_lt (Nat.lt_of_le_of_lt (Nat.div_le_self _ _) a.val_lt)]
theorem stepE_ok {r:PrfR} (h:stepE r=0):prodE r.wf r.wn=0∧OddM r.n∧eq4 (prodV r.wf r.wn) (sub4 r.n (N4.mk 1 0 0 0))=true∧ordB r.n r.g (sub4 r.n (N4.mk 1 0 0 0)) r.wf r.wn=true:=by
  unfold stepE at h
  split at h
  · contradiction
  · rename_i h0
    split at h
    · cases h
    · rename_i h1
      split at h
      · cases h
      · rename_i h2
        split at h
        · cases h
        · rename_i h3
          exact⟨Decidable.not_not.1 h0,Classical.not_not.1 h1,by simpa using h2,by simpa using h3⟩
theorem step_prime {r:PrfR} (h:stepE r=0) (hp:∀ i,i < r.wn→IsPr (r.wf i).p.val):IsPr r.n.val:=by
  obtain⟨h0,h1,h2,h3⟩:=stepE_ok h
  have hs:=sub_one h1
  have hb:=h1.big
  have ho:=h1.odd
  have hv:(prodV r.wf r.wn).val=r.n.val - 1:=by rw [eq4_eq h2,hs]
  have hprod:prodN r.wf r.wn=r.n.val - 1:=by
    unfold prodV at hv
    split at hv
    · have:(N4.mk 0 0 0 0).val=0:=rfl
      omega
    · split at hv
      · have:(N4.mk 0 0 0 0).val=0:=rfl
        omega
      · split at hv
        · have:(N4.mk 0 0 0 0).val=0:=rfl
          omega
        · unfold multV at hv
          cases e:prodP r.wf r.wn with
          | none =>
            rw [e] at hv
            have:(N4.mk 0 0 0 0).val=0:=rfl
            simp only [Option.getD_none] at hv
            omega
          | some a=>rw [e] at hv; rw [← prodP_val e]; exact hv
  unfold ordB at h3
  have h4:eq4 (powM r.n r.g (sub4 r.n (N4.mk 1 0 0 0))) (N4.mk 1 0 0 0)=true:=by
    cases e:eq4 (powM r.n r.g (sub4 r.n (N4.mk 1 0 0 0))) (N4.mk 1 0 0 0) with
    | true=>rfl
    | false=>rw [e] at h3; cases h3
  rw [h4] at h3
  refine lucas (g:=r.g.val) (by omega) hp hprod ?_ fun i hi=>?_
  · have:=powM_val h1 r.g (sub4 r.n (N4.mk 1 0 0 0))
    rw [eq4_eq h4,hs,one_valP] at this
    exact this.symm
  · have h5:=ordF_all h3 i hi
    have:=powM_val h1 r.g (quoP (sub4 r.n (N4.mk 1 0 0 0)) (r.wf i).p)
    rw [quoP_val,hs] at this
    intro e
    rw [e] at this
    have h6:eq4 (powM r.n r.g (quoP (sub4 r.n (N4.mk 1 0 0 0)) (r.wf i).p)) (N4.mk 1 0 0 0)=true:=(eq4_iff _ _).2 (N4.ext_val this)
    rw [h5] at h6; cases h6
theorem two_pr:IsPr 2:=⟨by omega,fun d hd=>by
  have h1:=Nat.le_of_dvd (by omega) hd
  have h2:=Nat.pos_of_dvd_of_pos hd (by omega)
  omega⟩
theorem chkF_ok {f:Nat→PrfR} {i:Nat} (h:chkF f (i+1)=0):chkF f i=0∧facIn (knF f i) (f i).wf (f i).wn=true∧stepE (f i)=0:=by
  rw [chkF] at h
  split at h
  · contradiction
  · rename_i h0
    split at h
    · cases h
    · rename_i h1
      exact⟨Decidable.not_not.1 h0,by simpa using h1,h⟩
theorem known_prime {f:Nat→PrfR}:∀ {i:Nat},chkF f i=0→∀ x,hasK (knF f i) x=true→IsPr x.val
  | 0,_,x,hx=>by
    have:x=N4.mk 2 0 0 0:=by simpa [hasK_iff,knF] using hx
    subst this; exact two_pr
  | i+1,h,x,hx=>by
    obtain⟨h1,h2,h3⟩:=chkF_ok h
    rw [knF,has_ins,Bool.or_eq_true] at hx
    rcases hx with hx | hx
    · exact known_prime h1 x hx
    · rw [← eq4_eq hx]
      exact step_prime h3 fun k hk=>known_prime h1 _ (facIn_all h2 k hk)
theorem prv_has {q:PrfL} {n:N4} (h:prvE q n=0):chkE q=0∧hasK (knF q.lf q.ln) n=true:=by
  unfold prvE at h
  split at h
  · contradiction
  · rename_i h0
    split at h
    · rename_i h1; exact⟨Decidable.not_not.1 h0,h1⟩
    · cases h
theorem chkE_F {q:PrfL} (h:chkE q=0):¬ 40 < q.ln∧chkF q.lf q.ln=0:=by
  unfold chkE at h
  split at h
  · cases h
  · rename_i h0; exact⟨h0,h⟩
theorem prime_fin {q:PrfL} {n:N4} (h:prvE q n=0):IsPr n.val:=by
  obtain⟨h1,h2⟩:=prv_has h
  exact known_prime (chkE_F h1).2 n h2
end Go.Eng
end
section
namespace Go.Eng
open Go.RowKit Go.WideShapes Go.ChangeShapes Go.ChangeAt Go.Deep
end Go.Eng
end
section
namespace Go.Eng
theorem lit_tab {α:Type} (K:α→List Value) {sz:Nat} (hK:∀ a,(K a).length=sz) (hs:0 < sz) (d:α):∀ (l:List α) (o:Nat) (v:Value),(Cont.tab l.length sz fun k=>K (l.getD k d)).get o=some v→(Cont.lit (l.flatMap K)).get o=some v
  | [],o,v,h=>by
    rw [Cont.get_tab_out (by simp)] at h; cases h
  | a :: r,o,v,h=>by
    show((a :: r).flatMap K)[o]? = some v
    rw [List.flatMap_cons]
    by_cases ho:o < (r.length+1)*sz
    · rw [Cont.get_tab (by simpa using ho)] at h
      by_cases h1:o < sz
      · rw [Nat.div_eq_of_lt h1,Nat.mod_eq_of_lt h1] at h
        rw [List.getElem?_append_left (by rw [hK]; exact h1)]
        simpa using h
      · obtain⟨p,rfl⟩:∃ p,o=sz+p:=⟨o - sz,by omega⟩
        rw [Nat.add_div_left _ hs,Nat.add_mod_left] at h
        rw [List.getElem?_append_right (by rw [hK]; omega),hK,Nat.add_sub_cancel_left]
        have hp:p < r.length*sz:=by rw [Nat.succ_mul] at ho; omega
        refine lit_tab K hK hs d r p v ?_
        rw [Cont.get_tab hp]
        simpa using h
    · rw [Cont.get_tab_out (by simpa using ho)] at h; cases h
def dF:FacR:=⟨N4.mk 0 0 0 0,0⟩
def dP:PrfR:=⟨N4.mk 0 0 0 0,N4.mk 0 0 0 0,none,0,0,0,0,fun _=>dF⟩
def recG (n g:N4) (nm:Nat) (l:List FacR):PrfR:=⟨n,g,some ⟨nm,0,none⟩,l.length,l.length,nm,0,fun k=>l.getD k dF⟩
def lisG (nm:Nat) (l:List PrfR):PrfL:=⟨some ⟨nm,0,none⟩,l.length,l.length,nm,0,fun k=>l.getD k dP⟩
theorem okF_d:OkF dF:=⟨by decide,by decide⟩
theorem okr_d:OkR dP:=⟨fun h=>absurd h (Nat.lt_irrefl 0),by decide,fun _=>okF_d⟩
theorem getD_all {α:Type} {p:α→Prop} {d:α} (hd:p d):∀ {l:List α},(∀ x ∈ l,p x)→∀ k,p (l.getD k d)
  | [],_,k=>by simpa using hd
  | a :: r,h,0=>by simpa using h a (by simp)
  | a :: r,h,k+1=>by simpa using getD_all (p:=p) hd (l:=r) (fun x hx=>h x (by simp [hx])) k
def smallF (l:List FacR):Bool:=l.all (fun x=>decide (-9223372036854775808≤x.e) && decide (x.e≤9223372036854775807)) && decide (l.length≤1000)
theorem okr_G {n g:N4} {nm:Nat} {l:List FacR} (h:smallF l=true):OkR (recG n g nm l):=by
  simp only [smallF,Bool.and_eq_true,List.all_eq_true,decide_eq_true_eq] at h
  exact⟨fun _=>rfl,(show l.length≤_ by omega),getD_all okF_d fun x hx=>⟨(h.1 x hx).1,(h.1 x hx).2⟩⟩
theorem okl_G {nm:Nat} {l:List PrfR} (hl:l.length≤1000) (h:∀ x ∈ l,OkR x):OkL (lisG nm l):=⟨Nat.le_refl _,fun _=>rfl,(show l.length≤_ by omega),getD_all okr_d h⟩
theorem famR_G {n g:N4} {nm:Nat} {l:List FacR} {w:World} {X:Blk→Prop} (h:Holds ⟨nm,false,0,.lit (l.flatMap facC)⟩ w):∀ b,famR (recG n g nm l) b→X b∨(Holds b w∧b.own=false):=fun b hb=>by
  obtain⟨_,rfl⟩:=hb
  exact .inr ⟨h.recont (c:=tabA l.length fun k=>l.getD k dF) rfl (lit_tab facC (fun _=>rfl) (by decide) dF l),rfl⟩
theorem famR_d {X:Blk→Prop} (w:World):∀ b,famR dP b→X b∨(Holds b w∧b.own=false):=fun b hb=>absurd hb.1 (Nat.lt_irrefl 0)
theorem famL_G {nm:Nat} {l:List PrfR} {w:World} {X:Blk→Prop} (h:Holds ⟨nm,false,0,.lit (l.flatMap prfC)⟩ w) (ha:∀ x ∈ l,∀ b,famR x b→X b∨(Holds b w∧b.own=false)):∀ b,famL (lisG nm l) b→X b∨(Holds b w∧b.own=false):=fun b hb=>by
  rcases hb with ⟨_,rfl⟩ | ⟨k,_,hb⟩
  · exact .inr ⟨h.recont (c:=tabR l.length fun k=>l.getD k dP) rfl (lit_tab prfC (fun _=>rfl) (by decide) dP l),rfl⟩
  · exact getD_all (p:=fun x=>∀ b,famR x b→X b∨(Holds b w∧b.own=false)) (famR_d w) ha k b hb
def stepB (r:PrfR):Bool:=(decide (prodE r.wf r.wn=0) && (decide (r.n.val % 2=1) && decide (1 < r.n.val))) && (eq4 (prodV r.wf r.wn) (sub4 r.n (N4.mk 1 0 0 0)) && ordB r.n r.g (sub4 r.n (N4.mk 1 0 0 0)) r.wf r.wn)
theorem stepB_ok {r:PrfR} (h:stepB r=true):stepE r=0:=by
  simp only [stepB,Bool.and_eq_true,decide_eq_true_eq] at h
  obtain⟨⟨h1,h2,h3⟩,h4,h5⟩:=h
  exact step_ok (by rw [h1]; rfl) ⟨h2,h3⟩ (by rw [h4]; rfl) (by rw [h5]; rfl)
def chkB (f:Nat→PrfR):Nat→Bool
  | 0=>true
  | i+1=>chkB f i && (facIn (knF f i) (f i).wf (f i).wn && stepB (f i))
theorem chkB_ok {f:Nat→PrfR}:∀ {n:Nat},chkB f n=true→chkF f n=0
  | 0,_=>rfl
  | n+1,h=>by
    simp only [chkB,Bool.and_eq_true] at h
    exact(chk_fac (chkB_ok h.1) rfl h.2.1).trans (stepB_ok h.2.2)
def prvB (q:PrfL) (n:N4):Bool:=decide (q.ln≤40) && (chkB q.lf q.ln && hasK (knF q.lf q.ln) n)
theorem prvB_ok {q:PrfL} {n:N4} (h:prvB q n=true):prvE q n=0:=by
  simp only [prvB,Bool.and_eq_true,decide_eq_true_eq] at h
  obtain⟨h1,h2,h3⟩:=h
  exact prv_yes (chk_end (by omega) (chkB_ok h2)) (by rw [h3]; rfl)
end Go.Eng
end
section
namespace Go.Eng
def inB (P a:N4):Bool:=selB (!(eq4 a (N4.mk 0 0 0 0))) (decide ((cmp4 a P) < 0)) false
def memB (P Q a:N4):Bool:=selB (inB P a) (eq4 (powM P a Q) (N4.mk 1 0 0 0)) false
structure GoodG (P Q G:N4):Prop where
  op:OddM P
  five:5≤P.val
  oq:OddM Q
  lt:Q.val < P.val
  ne:eq4 G (N4.mk 1 0 0 0)=false
  mem:memB P Q G=true
theorem inB_iff {P a:N4}:inB P a=true ↔ 0 < a.val∧a.val < P.val:=by
  unfold inB
  rw [selB_and,Bool.and_eq_true,decide_eq_true_eq,cmp4_val,Bool.not_eq_true',← Bool.not_eq_true,eq4_iff]
  constructor
  · rintro⟨h1,h2⟩
    refine⟨?_,h2⟩
    rcases Nat.eq_zero_or_pos a.val with h | h
    · exact absurd (N4.ext_val h) h1
    · exact h
  · rintro⟨h1,h2⟩
    refine⟨fun e=>?_,h2⟩
    rw [e] at h1
    exact absurd h1 (by decide)
theorem memB_iff {P Q a:N4} (h:OddM P):memB P Q a=true ↔ (0 < a.val∧a.val < P.val)∧a.val ^ Q.val % P.val=1:=by
  unfold memB
  rw [selB_and,Bool.and_eq_true,inB_iff,eq4_iff]
  have hv:=powM_val h a Q
  constructor
  · rintro⟨h1,h2⟩
    rw [h2] at hv
    exact⟨h1,hv.symm⟩
  · rintro⟨h1,h2⟩
    exact⟨h1,N4.ext_val (hv.trans h2)⟩
theorem GoodG.pow {P Q G:N4} (h:GoodG P Q G):G.val ^ Q.val % P.val=1:=((memB_iff h.op).1 h.mem).2
theorem pow_pos_mod {g P Q:Nat} (hP:1 < P) (hQ:0 < Q) (h:g ^ Q % P=1) (n:Nat):0 < g ^ n % P:=by
  rcases Nat.eq_zero_or_pos (g ^ n % P) with h0 | h0
  · exfalso
    have h1:(g ^ n) ^ Q % P=1:=by rw [← Nat.pow_mul,Nat.mul_comm,Nat.pow_mul,Nat.pow_mod,h,Nat.one_pow,Nat.mod_eq_of_lt hP]
    rw [Nat.pow_mod,h0,Nat.zero_pow hQ,Nat.zero_mod] at h1
    cases h1
  · exact h0
theorem base_mem {P Q G:N4} (h:GoodG P Q G) (n:N4):memB P Q (powM P G n)=true:=by
  rw [memB_iff h.op,powM_val h.op]
  have hP:=h.op.big
  have hQ:=h.oq.big
  refine⟨⟨pow_pos_mod hP (by omega) h.pow n.val,Nat.mod_lt _ (by omega)⟩,?_⟩
  rw [← Nat.pow_mod,← Nat.pow_mul,Nat.mul_comm,Nat.pow_mul,Nat.pow_mod,h.pow,Nat.one_pow,Nat.mod_eq_of_lt hP]
theorem pow_mod_ord {g P Q:Nat} (hP:1 < P) (h:g ^ Q % P=1) (n:Nat):g ^ (n % Q) % P=g ^ n % P:=by
  have e:=Nat.div_add_mod n Q
  have h1:=pow_mod_add (b:=n % Q) (pow_mod_mul hP h (n / Q))
  rw [e] at h1
  exact h1.symm
def mulL (P:N4) (l n:Nat→N4):Nat→N4
  | 0=>N4.mk 1 0 0 0
  | i+1=>timesM P (mulL P l n i) (powM P (l i) (n i))
def allM (P Q:N4) (l:Nat→N4):Nat→Bool
  | 0=>true
  | i+1=>selB (allM P Q l i) (memB P Q (l i)) false
def multiE (P Q:N4) (l:Nat→N4) (nl nn:Nat):Int:=if nl≠nn∨40 < nl then 1 else if allM P Q l nl=true then 0 else 22
def multiV (P Q:N4) (l n:Nat→N4) (nl nn:Nat):N4:=if nl≠nn∨40 < nl then N4.mk 0 0 0 0 else if allM P Q l nl=true then mulL P l n nl else N4.mk 0 0 0 0
theorem allM_lt {P Q:N4} {l:Nat→N4} {i n:Nat} (h:(!(memB P Q (l i)))=true) (hi:i < n):allM P Q l n=false:=by
  have h0:memB P Q (l i)=false:=by simpa using h
  have h1:allM P Q l (i+1)=false:=by rw [allM,h0]; cases allM P Q l i <;> rfl
  have:∀ d,allM P Q l (i+1+d)=false:=by
    intro d
    induction d with
    | zero=>exact h1
    | succ d ih=>rw [← Nat.add_assoc,allM,ih]; rfl
  have:=this (n - (i+1))
  rwa [show i+1+(n - (i+1))=n by omega] at this
theorem allM_step {P Q:N4} {l:Nat→N4} {i:Nat} (h1:allM P Q l i=true) (h:(!(memB P Q (l i)))=false):allM P Q l (i+1)=true:=by
  rw [allM,h1,show memB P Q (l i)=true by simpa using h]; rfl
theorem multi_arg {P Q:N4} {l n:Nat→N4} {nl nn:Nat} (h:nl≠nn∨40 < nl):multiV P Q l n nl nn=N4.mk 0 0 0 0∧multiE P Q l nl nn=1:=⟨if_pos h,if_pos h⟩
theorem multi_mem {P Q:N4} {l n:Nat→N4} {nl nn:Nat} (h:¬ (nl≠nn∨40 < nl)) (h2:allM P Q l nl=false):multiV P Q l n nl nn=N4.mk 0 0 0 0∧multiE P Q l nl nn=22:=by
  unfold multiV multiE; rw [if_neg h,if_neg h,if_neg (by rw [h2]; simp),if_neg (by rw [h2]; simp)]; exact⟨rfl,rfl⟩
theorem multi_ok {P Q:N4} {l n:Nat→N4} {nl nn:Nat} (h:¬ (nl≠nn∨40 < nl)) (h2:allM P Q l nl=true):multiV P Q l n nl nn=mulL P l n nl∧multiE P Q l nl nn=0:=by
  unfold multiV multiE; rw [if_neg h,if_neg h,if_pos h2,if_pos h2]; exact⟨rfl,rfl⟩
structure NumL where
  la:Option Addr
  ln:Nat
  lc:Nat
  lb:Nat
  lo:Nat
  lf:Nat→N4
def numB (q:NumL):Blk:=⟨q.lb,false,q.lo,tabN q.ln q.lf⟩
structure OkN (q:NumL):Prop where
  cap:q.ln≤q.lc
  ad:0 < q.ln→q.la=some ⟨q.lb,q.lo,none⟩
  len:q.ln≤9223372036854775807
def famN (q:NumL) (b:Blk):Prop:=0 < q.ln∧b=numB q
def fam2 (x y:NumL) (b:Blk):Prop:=famN x b∨famN y b
theorem fam2_x {x y:NumL} {i:Nat} (h:i < x.ln):fam2 x y (numB x):=.inl ⟨by omega,rfl⟩
theorem fam2_y {x y:NumL} {i:Nat} (h:i < y.ln):fam2 x y (numB y):=.inr ⟨by omega,rfl⟩
def num2 (nm:Nat) (a b:N4):NumL:=⟨some ⟨nm,0,none⟩,2,2,nm,0,nrow2 a b⟩
theorem okn_2 {nm:Nat} {a b:N4}:OkN (num2 nm a b):=⟨Nat.le_refl _,fun _=>rfl,by simp [num2]⟩
theorem famN_2 {nm:Nat} {a c:N4} {w:World} {X:Blk→Prop} (h:Holds ⟨nm,false,0,.lit [u64 a.a,u64 a.b,u64 a.c,u64 a.d,u64 c.a,u64 c.b,u64 c.c,u64 c.d]⟩ w):∀ b,famN (num2 nm a c) b→X b∨(Holds b w∧b.own=false):=fun b hb=>by
  obtain⟨_,rfl⟩:=hb
  exact .inr ⟨h.recont (c:=tabN 2 (nrow2 a c)) rfl (to_row2 a c),rfl⟩
theorem fam2_or {x y:NumL} {w:World} {X:Blk→Prop} (hx:∀ b,famN x b→X b∨(Holds b w∧b.own=false)) (hy:∀ b,famN y b→X b∨(Holds b w∧b.own=false)):∀ b,fam2 x y b→X b∨(Holds b w∧b.own=false):=fun b hb=>by
  rcases hb with hb | hb
  · exact hx b hb
  · exact hy b hb
theorem multi_cond {x y:NumL} (h:(selB (!(decide (x.ln=y.ln))) true (decide (40 < x.ln)))=false):¬ (x.ln≠y.ln∨40 < x.ln):=by
  simp [selB_or] at h; omega
theorem multi_cond_t {x y:NumL} (h:(selB (!(decide (x.ln=y.ln))) true (decide (40 < x.ln)))=true):x.ln≠y.ln∨40 < x.ln:=by
  simp [selB_or] at h; omega
theorem good_in {P Q G:N4} (h:GoodG P Q G):inB P G=true:=inB_iff.2 ((memB_iff h.op).1 h.mem).1
theorem good_five {P Q G:N4} (h:GoodG P Q G):(selB false true (decide ((cmp4 P (N4.mk 5 0 0 0)) < 0)))=false:=by
  show decide _=false
  rw [decide_eq_false_iff_not,cmp4_val]
  have h1:(N4.mk 5 0 0 0).val=5:=rfl
  have:=h.five
  omega
theorem good_lt {P Q G:N4} (h:GoodG P Q G):(selB false true (decide ((cmp4 Q P:Int) ≥ 0)))=false:=by
  show decide _=false
  rw [decide_eq_false_iff_not]
  have:=(cmp4_val Q P).2 h.lt
  omega
theorem good_mem {P Q G:N4} (h:GoodG P Q G):(selB (eq4 G (N4.mk 1 0 0 0)) true (!(memB P Q G)))=false:=by
  rw [h.ne,h.mem]; rfl
end Go.Eng
end
section
namespace Go.Eng
variable {P Q G a b n k:N4}
theorem one_v:(N4.mk 1 0 0 0).val=1:=rfl
theorem times_one (hP:OddM P) {x:N4} (hx:x.val < P.val):timesM P (N4.mk 1 0 0 0) x=x:=N4.ext_val (by
  rw [timesM_val hP,one_v,Nat.one_mul,Nat.mod_eq_of_lt hx])
theorem pow_one' (hP:OddM P) (hx:a.val < P.val):powM P a (N4.mk 1 0 0 0)=a:=N4.ext_val (by
  rw [powM_val hP,one_v,Nat.pow_one,Nat.mod_eq_of_lt hx])
theorem powM_lt (hP:OddM P):(powM P a n).val < P.val:=by rw [powM_val hP]; exact Nat.mod_lt _ hP.pos
theorem exp_ok (hP:OddM P) (h:memB P Q a=true):multiV P Q (nrow1 a) (nrow1 n) 1 1=powM P a n∧multiE P Q (nrow1 a) 1 1=0:=by
  have h0:allM P Q (nrow1 a) 1=true:=by show selB true (memB P Q a) false=true; rw [h]; rfl
  obtain⟨e1,e2⟩:=multi_ok (P:=P) (Q:=Q) (l:=nrow1 a) (n:=nrow1 n) (nl:=1) (nn:=1) (by decide) h0
  refine⟨e1.trans ?_,e2⟩
  show timesM P (N4.mk 1 0 0 0) (powM P a n)=_
  exact times_one hP (powM_lt hP)
theorem times_ok (hP:OddM P) (ha:memB P Q a=true) (hb:memB P Q b=true):multiV P Q (nrow2 a b) (nrow2 (N4.mk 1 0 0 0) (N4.mk 1 0 0 0)) 2 2=timesM P a b∧multiE P Q (nrow2 a b) 2 2=0:=by
  have h0:allM P Q (nrow2 a b) 2=true:=by show selB (selB true (memB P Q a) false) (memB P Q b) false=true; rw [ha,hb]; rfl
  obtain⟨e1,e2⟩:=multi_ok (P:=P) (Q:=Q) (l:=nrow2 a b) (n:=nrow2 (N4.mk 1 0 0 0) (N4.mk 1 0 0 0)) (nl:=2) (nn:=2) (by decide) h0
  refine⟨e1.trans ?_,e2⟩
  have h1:=((memB_iff hP).1 ha).1.2
  have h2:=((memB_iff hP).1 hb).1.2
  show timesM P (timesM P (N4.mk 1 0 0 0) (powM P a (N4.mk 1 0 0 0))) (powM P b (N4.mk 1 0 0 0))=_
  rw [pow_one' hP h1,pow_one' hP h2,times_one hP h1]
theorem base_sum (h:GoodG P Q G):powM P G (plusM Q n k)=timesM P (powM P G n) (powM P G k):=N4.ext_val (by
  rw [powM_val h.op,timesM_val h.op,powM_val h.op,powM_val h.op,plusM_val h.oq,pow_mod_ord h.op.big h.pow,Nat.pow_add,← Nat.mul_mod])
theorem base_prod (h:GoodG P Q G):powM P G (timesM Q n k)=powM P (powM P G n) k:=N4.ext_val (by
  rw [powM_val h.op,powM_val h.op,powM_val h.op,timesM_val h.oq,pow_mod_ord h.op.big h.pow,← Nat.pow_mod,Nat.pow_mul])
theorem base_q (h:GoodG P Q G):powM P G Q=N4.mk 1 0 0 0:=N4.ext_val (by rw [powM_val h.op,h.pow]; rfl)
theorem eq4_self' (x:N4):eq4 x x=true:=(eq4_iff x x).2 rfl
theorem sums_fin (h:GoodG P Q G):(selB (selB (selB (selB (selB (selB true ((multiE P Q (nrow2 (powM P G n) (powM P G k)) 2 2) == 0) false) ((multiE P Q (nrow1 (powM P G n)) 1 1) == 0) false) (eq4 (powM P G (plusM Q n k)) (multiV P Q (nrow2 (powM P G n) (powM P G k)) (nrow2 (N4.mk 1 0 0 0) (N4.mk 1 0 0 0)) 2 2)) false) (eq4 (powM P G (timesM Q n k)) (multiV P Q (nrow1 (powM P G n)) (nrow1 k) 1 1)) false) (memB P Q (powM P G n)) false) (eq4 (powM P G Q) (N4.mk 1 0 0 0)) false)=true:=by
  obtain⟨e1,e2⟩:=times_ok h.op (base_mem h n) (base_mem h k)
  obtain⟨e3,e4⟩:=exp_ok (n:=k) h.op (base_mem h n)
  rw [e1,e2,e3,e4,base_sum h,base_prod h,base_q h,base_mem h,eq4_self',eq4_self',eq4_self']
  rfl
end Go.Eng
end
section
namespace Go.Eng
theorem ord_unlike {P Q g:Nat} (hP:1 < P) (hQ:IsPr Q) (h1:g ^ Q % P=1) (hg:g % P≠1) {i j:Nat} (hij:i < j) (hj:j < Q):g ^ i % P≠g ^ j % P:=by
  obtain⟨t,⟨ht0,ht1⟩,htm⟩:=least (fun t=>0 < t∧g ^ t % P=1) Q ⟨by have:=hQ.1; omega,h1⟩
  have hdiv:∀ j,g ^ j % P=1→t∣j:=fun j hj=>by
    have e:=Nat.div_add_mod j t
    have hlt:=Nat.mod_lt j ht0
    rcases Nat.eq_zero_or_pos (j % t) with h0 | h0
    · exact Nat.dvd_of_mod_eq_zero h0
    · refine absurd ⟨h0,?_⟩ (htm (j % t) hlt)
      rw [← e,pow_mod_add (pow_mod_mul hP ht1 (j / t))] at hj
      exact hj
  have htQ:t=Q:=by
    rcases hQ.2 t (hdiv Q h1) with h | h
    · rw [h,Nat.pow_one] at ht1; exact absurd ht1 hg
    · exact h
  intro e
  have h4:g ^ (Q - j+i) % P=1:=by
    rw [Nat.pow_add,Nat.mul_mod,e,← Nat.mul_mod,← Nat.pow_add,show Q - j+j=Q by omega]; exact h1
  have:=Nat.le_of_dvd (by omega) (hdiv _ h4)
  omega
end Go.Eng
namespace Go.Eng
open Go.RowKit Go.WideShapes Go.ChangeShapes Go.ChangeAt Go.Deep
section
variable {H:Type} {enc:TypeId × Value→H} {P:Program}
theorem open_nums {r : Reach} {b0 : Nat} {W : World} {base : Nat} {sp : Nat → Bool} {held : Bool} {t e u : TypeId} {v : Value} {d : DataW H} {ps : List MemPlace} (ht : P.underlying t = some (.slice e)) (he : P.underlying e = some (.array 4 u)) (hu : P.underlying u = some (.int .u64))
    (hcu:P.cellsOf u=1) (hc:P.cellsOf e=4) (hval:Value.okWide P W r b0 t v) (hd:DataW.Trod enc P W base sp held t v d ps) :
    ∃ q:NumL,v = .slice q.la q.ln q.lc∧OkN q∧∀ b,famN q b→Holds b W∧b.own=false:=by
  obtain⟨a1,len,cap,rfl⟩:=okWide_slice ht hval
  obtain⟨fuel,hf⟩:=hd
  obtain⟨wa,wn,wc,wb,wo,wf,h1,h2,h3,h4⟩:=slice_cellE cellsN (fun _=>rfl) (by decide) ht hc (fun n cs x hl h=>nat4_of_row he hu hcu hl h) (c:=.slice a1 len cap) hf
  refine⟨⟨wa,wn,wc,wb,wo,wf⟩,h1,⟨h2.2,h3,h2.1⟩,fun b hb=>?_⟩
  obtain⟨hb1,rfl⟩:=hb
  exact⟨h4 hb1,rfl⟩
end
end Go.Eng
end
section
namespace Go.Eng
open Go.RowKit Go.WideShapes Go.ChangeShapes Go.ChangeAt Go.Deep
def ownN (nm n c:Nat) (f:Nat→N4):NumL:=⟨some ⟨nm,0,none⟩,n,c,nm,0,f⟩
theorem okn_own {nm n c:Nat} {f:Nat→N4} (h1:n≤c) (h2:n≤9223372036854775807):OkN (ownN nm n c f):=⟨h1,fun _=>rfl,h2⟩
theorem hold_own {nm n c:Nat} {f:Nat→N4} {w:World} (h:Holds ⟨nm,false,0,tabN n f⟩ w):FamH (famN (ownN nm n c f)) w:=fun b hb=>by
  obtain⟨_,rfl⟩:=hb
  exact⟨h,rfl⟩
theorem hold_two {x y:NumL} {w:World} (hx:FamH (famN x) w) (hy:FamH (famN y) w):FamH (fam2 x y) w:=fun b hb=>by
  rcases hb with hb | hb
  · exact hx b hb
  · exact hy b hb
def prodG (f:Nat→Nat):Nat→Nat
  | 0=>1
  | k+1=>prodG f k*f k
theorem prodG_congr {f g:Nat→Nat}:∀ {n:Nat},(∀ i,i < n→f i=g i)→prodG f n=prodG g n
  | 0,_=>rfl
  | n+1,h=>by rw [prodG,prodG,prodG_congr (fun i hi=>h i (by omega)),h n (by omega)]
theorem mulL_val {P:N4} (hP:OddM P) {l n:Nat→N4}:∀ k,(mulL P l n k).val=prodG (fun i=>(l i).val ^ (n i).val) k % P.val
  | 0=>by show(N4.mk 1 0 0 0).val=1 % P.val; rw [Nat.mod_eq_of_lt hP.big]; rfl
  | k+1=>by
    rw [mulL,timesM_val hP,mulL_val hP k,powM_val hP,← Nat.mul_mod]; rfl
theorem allM_iff {P Q:N4} {l:Nat→N4}:∀ {n:Nat},allM P Q l n=true ↔ ∀ i,i < n→memB P Q (l i)=true
  | 0=>⟨fun _ i hi=>absurd hi (by omega),fun _=>rfl⟩
  | n+1=>by
    rw [allM,selB_and,Bool.and_eq_true,allM_iff (n:=n)]
    constructor
    · rintro⟨h1,h2⟩ i hi
      rcases(show i < n∨i=n by omega) with h | rfl
      · exact h1 i h
      · exact h2
    · intro h
      exact⟨fun i hi=>h i (by omega),h n (by omega)⟩
end Go.Eng
end
section
namespace Go.Eng
section
variable {P:Program} {t e t':TypeId} {x y z:Operand}
end
section
variable {P:Program} {t ty e:TypeId}
end
end Go.Eng
namespace Go.Eng
end Go.Eng
namespace Go.Eng
theorem listMem_app {a b:List (Option Blk)} {p:Nat} {x:Blk} (h:listMem (a ++ b) p=some x):(p < a.length∧listMem a p=some x)∨(a.length≤p∧listMem b (p - a.length)=some x):=by
  unfold listMem at h ⊢
  by_cases hp:p < a.length
  · left; rw [List.getElem?_append_left hp] at h; exact⟨hp,h⟩
  · right; rw [List.getElem?_append_right (by omega)] at h; exact⟨by omega,h⟩
theorem listMem_left {a b:List (Option Blk)} {p:Nat} (hp:p < a.length):listMem (a ++ b) p=listMem a p:=by
  unfold listMem; rw [List.getElem?_append_left hp]
theorem listMem_right {a b:List (Option Blk)} {p:Nat} (hp:a.length≤p):listMem (a ++ b) p=listMem b (p - a.length):=by
  unfold listMem; rw [List.getElem?_append_right hp]
theorem noneL_length:∀ cs:List Blk,(noneL cs).length=cs.length
  | []=>rfl
  | _ :: r=>congrArg (·+1) (noneL_length r)
theorem RunsF.lendG {F F' : Blk → Prop} {P : Program} {f : FuncId} {args : List Value} {bs cs : List Blk} {k : Nat} {v : List Nat → Value} {o nw : List Nat → List (Option Blk)} (h : RunsF F P f args bs k v (fun ns => o ns ++ nw ns)) (ho : ∀ ns, (o ns).length = bs.length)
    (hF:∀ w:World,FamH F' w→(∀ b ∈ cs,Holds b w)→FamH F w) (hn:∀ x,F x→∀ j,x.has j→(∃ y,F' y∧y.has j)∨∃ c ∈ cs,c.has j) (hc:∀ b ∈ cs,b.own=false) :
    RunsF F' P f args (bs ++ cs) k v (fun ns=>o ns ++ (noneL cs ++ nw ns)):=by
  intro w hm ha hF'
  have hsub:∀ p b,listMem (bs.map some) p=some b→p < bs.length∧listMem ((bs ++ cs).map some) p=some b:=fun p b hp=>by
    have hl:p < bs.length:=by
      have:=(List.getElem?_eq_some_iff.1 (listMem_some.1 hp)).1
      simpa using this
    exact⟨hl,by rw [List.map_append,listMem_left (by simpa using hl)]; exact hp⟩
  have ho1:∀ k,Owns (listMem (bs.map some)) k→Owns (listMem ((bs ++ cs).map some)) k:=fun k ⟨p,b,h1,h2,h3⟩=>⟨p,b,(hsub p b h1).2,h2,h3⟩
  have hw:=hF w (fun b hb'=>⟨(hF' b hb').1,(hF' b hb').2.1⟩) (fun b hb'=>hm b (by simp [hb']))
  refine Calls.mono (h w (fun b hb'=>hm b (by simp [hb'])) (fun p q b c hpq hpb hqc hown=>ha p q b c hpq (hsub p b hpb).2 (hsub q c hqc).2 hown) (fun b hFb=>⟨(hw b hFb).1,(hw b hFb).2,fun j hj ⟨p,b',h1,h2,h3⟩=>?_⟩)) ?_
  · obtain⟨hl,hp'⟩:=hsub p b' h1
    rcases hn b hFb j hj with ⟨y,hy,he⟩ | ⟨c,hcm,he⟩
    · exact(hF' y hy).2.2 j he ⟨p,b',hp',h2,h3⟩
    · obtain⟨i,hi⟩:=List.getElem?_of_mem hcm
      have hq:listMem ((bs ++ cs).map some) (bs.length+i)=some c:=by
        rw [List.map_append,listMem_right (by simp)]
        simp [listMem,hi]
      exact ha p (bs.length+i) b' c (by omega) hp' hq h2 j h3 he
  · rintro e w' ⟨ns,hns,he,hp⟩
    have hout:∀ p b,listMem (o ns ++ (noneL cs ++ nw ns)) p=some b→(p < bs.length∧listMem (o ns ++ nw ns) p=some b)∨(bs.length+cs.length≤p∧listMem (o ns ++ nw ns) (p - cs.length)=some b):=fun p b hpb=>by
      rcases listMem_app hpb with ⟨h1,h2⟩ | ⟨h1,h2⟩
      · left; rw [ho] at h1; exact⟨h1,by rw [listMem_left (by rw [ho]; exact h1)]; exact h2⟩
      · rw [ho] at h1 h2
        rcases listMem_app h2 with ⟨h3,h4⟩ | ⟨h3,h4⟩
        · exact absurd h4 (noneL_get _ _ _)
        · right
          rw [noneL_length] at h3 h4
          refine⟨by omega,?_⟩
          rw [listMem_right (by rw [ho]; omega),ho,show p - cs.length - bs.length=p - bs.length - cs.length by omega]; exact h4
    have hpos:∀ p b,listMem (o ns ++ (noneL cs ++ nw ns)) p=some b→∃ p',listMem (o ns ++ nw ns) p'=some b∧((p < bs.length∧p'=p)∨(bs.length+cs.length≤p∧p'=p - cs.length)):=fun p b hpb=>by
      rcases hout p b hpb with ⟨h1,h2⟩ | ⟨h1,h2⟩
      · exact⟨p,h2,.inl ⟨h1,rfl⟩⟩
      · exact⟨p - cs.length,h2,.inr ⟨h1,rfl⟩⟩
    refine⟨ns,hns,he,⟨fun p b hpb=>?_,fun p q b c hpq hpb hqc=>?_,⟨hp.adv.os,hp.adv.output,hp.adv.tape,hp.adv.size,fun k hk hno=>hp.adv.heap k hk (fun hk'=>hno (ho1 k hk')),fun k ⟨p,b,h1,h2,h3⟩=>?_,fun p b hpb hob=>?_⟩⟩⟩
    · obtain⟨p',h1,_⟩:=hpos p b hpb; exact hp.holds p' b h1
    · obtain⟨p',h1,h2⟩:=hpos p b hpb
      obtain⟨q',h3,h4⟩:=hpos q c hqc
      exact hp.apart p' q' b c (by omega) h1 h3
    · obtain⟨p',h4,_⟩:=hpos p b h1
      rcases hp.adv.names k ⟨p',b,h4,h2,h3⟩ with h5 | h5
      · exact .inl (ho1 k h5)
      · exact .inr h5
    · obtain⟨p',h1,h2⟩:=hpos p b hpb
      have h3:=hp.adv.ro p' b h1 hob
      obtain⟨h4,h5⟩:=hsub p' b h3
      rcases h2 with ⟨_,rfl⟩ | ⟨h6,rfl⟩
      · exact h5
      · omega
end Go.Eng
namespace Go.Eng
theorem Runs.fam {F:Blk→Prop} {P:Program} {f:FuncId} {args:List Value} {B:Blk} {v:Value} {o:List (Option Blk)} (h:Runs P f args [B] 0 (fun _=>v) (fun _=>o)) (hB:F B):RunsF F P f args [] 0 (fun _=>v) (fun _=>[]):=by
  intro w hm ha hF
  obtain⟨h1,h2,_⟩:=hF B hB
  have hno:∀ k,¬ Owns (listMem ([B].map some)) k:=fun k ⟨p,b,hp,ho,_⟩=>by
    rcases p with _ | p
    · cases hp; rw [h2] at ho; cases ho
    · simp [listMem] at hp
  refine Calls.mono (h w (fun b hb=>by simp at hb; subst hb; exact h1) (fun p q b c _ hb _ ho=>by
    rcases p with _ | p
    · cases hb; rw [h2] at ho; cases ho
    · simp [listMem] at hb)) ?_
  rintro e w' ⟨ns,hns,he,hp⟩
  have hnil:∀ p b,listMem ([]:List (Option Blk)) p≠some b:=fun p b=>by simp [listMem]
  exact⟨ns,hns,he,⟨fun p b hpb=>absurd hpb (hnil p b),fun p q b c _ hpb=>absurd hpb (hnil p b),⟨hp.adv.os,hp.adv.output,hp.adv.tape,hp.adv.size,fun k hk _=>hp.adv.heap k hk (hno k),fun k ⟨p,b,hpb,_⟩=>absurd hpb (hnil p b),fun p b hpb=>absurd hpb (hnil p b)⟩⟩⟩
section
variable {P:Program} {t e t':TypeId} {x y z:Operand}
end
section
variable {P:Program} {t t':TypeId} {x y:Operand} (a b:UInt8)
end
end Go.Eng
namespace Go.Eng
theorem Runs.famN {F:Blk→Prop} {P:Program} {f:FuncId} {args:List Value} {B:Blk} {k:Nat} {v:List Nat→Value} {x:List Nat→Option Blk} {nw:List Nat→List (Option Blk)} (h:Runs P f args [B] k v (fun ns=>x ns :: nw ns)) (hB:F B):RunsF F P f args [] k v nw:=by
  intro w hm ha hF
  obtain⟨h1,h2,_⟩:=hF B hB
  have hno:∀ k,¬ Owns (listMem ([B].map some)) k:=fun k ⟨p,b,hp,ho,_⟩=>by
    rcases p with _ | p
    · cases hp; rw [h2] at ho; cases ho
    · simp [listMem] at hp
  refine Calls.mono (h w (fun b hb=>by simp at hb; subst hb; exact h1) (fun p q b c _ hb _ ho=>by
    rcases p with _ | p
    · cases hb; rw [h2] at ho; cases ho
    · simp [listMem] at hb)) ?_
  rintro e w' ⟨ns,hns,he,hp⟩
  have hs:∀ p b,listMem (nw ns) p=some b→listMem (x ns :: nw ns) (p+1)=some b:=fun p b h=>by simpa [listMem] using h
  refine⟨ns,hns,he,⟨fun p b hpb=>hp.holds _ b (hs p b hpb),fun p q b c hpq hpb hqc=>hp.apart _ _ b c (by omega) (hs p b hpb) (hs q c hqc),⟨hp.adv.os,hp.adv.output,hp.adv.tape,hp.adv.size,fun k hk _=>hp.adv.heap k hk (hno k),fun k ⟨p,b,hpb,h3,h4⟩=>?_,fun p b hpb hob=>?_⟩⟩⟩
  · rcases hp.adv.names k ⟨p+1,b,hs p b hpb,h3,h4⟩ with h5 | h5
    · exact absurd h5 (hno k)
    · exact .inr h5
  · have:=hp.adv.ro (p+1) b (hs p b hpb) hob
    simp [listMem] at this
end Go.Eng
namespace Go.Eng
end Go.Eng
namespace Go.Eng
section
variable {P:Program} {t t':TypeId} {x y:Operand}
end
end Go.Eng
namespace Go.Eng
end Go.Eng
namespace Go.Eng
theorem RunsF.drop {F:Blk→Prop} {P:Program} {f:FuncId} {args:List Value} {bs:List Blk} {k:Nat} {v:List Nat→Value} {o nw:List Nat→List (Option Blk)} (h:RunsF F P f args bs k v (fun ns=>o ns ++ nw ns)):RunsF F P f args bs k v o:=fun w hb ha hF =>
  Calls.mono (h w hb ha hF) fun e w' ⟨ns,h1,h2,hp⟩=>by
    have hs:∀ p b,listMem (o ns) p=some b→listMem (o ns ++ nw ns) p=some b:=fun p b h=>by
      have hl:p < (o ns).length:=(List.getElem?_eq_some_iff.1 (show(o ns)[p]? = some (some b) by
        unfold listMem at h
        cases h3:(o ns)[p]? with
        | none=>rw [h3] at h; cases h
        | some x=>rw [h3] at h; simp at h; rw [h])).1
      rw [listMem_left hl]; exact h
    exact⟨ns,h1,h2,⟨fun p b h=>hp.holds p b (hs p b h),fun p q b c hpq hb hc=>hp.apart p q b c hpq (hs p b hb) (hs q c hc),hp.adv.weak hs⟩⟩
end Go.Eng
end
section
namespace Go.Eng
structure Grw (α:Type) where
  z:Bool
  nm:Nat
  n:Nat
  r:Nat
  f:Nat→α
section
variable {α:Type} {K:α→Value} {zv:Value} {A:Grw α}
end
section
variable {P:Program} {t ty e:TypeId}
theorem srun_append_none {sz : Nat} (ht : P.underlying t = some (.slice e)) (hs : sizeB P e = some sz) (a : Option Addr) (n c : Nat) (hn : n ≤ c) (al : Option Addr) (cl : Nat) :
    SRuns P (appendSem t ty (.slice a n c) (.slice al 0 cl)) [] 0 (fun _=>.slice a n c) (fun _=>[]):=by
  intro w hall ha
  obtain⟨i,hi,hi2⟩:∃ i,P.info? e=some i∧i.size=sz:=by
    unfold sizeB at hs
    cases h:P.info? e with
    | none=>simp [h] at hs
    | some i=>simp [h] at hs; exact⟨i,rfl,hs⟩
  refine⟨[],w,rfl,.inl (run_value ?_),Post.refl (fun p c h=>by cases h) ha⟩
  have hn':¬ c < n:=by omega
  cases al <;> cases a <;> simp [Builtin.append_,run_underlying ht,sizeOf,typeInfo,hi,hn',Builtin.lenOf,Builtin.firstCells,storeCells,loadCells,loadCellsFrom]
end
end Go.Eng
namespace Go.Eng
theorem srun_append_noneM {P : Program} {t ty e : TypeId} {sz : Nat} (ht : P.underlying t = some (.slice e)) (hs : sizeB P e = some sz) (a : Option Addr) (n c : Nat) (hn : n ≤ c) (al : Option Addr) (m cl : Nat) (hm : m = 0) :
    SRuns P (appendSem t ty (.slice a n c) (.slice al m cl)) [] 0 (fun _=>.slice a n c) (fun _=>[]):=by
  subst hm; exact srun_append_none ht hs a n c hn al cl
section
variable {P:Program} {t ty e:TypeId}
end
end Go.Eng
end
section
namespace Go.Eng
theorem Post.conv {m m' n n' : Nat → Option Blk} {w w' : World} (hp : Post m w m' w') (h0 : ∀ k, Owns m k → Owns n k) (π : Nat → Nat)
    (hπ:∀ p q b c,n' p=some b→n' q=some c→π p=π q→p=q)
    (h2:∀ p b,n' p=some b→b.own=true∧∃ b',m' (π p)=some b'∧(∀ k,b.has k→b'.has k)∧b'.own=true∧∀ w,Holds b' w→Holds b w):Post n w n' w' where
  holds p b hb:=by obtain⟨_,b',h3,_,_,h6⟩:=h2 p b hb; exact h6 _ (hp.holds _ _ h3)
  apart p q b c hpq hb hc ho:=by
    obtain⟨_,b',h3,h4,h5,_⟩:=h2 p b hb
    obtain⟨_,c',k3,k4,k5,_⟩:=h2 q c hc
    exact fun k l1 l2=>hp.apart _ _ b' c' (fun e=>hpq (hπ p q b c hb hc e)) h3 k3 h5 k (h4 k l1) (k4 k l2)
  adv := ⟨hp.adv.os, hp.adv.output, hp.adv.tape, hp.adv.size, fun k hk hn => hp.adv.heap k hk fun ho => hn (h0 k ho), fun k ⟨p, b, hb, ho, hk⟩ => by
      obtain⟨_,b',h3,h4,h5,_⟩:=h2 p b hb
      rcases hp.adv.names k ⟨π p,b',h3,h5,h4 k hk⟩ with h6 | h6
      · exact .inl (h0 k h6)
      · exact .inr h6,fun p b hb ho=>by
      have:=(h2 p b hb).1
      rw [ho] at this; cases this⟩
structure Suf (bs bs':List (Option Blk)) (ρ:Nat→Nat):Prop where
  inj:∀ p q b c,listMem bs p=some b→listMem bs q=some c→ρ p=ρ q→p=q
  sub:∀ p b,listMem bs p=some b→∃ b',listMem bs' (ρ p)=some b'∧(∀ k,b.has k→b'.has k)∧b'.own=b.own∧∀ w,Holds b' w→Holds b w
theorem Suf.owns {bs bs':List (Option Blk)} {ρ:Nat→Nat} (h:Suf bs bs' ρ) (k:Nat):Owns (listMem bs) k→Owns (listMem bs') k:=fun⟨p,b,hb,ho,hk⟩=>by
  obtain⟨b',h1,h2,h3,_⟩:=h.sub p b hb
  exact⟨ρ p,b',h1,by rw [h3,ho],h2 k hk⟩
theorem Suf.holds {bs bs':List (Option Blk)} {ρ:Nat→Nat} (h:Suf bs bs' ρ) {w:World} (hm:∀ p b,listMem bs' p=some b→Holds b w):∀ p b,listMem bs p=some b→Holds b w:=fun p b hb=>by
  obtain⟨b',h1,_,_,h4⟩:=h.sub p b hb
  exact h4 w (hm _ _ h1)
theorem Suf.apart {bs bs':List (Option Blk)} {ρ:Nat→Nat} (h:Suf bs bs' ρ) (ha:Apart (listMem bs')):Apart (listMem bs):=fun p q b c hpq hb hc ho=>by
  obtain⟨b',h1,h2,h3,_⟩:=h.sub p b hb
  obtain⟨c',k1,k2,k3,_⟩:=h.sub q c hc
  exact fun k l1 l2=>ha _ _ b' c' (fun e=>hpq (h.inj p q b c hb hc e)) h1 k1 (by rw [h3,ho]) k (h2 k l1) (k2 k l2)
theorem Suf.fam {F:Blk→Prop} {bs bs':List (Option Blk)} {ρ:Nat→Nat} (h:Suf bs bs' ρ) {w:World} (hF:Fam F (listMem bs') w):Fam F (listMem bs) w:=fun b hb=>by
  obtain⟨h1,h2,h3⟩:=hF b hb
  exact⟨h1,h2,fun k hk ho=>h3 k hk (h.owns _ ho)⟩
def Leaves (out out':List (Option Blk)) (π:Nat→Nat):Prop :=
  (∀ p q b c,listMem out' p=some b→listMem out' q=some c→π p=π q→p=q) ∧
  ∀ p b,listMem out' p=some b→b.own=true∧∃ b',listMem out (π p)=some b'∧(∀ k,b.has k→b'.has k)∧b'.own=true∧∀ w,Holds b' w→Holds b w
theorem RunsO.conv {F : Blk → Prop} {P : Program} {f : FuncId} {args : List Value} {bs bs' : List (Option Blk)} {k k' : Nat} {v v' : List Nat → Value} {out out' : List Nat → List (Option Blk)} (h : RunsO F P f args bs k v out)
    (ρ:Nat→Nat) (h1:Suf bs bs' ρ) (π:Nat→Nat) (σ:List Nat→List Nat) (hσ:∀ ns,ns.length=k→(σ ns).length=k'∧v' (σ ns)=v ns∧Leaves (out ns) (out' (σ ns)) π):RunsO F P f args bs' k' v' out':=by
  intro w hm ha hF
  refine Calls.mono (h w (h1.holds hm) (h1.apart ha) (h1.fam hF)) ?_
  rintro e w' ⟨ns,hns,he,hp⟩
  obtain⟨h3,h4,h5,h6⟩:=hσ ns hns
  exact⟨σ ns,h3,by rw [h4,he],hp.conv h1.owns π h5 h6⟩
theorem SRunsO.conv {P : Program} {s : Sem Next} {bs bs' : List (Option Blk)} {k k' : Nat} {v v' : List Nat → Value} {out out' : List Nat → List (Option Blk)} (h : SRunsO P s bs k v out)
    (ρ:Nat→Nat) (h1:Suf bs bs' ρ) (π:Nat→Nat) (σ:List Nat→List Nat) (hσ:∀ ns,ns.length=k→(σ ns).length=k'∧v' (σ ns)=v ns∧Leaves (out ns) (out' (σ ns)) π):SRunsO P s bs' k' v' out':=by
  intro w hm ha
  obtain⟨ns,w',hns,he,hp⟩:=h w (h1.holds hm) (h1.apart ha)
  obtain⟨h3,h4,h5,h6⟩:=hσ ns hns
  exact⟨σ ns,w',h3,by rw [h4]; exact he,hp.conv h1.owns π h5 h6⟩
theorem RunsF.toO {F:Blk→Prop} {P:Program} {f:FuncId} {args:List Value} {bs:List Blk} {k:Nat} {v:List Nat→Value} {out:List Nat→List (Option Blk)} (h:RunsF F P f args bs k v out):RunsO F P f args (bs.map some) k v out :=
  fun w hm ha hF=>h w (fun b hb=>by obtain⟨i,hi⟩:=List.getElem?_of_mem hb; exact hm i b (listMem_some.2 hi)) ha hF
theorem Runs.toO {F:Blk→Prop} {P:Program} {f:FuncId} {args:List Value} {bs:List Blk} {k:Nat} {v:List Nat→Value} {out:List Nat→List (Option Blk)} (h:Runs P f args bs k v out):RunsO F P f args (bs.map some) k v out:=h.toF.toO
theorem SRuns.toO {P:Program} {s:Sem Next} {bs:List Blk} {k:Nat} {v:List Nat→Value} {out:List Nat→List (Option Blk)} (h:SRuns P s bs k v out):SRunsO P s (bs.map some) k v out :=
  fun w hm ha=>h w (fun b hb=>by obtain⟨i,hi⟩:=List.getElem?_of_mem hb; exact hm i b (listMem_some.2 hi)) ha
theorem RunsO.toF {F:Blk→Prop} {P:Program} {f:FuncId} {args:List Value} {bs:List Blk} {k:Nat} {v:List Nat→Value} {out:List Nat→List (Option Blk)} (h:RunsO F P f args (bs.map some) k v out):RunsF F P f args bs k v out :=
  fun w hm ha hF=>h w (fun i b hb=>hm b (List.mem_of_getElem? (listMem_some.1 hb))) ha hF
theorem lm0 {o:Option Blk} {r:List (Option Blk)}:listMem (o :: r) 0=o:=rfl
theorem lm1 {o:Option Blk} {r:List (Option Blk)} (p:Nat):listMem (o :: r) (p+1)=listMem r p:=by simp [listMem]
theorem lmN (p:Nat):listMem ([]:List (Option Blk)) p=none:=by simp [listMem]
inductive Sub:List (Option Blk)→List (Option Blk)→Prop where
  | zz (l:List (Option Blk)):Sub [] l
  | dr {l l':List (Option Blk)} (o:Option Blk):Sub l l'→Sub (none :: l) (o :: l')
  | kp {l l':List (Option Blk)} (b b':Blk) (h:(∀ k,b.has k→b'.has k)∧b'.own=b.own∧∀ w,Holds b' w→Holds b w):Sub l l'→Sub (some b :: l) (some b' :: l')
  | gp {l l':List (Option Blk)} (o:Option Blk):Sub l l'→Sub l (o :: l')
  | dn {l l':List (Option Blk)}:Sub l l'→Sub (none :: l) l'
theorem Sub.at {l l':List (Option Blk)} (h:Sub l l'):∃ ρ,Suf l l' ρ:=by
  induction h with
  | zz l=>exact⟨id,⟨fun p q b c hb=>(by rw [lmN] at hb; cases hb),fun p b hb=>(by rw [lmN] at hb; cases hb)⟩⟩
  | @dr l l' o _ ih =>
    obtain⟨ρ,h1,h2⟩:=ih
    refine⟨fun p=>match p with | 0=>0 | p+1=>ρ p+1,⟨fun p q b c hb hc e=>?_,fun p b hb=>?_⟩⟩
    · cases p with
      | zero=>cases hb
      | succ p=>cases q with
        | zero=>cases hc
        | succ q=>rw [lm1] at hb hc; simp only at e; have:=h1 p q b c hb hc (by omega); omega
    · cases p with
      | zero=>cases hb
      | succ p=>rw [lm1] at hb; simp only [lm1]; exact h2 p b hb
  | @kp l l' b0 b0' h0 _ ih =>
    obtain⟨ρ,h1,h2⟩:=ih
    refine⟨fun p=>match p with | 0=>0 | p+1=>ρ p+1,⟨fun p q b c hb hc e=>?_,fun p b hb=>?_⟩⟩
    · cases p with
      | zero=>cases q with
        | zero=>rfl
        | succ q=>simp only at e; omega
      | succ p=>cases q with
        | zero=>simp only at e; omega
        | succ q=>rw [lm1] at hb hc; simp only at e; have:=h1 p q b c hb hc (by omega); omega
    · cases p with
      | zero=>rw [lm0] at hb; injection hb with hb; subst hb; exact⟨b0',rfl,h0⟩
      | succ p=>rw [lm1] at hb; simp only [lm1]; exact h2 p b hb
  | dn _ ih =>
    obtain⟨ρ,h1,h2⟩:=ih
    refine⟨fun p=>match p with | 0=>0 | p+1=>ρ p,⟨fun p q b c hb hc e=>?_,fun p b hb=>?_⟩⟩
    · cases p with
      | zero=>cases hb
      | succ p=>cases q with
        | zero=>cases hc
        | succ q=>rw [lm1] at hb hc; simp only at e; have:=h1 p q b c hb hc e; omega
    · cases p with
      | zero=>cases hb
      | succ p=>rw [lm1] at hb; simp only; exact h2 p b hb
  | gp _ _ ih =>
    obtain⟨ρ,h1,h2⟩:=ih
    exact⟨fun p=>ρ p+1,⟨fun p q b c hb hc e=>h1 p q b c hb hc (by omega),fun p b hb=>by simp only [lm1]; exact h2 p b hb⟩⟩
def ownL:List (Option Blk)→Prop
  | []=>True
  | none :: r=>ownL r
  | some b :: r=>b.own=true∧ownL r
theorem ownL_at:∀ {l:List (Option Blk)},ownL l→∀ p b,listMem l p=some b→b.own=true
  | [],_,p,b,hb=>by rw [lmN] at hb; cases hb
  | none :: r,h,0,b,hb=>by cases hb
  | some c :: r,h,0,b,hb=>by rw [lm0] at hb; injection hb with hb; subst hb; exact h.1
  | none :: r,h,p+1,b,hb=>by rw [lm1] at hb; exact ownL_at (l:=r) h p b hb
  | some c :: r,h,p+1,b,hb=>by rw [lm1] at hb; exact ownL_at h.2 p b hb
theorem Sub.leaves {l l':List (Option Blk)} (h:Sub l' l) (ho:ownL l'):∃ π,Leaves l l' π:=by
  obtain⟨ρ,h1,h2⟩:=h.at
  refine⟨ρ,h1,fun p b hb=>?_⟩
  have hown:=ownL_at ho p b hb
  obtain⟨b',k1,k2,k3,k4⟩:=h2 p b hb
  exact⟨hown,b',k1,k2,by rw [k3,hown],k4⟩
theorem RunsO.as {F : Blk → Prop} {P : Program} {f : FuncId} {args : List Value} {bs bs' : List (Option Blk)} {k k' : Nat} {v v' : List Nat → Value} {out out' : List Nat → List (Option Blk)} (h : RunsO F P f args bs k v out)
    (h1:Sub bs bs') (σ:List Nat→List Nat) (hσ:∀ ns,ns.length=k→(σ ns).length=k'∧v' (σ ns)=v ns∧Sub (out' (σ ns)) (out ns)∧ownL (out' (σ ns))):RunsO F P f args bs' k' v' out':=by
  obtain⟨ρ,hρ⟩:=h1.at
  intro w hm ha hF
  refine Calls.mono (h w (hρ.holds hm) (hρ.apart ha) (hρ.fam hF)) ?_
  rintro e w' ⟨ns,hns,he,hp⟩
  obtain⟨h3,h4,h5,h6⟩:=hσ ns hns
  obtain⟨π,h7,h8⟩:=h5.leaves h6
  exact⟨σ ns,h3,by rw [h4,he],hp.conv hρ.owns π h7 h8⟩
theorem SRunsO.as {P : Program} {s : Sem Next} {bs bs' : List (Option Blk)} {k k' : Nat} {v v' : List Nat → Value} {out out' : List Nat → List (Option Blk)} (h : SRunsO P s bs k v out)
    (h1:Sub bs bs') (σ:List Nat→List Nat) (hσ:∀ ns,ns.length=k→(σ ns).length=k'∧v' (σ ns)=v ns∧Sub (out' (σ ns)) (out ns)∧ownL (out' (σ ns))):SRunsO P s bs' k' v' out':=by
  obtain⟨ρ,hρ⟩:=h1.at
  intro w hm ha
  obtain⟨ns,w',hns,he,hp⟩:=h w (hρ.holds hm) (hρ.apart ha)
  obtain⟨h3,h4,h5,h6⟩:=hσ ns hns
  obtain⟨π,h7,h8⟩:=h5.leaves h6
  exact⟨σ ns,w',h3,by rw [h4]; exact he,hp.conv hρ.owns π h7 h8⟩
theorem Sub.refl:∀ (l:List (Option Blk)),Sub l l
  | []=>.zz _
  | none :: r=>.dr _ (Sub.refl r)
  | some b :: r=>.kp b b ⟨fun _ h=>h,rfl,fun _ h=>h⟩ (Sub.refl r)
theorem Sub.cons {l l':List (Option Blk)} (o:Option Blk) (h:Sub l l'):Sub (o :: l) (o :: l'):=match o with
  | none=>.dr _ h
  | some b=>.kp b b ⟨fun _ h=>h,rfl,fun _ h=>h⟩ h
theorem RunsO.mono {F F':Blk→Prop} {P:Program} {f:FuncId} {args:List Value} {bs:List (Option Blk)} {k:Nat} {v:List Nat→Value} {out:List Nat→List (Option Blk)} (hs:∀ b,F b→F' b) (h:RunsO F P f args bs k v out):RunsO F' P f args bs k v out :=
  fun w hm ha hF=>h w hm ha fun b hb=>hF b (hs b hb)
theorem RunsO.frame {F : Blk → Prop} {P : Program} {f : FuncId} {args : List Value} {bs : List (Option Blk)} {ps : List (Nat × Bool)} {k k' : Nat} {v v' : List Nat → Value} {out out' : List Nat → List (Option Blk)}
    (h:RunsO F P f args (lendO (listMem bs) ps) k v out) (hn:nodupPs ps=true) (σ:List Nat→List Nat)
    (hσ:∀ ns,ns.length=k→(σ ns).length=k'∧v' (σ ns)=v ns∧ps.length≤(out ns).length∧∀ p b,listMem (out' (σ ns)) p=some b→memApply (listMem bs) (outUpd ps bs.length (out ns)) p=some b):RunsO F P f args bs k' v' out':=by
  intro w hm ha hF
  refine Calls.mono (h w (lendO_holds hm) (lendO_apart ha hn) (fam_lendO hF)) ?_
  rintro e w' ⟨ns,hns,he,hp⟩
  obtain⟨h1,h2,h3,h4⟩:=hσ ns hns
  exact⟨σ ns,h1,by rw [h2,he],(post_frameO hm ha h3 hp).sub h4⟩
theorem RunsO.reads {F : Blk → Prop} {P : Program} {f : FuncId} {args : List Value} {bs : List (Option Blk)} (ps : List (Nat × Bool)) {k : Nat} {v0 : Value} {out : List Nat → List (Option Blk)}
    (h:RunsO F P f args (lendO (listMem bs) ps) 0 (fun _=>v0) out) (hn:nodupPs ps=true) (hr:ps.all (fun x=>x.2)=true):RunsO F P f args bs k (fun _=>v0) (fun _=>bs):=by
  have hout:∀ (qs:List (Nat × Bool)) (nx:Nat) (m:Nat),qs.all (fun x=>x.2)=true→outUpd qs nx (List.replicate qs.length none)=[]:=by
    intro qs
    induction qs with
    | nil=>intro nx m _; rfl
    | cons x r ih =>
      obtain⟨p,ro⟩:=x
      intro nx m hx
      simp only [List.all_cons,Bool.and_eq_true] at hx
      have:ro=true:=hx.1
      subst this
      simp only [List.length_cons,List.replicate_succ,outUpd]
      exact ih nx m hx.2
  have h':RunsO F P f args (lendO (listMem bs) ps) 0 (fun _=>v0) (fun _=>List.replicate ps.length none):=fun w hm ha hF=>Calls.mono (h w hm ha hF) fun e w' ⟨ns,h1,h2,h3⟩=>⟨ns,h1,h2,h3.sub fun p b hb=>by
    have:∀ (n p:Nat),listMem (List.replicate n (none:Option Blk)) p=none:=fun n p=>by
      simp only [listMem,List.getElem?_replicate]
      split <;> simp_all
    rw [this] at hb; cases hb⟩
  refine h'.frame hn (fun _=>List.replicate k 0) fun ns _=>⟨by simp,rfl,by simp,fun p b hb=>?_⟩
  rw [hout ps bs.length 0 hr]
  exact hb
section
variable {α:Type}
def gsA (A:Grw α):Option Addr:=match A.z with
  | true=>none
  | false=>some ⟨A.nm,0,none⟩
def gsC (A:Grw α):Nat:=match A.z with
  | true=>0
  | false=>A.n+A.r
def gsV (A:Grw α):Value:=.slice (gsA A) A.n (gsC A)
def gsE (C:α→List Value) (zc:List Value) (sz:Nat) (A:Grw α):Option Blk:=match A.z with
  | true=>none
  | false=>some ⟨A.nm,true,0,sprE sz (A.n+A.r) A.n (fun k=>C (A.f k)) zc⟩
def Grw.ok (A:Grw α):Prop:=A.z=true→A.n=0
def Grw.cat (A:Grw α) (m:Nat) (h:Nat→α) (nm r:Nat):Grw α:=⟨decide (m=0) && A.z,nm,A.n+m,r,catU A.f A.n h⟩
variable {A:Grw α} {C:α→List Value} {zc:List Value} {sz:Nat} {K:α→Value} {zv:Value}
theorem gsA_nil (h:A.z=true):gsA A=none:=by unfold gsA; rw [h]
theorem gsC_nil (h:A.z=true):gsC A=0:=by unfold gsC; rw [h]
theorem gsE_nil (h:A.z=true):gsE C zc sz A=none:=by unfold gsE; rw [h]
theorem gsA_own (h:A.z=false):gsA A=some ⟨A.nm,0,none⟩:=by unfold gsA; rw [h]
theorem gsC_own (h:A.z=false):gsC A=A.n+A.r:=by unfold gsC; rw [h]
theorem gsE_own (h:A.z=false):gsE C zc sz A=some ⟨A.nm,true,0,sprE sz (A.n+A.r) A.n (fun k=>C (A.f k)) zc⟩:=by unfold gsE; rw [h]
theorem gsV_nil (h:A.z=true) (hk:A.ok):gsV A = .slice none 0 0:=by unfold gsV; rw [gsA_nil h,gsC_nil h,hk h]
theorem gsV_own (h:A.z=false):gsV A = .slice (some ⟨A.nm,0,none⟩) A.n (A.n+A.r):=by unfold gsV; rw [gsA_own h,gsC_own h]
theorem Grw.ok.pos (hk:A.ok) (h:0 < A.n):A.z=false:=by
  cases hz:A.z with
  | false=>rfl
  | true=>have:=hk hz; omega
theorem sprE_row {c n:Nat} {f g:Nat→α} (hg:∀ k,k < n→f k=g k):sprE sz c n (fun k=>C (f k)) zc=sprE sz c n (fun k=>C (g k)) zc:=by
  unfold sprE
  congr 1; funext k
  by_cases h:k < n
  · rw [if_pos h,if_pos h]; show C (f k)=C (g k); rw [hg k h]
  · rw [if_neg h,if_neg h]
theorem gsE_row {A':Grw α} (h1:A'.z=A.z) (h2:A'.nm=A.nm) (h3:A'.n=A.n) (h4:A'.r=A.r) (h5:∀ k,k < A.n→A'.f k=A.f k):gsE C zc sz A'=gsE C zc sz A:=by
  obtain⟨z,nm,n,r,f⟩:=A; obtain⟨z',nm',n',r',f'⟩:=A'
  simp only at h1 h2 h3 h4 h5; subst h1; subst h2; subst h3; subst h4
  unfold gsE
  cases z' <;> simp only [sprE_row h5]
structure Prt (α:Type) where
  wa:Option Addr
  n:Nat
  c:Nat
  nm:Nat
  o:Nat
  f:Nat→α
def Prt.ok (D:Prt α):Prop:=(0 < D.n→D.wa=some ⟨D.nm,D.o,none⟩)∧D.n≤D.c
section
variable {P:Program} {t ty e:TypeId} {B:Nat}
theorem sizeB_agg (h1:AggC P e zc sz B):sizeB P e=some sz:=by
  obtain⟨i,z,hi,_,hsz,_⟩:=h1
  simp [sizeB,hi,hsz]
theorem mkG_catE (ht : P.underlying t = some (.slice e)) (h1 : AggC P e zc sz B) (A : Grw α) (hA : A.ok) (hC : ∀ a, (C a).length = sz ∧ (C a).all Value.oneCell' = true) (h : Nat → α) (m : Nat) (adr : Option Addr) (cc : Nat) (ob : Option Blk)
    (hs:0 < m→∃ k bo os S,adr=some ⟨k,bo+os,none⟩∧ob=some ⟨k,false,bo,S⟩∧∀ j,j < m*sz→S.get (os+j)=some (cf sz (fun k=>C (h k)) j))
    (hb:(A.n+m)*B≤140737488355328∧A.n+m≤9223372036854775807) :
    SRunsO P (appendSem t ty (gsV A) (.slice adr m cc)) [gsE C zc sz A,ob] 2 (fun ns=>gsV (A.cat m h (ns.getD 0 0) (ns.getD 1 0))) (fun ns=>[gsE C zc sz (A.cat m h (ns.getD 0 0) (ns.getD 1 0)),none]):=by
  rcases Nat.eq_zero_or_pos m with hm | hm
  · subst hm
    have hcap:A.n≤gsC A:=by
      unfold gsC; cases hz:A.z with
      | true=>rw [hA hz]; exact Nat.zero_le _
      | false=>simp only; omega
    have key:=(srun_append_noneM (P:=P) (t:=t) (ty:=ty) ht (sizeB_agg h1) (gsA A) A.n (gsC A) hcap adr 0 cc rfl).toO
    intro w hm ha
    obtain⟨ns,w',hns,he,hp⟩:=key w (fun p b hb=>by cases p <;> cases hb) (fun p q b c _ hb=>by cases p <;> cases hb)
    refine⟨[A.nm,A.r],w',rfl,?_,?_⟩
    · have ec : A.cat 0 h A.nm A.r = ⟨A.z, A.nm, A.n, A.r, catU A.f A.n h⟩ := by
        unfold Grw.cat; rw [show(decide (0=0) && A.z)=A.z from by simp]; rfl
      have e:gsV (A.cat 0 h A.nm A.r) = .slice (gsA A) A.n (gsC A):=by rw [ec]; rfl
      show _∨_
      simp only [List.getD_cons_zero,List.getD_cons_succ,e]
      exact he
    · have e:gsE C zc sz (A.cat 0 h A.nm A.r)=gsE C zc sz A:=gsE_row (by simp [Grw.cat]) rfl rfl rfl fun k hk=>by simp [Grw.cat,catU,hk]
      simp only [List.getD_cons_zero,List.getD_cons_succ,e]
      have hnil:∀ p:Nat,listMem (List.map some ([]:List Blk)) p=none:=fun p=>by simp [listMem]
      have hadv:=hp.adv
      have hw:∀ k,k < w.heap.size→w'.heap[k]? = w.heap[k]?:=fun k hk=>hadv.heap k hk fun⟨p,b,hb,_⟩=>by rw [hnil] at hb; cases hb
      have hsub:∀ p b,listMem [gsE C zc sz A,none] p=some b→p=0∧gsE C zc sz A=some b:=fun p b hb=>by
        rcases p with _ | _ | p
        · exact⟨rfl,hb⟩
        · cases hb
        · simp [listMem] at hb
      refine⟨fun p b hb=>?_,fun p q b c hpq hb hc ho=>?_,⟨hadv.os,hadv.output,hadv.tape,hadv.size,fun k hk _=>hw k hk,fun k ⟨p,b,hb,ho,hk⟩=>?_,fun p b hb ho=>?_⟩⟩
      · obtain⟨rfl,h2⟩:=hsub p b hb
        have:=hm 0 b h2
        exact this.of_heap hadv.size fun k hk=>hw _ (this.has_lt hk)
      · obtain⟨rfl,_⟩:=hsub p b hb
        obtain⟨rfl,_⟩:=hsub q c hc
        exact absurd rfl hpq
      · obtain⟨rfl,h2⟩:=hsub p b hb
        exact .inl ⟨0,b,h2,ho,hk⟩
      · obtain⟨rfl,h2⟩:=hsub p b hb
        cases hz:A.z with
        | true=>rw [gsE_nil hz] at h2; cases h2
        | false=>rw [gsE_own hz] at h2; exact absurd (by injection h2 with h2; rw [← h2]) (show ¬ b.own=true from by rw [ho]; decide)
  · obtain⟨k,bo,os,S,rfl,rfl,hS⟩:=hs hm
    have hmz:decide (m=0)=false:=decide_eq_false (by omega)
    cases hz:A.z with
    | true =>
      have hn:=hA hz
      rw [gsV_nil hz hA,gsE_nil hz]
      have key:=(mkE_append_nil (P:=P) (t:=t) (ty:=ty) ht h1 k bo os m cc C hC h S hS ⟨hm,by rw [hn,Nat.zero_add] at hb; exact hb.1,by omega⟩).toO
      have e1:∀ ns:List Nat,gsV (A.cat m h (ns.getD 0 0) (ns.getD 1 0)) = .slice (some ⟨ns.getD 0 0,0,none⟩) m (m+ns.getD 1 0):=fun ns=>by
        rw [gsV_own (by simp [Grw.cat,hmz])]; simp only [Grw.cat,hn,Nat.zero_add]
      have e2:∀ ns:List Nat,gsE C zc sz (A.cat m h (ns.getD 0 0) (ns.getD 1 0))=some ⟨ns.getD 0 0,true,0,sprE sz (m+ns.getD 1 0) m (fun k=>C (h k)) zc⟩:=fun ns=>by
        rw [gsE_own (by simp [Grw.cat,hmz])]; simp only [Grw.cat,hn,Nat.zero_add]
        rw [sprE_row (g:=h) fun k _=>by simp [catU]]
      refine key.conv (fun p=>p+1) ⟨fun p q b c _ _ e=>Nat.succ.inj e,fun p b hb=>⟨b,by rw [lm1]; exact hb,fun _ h=>h,rfl,fun _ h=>h⟩⟩ (fun p=>p+1) id fun ns hns=>⟨hns,e1 ns,fun p q b c _ _ e=>Nat.succ.inj e,fun p b hb=>?_⟩
      rcases p with _ | _ | p
      · rw [lm0] at hb; simp only [id,e2] at hb; injection hb with hb; subst hb
        exact⟨rfl,_,rfl,fun _ h=>h,rfl,fun _ h=>h⟩
      · cases hb
      · simp [listMem] at hb
    | false =>
      rw [gsV_own hz,gsE_own hz]
      have key:=(mkE_append (P:=P) (t:=t) (ty:=ty) ht h1 A.nm A.n A.r k bo os m cc C hC A.f h S hS hb).toO
      refine key.as (.refl _) id fun ns _=>⟨by assumption,?_,?_,?_⟩
      · show gsV _=_
        rw [gsV_own (by simp [Grw.cat,hmz])]; simp only [Grw.cat,id]
      · rw [gsE_own (by simp [Grw.cat,hmz])]
        simp only [Grw.cat,id]
        exact .kp _ _ ⟨fun _ h=>h,rfl,fun w hw=>hw⟩ (.dr _ (.zz _))
      · rw [gsE_own (by simp [Grw.cat,hmz])]; exact⟨rfl,trivial⟩
end
theorem gs_le (hA:A.ok):A.n≤gsC A:=by
  unfold gsC; cases hz:A.z with
  | true=>rw [hA hz]; exact Nat.zero_le _
  | false=>simp only; omega
end
section
variable {P:Program} {t ty e:TypeId}
end
section
end
theorem RunsO.darkO {F : Blk → Prop} {P : Program} {f : FuncId} {args : List Value} {bs : List (Option Blk)} {k : Nat} {v : List Nat → Value} {out : List Nat → List (Option Blk)} (fl : List Bool) (h : RunsO F P f args bs k v out) :
    RunsO F P f args bs k v (fun ns=>dkn fl (out ns)):=fun w hb ha hF=>Calls.mono (h w hb ha hF) fun _ _ ⟨ns,h1,h2,h3⟩=>⟨ns,h1,h2,h3.sub (dkn_sub fl (out ns))⟩
end Go.Eng
end
