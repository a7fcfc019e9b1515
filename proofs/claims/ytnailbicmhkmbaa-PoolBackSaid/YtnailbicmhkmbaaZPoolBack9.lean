/-
  Many in one: Maps, Fams, Byt, BytIn, Grow, CodDef, CodFns, CodRd, CodAw, CodRead, CodRm, CodStay, CodAgn, CodNs, Opt, GsU8, CodG, CodWg, CodBck, CodFwd, NatL, ShaOps, ShaHash, ShaMore, ShaRefL, LendW, Heap, Timer.
-/
import Derived.Test.YtnailbicmhkmbaaZPoolBack8
import Derived.MapKept
import Derived.WideKeyRuns
set_option linter.unusedVariables false
set_option linter.unusedSimpArgs false
set_option maxRecDepth 100000
set_option maxHeartbeats 1000000
section
namespace Go.Eng
open Go.WideShapes
theorem run_gm {P : Program} {w : World} {r : Nat} {es : Array MapEntry} {clock : Nat} (hb : w.heap[r]? = some (.map es clock)) : (getObj r).run P w = .ok (.map es clock) w := by
  simp [getObj, Sem.run, hb]
theorem run_sm {P : Program} {w : World} {r : Nat} {es : Array MapEntry} {clock : Nat} (o : Obj) (hb : w.heap[r]? = some (.map es clock)) : (setObj r o).run P w = .ok () { w with heap := w.heap.setIfInBounds r o } := by
  simp [setObj, Sem.run, hb]
theorem heap_set' {w : World} {r : Nat} {o o' : Obj} (hb : w.heap[r]? = some o) : (w.heap.setIfInBounds r o')[r]? = some o' ∧ ∀ r', r' ≠ r → (w.heap.setIfInBounds r o')[r']? = w.heap[r']? := by
  have hlt : r < w.heap.size := (Array.getElem?_eq_some_iff.1 hb).1
  exact ⟨by simp [hlt], fun r' hne => by simp [Ne.symm hne]⟩
theorem heap_alloc' (w : World) (o : Obj) : (w.alloc o).heap[w.heap.size]? = some o ∧ ∀ r', r' < w.heap.size → (w.alloc o).heap[r']? = w.heap[r']? := by
  have e : (w.alloc o).heap = w.heap.push o := rfl
  rw [e]
  exact ⟨by simp, fun r' h => by simp [Array.getElem?_push, Nat.ne_of_lt h]⟩
def entsL {α β : Type} (kv : α → Value) (ev : β → Value) : List (α × β) → Nat → List MapEntry
  | [], _ => []
  | (k, x) :: r, i => ⟨kv k, ev x, i⟩ :: entsL kv ev r (i + 1)
def mapC {α β : Type} (kv : α → Value) (ev : β → Value) (l : List (α × β)) : Cont := .map (entsL kv ev l 0).toArray l.length
def findE {α β : Type} (eqb : α → α → Bool) (k : α) : List (α × β) → Option β
  | [] => none
  | (h, x) :: r => if eqb k h = true then some x else findE eqb k r
def putE {α β : Type} (eqb : α → α → Bool) (k : α) (x : β) : List (α × β) → List (α × β)
  | [] => [(k, x)]
  | (h, y) :: r => if eqb k h = true then (k, x) :: r else (h, y) :: putE eqb k x r
def findI {α β : Type} (eqb : α → α → Bool) (k : α) : List (α × β) → Nat → Option (Nat × β)
  | [], _ => none
  | (h, x) :: r, i => if eqb k h = true then some (i, x) else findI eqb k r (i + 1)
structure MapT {α β : Type} (P : Program) (mt kt et : TypeId) (kv : α → Value) (ev : β → Value) (z : β) (eqb : α → α → Bool) : Prop where
  hm : P.underlying mt = some (.map kt et)
  chk : ∀ em k w, (Instr.checkKey em 10000 kt (kv k)).run P w = .ok () w
  fnd : ∀ k (l : List (α × β)) n w, (Instr.findKey kt (kv k) (entsL kv ev l n)).run P w = .ok ((findI eqb k l 0).map fun p => (p.1, ev p.2)) w
  eqr : ∀ k h w, (Op.equal kt (kv k) (kv h)).run P w = .ok (eqb k h) w
  eqv : ∀ k h, eqb k h = true → Instr.sameBits 10000 (kv h) (kv k) = true
  zer : ∀ w, (zeroValue et).run P w = .ok (ev z) w
section
variable {α β : Type} {P : Program} {mt kt et : TypeId} {kv : α → Value} {ev : β → Value} {z : β} {eqb : α → α → Bool}
theorem run_findKeyM (M : MapT P mt kt et kv ev z eqb) (k : α) (w : World) (l : List (α × β)) : (Instr.findKey kt (kv k) (entsL kv ev l 0)).run P w = .ok ((findI eqb k l 0).map fun p => (p.1, ev p.2)) w := by
  exact M.fnd k l 0 w
theorem findI_E (k : α) : ∀ (l : List (α × β)) (i : Nat), (findI eqb k l i).map (·.2) = findE eqb k l
  | [], _ => rfl
  | (h, x) :: r, i => by
    simp only [findI, findE]
    split
    · rfl
    · exact findI_E k r (i + 1)
theorem findI_spec (k : α) : ∀ (l : List (α × β)) (i j : Nat) (x : β), findI eqb k l i = some (j, x) → ∃ h, i ≤ j ∧ l[j - i]? = some (h, x) ∧ eqb k h = true
  | [], _, _, _, e => by cases e
  | (h, y) :: r, i, j, x, e => by
    simp only [findI] at e
    split at e
    · rename_i he
      injection e with e; injection e with e1 e2; subst e1; subst e2
      exact ⟨h, Nat.le_refl _, by simp, he⟩
    · obtain ⟨h', h1, h2, h3⟩ := findI_spec k r (i + 1) j x e
      exact ⟨h', by omega, by rw [show j - i = (j - (i + 1)) + 1 by omega]; simpa using h2, h3⟩
theorem entsL_get : ∀ (l : List (α × β)) (n j : Nat) (h : α) (x : β), l[j]? = some (h, x) → (entsL kv ev l n)[j]? = some ⟨kv h, ev x, n + j⟩
  | [], _, _, _, _, e => by simp at e
  | (h0, x0) :: r, n, 0, h, x, e => by
    simp at e; obtain ⟨rfl, rfl⟩ := e; simp [entsL]
  | (h0, x0) :: r, n, j + 1, h, x, e => by
    simp only [List.getElem?_cons_succ] at e
    simp only [entsL, List.getElem?_cons_succ]
    rw [entsL_get r (n + 1) j h x e, show n + 1 + j = n + (j + 1) by omega]
theorem entsL_put (k : α) (x : β) : ∀ (l : List (α × β)) (n i : Nat) (j : Nat) (y : β), findI eqb k l i = some (j, y) →
    (entsL kv ev l n).modify (j - i) (fun e => { e with key := kv k, val := ev x }) = entsL kv ev (putE eqb k x l) n ∧ (putE eqb k x l).length = l.length
  | [], _, _, _, _, e => by cases e
  | (h, y0) :: r, n, i, j, y, e => by
    simp only [findI] at e
    split at e
    · rename_i he
      injection e with e; injection e with e1 e2; subst e1
      simp [putE, he, entsL]
    · rename_i he
      obtain ⟨_, h1, _, _⟩ := findI_spec k r (i + 1) j y e
      obtain ⟨i1, i2⟩ := entsL_put k x r (n + 1) (i + 1) j y e
      rw [show j - i = (j - (i + 1)) + 1 by omega]
      simp only [putE, he, entsL]
      simp [i1, i2, entsL]
theorem entsL_new (k : α) (x : β) : ∀ (l : List (α × β)) (n i : Nat), findI eqb k l i = none →
    entsL kv ev l n ++ [⟨kv k, ev x, n + l.length⟩] = entsL kv ev (putE eqb k x l) n ∧ (putE eqb k x l).length = l.length + 1
  | [], n, i, e => by simp [putE, entsL]
  | (h, y0) :: r, n, i, e => by
    simp only [findI] at e
    split at e
    · cases e
    · rename_i he
      obtain ⟨i1, i2⟩ := entsL_new k x r (n + 1) (i + 1) e
      simp only [putE, he, entsL]
      simp only [Bool.false_eq_true, if_false, entsL, List.cons_append, List.length_cons]
      refine ⟨?_, by simp [i2]⟩
      rw [← i1, show n + (r.length + 1) = n + 1 + r.length by omega]
def lookSem (t : TypeId) (x k : Value) (ok : Bool) : Sem Next := do pure (.value (← Instr.lookup t x k ok))
theorem srun_look (M : MapT P mt kt et kv ev z eqb) (b : Nat) (own : Bool) (l : List (α × β)) (k : α) :
    SRuns P (lookSem mt (.map (some b)) (kv k) true) [⟨b, own, 0, mapC kv ev l⟩] 0 (fun _ => .tuple #[ev ((findE eqb k l).getD z), .bool (findE eqb k l).isSome]) (fun _ => [none]) := by
  intro w hall ha
  have hb := (hall _ (List.mem_singleton.2 rfl)).objm rfl
  refine ⟨[], w, rfl, .inl (run_value ?_), ⟨fun p c hpc => ?_, fun p p' c d hpp hc hd ho => ?_, ⟨rfl, rfl, rfl, Nat.le_refl _, fun _ _ _ => rfl, fun j hj => ?_, fun p c hpc ho => ?_⟩⟩⟩
  · simp only at hb
    unfold Instr.lookup
    simp only [Sem.run_bind, run_underlying M.hm, Result.andThen_ok, run_gm hb, Sem.run_pure, M.chk, run_findKeyM M]
    have hE := findI_E (eqb := eqb) k l 0
    cases hf : findI eqb k l 0 with
    | none =>
      rw [hf] at hE; simp only [Option.map_none] at hE
      rw [← hE]
      simp [M.zer]
    | some q =>
      rw [hf] at hE; simp only [Option.map_some] at hE
      rw [← hE]
      simp
  · rcases p with _ | p <;> simp [listMem] at hpc
  · rcases p with _ | p <;> simp [listMem] at hc
  · obtain ⟨p, c, hpc, _, _⟩ := hj
    rcases p with _ | p <;> simp [listMem] at hpc
  · rcases p with _ | p <;> simp [listMem] at hpc
def updSem (t : TypeId) (x k v : Value) : Sem Next := do Instr.mapUpdate t x k v; pure .skip
theorem post_map {b : Nat} {es es' : Array MapEntry} {c c' : Nat} {w : World} (h : Holds ⟨b, true, 0, .map es c⟩ w) :
    Post (listMem ([⟨b, true, 0, .map es c⟩].map some)) w (listMem [some ⟨b, true, 0, .map es' c'⟩]) { w with heap := w.heap.setIfInBounds b (.map es' c') } := by
  have hb := h.objm rfl
  obtain ⟨h1, h2⟩ := heap_set' (o' := .map es' c') hb
  refine ⟨fun p q hpq => ?_, fun p p' q d hpp hc hd ho => ?_, ⟨rfl, rfl, rfl, by simp, fun j hj hn => h2 j fun e => ?_, fun j hj => ?_, fun p q hpq ho => ?_⟩⟩
  · rcases p with _ | p
    · injection hpq with hpq; subst hpq
      exact ⟨by simpa using h.lt, (fun o v ho => by cases ho), (fun _ o v ho => by cases ho), h1⟩
    · simp [listMem] at hpq
  · rcases p with _ | p
    · rcases p' with _ | p'
      · exact absurd rfl hpp
      · simp [listMem] at hd
    · simp [listMem] at hc
  · subst e
    exact hn ⟨0, _, rfl, rfl, rfl⟩
  · obtain ⟨p, q, hpq, ho, hjk⟩ := hj
    rcases p with _ | p
    · injection hpq with hpq; subst hpq; exact .inl ⟨0, _, rfl, rfl, hjk⟩
    · simp [listMem] at hpq
  · rcases p with _ | p
    · injection hpq with hpq; subst hpq; cases ho
    · simp [listMem] at hpq
theorem srun_upd (M : MapT P mt kt et kv ev z eqb) (b : Nat) (l : List (α × β)) (k : α) (x : β) :
    SRuns P (updSem mt (.map (some b)) (kv k) (ev x)) [⟨b, true, 0, mapC kv ev l⟩] 0 (fun _ => undef) (fun _ => [some ⟨b, true, 0, mapC kv ev (putE eqb k x l)⟩]) := by
  intro w hall ha
  have hH := hall _ (List.mem_singleton.2 rfl)
  have hb := hH.objm rfl
  simp only at hb
  refine ⟨[], _, rfl, .inr ⟨?_, rfl⟩, post_map hH⟩
  unfold updSem Instr.mapUpdate
  simp only [Sem.run_bind, run_underlying M.hm, Result.andThen_ok, run_gm hb, M.chk, run_findKeyM M]
  cases hf : findI eqb k l 0 with
  | none =>
    obtain ⟨i1, i2⟩ := entsL_new (kv := kv) (ev := ev) k x l 0 0 hf
    simp only [Option.map_none, run_sm _ hb, Sem.run_pure, Result.andThen_ok]
    congr 4
    · rw [← i1]; simp
    · exact i2.symm
  | some q =>
    obtain ⟨j, y⟩ := q
    obtain ⟨h, _, h2, h3⟩ := findI_spec k l 0 j y hf
    obtain ⟨i1, i2⟩ := entsL_put (kv := kv) (ev := ev) k x l 0 0 j y hf
    have hj := entsL_get (kv := kv) (ev := ev) l 0 j h y (by simpa using h2)
    have hs := M.eqv k h h3
    simp only [Option.map_some, List.getElem?_toArray, hj, Option.getD_some, Instr.keyThatStays, hs, if_true, Sem.run_pure, Result.andThen_ok, run_sm _ hb]
    rw [i2, ← i1]
    simp [run_sm _ hb]
def mkmSem (t : TypeId) : Sem Next := do pure (.value (← Instr.makeMap t none))
theorem srun_mkm (t : TypeId) : SRuns P (mkmSem t) [] 1 (fun ns => .map (some (ns.getD 0 0))) (fun ns => [some ⟨ns.getD 0 0, true, 0, mapC kv ev []⟩]) := by
  intro w hall ha
  obtain ⟨h1, h2⟩ := heap_alloc' w (.map #[] 0)
  refine ⟨[w.heap.size], w.alloc (.map #[] 0), rfl, .inl (run_value rfl), ⟨fun p c hpc => ?_, fun p p' c d hpp hc hd ho => ?_, ⟨rfl, rfl, rfl, by simp, fun j hj _ => h2 j hj, fun j hj => ?_, fun p c hpc ho => ?_⟩⟩⟩
  · rcases p with _ | p
    · injection hpc with hpc; subst hpc
      exact ⟨by simp, (fun o v ho => by cases ho), (fun _ o v ho => by cases ho), h1⟩
    · simp [listMem] at hpc
  · rcases p with _ | p
    · rcases p' with _ | p'
      · exact absurd rfl hpp
      · simp [listMem] at hd
    · simp [listMem] at hc
  · obtain ⟨p, c, hpc, ho, hjk⟩ := hj
    rcases p with _ | p
    · injection hpc with hpc; subst hpc; exact .inr (Nat.le_of_eq hjk)
    · simp [listMem] at hpc
  · rcases p with _ | p
    · injection hpc with hpc; subst hpc; cases ho
    · simp [listMem] at hpc
end
def ev0 (_ : Unit) : Value := .agg #[]
end Go.Eng
end
section
namespace Go.Eng
open Go.RowKit Go.WideShapes Go.ChangeShapes Go.ChangeAt Go.Deep
theorem Runs.toF {F : Blk → Prop} {P : Program} {f : FuncId} {args : List Value} {bs : List Blk} {k : Nat} {v : List Nat → Value} {out : List Nat → List (Option Blk)} (h : Runs P f args bs k v out) : RunsF F P f args bs k v out :=
  fun w hb ha _ => h w hb ha
theorem RunsF.mono {F F' : Blk → Prop} {P : Program} {f : FuncId} {args : List Value} {bs : List Blk} {k : Nat} {v : List Nat → Value} {out : List Nat → List (Option Blk)} (hs : ∀ b, F b → F' b) (h : RunsF F P f args bs k v out) : RunsF F' P f args bs k v out :=
  fun w hb ha hF => h w hb ha fun b hb' => hF b (hs b hb')
def noneL : List Blk → List (Option Blk)
  | [] => []
  | _ :: r => none :: noneL r
theorem noneL_get : ∀ (l : List Blk) (p : Nat) (b : Blk), listMem (noneL l) p ≠ some b
  | [], p, b => by simp [noneL, listMem]
  | _ :: r, 0, b => by simp [noneL, listMem]
  | _ :: r, p + 1, b => noneL_get r p b
theorem RunsF.read {F : Blk → Prop} {P : Program} {f : FuncId} {args : List Value} {cs : List Blk} {v : Value} (h : RunsF F P f args [] 0 (fun _ => v) (fun _ => []))
    (hF : ∀ w : World, (∀ b ∈ cs, Holds b w) → ∀ b, F b → Holds b w ∧ b.own = false) (hb : ∀ b ∈ cs, b.own = false) : Runs P f args cs 0 (fun _ => v) (fun _ => noneL cs) := by
  intro w hm ha
  have hno : ∀ k, ¬ Owns (listMem (([] : List Blk).map some)) k := fun k ⟨p, b, h1, h2, _⟩ => by cases h1
  refine Calls.mono (h w (fun b hb' => by cases hb') (fun p q b c _ hpb _ ho => by cases hpb) (fun b hFb => ⟨(hF w hm b hFb).1, (hF w hm b hFb).2, fun k _ => hno k⟩)) ?_
  rintro e w' ⟨ns, hns, he, hp⟩
  refine ⟨ns, hns, he, ⟨fun p b hpb => absurd hpb (noneL_get _ _ _), fun p q b c _ hpb _ _ => absurd hpb (noneL_get _ _ _), ⟨hp.adv.os, hp.adv.output, hp.adv.tape, hp.adv.size, fun k hk _ => hp.adv.heap k hk (hno k), fun k ⟨p, b, h1, _, _⟩ => absurd h1 (noneL_get _ _ _), fun p b hpb _ => absurd hpb (noneL_get _ _ _)⟩⟩⟩
section
variable {P : Program} {t e : TypeId} {x ix : Operand}
theorem is_ixSq {sz : Nat} (ht : P.underlying t = some (.slice e)) (he : sizeB P e = some sz) (b o n c i : Nat) (wa : Option Addr) (hwa : wa = some ⟨b, o, none⟩) (hi : i < n) : IsOp P (.indexAddr t x ix) [.slice wa n c, nat i] (ptr b (o + i * sz)) := by
  subst hwa; exact is_ixSl ht he b o n c i hi
end
theorem RunsF.over {F F' : Blk → Prop} {P : Program} {f : FuncId} {args : List Value} {bs : List Blk} {k : Nat} {v : List Nat → Value} {out : List Nat → List (Option Blk)} (hs : ∀ b, F b → ∃ b', F' b' ∧ (∀ k, b.has k → b'.has k) ∧ b.own = b'.own ∧ ∀ w : World, Holds b' w → Holds b w) (h : RunsF F P f args bs k v out) : RunsF F' P f args bs k v out :=
  fun w hb ha hF => h w hb ha fun b hb' => by
    obtain ⟨b', h1, h2, h3, h4⟩ := hs b hb'
    obtain ⟨k1, k2, k3⟩ := hF b' h1
    exact ⟨h4 w k1, h3.trans k2, fun k hk => k3 k (h2 k hk)⟩
theorem RunsF.lend {F F' : Blk → Prop} {P : Program} {f : FuncId} {args : List Value} {cs : List Blk} {v : Value} (h : RunsF F P f args [] 0 (fun _ => v) (fun _ => []))
    (hF : ∀ w : World, (∀ b ∈ cs, Holds b w) → ∀ b, F b → F' b ∨ (Holds b w ∧ b.own = false)) (hb : ∀ b ∈ cs, b.own = false) : RunsF F' P f args cs 0 (fun _ => v) (fun _ => noneL cs) := by
  intro w hm ha hF'
  have hno : ∀ k, ¬ Owns (listMem (([] : List Blk).map some)) k := fun k ⟨p, b, h1, h2, _⟩ => by cases h1
  refine Calls.mono (h w (fun b hb' => by cases hb') (fun p q b c _ hpb _ ho => by cases hpb) (fun b hFb => ?_)) ?_
  · rcases hF w hm b hFb with h1 | h1
    · exact ⟨(hF' b h1).1, (hF' b h1).2.1, fun k _ => hno k⟩
    · exact ⟨h1.1, h1.2, fun k _ => hno k⟩
  rintro e w' ⟨ns, hns, he, hp⟩
  refine ⟨ns, hns, he, ⟨fun p b hpb => absurd hpb (noneL_get _ _ _), fun p q b c _ hpb _ _ => absurd hpb (noneL_get _ _ _), ⟨hp.adv.os, hp.adv.output, hp.adv.tape, hp.adv.size, fun k hk _ => hp.adv.heap k hk (hno k), fun k ⟨p, b, h1, _, _⟩ => absurd h1 (noneL_get _ _ _), fun p b hpb _ => absurd hpb (noneL_get _ _ _)⟩⟩⟩
theorem runsF_law {F : Blk → Prop} {P : Program} {f : FuncId} {args : List Value} {bs : List Blk} {v : Value} {out : List Nat → List (Option Blk)} {W : World} (h : RunsF F P f args bs 0 (fun _ => v) out) (hb : ∀ b ∈ bs, Holds b W) (hro : ∀ b ∈ bs, b.own = false)
    (hF : ∀ b, F b → Holds b W ∧ b.own = false) : Calls P f args.toArray W fun e w' => e = .returned v ∧ Below W.heap.size W w' := by
  have hl : ∀ p b, listMem (bs.map some) p = some b → b.own = false := fun p b hp => hro b (List.mem_of_getElem? (listMem_some.1 hp))
  refine Calls.mono (h W hb (fun p q x y _ hx _ ho => ?_) fun b hb => ⟨(hF b hb).1, (hF b hb).2, fun _ _ ⟨p, x, hp, ho, _⟩ => ?_⟩) fun e w' ⟨ns, _, he, hp⟩ => ⟨he, below_of_adv hp.adv hl⟩
  · rw [hl p x hx] at ho; cases ho
  · rw [hl p x hp] at ho; cases ho
def fromA (a : Option Addr) (cap i sz : Nat) : Option Addr := if cap = i then a else a.map (·.add (i * sz))
theorem is_slqFrom {P : Program} {t e : TypeId} {x y : Operand} (ht : P.underlying t = some (.slice e)) {sz : Nat} (hs : sizeB P e = some sz) (wa : Option Addr) (len cap i : Nat) (hi : i ≤ len ∧ len ≤ cap) : IsOp P (.slice t x (some y) none none) [.slice wa len cap, nat i] (.slice (fromA wa cap i sz) (len - i) (cap - i)) := by
  intro ρ o' ho hv
  rw [ho] at hv
  have hv' : [ρ x, ρ y] = [Value.slice wa len cap, nat i] := hv
  injection hv' with h1 hv'
  injection hv' with h2 _
  unfold execOp
  rw [ho]
  simp only [Option.map]
  show pureRun P (Sem.bind (Instr.sliceAt t (ρ x) (some (ρ y)) none none) fun v => Sem.pure (Next.value v)) = _
  rw [pureRun_bind, h1, h2]
  have hi' : 0 ≤ (i : Int) ∧ (i : Int) ≤ (len : Int) := by omega
  have e : pureRun P (Instr.sliceAt t (.slice wa len cap) (some (nat i)) none none) = some (.slice (fromA wa cap i sz) (len - i) (cap - i)) := by
    simp only [Instr.sliceAt, Instr.slice, Instr.sliceBounds, Instr.sliceBound, nat, pureRun_bind', asIntOf, pureRun, pure, pureRun_underlying ht, hi', and_self, if_true, pureRun_sizeOf hs, Int.toNat_natCast]
    rfl
  rw [e]
  rfl
def FamH (F : Blk → Prop) (w : World) : Prop := ∀ b, F b → Holds b w ∧ b.own = false
theorem RunsF.darkF {F : Blk → Prop} {P : Program} {f : FuncId} {args : List Value} {bs : List Blk} {k : Nat} {v : List Nat → Value} {out : List Nat → List (Option Blk)} (fl : List Bool) (h : RunsF F P f args bs k v out) :
    RunsF F P f args bs k v (fun ns => dkn fl (out ns)) := fun w hb ha hF => Calls.mono (h w hb ha hF) fun _ _ ⟨ns, h1, h2, h3⟩ => ⟨ns, h1, h2, h3.sub (dkn_sub fl (out ns))⟩
theorem is_slqTo {P : Program} {t e : TypeId} {x y : Operand} (ht : P.underlying t = some (.slice e)) {sz : Nat} (hs : sizeB P e = some sz) (wa : Option Addr) (len cap i : Nat) (hi : i ≤ cap) : IsOp P (.slice t x none (some y) none) [.slice wa len cap, nat i] (.slice wa i cap) := by
  intro ρ o' ho hv
  rw [ho] at hv
  have hv' : [ρ x, ρ y] = [Value.slice wa len cap, nat i] := hv
  injection hv' with h1 hv'
  injection hv' with h2 _
  unfold execOp
  rw [ho]
  simp only [Option.map]
  show pureRun P (Sem.bind (Instr.sliceAt t (ρ x) none (some (ρ y)) none) fun v => Sem.pure (Next.value v)) = _
  rw [pureRun_bind, h1, h2]
  have hi' : 0 ≤ (i : Int) ∧ (i : Int) ≤ (cap : Int) := by omega
  have e : pureRun P (Instr.sliceAt t (.slice wa len cap) none (some (nat i)) none) = some (.slice wa i cap) := by
    simp only [Instr.sliceAt, Instr.slice, Instr.sliceBounds, Instr.sliceBound, nat, pureRun_bind', asIntOf, pureRun, pure, pureRun_underlying ht, hi', and_self, if_true, pureRun_sizeOf hs, Int.toNat_natCast]
    cases wa <;> simp [Addr.add]
  rw [e]
  rfl
theorem store_tabK {sz n : Nat} {α : Type} (K : α → List Value) (hK : ∀ a, (K a).length = sz) (f : Nat → α) (i : Nat) (v : α) : (Cont.tab n sz fun k => K (f k)).store (.tab i 0) (K v) = some (.tab n sz fun k => K (upd f i v k)) := by
  simp only [Cont.store, hK, Nat.zero_add]
  have e1 : Nat.ble sz sz = true := by simp
  simp only [e1, Nat.beq_refl, Bool.and_self]
  congr 2
  funext k
  unfold upd
  by_cases h : k = i
  · subst h; rw [if_pos rfl, if_pos rfl]; unfold splice; simp [hK, List.drop_eq_nil_of_le]
  · rw [if_neg h, if_neg h]
end Go.Eng
end
section
namespace Go.Eng
structure BytL where
  wa : Option Addr
  wn : Nat
  wc : Nat
  wb : Nat
  wo : Nat
  wf : Nat → UInt8
def slqV (q : BytL) : Value := .slice q.wa q.wn q.wc
def bytB (q : BytL) : Blk := ⟨q.wb, false, q.wo, tabF q.wn fun k => u8 (q.wf k)⟩
structure OkB (q : BytL) : Prop where
  cap : q.wn ≤ q.wc
  ad : 0 < q.wn → q.wa = some ⟨q.wb, q.wo, none⟩
  len : q.wn ≤ 9223372036854775807
def famB (q : BytL) (b : Blk) : Prop := 0 < q.wn ∧ b = bytB q
def bytT (x : BytL) (k : Nat) : BytL := ⟨x.wa, k, x.wc, x.wb, x.wo, x.wf⟩
def bytF (x : BytL) (k : Nat) : BytL := ⟨fromA x.wa x.wc k 1, x.wn - k, x.wc - k, x.wb, x.wo + k, fun i => x.wf (i + k)⟩
def bytO (nm n c : Nat) (f : Nat → UInt8) : BytL := ⟨some ⟨nm, 0, none⟩, n, c, nm, 0, f⟩
def bytZ (a : Option Addr) (c : Nat) : BytL := ⟨a, 0, c, 0, 0, fun _ => 0⟩
theorem okb_to {x : BytL} {k : Nat} (h : OkB x) (hk : k ≤ x.wn) : OkB (bytT x k) := ⟨Nat.le_trans hk h.cap, fun h0 => h.ad (Nat.lt_of_lt_of_le h0 hk), Nat.le_trans hk h.len⟩
theorem okb_from {x : BytL} {k : Nat} (h : OkB x) (hk : k ≤ x.wn) : OkB (bytF x k) := ⟨Nat.sub_le_sub_right h.cap k, fun h0 => by
  have h1 : 0 < x.wn - k := h0
  show fromA x.wa x.wc k 1 = some ⟨x.wb, x.wo + k, none⟩
  have hc := h.cap
  unfold fromA
  rw [if_neg (by omega), h.ad (by omega)]
  simp [add_none], Nat.le_trans (Nat.sub_le _ _) h.len⟩
theorem okb_own {nm n c : Nat} {f : Nat → UInt8} (h1 : n ≤ c) (h2 : n ≤ 9223372036854775807) : OkB (bytO nm n c f) := ⟨h1, fun _ => rfl, h2⟩
theorem okb_nil {a : Option Addr} {c : Nat} : OkB (bytZ a c) := ⟨Nat.zero_le _, fun h => absurd h (Nat.lt_irrefl 0), Nat.zero_le _⟩
theorem tabU_less {nm o n k : Nat} {f : Nat → UInt8} {w : World} (h : Holds ⟨nm, false, o, tabF n fun k => u8 (f k)⟩ w) (hk : k ≤ n) : Holds ⟨nm, false, o, tabF k fun k => u8 (f k)⟩ w :=
  h.recont rfl fun j v hj => by
    by_cases hl : j < k
    · rw [tabF_in hl] at hj
      rw [tabF_in (by omega)]; exact hj
    · rw [tabF_out hl] at hj; cases hj
theorem tabU_tail {nm o n k : Nat} {f : Nat → UInt8} {w : World} (h : Holds ⟨nm, false, o, tabF n fun k => u8 (f k)⟩ w) (hk : k ≤ n) : Holds ⟨nm, false, o + k, tabF (n - k) fun i => u8 (f (i + k))⟩ w := by
  refine ⟨h.lt, fun j v hj => ?_, (fun hb => by cases hb), obj_not rfl⟩
  by_cases hl : j < n - k
  · rw [tabF_in hl] at hj
    have := h.cell (k + j) v (by show (tabF n _).get (k + j) = _; rw [tabF_in (by omega)]; rw [Nat.add_comm k j]; exact hj)
    show w.cell? ⟨nm, o + k + j, none⟩ = some v
    rw [Nat.add_assoc]; exact this
  · rw [tabF_out hl] at hj; cases hj
theorem holdb_own {nm n c : Nat} {f : Nat → UInt8} {w : World} (h : Holds ⟨nm, false, 0, tabF n fun k => u8 (f k)⟩ w) : FamH (famB (bytO nm n c f)) w := fun b hb => by
  obtain ⟨_, rfl⟩ := hb
  exact ⟨h, rfl⟩
theorem holdb_nil {a : Option Addr} {c : Nat} {w : World} : FamH (famB (bytZ a c)) w := fun b hb => absurd hb.1 (Nat.lt_irrefl 0)
theorem holdb_to {x : BytL} {k : Nat} {w : World} (hk : k ≤ x.wn) (h : FamH (famB x) w) : FamH (famB (bytT x k)) w := fun b hb => by
  obtain ⟨h0, rfl⟩ := hb
  have h1 : 0 < k := h0
  obtain ⟨h2, _⟩ := h (bytB x) ⟨by omega, rfl⟩
  exact ⟨tabU_less h2 hk, rfl⟩
theorem holdb_from {x : BytL} {k : Nat} {w : World} (hk : k ≤ x.wn) (h : FamH (famB x) w) : FamH (famB (bytF x k)) w := fun b hb => by
  obtain ⟨h0, rfl⟩ := hb
  have h1 : 0 < x.wn - k := h0
  obtain ⟨h2, _⟩ := h (bytB x) ⟨by omega, rfl⟩
  exact ⟨tabU_tail h2 hk, rfl⟩
theorem hold_or {F G : Blk → Prop} {w : World} (hx : FamH F w) (hy : FamH G w) : FamH (fun b => F b ∨ G b) w := fun b hb => by
  rcases hb with hb | hb
  · exact hx b hb
  · exact hy b hb
section
variable {P : Program} {t e t' : TypeId} {x y z : Operand}
end
section
variable {P : Program} {t ty e : TypeId}
theorem mk_build0 {B : Nat} {z : Value} (ht : P.underlying t = some (.slice e)) (h1 : OneC P e z B) {α : Type} (K : α → Value) (g : Nat → α) :
    SRuns P (buildSem t 0 #[]) [] 1 (fun ns => .slice (some ⟨ns.getD 0 0, 0, none⟩) 0 0) (fun ns => [some ⟨ns.getD 0 0, true, 0, spr (0 + 0) 0 (fun k => K (g k)) z⟩]) := by
  obtain ⟨i, hi, hz, hsz, hB, hzc⟩ := h1
  have h0 : SRuns P (buildSem t 0 #[]) [] 1 (fun ns => .slice (some ⟨ns.getD 0 0, 0, none⟩) 0 0) (fun ns => [some ⟨ns.getD 0 0, true, 0, .lit (#[] : Array Value).toList⟩]) := srun_made (e := e) fun w => by
    refine run_value ?_
    simp [Instr.buildSlice, run_underlying ht, sizeOf, typeInfo, hi, newRow, Instr.fill]
    exact congrArg (fun a => w.alloc (Obj.cells a e)) (Array.eq_empty_of_size_eq_zero (by simp))
  exact h0.recont (C' := fun _ => spr (0 + 0) 0 (fun k => K (g k)) z) (fun _ => rfl) fun ns o v ho => by
    rw [spr, tabF_out (by omega)] at ho; cases ho
theorem mk_append0 {B : Nat} {z : Value} (ht : P.underlying t = some (.slice e)) (h1 : OneC P e z B) (b : Nat) (C : Cont) (al : Option Addr) (cl : Nat) :
    SRuns P (appendSem t ty (.slice (some ⟨b, 0, none⟩) 0 (0 + 0)) (.slice al 0 cl)) [⟨b, true, 0, C⟩] 1 (fun ns => .slice (some ⟨ns.getD 0 0, 0, none⟩) 0 (0 + 0)) (fun ns => [some ⟨ns.getD 0 0, true, 0, C⟩]) := by
  obtain ⟨i, hi, hz, hsz, hB, hzc⟩ := h1
  intro w hall ha
  refine ⟨[b], w, rfl, .inl (run_value ?_), Post.refl (fun p c h => ?_) ha⟩
  · cases al <;> simp [Builtin.append_, run_underlying ht, sizeOf, typeInfo, hi, Builtin.lenOf, Builtin.firstCells, storeCells, loadCells, loadCellsFrom]
  · rcases p with _ | p
    · cases h; exact hall _ (by simp)
    · simp [listMem] at h
end
end Go.Eng
namespace Go.Eng
def slF (sz : Nat) (vs : List Value) : Value := match vs with
  | [.slice a len cap, .int _ i] => .slice (fromA a cap i.toNat sz) (len - i.toNat) (cap - i.toNat)
  | _ => undef
theorem mk_appendA {P : Program} {t ty e : TypeId} {B : Nat} {z : Value} (ht : P.underlying t = some (.slice e)) (h1 : OneC P e z B) (b len r k bo os n cc : Nat) {α : Type} (K : α → Value) (g h : Nat → α) (S : Cont) (hS : ∀ j, j < n → S.get (os + j) = some (K (h j)))
    (hK : ∀ a, (K a).oneCell' = true) (hb : (len + n) * B ≤ 140737488355328 ∧ len + n ≤ 9223372036854775807) {A : Option Addr} (hA : A = some ⟨k, bo + os, none⟩) :
    SRuns P (appendSem t ty (.slice (some ⟨b, 0, none⟩) len (len + r)) (.slice A n cc)) [⟨b, true, 0, spr (len + r) len (fun k => K (g k)) z⟩, ⟨k, false, bo, S⟩] 2
      (fun ns => .slice (some ⟨ns.getD 0 0, 0, none⟩) (len + n) (len + n + ns.getD 1 0))
      (fun ns => [some ⟨ns.getD 0 0, true, 0, spr (len + n + ns.getD 1 0) (len + n) (fun k => K (catU g len h k)) z⟩, some ⟨k, false, bo, S⟩]) := by
  subst hA; exact mk_append ht h1 b len r k bo os n cc K g h S hS hK hb
end Go.Eng
namespace Go.Eng
theorem listMem_app {a b : List (Option Blk)} {p : Nat} {x : Blk} (h : listMem (a ++ b) p = some x) : (p < a.length ∧ listMem a p = some x) ∨ (a.length ≤ p ∧ listMem b (p - a.length) = some x) := by
  unfold listMem at h ⊢
  by_cases hp : p < a.length
  · left; rw [List.getElem?_append_left hp] at h; exact ⟨hp, h⟩
  · right; rw [List.getElem?_append_right (by omega)] at h; exact ⟨by omega, h⟩
theorem listMem_left {a b : List (Option Blk)} {p : Nat} (hp : p < a.length) : listMem (a ++ b) p = listMem a p := by
  unfold listMem; rw [List.getElem?_append_left hp]
theorem listMem_right {a b : List (Option Blk)} {p : Nat} (hp : a.length ≤ p) : listMem (a ++ b) p = listMem b (p - a.length) := by
  unfold listMem; rw [List.getElem?_append_right hp]
theorem noneL_length : ∀ cs : List Blk, (noneL cs).length = cs.length
  | [] => rfl
  | _ :: r => congrArg (· + 1) (noneL_length r)
theorem RunsF.lendG {F F' : Blk → Prop} {P : Program} {f : FuncId} {args : List Value} {bs cs : List Blk} {k : Nat} {v : List Nat → Value} {o nw : List Nat → List (Option Blk)} (h : RunsF F P f args bs k v (fun ns => o ns ++ nw ns)) (ho : ∀ ns, (o ns).length = bs.length)
    (hF : ∀ w : World, FamH F' w → (∀ b ∈ cs, Holds b w) → FamH F w) (hn : ∀ x, F x → ∀ j, x.has j → (∃ y, F' y ∧ y.has j) ∨ ∃ c ∈ cs, c.has j) (hc : ∀ b ∈ cs, b.own = false) :
    RunsF F' P f args (bs ++ cs) k v (fun ns => o ns ++ (noneL cs ++ nw ns)) := by
  intro w hm ha hF'
  have hsub : ∀ p b, listMem (bs.map some) p = some b → p < bs.length ∧ listMem ((bs ++ cs).map some) p = some b := fun p b hp => by
    have hl : p < bs.length := by
      have := (List.getElem?_eq_some_iff.1 (listMem_some.1 hp)).1
      simpa using this
    exact ⟨hl, by rw [List.map_append, listMem_left (by simpa using hl)]; exact hp⟩
  have ho1 : ∀ k, Owns (listMem (bs.map some)) k → Owns (listMem ((bs ++ cs).map some)) k := fun k ⟨p, b, h1, h2, h3⟩ => ⟨p, b, (hsub p b h1).2, h2, h3⟩
  have hw := hF w (fun b hb' => ⟨(hF' b hb').1, (hF' b hb').2.1⟩) (fun b hb' => hm b (by simp [hb']))
  refine Calls.mono (h w (fun b hb' => hm b (by simp [hb'])) (fun p q b c hpq hpb hqc hown => ha p q b c hpq (hsub p b hpb).2 (hsub q c hqc).2 hown) (fun b hFb => ⟨(hw b hFb).1, (hw b hFb).2, fun j hj ⟨p, b', h1, h2, h3⟩ => ?_⟩)) ?_
  · obtain ⟨hl, hp'⟩ := hsub p b' h1
    rcases hn b hFb j hj with ⟨y, hy, he⟩ | ⟨c, hcm, he⟩
    · exact (hF' y hy).2.2 j he ⟨p, b', hp', h2, h3⟩
    · obtain ⟨i, hi⟩ := List.getElem?_of_mem hcm
      have hq : listMem ((bs ++ cs).map some) (bs.length + i) = some c := by
        rw [List.map_append, listMem_right (by simp)]
        simp [listMem, hi]
      exact ha p (bs.length + i) b' c (by omega) hp' hq h2 j h3 he
  · rintro e w' ⟨ns, hns, he, hp⟩
    have hout : ∀ p b, listMem (o ns ++ (noneL cs ++ nw ns)) p = some b → (p < bs.length ∧ listMem (o ns ++ nw ns) p = some b) ∨ (bs.length + cs.length ≤ p ∧ listMem (o ns ++ nw ns) (p - cs.length) = some b) := fun p b hpb => by
      rcases listMem_app hpb with ⟨h1, h2⟩ | ⟨h1, h2⟩
      · left; rw [ho] at h1; exact ⟨h1, by rw [listMem_left (by rw [ho]; exact h1)]; exact h2⟩
      · rw [ho] at h1 h2
        rcases listMem_app h2 with ⟨h3, h4⟩ | ⟨h3, h4⟩
        · exact absurd h4 (noneL_get _ _ _)
        · right
          rw [noneL_length] at h3 h4
          refine ⟨by omega, ?_⟩
          rw [listMem_right (by rw [ho]; omega), ho, show p - cs.length - bs.length = p - bs.length - cs.length by omega]; exact h4
    have hpos : ∀ p b, listMem (o ns ++ (noneL cs ++ nw ns)) p = some b → ∃ p', listMem (o ns ++ nw ns) p' = some b ∧ ((p < bs.length ∧ p' = p) ∨ (bs.length + cs.length ≤ p ∧ p' = p - cs.length)) := fun p b hpb => by
      rcases hout p b hpb with ⟨h1, h2⟩ | ⟨h1, h2⟩
      · exact ⟨p, h2, .inl ⟨h1, rfl⟩⟩
      · exact ⟨p - cs.length, h2, .inr ⟨h1, rfl⟩⟩
    refine ⟨ns, hns, he, ⟨fun p b hpb => ?_, fun p q b c hpq hpb hqc => ?_, ⟨hp.adv.os, hp.adv.output, hp.adv.tape, hp.adv.size, fun k hk hno => hp.adv.heap k hk (fun hk' => hno (ho1 k hk')), fun k ⟨p, b, h1, h2, h3⟩ => ?_, fun p b hpb hob => ?_⟩⟩⟩
    · obtain ⟨p', h1, _⟩ := hpos p b hpb; exact hp.holds p' b h1
    · obtain ⟨p', h1, h2⟩ := hpos p b hpb
      obtain ⟨q', h3, h4⟩ := hpos q c hqc
      exact hp.apart p' q' b c (by omega) h1 h3
    · obtain ⟨p', h4, _⟩ := hpos p b h1
      rcases hp.adv.names k ⟨p', b, h4, h2, h3⟩ with h5 | h5
      · exact .inl (ho1 k h5)
      · exact .inr h5
    · obtain ⟨p', h1, h2⟩ := hpos p b hpb
      have h3 := hp.adv.ro p' b h1 hob
      obtain ⟨h4, h5⟩ := hsub p' b h3
      rcases h2 with ⟨_, rfl⟩ | ⟨h6, rfl⟩
      · exact h5
      · omega
end Go.Eng
namespace Go.Eng
theorem holds_sprB {nm n r : Nat} {f : Nat → UInt8} {w : World} (h : Holds ⟨nm, false, 0, spr (n + r) n (fun k => u8 (f k)) (u8 0)⟩ w) : Holds ⟨nm, false, 0, tabF n fun k => u8 (f k)⟩ w :=
  h.recont rfl fun j v hj => by
    by_cases hl : j < n
    · rw [tabF_in hl] at hj
      show (spr (n + r) n (fun k => u8 (f k)) (u8 0)).get j = _
      rw [spr, tabF_in (by omega), if_pos hl]; exact hj
    · rw [tabF_out hl] at hj; cases hj
theorem famB_name {F' : Blk → Prop} {q : BytL} {B : Blk} (h : B.has q.wb) : ∀ x, famB q x → ∀ j, x.has j → (∃ y, F' y ∧ y.has j) ∨ ∃ c ∈ [B], c.has j := fun x hx j hj => by
  obtain ⟨_, rfl⟩ := hx
  have hj : q.wb = j := hj
  subst hj
  exact .inr ⟨B, by simp, h⟩
theorem Runs.fam {F : Blk → Prop} {P : Program} {f : FuncId} {args : List Value} {B : Blk} {v : Value} {o : List (Option Blk)} (h : Runs P f args [B] 0 (fun _ => v) (fun _ => o)) (hB : F B) : RunsF F P f args [] 0 (fun _ => v) (fun _ => []) := by
  intro w hm ha hF
  obtain ⟨h1, h2, _⟩ := hF B hB
  have hno : ∀ k, ¬ Owns (listMem ([B].map some)) k := fun k ⟨p, b, hp, ho, _⟩ => by
    rcases p with _ | p
    · cases hp; rw [h2] at ho; cases ho
    · simp [listMem] at hp
  refine Calls.mono (h w (fun b hb => by simp at hb; subst hb; exact h1) (fun p q b c _ hb _ ho => by
    rcases p with _ | p
    · cases hb; rw [h2] at ho; cases ho
    · simp [listMem] at hb)) ?_
  rintro e w' ⟨ns, hns, he, hp⟩
  have hnil : ∀ p b, listMem ([] : List (Option Blk)) p ≠ some b := fun p b => by simp [listMem]
  exact ⟨ns, hns, he, ⟨fun p b hpb => absurd hpb (hnil p b), fun p q b c _ hpb => absurd hpb (hnil p b), ⟨hp.adv.os, hp.adv.output, hp.adv.tape, hp.adv.size, fun k hk _ => hp.adv.heap k hk (hno k), fun k ⟨p, b, hpb, _⟩ => absurd hpb (hnil p b), fun p b hpb => absurd hpb (hnil p b)⟩⟩⟩
section
variable {P : Program} {t e t' : TypeId} {x y z : Operand}
theorem is_slqPartK (ht : P.underlying t = some (.slice e)) {sz : Nat} (hs : sizeB P e = some sz) (k1 k2 : IntKind) (wa : Option Addr) (len cap i j : Nat) (hi : i ≤ j ∧ j ≤ cap) :
    IsOp P (.slice t x (some y) (some z) none) [.slice wa len cap, .int k1 (i : Int), .int k2 (j : Int)] (.slice (fromA wa cap i sz) (j - i) (cap - i)) := by
  intro ρ o' ho hv
  rw [ho] at hv
  have hv' : [ρ x, ρ y, ρ z] = [Value.slice wa len cap, .int k1 (i : Int), .int k2 (j : Int)] := hv
  injection hv' with h1 hv'
  injection hv' with h2 hv'
  injection hv' with h3 _
  unfold execOp
  rw [ho]
  simp only [Option.map]
  show pureRun P (Sem.bind (Instr.sliceAt t (ρ x) (some (ρ y)) (some (ρ z)) none) fun v => Sem.pure (Next.value v)) = _
  rw [pureRun_bind, h1, h2, h3]
  have hi' : 0 ≤ (i : Int) ∧ (i : Int) ≤ (j : Int) := by omega
  have hj' : 0 ≤ (j : Int) ∧ (j : Int) ≤ (cap : Int) := by omega
  have e : pureRun P (Instr.sliceAt t (.slice wa len cap) (some (.int k1 (i : Int))) (some (.int k2 (j : Int))) none) = some (.slice (fromA wa cap i sz) (j - i) (cap - i)) := by
    simp only [Instr.sliceAt, Instr.slice, Instr.sliceBounds, Instr.sliceBound, nat, pureRun_bind', asIntOf, pureRun, pure, pureRun_underlying ht, hi', hj', and_self, if_true, pureRun_sizeOf hs, Int.toNat_natCast]
    rfl
  rw [e]
  rfl
theorem is_slqFromK (ht : P.underlying t = some (.slice e)) {sz : Nat} (hs : sizeB P e = some sz) (k : IntKind) (wa : Option Addr) (len cap i : Nat) (hi : i ≤ len ∧ len ≤ cap) : IsOp P (.slice t x (some y) none none) [.slice wa len cap, .int k (i : Int)] (.slice (fromA wa cap i sz) (len - i) (cap - i)) := by
  intro ρ o' ho hv
  rw [ho] at hv
  have hv' : [ρ x, ρ y] = [Value.slice wa len cap, .int k (i : Int)] := hv
  injection hv' with h1 hv'
  injection hv' with h2 _
  unfold execOp
  rw [ho]
  simp only [Option.map]
  show pureRun P (Sem.bind (Instr.sliceAt t (ρ x) (some (ρ y)) none none) fun v => Sem.pure (Next.value v)) = _
  rw [pureRun_bind, h1, h2]
  have hi' : 0 ≤ (i : Int) ∧ (i : Int) ≤ (len : Int) := by omega
  have e : pureRun P (Instr.sliceAt t (.slice wa len cap) (some (.int k (i : Int))) none none) = some (.slice (fromA wa cap i sz) (len - i) (cap - i)) := by
    simp only [Instr.sliceAt, Instr.slice, Instr.sliceBounds, Instr.sliceBound, nat, pureRun_bind', asIntOf, pureRun, pure, pureRun_underlying ht, hi', and_self, if_true, pureRun_sizeOf hs, Int.toNat_natCast]
    rfl
  rw [e]
  rfl
end
section
variable {P : Program} {t t' : TypeId} {x y : Operand} (a b : UInt8)
theorem is_add8 : IsOp P (.binOp .add t x y t') [u8 a, u8 b] (u8 (a + b)) := isOp_bin guard_int (by
  show some (Value.int .u8 (IntKind.u8.wrap ((a.toNat : Int) + b.toNat))) = _
  rw [wrap_u8, u8, UInt8.toNat_add]; congr 2)
theorem is_leq8 : IsOp P (.binOp .leq t x y t') [u8 a, u8 b] (.bool (decide (a.toNat ≤ b.toNat))) := isOp_bin guard_int (by
  show some (Value.bool (decide ((a.toNat : Int) ≤ (b.toNat : Int)))) = _
  congr 2; exact decide_eq_decide.2 Int.ofNat_le)
theorem is_gtr8 : IsOp P (.binOp .gtr t x y t') [u8 a, u8 b] (.bool (decide (b.toNat < a.toNat))) := isOp_bin guard_int (by
  show some (Value.bool (decide ((b.toNat : Int) < (a.toNat : Int)))) = _
  congr 2; exact decide_eq_decide.2 Int.ofNat_lt)
end
end Go.Eng
namespace Go.Eng
theorem Runs.famN {F : Blk → Prop} {P : Program} {f : FuncId} {args : List Value} {B : Blk} {k : Nat} {v : List Nat → Value} {x : List Nat → Option Blk} {nw : List Nat → List (Option Blk)} (h : Runs P f args [B] k v (fun ns => x ns :: nw ns)) (hB : F B) : RunsF F P f args [] k v nw := by
  intro w hm ha hF
  obtain ⟨h1, h2, _⟩ := hF B hB
  have hno : ∀ k, ¬ Owns (listMem ([B].map some)) k := fun k ⟨p, b, hp, ho, _⟩ => by
    rcases p with _ | p
    · cases hp; rw [h2] at ho; cases ho
    · simp [listMem] at hp
  refine Calls.mono (h w (fun b hb => by simp at hb; subst hb; exact h1) (fun p q b c _ hb _ ho => by
    rcases p with _ | p
    · cases hb; rw [h2] at ho; cases ho
    · simp [listMem] at hb)) ?_
  rintro e w' ⟨ns, hns, he, hp⟩
  have hs : ∀ p b, listMem (nw ns) p = some b → listMem (x ns :: nw ns) (p + 1) = some b := fun p b h => by simpa [listMem] using h
  refine ⟨ns, hns, he, ⟨fun p b hpb => hp.holds _ b (hs p b hpb), fun p q b c hpq hpb hqc => hp.apart _ _ b c (by omega) (hs p b hpb) (hs q c hqc), ⟨hp.adv.os, hp.adv.output, hp.adv.tape, hp.adv.size, fun k hk _ => hp.adv.heap k hk (hno k), fun k ⟨p, b, hpb, h3, h4⟩ => ?_, fun p b hpb hob => ?_⟩⟩⟩
  · rcases hp.adv.names k ⟨p + 1, b, hs p b hpb, h3, h4⟩ with h5 | h5
    · exact absurd h5 (hno k)
    · exact .inr h5
  · have := hp.adv.ro (p + 1) b (hs p b hpb) hob
    simp [listMem] at this
end Go.Eng
namespace Go.Eng
theorem RunsF.lendP {F F' : Blk → Prop} {P : Program} {f : FuncId} {args : List Value} {bs : List Blk} {k : Nat} {v : List Nat → Value} {out : List Nat → List (Option Blk)}
    (hF : ∀ w : World, FamH F' w → FamH F w) (hn : ∀ x, F x → ∃ y, F' y ∧ ∀ j, x.has j → y.has j) (h : RunsF F P f args bs k v out) : RunsF F' P f args bs k v out := fun w hb ha hF' => h w hb ha fun b hb' => by
  obtain ⟨h1, h2⟩ := hF w (fun x hx => ⟨(hF' x hx).1, (hF' x hx).2.1⟩) b hb'
  obtain ⟨y, hy, he⟩ := hn b hb'
  exact ⟨h1, h2, fun j hj => (hF' y hy).2.2 j (he j hj)⟩
theorem famB_part {b c : BytL} {x : Blk} (h : 0 < c.wn → 0 < b.wn) (hx : famB c x) (hb : c.wb = b.wb := by rfl) : ∃ y, famB b y ∧ ∀ j, x.has j → y.has j := by
  obtain ⟨h0, rfl⟩ := hx
  exact ⟨bytB b, ⟨h h0, rfl⟩, fun j hj => hb.symm.trans hj⟩
end Go.Eng
namespace Go.Eng
section
variable {P : Program} {t t' : TypeId} {x y : Operand}
theorem is_eql8 (a b : UInt8) : IsOp P (.binOp .eql t x y t') [u8 a, u8 b] (.bool (a == b)) := isOp_bin guard_int (by
  show some (Value.bool ((a.toNat : Int) == (b.toNat : Int))) = _
  have : ((a.toNat : Int) == (b.toNat : Int)) = (a == b) := by
    rw [Bool.eq_iff_iff, beq_iff_eq, beq_iff_eq]
    constructor
    · intro h; exact UInt8.toNat_inj.1 (by omega)
    · intro h; rw [h]
  rw [this])
end
end Go.Eng
namespace Go.Eng
theorem map_get {α : Type} (K : α → Value) (g : Nat → α) (n k : Nat) (h : k < n) : ((List.range n).map fun j => K (g j))[k]? = some (K (g k)) := by
  rw [List.getElem?_map, List.getElem?_range h]; rfl
theorem holds_litB {nm : Nat} {l : List Value} {n : Nat} {f : Nat → UInt8} {w : World} (h : Holds ⟨nm, false, 0, .lit l⟩ w) (hl : l = (List.range n).map fun k => u8 (f k)) : Holds ⟨nm, false, 0, tabF n fun k => u8 (f k)⟩ w := by
  subst hl
  exact h.recont rfl fun j v hj => by
    by_cases hl : j < n
    · rw [tabF_in hl] at hj
      show ((List.range n).map fun k => u8 (f k))[j]? = _
      rw [map_get u8 f n j hl]; exact hj
    · rw [tabF_out hl] at hj; cases hj
def bytsOf (l : List UInt8) (k : Nat) : UInt8 := l.getD k 0
theorem is_minN {P : Program} {x y : Operand} {ts : Array TypeId} (a b : Nat) : IsOp P (.call { callee := .builtin .min, args := #[x, y], argTypes := ts }) [nat a, nat b] (nat (min a b)) := by
  intro ρ o ho hv
  rw [ho] at hv
  have hv' : ρ x = nat a ∧ ρ y = nat b := by simpa [Op.operands, Call.operands] using hv
  unfold execOp
  rw [ho]
  show pureRun P ((Builtin.min_ ts o.type (#[x, y].map ρ)) >>= fun v => (pure (Next.value v) : Sem Next)) = _
  have e1 : (#[x, y].map ρ : Array Value) = #[nat a, nat b] := by simp [hv'.1, hv'.2]
  have e2 : pureRun P (Builtin.min_ ts o.type #[nat a, nat b]) = some (nat (min a b)) := by
    show some (Value.int .i64 (if ((b : Int) < (a : Int)) then (b : Int) else (a : Int))) = _
    unfold nat
    congr 2
    split <;> omega
  rw [e1, pureRun_bind', e2]
  rfl
def famBB (x y : BytL) (b : Blk) : Prop := famB x b ∨ famB y b
end Go.Eng
namespace Go.Eng
theorem RunsF.drop {F : Blk → Prop} {P : Program} {f : FuncId} {args : List Value} {bs : List Blk} {k : Nat} {v : List Nat → Value} {o nw : List Nat → List (Option Blk)} (h : RunsF F P f args bs k v (fun ns => o ns ++ nw ns)) : RunsF F P f args bs k v o := fun w hb ha hF =>
  Calls.mono (h w hb ha hF) fun e w' ⟨ns, h1, h2, hp⟩ => by
    have hs : ∀ p b, listMem (o ns) p = some b → listMem (o ns ++ nw ns) p = some b := fun p b h => by
      have hl : p < (o ns).length := (List.getElem?_eq_some_iff.1 (show (o ns)[p]? = some (some b) by
        unfold listMem at h
        cases h3 : (o ns)[p]? with
        | none => rw [h3] at h; cases h
        | some x => rw [h3] at h; simp at h; rw [h])).1
      rw [listMem_left hl]; exact h
    exact ⟨ns, h1, h2, ⟨fun p b h => hp.holds p b (hs p b h), fun p q b c hpq hb hc => hp.apart p q b c hpq (hs p b hb) (hs q c hc), hp.adv.weak hs⟩⟩
theorem RunsF.name1 {F : Blk → Prop} {P : Program} {f : FuncId} {args : List Value} {bs : List Blk} {v : Value} {o : List (Option Blk)} (h : RunsF F P f args bs 0 (fun _ => v) (fun _ => o)) : RunsF F P f args bs 1 (fun _ => v) (fun _ => o) := fun w hb ha hF =>
  Calls.mono (h w hb ha hF) fun e w' ⟨ns, h1, h2, hp⟩ => ⟨[0], rfl, h2, hp⟩
theorem spr_as {c n : Nat} {f g : Nat → Value} {z : Value} (h : ∀ k, k < n → f k = g k) : spr c n f z = spr c n g z := by
  unfold spr
  congr 1
  funext k
  by_cases hk : k < n
  · rw [if_pos hk, if_pos hk, h k hk]
  · rw [if_neg hk, if_neg hk]
end Go.Eng
end
section
namespace Go.Eng
open Go.RowKit Go.WideShapes Go.ChangeShapes Go.ChangeAt Go.Deep
structure BytS where
  wa : Option Addr
  wn : Nat
  wc : Nat
  wb : Nat
  wo : Nat
  wf : Nat → BytL
def bysB (q : BytS) : Blk := ⟨q.wb, false, q.wo, tabF q.wn fun k => slqV (q.wf k)⟩
structure OkS (q : BytS) : Prop where
  cap : q.wn ≤ q.wc
  ad : 0 < q.wn → q.wa = some ⟨q.wb, q.wo, none⟩
  len : q.wn ≤ 9223372036854775807
  el : ∀ k, k < q.wn → OkB (q.wf k)
def famS (q : BytS) (b : Blk) : Prop := (0 < q.wn ∧ b = bysB q) ∨ ∃ k, k < q.wn ∧ famB (q.wf k) b
section
variable {H : Type} {enc : TypeId × Value → H} {P : Program}
theorem bytes_cell {W : World} {base : Nat} {sp : Nat → Bool} {held : Bool} {t e : TypeId} {v : Value} {fuel : Nat} {x : DataW H × List MemPlace} (ht : P.underlying t = some (.slice e)) (he : P.underlying e = some (.int .u8))
    (hc : P.cellsOf e = 1) (hf : DataW.trod enc P W base sp held fuel t [v] = some x) : ∃ q : BytL, v = slqV q ∧ OkB q ∧ FamH (famB q) W := by
  rcases open_slice1 ht hc hf with ⟨hcs, _⟩ | ⟨a, len, cap, m, n, V, D, Pl, hcs, _, hl, hm, hmm, _, hx⟩
  · simp only [List.cons.injEq, and_true] at hcs
    subst hcs
    exact ⟨bytZ none 0, rfl, okb_nil, holdb_nil⟩
  · simp only [List.cons.injEq, and_true] at hcs
    subst hcs
    by_cases h0 : len = 0
    · subst h0
      exact ⟨bytZ (some a) cap, rfl, okb_nil, holdb_nil⟩
    have hlm : len ≤ m := by rw [hmm]; split <;> omega
    have hspot : a.spot = none := World.cell?_spot (by
      have := (hx 0 (by omega)).1
      rwa [show a.add 0 = a from by cases a; simp [Addr.add]] at this)
    obtain ⟨ab, ao, spot⟩ := a
    simp only at hspot
    subst hspot
    have hV : ∀ i, i < len → ∃ x : UInt8, V i = u8 x := fun i hi => by
      obtain ⟨_, h2⟩ := hx i (by omega)
      obtain ⟨x0, e0, _, w0⟩ := DataW.trod_int he h2
      simp at e0
      rw [e0]
      exact u8_of w0
    obtain ⟨f, hfV⟩ := choose_lt (α := UInt8) (p := fun i x => V i = u8 x) hV
    refine ⟨⟨some ⟨ab, ao, none⟩, len, cap, ab, ao, f⟩, rfl, ⟨hl, fun _ => rfl, by unfold maxLen at hm; show len ≤ _; omega⟩, fun b hb => ?_⟩
    obtain ⟨_, rfl⟩ := hb
    refine ⟨⟨lt_of_cell (hx 0 (by omega)).1, fun o v ho => ?_, (fun h => by cases h), obj_not rfl⟩, rfl⟩
    have ho' : (tabF len fun k => u8 (f k)).get o = some v := ho
    by_cases hol : o < len
    · rw [tabF_in hol] at ho'
      injection ho' with ho'
      have := (hx o (by omega)).1
      rw [add_none] at this
      show W.cell? ⟨ab, ao + o, none⟩ = some v
      rw [this, hfV o hol, ho']
    · rw [tabF_out hol] at ho'; cases ho'
theorem open_bytes {r : Reach} {b0 : Nat} {W : World} {base : Nat} {sp : Nat → Bool} {held : Bool} {t e : TypeId} {v : Value} {d : DataW H} {ps : List MemPlace} (ht : P.underlying t = some (.slice e)) (he : P.underlying e = some (.int .u8))
    (hc : P.cellsOf e = 1) (hval : Value.okWide P W r b0 t v) (hd : DataW.Trod enc P W base sp held t v d ps) : ∃ q : BytL, v = .slice q.wa q.wn q.wc ∧ OkB q ∧ FamH (famB q) W := by
  obtain ⟨a1, len, cap, rfl⟩ := okWide_slice ht hval
  obtain ⟨fuel, hf⟩ := hd
  exact bytes_cell ht he hc hf
theorem slice1_cell {α : Type} [Inhabited α] (K : α → Value) (G : α → Prop) {W : World} {base : Nat} {sp : Nat → Bool} {held : Bool} {t e : TypeId} {v : Value} {fuel : Nat} {x : DataW H × List MemPlace} (ht : P.underlying t = some (.slice e))
    (hc : P.cellsOf e = 1) (hel : ∀ n v x, DataW.trod enc P W base sp held n e [v] = some x → ∃ a, v = K a ∧ G a) (hf : DataW.trod enc P W base sp held fuel t [v] = some x) :
    ∃ (wa : Option Addr) (wn wc wb wo : Nat) (f : Nat → α), v = .slice wa wn wc ∧ wn ≤ wc ∧ (0 < wn → wa = some ⟨wb, wo, none⟩) ∧ wn ≤ 9223372036854775807 ∧ (∀ k, k < wn → G (f k)) ∧ (0 < wn → Holds ⟨wb, false, wo, tabF wn fun k => K (f k)⟩ W) := by
  rcases open_slice1 ht hc hf with ⟨hcs, _⟩ | ⟨a, len, cap, m, n, V, D, Pl, hcs, _, hl, hm, hmm, _, hx⟩
  · simp only [List.cons.injEq, and_true] at hcs
    subst hcs
    exact ⟨none, 0, 0, 0, 0, fun _ => default, rfl, Nat.le_refl _, fun h => absurd h (Nat.lt_irrefl 0), Nat.zero_le _, fun k hk => absurd hk (Nat.not_lt_zero k), fun h => absurd h (Nat.lt_irrefl 0)⟩
  · simp only [List.cons.injEq, and_true] at hcs
    subst hcs
    by_cases h0 : len = 0
    · subst h0
      exact ⟨some a, 0, cap, 0, 0, fun _ => default, rfl, Nat.zero_le _, fun h => absurd h (Nat.lt_irrefl 0), Nat.zero_le _, fun k hk => absurd hk (Nat.not_lt_zero k), fun h => absurd h (Nat.lt_irrefl 0)⟩
    have hlm : len ≤ m := by rw [hmm]; split <;> omega
    have hspot : a.spot = none := World.cell?_spot (by
      have := (hx 0 (by omega)).1
      rwa [show a.add 0 = a from by cases a; simp [Addr.add]] at this)
    obtain ⟨ab, ao, spot⟩ := a
    simp only at hspot
    subst hspot
    have hV : ∀ i, i < len → ∃ x : α, V i = K x ∧ G x := fun i hi => by
      obtain ⟨_, h2⟩ := hx i (by omega)
      exact hel _ _ _ h2
    obtain ⟨f, hfV⟩ := choose_lt (α := α) (p := fun i x => V i = K x ∧ G x) hV
    refine ⟨some ⟨ab, ao, none⟩, len, cap, ab, ao, f, rfl, hl, fun _ => rfl, by unfold maxLen at hm; omega, fun k hk => (hfV k hk).2, fun _ => ⟨lt_of_cell (hx 0 (by omega)).1, fun o v ho => ?_, (fun h => by cases h), obj_not rfl⟩⟩
    have ho' : (tabF len fun k => K (f k)).get o = some v := ho
    by_cases hol : o < len
    · rw [tabF_in hol] at ho'
      injection ho' with ho'
      have := (hx o (by omega)).1
      rw [add_none] at this
      show W.cell? ⟨ab, ao + o, none⟩ = some v
      rw [this, (hfV o hol).1, ho']
    · rw [tabF_out hol] at ho'; cases ho'
instance : Inhabited BytL := ⟨bytZ none 0⟩
theorem open_bytess {r : Reach} {b0 : Nat} {W : World} {base : Nat} {sp : Nat → Bool} {held : Bool} {t s e : TypeId} {v : Value} {d : DataW H} {ps : List MemPlace} (ht : P.underlying t = some (.slice s)) (hs : P.underlying s = some (.slice e)) (he : P.underlying e = some (.int .u8))
    (hcs : P.cellsOf s = 1) (hc : P.cellsOf e = 1) (hval : Value.okWide P W r b0 t v) (hd : DataW.Trod enc P W base sp held t v d ps) : ∃ q : BytS, v = .slice q.wa q.wn q.wc ∧ OkS q ∧ FamH (famS q) W := by
  obtain ⟨a1, len, cap, rfl⟩ := okWide_slice ht hval
  obtain ⟨fuel, hf⟩ := hd
  obtain ⟨wa, wn, wc, wb, wo, f, e1, e2, e3, e4, e5, e6⟩ := slice1_cell (α := BytL) slqV (fun q => OkB q ∧ FamH (famB q) W) ht hcs (fun n v x hx => bytes_cell hs he hc hx) hf
  injection e1 with h1 h2 h3
  subst h1 h2 h3
  refine ⟨⟨a1, len, cap, wb, wo, f⟩, rfl, ⟨e2, e3, e4, fun k hk => (e5 k hk).1⟩, fun b hb => ?_⟩
  rcases hb with ⟨h0, rfl⟩ | ⟨k, hk, hb⟩
  · exact ⟨e6 h0, rfl⟩
  · exact (e5 k hk).2 b hb
end
end Go.Eng
namespace Go.Eng
open Go.RowKit Go.WideShapes Go.ChangeShapes Go.ChangeAt Go.Deep
section
variable {H : Type} {enc : TypeId × Value → H} {P : Program}
end
end Go.Eng
end
section
namespace Go.Eng
structure Grw (α : Type) where
  z : Bool
  nm : Nat
  n : Nat
  r : Nat
  f : Nat → α
def grO {α : Type} (K : α → Value) (zv : Value) (A : Grw α) : Option Blk := match A.z with
  | true => none
  | false => some ⟨A.nm, true, 0, spr (A.n + A.r) A.n (fun k => K (A.f k)) zv⟩
section
variable {α : Type} {K : α → Value} {zv : Value} {A : Grw α}
theorem grO_own (h : A.z = false) : grO K zv A = some ⟨A.nm, true, 0, spr (A.n + A.r) A.n (fun k => K (A.f k)) zv⟩ := by unfold grO; rw [h]
end
section
variable {P : Program} {t ty e : TypeId}
theorem srun_append_none {sz : Nat} (ht : P.underlying t = some (.slice e)) (hs : sizeB P e = some sz) (a : Option Addr) (n c : Nat) (hn : n ≤ c) (al : Option Addr) (cl : Nat) :
    SRuns P (appendSem t ty (.slice a n c) (.slice al 0 cl)) [] 0 (fun _ => .slice a n c) (fun _ => []) := by
  intro w hall ha
  obtain ⟨i, hi, hi2⟩ : ∃ i, P.info? e = some i ∧ i.size = sz := by
    unfold sizeB at hs
    cases h : P.info? e with
    | none => simp [h] at hs
    | some i => simp [h] at hs; exact ⟨i, rfl, hs⟩
  refine ⟨[], w, rfl, .inl (run_value ?_), Post.refl (fun p c h => by cases h) ha⟩
  have hn' : ¬ c < n := by omega
  cases al <;> cases a <;> simp [Builtin.append_, run_underlying ht, sizeOf, typeInfo, hi, hn', Builtin.lenOf, Builtin.firstCells, storeCells, loadCells, loadCellsFrom]
end
end Go.Eng
namespace Go.Eng
theorem srun_append_noneM {P : Program} {t ty e : TypeId} {sz : Nat} (ht : P.underlying t = some (.slice e)) (hs : sizeB P e = some sz) (a : Option Addr) (n c : Nat) (hn : n ≤ c) (al : Option Addr) (m cl : Nat) (hm : m = 0) :
    SRuns P (appendSem t ty (.slice a n c) (.slice al m cl)) [] 0 (fun _ => .slice a n c) (fun _ => []) := by
  subst hm; exact srun_append_none ht hs a n c hn al cl
section
variable {P : Program} {t ty e : TypeId}
end
end Go.Eng
end
section
namespace Go.Eng
theorem fromA_own {nm c i : Nat} (h : i < c) : fromA (some ⟨nm, 0, none⟩) c i 1 = some ⟨nm, 0 + i, none⟩ := by
  unfold fromA; rw [if_neg (by omega)]; simp [add_none]
def smA (x : UInt64) : N4 := ⟨x, 0, 0, 0⟩
theorem smA_val (x : UInt64) : (smA x).val = x.toNat := by
  show x.toNat + _ = _
  simp [smA]
def szU (x : UInt64) : Nat := (len4 (smA x) + 7) / 8
end Go.Eng
namespace Go.Eng
theorem szU_le (x : UInt64) : szU x ≤ 8 := by
  unfold szU
  rw [len4_val, smA_val]
  have := bitLen_le_of_lt (n := x.toNat) (k := 64) x.toNat_lt
  omega
theorem szU_lt (x : UInt64) : x.toNat < 256 ^ szU x := by
  rw [pow256]
  refine Nat.lt_of_lt_of_le (bitLen_lt _) (Nat.pow_le_pow_right (by omega) ?_)
  unfold szU
  rw [len4_val, smA_val]; omega
theorem szU_ge {x : UInt64} (h : szU x ≠ 0) : 256 ^ (szU x - 1) ≤ x.toNat := by
  have h0 : x.toNat ≠ 0 := fun e => h (by unfold szU; rw [len4_val, smA_val, e]; rfl)
  rw [pow256]
  refine Nat.le_trans (Nat.pow_le_pow_right (by omega) ?_) (bitLen_le h0)
  unfold szU
  rw [len4_val, smA_val]; omega
def smN (x : UInt64) : Nat := szU x + 1
def smB (x : UInt64) : Nat → UInt8 := fun k => if k = 0 then UInt8.ofNat (szU x) else bytesF (smA x) (32 - szU x + (k - 1))
theorem smB_dig (x : UInt64) {k : Nat} (h : 0 < k) (h2 : k ≤ szU x) : smB x k = UInt8.ofNat (dig x.toNat (szU x - k)) := by
  have := szU_le x
  unfold smB bytesF
  rw [if_neg (by omega), if_pos (by omega), smA_val]
  congr 2; omega
theorem small_end {f : Nat → UInt8} {n : Nat} {x : UInt64} (k : Nat) (hk : k < n + smN x) :
    catU (catU f n (fun _ => UInt8.ofNat ((len4 (N4.mk x 0 0 0) + 7) / 8))) (n + 1) (fun j => bytesF (N4.mk x 0 0 0) (32 - (len4 (N4.mk x 0 0 0) + 7) / 8 + j)) k = catU f n (smB x) k := by
  have hz : (len4 (N4.mk x 0 0 0) + 7) / 8 = szU x := rfl
  rw [hz]
  unfold smN at hk
  unfold catU smB
  by_cases h1 : k < n
  · rw [if_pos (by omega), if_pos h1, if_pos h1]
  · by_cases h2 : k < n + 1
    · rw [if_pos h2, if_neg h1, if_neg h1, if_pos (by omega)]
    · rw [if_neg h2, if_neg h1, if_neg (by omega)]
      exact congrArg (bytesF (smA x)) (show 32 - szU x + (k - (n + 1)) = 32 - szU x + (k - n - 1) by omega)
theorem small_end0 {f : Nat → UInt8} {n : Nat} {x : UInt64} (h0 : ¬ 0 < 32 - (32 - (len4 (N4.mk x 0 0 0) + 7) / 8)) (k : Nat) (hk : k < n + smN x) :
    catU f n (fun _ => UInt8.ofNat ((len4 (N4.mk x 0 0 0) + 7) / 8)) k = catU f n (smB x) k := by
  have hz : (len4 (N4.mk x 0 0 0) + 7) / 8 = szU x := rfl
  have := szU_le x
  rw [hz] at h0 ⊢
  unfold smN at hk
  unfold catU smB
  by_cases h1 : k < n
  · rw [if_pos h1, if_pos h1]
  · rw [if_neg h1, if_neg h1, if_pos (by omega)]
theorem catU_nil {α : Type} (f g : Nat → α) : catU f 0 g = g := by
  funext k; unfold catU; rw [if_neg (by omega), Nat.sub_zero]
theorem catU_assoc {α : Type} (f g h : Nat → α) (a b : Nat) : catU (catU f a g) (a + b) h = catU f a (catU g b h) := by
  funext k; unfold catU
  by_cases h1 : k < a
  · rw [if_pos (by omega), if_pos h1, if_pos h1]
  · by_cases h2 : k < a + b
    · rw [if_pos h2, if_neg h1, if_neg h1, if_pos (by omega)]
    · rw [if_neg h2, if_neg h1, if_neg (by omega), Nat.sub_sub]
end Go.Eng
namespace Go.Eng
def smV (f : Nat → UInt8) : UInt64 := (ofN (fun k => f (k + 1)) ((1 + f 0).toNat - 1)).a
def wrE (f : Nat → UInt8) (n : Nat) (limit : UInt64) : Int :=
  if n = 0 then 3 else if (f 0).toNat ≤ 8 ∧ n - 1 < (f 0).toNat then 3 else if 8 < (f 0).toNat ∨ (0 < (f 0).toNat ∧ (f 1 == 0) = true) then 31 else if limit < smV f then 2 else 0
def failE (e e2 : Int) : Int := if e = 0 then e2 else e
theorem add1_8 {x : UInt8} (h : x.toNat ≤ 254) : (1 + x).toNat = 1 + x.toNat := by
  rw [UInt8.toNat_add]
  have : (1 : UInt8).toNat = 1 := rfl
  omega
theorem wrE_zero {f : Nat → UInt8} {n : Nat} {l : UInt64} (h : wrE f n l = 0) : 0 < n ∧ (f 0).toNat ≤ 8 ∧ (f 0).toNat + 1 ≤ n ∧ (1 + f 0).toNat = 1 + (f 0).toNat ∧ ¬ l < smV f ∧ ¬ (0 < (f 0).toNat ∧ (f 1 == 0) = true) := by
  unfold wrE at h
  by_cases h1 : n = 0
  · rw [if_pos h1] at h; cases h
  rw [if_neg h1] at h
  by_cases h2 : (f 0).toNat ≤ 8 ∧ n - 1 < (f 0).toNat
  · rw [if_pos h2] at h; cases h
  rw [if_neg h2] at h
  by_cases h3 : 8 < (f 0).toNat ∨ (0 < (f 0).toNat ∧ (f 1 == 0) = true)
  · rw [if_pos h3] at h; cases h
  rw [if_neg h3] at h
  by_cases h4 : l < smV f
  · rw [if_pos h4] at h; cases h
  have h5 : (f 0).toNat ≤ 8 := by omega
  exact ⟨by omega, h5, by omega, add1_8 (by omega), h4, fun h => h3 (.inr h)⟩
def rsE (q : BytL) (e : Int) (l : UInt64) : Int := failE e (wrE q.wf q.wn l)
def rsQ (q : BytL) (e : Int) (l : UInt64) : BytL := if rsE q e l = 0 then bytF q (1 + q.wf 0).toNat else q
def rsV (q : BytL) (e : Int) (l : UInt64) : UInt64 := if rsE q e l = 0 then smV q.wf else 0
theorem failE_zero {e e2 : Int} (h : failE e e2 = 0) : e = 0 ∧ e2 = 0 := by
  unfold failE at h
  by_cases h1 : e = 0
  · rw [if_pos h1] at h; exact ⟨h1, h⟩
  · rw [if_neg h1] at h; exact absurd h h1
theorem rs_zero {q : BytL} {e : Int} {l : UInt64} (h : rsE q e l = 0) : 0 < q.wn ∧ (q.wf 0).toNat ≤ 8 ∧ (q.wf 0).toNat + 1 ≤ q.wn ∧ (1 + q.wf 0).toNat = 1 + (q.wf 0).toNat := by
  obtain ⟨a, b, c, d, _⟩ := wrE_zero (failE_zero h).2
  exact ⟨a, b, c, d⟩
def endE (n : Nat) (e : Int) : Int := if e = 0 ∧ 0 < n then 30 else e
end Go.Eng
namespace Go.Eng
theorem small_endN {x : UInt64} (k : Nat) (hk : k < smN x) : catU (fun _ => UInt8.ofNat ((len4 (N4.mk x 0 0 0) + 7) / 8)) 1 (fun j => bytesF (N4.mk x 0 0 0) (32 - (len4 (N4.mk x 0 0 0) + 7) / 8 + j)) k = smB x k := by
  have h := small_end (f := fun _ => 0) (n := 0) (x := x) k (by omega)
  rw [catU_nil, catU_nil] at h
  exact h
theorem small_endN0 {x : UInt64} (h0 : ¬ 0 < 32 - (32 - (len4 (N4.mk x 0 0 0) + 7) / 8)) (k : Nat) (hk : k < smN x) : UInt8.ofNat ((len4 (N4.mk x 0 0 0) + 7) / 8) = smB x k := by
  have h := small_end0 (f := fun _ => 0) (n := 0) (x := x) h0 k (by omega)
  rw [catU_nil, catU_nil] at h
  exact h
theorem smN_le (x : UInt64) : smN x ≤ 9 := by have := szU_le x; unfold smN; omega
def byN (n : Nat) : Nat := smN (UInt64.ofNat n) + n
def byB (f : Nat → UInt8) (n : Nat) : Nat → UInt8 := catU (smB (UInt64.ofNat n)) (smN (UInt64.ofNat n)) f
theorem smN_rng (x : UInt64) : 1 ≤ smN x ∧ smN x ≤ 9 := ⟨by unfold smN; omega, smN_le x⟩
theorem byN_rng (n : Nat) : 1 ≤ byN n ∧ byN n ≤ n + 9 := by have := smN_rng (UInt64.ofNat n); unfold byN; omega
theorem bytes_endN {q : BytL} (h0 : q.wn = 0) (k : Nat) (hk : k < byN q.wn) : smB (UInt64.ofNat q.wn) k = byB q.wf q.wn k := by
  unfold byN at hk
  unfold byB catU
  rw [if_pos (by omega)]
theorem bytes_end0 {f : Nat → UInt8} {n : Nat} {q : BytL} (h0 : q.wn = 0) (k : Nat) (hk : k < n + byN q.wn) : catU f n (smB (UInt64.ofNat q.wn)) k = catU f n (byB q.wf q.wn) k := by
  unfold catU
  by_cases h : k < n
  · rw [if_pos h, if_pos h]
  · rw [if_neg h, if_neg h]; exact bytes_endN h0 _ (by omega)
end Go.Eng
namespace Go.Eng
theorem wr_3 {f : Nat → UInt8} {n : Nat} {l : UInt64} (h : n = 0 ∨ ((f 0).toNat ≤ 8 ∧ n - 1 < (f 0).toNat)) : (3 : Int) = wrE f n l := by
  unfold wrE
  by_cases h1 : n = 0
  · rw [if_pos h1]
  · rw [if_neg h1, if_pos (by omega)]
theorem wr_31 {f : Nat → UInt8} {n : Nat} {l : UInt64} (h1 : n ≠ 0) (h2 : ¬ ((f 0).toNat ≤ 8 ∧ n - 1 < (f 0).toNat)) (h3 : 8 < (f 0).toNat ∨ (0 < (f 0).toNat ∧ (f 1 == 0) = true)) : (31 : Int) = wrE f n l := by
  unfold wrE; rw [if_neg h1, if_neg h2, if_pos h3]
theorem wr_2 {f : Nat → UInt8} {n : Nat} {l : UInt64} (h1 : n ≠ 0) (h2 : ¬ ((f 0).toNat ≤ 8 ∧ n - 1 < (f 0).toNat)) (h3 : ¬ (8 < (f 0).toNat ∨ (0 < (f 0).toNat ∧ (f 1 == 0) = true))) (h4 : l < smV f) : (2 : Int) = wrE f n l := by
  unfold wrE; rw [if_neg h1, if_neg h2, if_neg h3, if_pos h4]
theorem wr_0 {f : Nat → UInt8} {n : Nat} {l : UInt64} (h1 : n ≠ 0) (h2 : ¬ ((f 0).toNat ≤ 8 ∧ n - 1 < (f 0).toNat)) (h3 : ¬ (8 < (f 0).toNat ∨ (0 < (f 0).toNat ∧ (f 1 == 0) = true))) (h4 : ¬ l < smV f) : (0 : Int) = wrE f n l := by
  unfold wrE; rw [if_neg h1, if_neg h2, if_neg h3, if_neg h4]
theorem ofN_nil (f : Nat → UInt8) : ofN f 0 = ⟨0, 0, 0, 0⟩ ∧ ofE 0 = 0 := ⟨(show ofN f 0 = N4.ofNat 0 from rfl).trans (N4.ext_val (by rw [N4.val_ofNat]; rfl)), rfl⟩
end Go.Eng
namespace Go.Eng
theorem wr_31s {f : Nat → UInt8} {n : Nat} {l : UInt64} (h1 : n ≠ 0) (h2 : ¬ ((f 0).toNat ≤ 8 ∧ n - 1 < (f 0).toNat)) (h3 : selB (decide (8 < (f 0).toNat)) true (selB (decide (0 < (f 0).toNat)) (f 1 == 0) false) = true) : (31 : Int) = wrE f n l := by
  refine wr_31 h1 h2 ?_
  simpa [selB_or, selB_and] using h3
theorem wr_not {f : Nat → UInt8} (h3 : selB (decide (8 < (f 0).toNat)) true (selB (decide (0 < (f 0).toNat)) (f 1 == 0) false) = false) : ¬ (8 < (f 0).toNat ∨ (0 < (f 0).toNat ∧ (f 1 == 0) = true)) := by
  intro h
  rw [← Bool.not_eq_true] at h3
  exact h3 (by simpa [selB_or, selB_and] using h)
theorem rs_out {q : BytL} {e : Int} {l : UInt64} (h : rsE q e l ≠ 0) : rsQ q e l = q ∧ rsV q e l = 0 := ⟨if_neg h, if_neg h⟩
theorem rs_in {q : BytL} {e : Int} {l : UInt64} (h : rsE q e l = 0) : rsQ q e l = bytF q (1 + q.wf 0).toNat ∧ rsV q e l = smV q.wf := ⟨if_pos h, if_pos h⟩
theorem okb_rs {q : BytL} (hq : OkB q) (e : Int) (l : UInt64) : OkB (rsQ q e l) := by
  unfold rsQ
  split
  · rename_i h
    obtain ⟨a, b, c, d⟩ := rs_zero h
    exact okb_from hq (by omega)
  · exact hq
theorem holdb_rs {q : BytL} {e : Int} {l : UInt64} {w : World} (h : FamH (famB q) w) : FamH (famB (rsQ q e l)) w := by
  unfold rsQ
  split
  · rename_i h0
    obtain ⟨a, b, c, d⟩ := rs_zero h0
    exact holdb_from (by omega) h
  · exact h
end Go.Eng
namespace Go.Eng
theorem rs_wb {q : BytL} {e : Int} {l : UInt64} : (rsQ q e l).wb = q.wb := by unfold rsQ; split <;> rfl
end Go.Eng
end
section
namespace Go.Proofs.Ytnailbicmhkmbaa
open Go Go.Eng
theorem wsmall_own (w b n r : Nat) (f : Nat → UInt8) (x : UInt64) (hn : n ≤ 100000) : Runs Try.prog 30 [(ptr w 0), (u64 x)] [⟨w, true, 0, (.lit [(Value.slice (some ⟨b, 0, none⟩) n (n + r))])⟩, ⟨b, true, 0, (spr (n + r) n (fun k => u8 (f k)) (u8 0))⟩] 2 (fun (ns : List Nat) => (Value.tuple #[])) (fun (ns : List Nat) => [some ⟨w, true, 0, (.lit [(Value.slice (some ⟨(ns.getD 0 0), 0, none⟩) (n + smN x) (n + smN x + (ns.getD 1 0)))])⟩, some ⟨(ns.getD 0 0), true, 0, (spr (n + smN x + (ns.getD 1 0)) (n + smN x) (fun k => u8 (catU f n (smB x) k)) (u8 0))⟩]) :=
  runs_of_ev mix Try.func30 rfl rfl 400 (.regn (rg [.g, (.call [] 0 0 (fun _ => (Value.agg #[(u64 x), (u64 0), (u64 0), (u64 0)])) (fun _ => [])), .new, (.st 2 (.lit 0))]) (more (fun n1 => fun _ => (.reg (rg [(.ld 2 (.lit 0)), (.call [] 0 0 (fun _ => (nat (len4 (N4.mk x 0 0 0)))) (fun _ => [])), (.as (nat ((len4 (N4.mk x 0 0 0)) + 7))), (.as (nat (((len4 (N4.mk x 0 0 0)) + 7) / 8))), .g]) (.regn (rg [.g, .g, .g, .g, (.ld 0 (.lit 0)), .g, (.as (u8 (UInt8.ofNat (((len4 (N4.mk x 0 0 0)) + 7) / 8)))), (.oth [] 1 1 (fun ns => Value.slice (some ⟨ns.getD 0 0, 0, none⟩) 1 1) (fun ns => [some ⟨ns.getD 0 0, true, 0, .lit [(u8 (UInt8.ofNat (((len4 (N4.mk x 0 0 0)) + 7) / 8)))]⟩])), (.oth [(1, false), (3, true)] 2 0 (fun ns => Value.slice (some ⟨(ns.getD 0 0), 0, none⟩) (n + 1) (n + 1 + (ns.getD 1 0))) (fun ns => [some ⟨(ns.getD 0 0), true, 0, (spr (n + 1 + (ns.getD 1 0)) (n + 1) (fun k => u8 (catU f n (fun _ => (UInt8.ofNat (((len4 (N4.mk x 0 0 0)) + 7) / 8))) k)) (u8 0))⟩, none])), .g, .g, (.st 0 (.lit 0))]) (more (fun n2 => more (fun n3 => more (fun n4 => fun _ => (.both (decide (0 < 32 - (32 - (((len4 (N4.mk x 0 0 0)) + 7) / 8)))) (.regn (rg [.g, .g, .g, .g, (.ld 0 (.lit 0)), (.ld 2 (.lit 0)), (.call [] 1 1 (fun ns => Value.slice (some ⟨ns.getD 0 0, 0, none⟩) 32 32) (fun ns => [some ⟨ns.getD 0 0, true, 0, tabF 32 (fun k => u8 (bytesF (N4.mk x 0 0 0) k))⟩])), .g, (.as (nat (32 - (((len4 (N4.mk x 0 0 0)) + 7) / 8)))), (.asf (slF 1)), (.oth [(1, false), (4, true)] 2 0 (fun ns => Value.slice (some ⟨(ns.getD 0 0), 0, none⟩) (n + 1 + (32 - (32 - (((len4 (N4.mk x 0 0 0)) + 7) / 8)))) (n + 1 + (32 - (32 - (((len4 (N4.mk x 0 0 0)) + 7) / 8))) + (ns.getD 1 0))) (fun ns => [some ⟨(ns.getD 0 0), true, 0, (spr (n + 1 + (32 - (32 - (((len4 (N4.mk x 0 0 0)) + 7) / 8))) + (ns.getD 1 0)) (n + 1 + (32 - (32 - (((len4 (N4.mk x 0 0 0)) + 7) / 8)))) (fun k => u8 (catU (catU f n (fun _ => (UInt8.ofNat (((len4 (N4.mk x 0 0 0)) + 7) / 8)))) (n + 1) (fun j => bytesF (N4.mk x 0 0 0) ((32 - (((len4 (N4.mk x 0 0 0)) + 7) / 8)) + j)) k)) (u8 0))⟩, none])), .g, .g, (.st 0 (.lit 0))]) (more (fun n5 => more (fun n6 => more (fun n7 => fun _ => .done))))) (.regn (rg [.g, .g, .g, .g, (.ld 0 (.lit 0)), (.ld 2 (.lit 0)), (.call [] 1 1 (fun ns => Value.slice (some ⟨ns.getD 0 0, 0, none⟩) 32 32) (fun ns => [some ⟨ns.getD 0 0, true, 0, tabF 32 (fun k => u8 (bytesF (N4.mk x 0 0 0) k))⟩])), .g, (.as (nat (32 - (((len4 (N4.mk x 0 0 0)) + 7) / 8)))), (.asf (slF 1)), (.oth [] 0 0 (fun _ => (Value.slice (some ⟨n3, 0, none⟩) (n + 1) (n + 1 + n4))) (fun _ => [])), .g, .g, (.st 0 (.lit 0))]) (more (fun n8 => fun _ => .done))))))))))))) [] [] rfl
    (have f0 : (len4 (N4.mk x 0 0 0) + 7) / 8 ≤ 8 := (szU_le x); Eq.mp (by kernel_rfl) (fun (n1 : Nat) => aI (sk (aI (aT (small_pure x)) (sk (aI (aT (ad n1 0)) tV)))) (aI (aI (aT (ad n1 0)) (aI (aT (len_pure (N4.mk x 0 0 0))) (aI (aT (@is_addn Try.prog 3 3 (.tmp 9) (.const (.int .i64 7))  (len4 (N4.mk x 0 0 0)) 7 (show (len4 (N4.mk x 0 0 0)) + 7 ≤ 9223372036854775807 from by have := len4_le (N4.mk x 0 0 0); omega))) (aI (aT (@is_quon Try.prog 3 3 (.tmp 10) (.const (.int .i64 8))  ((len4 (N4.mk x 0 0 0)) + 7) 8 (show 0 < 8 ∧ ((len4 (N4.mk x 0 0 0)) + 7) ≤ 9223372036854775807 from by have := len4_le (N4.mk x 0 0 0); omega))) kV1)))) (fun (n2 n3 n4 : Nat) => aI (sK4 (aI (aT (ad w 0)) (sk (aI (aT (@conv_int_u8 Try.prog 3 5 (.tmp 17) (by kernel_rfl) (by kernel_rfl) (((len4 (N4.mk x 0 0 0)) + 7) / 8))) (aI (aT (mk_build (P := Try.prog) (t := 36) (e := 5) one5 1 #[(0, (u8 (UInt8.ofNat (((len4 (N4.mk x 0 0 0)) + 7) / 8))))] #[(u8 (UInt8.ofNat (((len4 (N4.mk x 0 0 0)) + 7) / 8)))] (by kernel_rfl) (by decide) (by kernel_rfl))) (aI (aT (SRuns.dark [false, true] (mk_append (P := Try.prog) (t := 36) (ty := 36) (e := 5) (by kernel_rfl) one5 b n r n2 0 0 1 1 u8 f (fun _ => (UInt8.ofNat (((len4 (N4.mk x 0 0 0)) + 7) / 8))) (.lit [(u8 (UInt8.ofNat (((len4 (N4.mk x 0 0 0)) + 7) / 8)))]) (lit1_get (u8 (UInt8.ofNat (((len4 (N4.mk x 0 0 0)) + 7) / 8)))) (fun _ => rfl) (show (n + 1) * 1 ≤ 140737488355328 ∧ n + 1 ≤ 9223372036854775807 from by omega)))) (sK2 (aI (aT (ad w 0)) tV)))))))) (aI (fun (h1 : (decide (0 < 32 - (32 - (((len4 (N4.mk x 0 0 0)) + 7) / 8)))) = true) => have f2 := (oT h1); fun (n5 n6 n7 : Nat) => aI (sK4 (aI (aT (ad w 0)) (aI (aT (ad n1 0)) (aI (aT (bytes_runs (N4.mk x 0 0 0))) (sk (aI (aT (@is_subn Try.prog 3 3 (.const (.int .i64 32)) (.tmp 30)  32 (((len4 (N4.mk x 0 0 0)) + 7) / 8) (show (((len4 (N4.mk x 0 0 0)) + 7) / 8) ≤ 32 ∧ 32 - (((len4 (N4.mk x 0 0 0)) + 7) / 8) ≤ 9223372036854775807 from by have := len4_le (N4.mk x 0 0 0); omega))) (aI (aT (@is_slqFrom Try.prog 36 5 (.tmp 29) (.tmp 31) (by kernel_rfl) 1 (by kernel_rfl) (some ⟨n5, 0, none⟩) 32 32 (32 - (((len4 (N4.mk x 0 0 0)) + 7) / 8)) (show 32 - (((len4 (N4.mk x 0 0 0)) + 7) / 8) ≤ 32 ∧ 32 ≤ 32 from by have := len4_le (N4.mk x 0 0 0); omega))) (aI (aT (SRuns.dark [false, true] (mk_appendA (P := Try.prog) (t := 36) (ty := 36) (e := 5) (by kernel_rfl) one5 n3 (n + 1) n4 n5 0 (32 - (((len4 (N4.mk x 0 0 0)) + 7) / 8)) (32 - (32 - (((len4 (N4.mk x 0 0 0)) + 7) / 8))) (32 - (32 - (((len4 (N4.mk x 0 0 0)) + 7) / 8))) u8 (catU f n (fun _ => (UInt8.ofNat (((len4 (N4.mk x 0 0 0)) + 7) / 8)))) (fun j => bytesF (N4.mk x 0 0 0) ((32 - (((len4 (N4.mk x 0 0 0)) + 7) / 8)) + j)) (tabF 32 (fun k => u8 (bytesF (N4.mk x 0 0 0) k))) (fun j hj => tabF_in (show (32 - (((len4 (N4.mk x 0 0 0)) + 7) / 8)) + j < 32 from by omega)) (fun _ => rfl) (show (n + 1 + (32 - (32 - (((len4 (N4.mk x 0 0 0)) + 7) / 8)))) * 1 ≤ 140737488355328 ∧ n + 1 + (32 - (32 - (((len4 (N4.mk x 0 0 0)) + 7) / 8))) ≤ 9223372036854775807 from by have := len4_le (N4.mk x 0 0 0); omega) (fromA_own (show 32 - (((len4 (N4.mk x 0 0 0)) + 7) / 8) < 32 from by have := len4_le (N4.mk x 0 0 0); omega))))) (sK2 (aI (aT (ad w 0)) tV)))))))))) (aT (eX (fun (ns : List Nat) => ns.length = 2 ∧ ((Value.tuple #[]) : Value) = (fun (ns : List Nat) => (Value.tuple #[])) ns ∧ ([some ⟨w, true, 0, (.lit [(Value.slice (some ⟨n6, 0, none⟩) (n + 1 + (32 - (32 - (((len4 (N4.mk x 0 0 0)) + 7) / 8)))) (n + 1 + (32 - (32 - (((len4 (N4.mk x 0 0 0)) + 7) / 8))) + n7))])⟩, some ⟨n6, true, 0, (spr (n + 1 + (32 - (32 - (((len4 (N4.mk x 0 0 0)) + 7) / 8))) + n7) (n + 1 + (32 - (32 - (((len4 (N4.mk x 0 0 0)) + 7) / 8)))) (fun k => u8 (catU (catU f n (fun _ => (UInt8.ofNat (((len4 (N4.mk x 0 0 0)) + 7) / 8)))) (n + 1) (fun j => bytesF (N4.mk x 0 0 0) ((32 - (((len4 (N4.mk x 0 0 0)) + 7) / 8)) + j)) k)) (u8 0))⟩] : List (Option Blk)) = (fun (ns : List Nat) => [some ⟨w, true, 0, (.lit [(Value.slice (some ⟨(ns.getD 0 0), 0, none⟩) (n + smN x) (n + smN x + (ns.getD 1 0)))])⟩, some ⟨(ns.getD 0 0), true, 0, (spr (n + smN x + (ns.getD 1 0)) (n + smN x) (fun k => u8 (catU f n (smB x) k)) (u8 0))⟩]) ns) [n6, n7] (aI (@rfl Nat 2) (aI (@rfl Value (Value.tuple #[])) ((show ([some ⟨w, true, 0, (.lit [(Value.slice (some ⟨n6, 0, none⟩) (n + 1 + (32 - (32 - (((len4 (N4.mk x 0 0 0)) + 7) / 8)))) (n + 1 + (32 - (32 - (((len4 (N4.mk x 0 0 0)) + 7) / 8))) + n7))])⟩, some ⟨n6, true, 0, (spr (n + 1 + (32 - (32 - (((len4 (N4.mk x 0 0 0)) + 7) / 8))) + n7) (n + 1 + (32 - (32 - (((len4 (N4.mk x 0 0 0)) + 7) / 8)))) (fun k => u8 (catU (catU f n (fun _ => (UInt8.ofNat (((len4 (N4.mk x 0 0 0)) + 7) / 8)))) (n + 1) (fun j => bytesF (N4.mk x 0 0 0) ((32 - (((len4 (N4.mk x 0 0 0)) + 7) / 8)) + j)) k)) (u8 0))⟩] : List (Option Blk)) = [some ⟨w, true, 0, (.lit [(Value.slice (some ⟨n6, 0, none⟩) (n + smN x) (n + smN x + n7))])⟩, some ⟨n6, true, 0, (spr (n + smN x + n7) (n + smN x) (fun k => u8 (catU f n (smB x) k)) (u8 0))⟩] from by first | (rw [show n + 1 + (32 - (32 - (len4 (N4.mk x 0 0 0) + 7) / 8)) = n + smN x from by unfold smN szU smA; omega]; rw [spr_as (fun k hk => congrArg u8 (small_end k hk))] <;> rfl) | (rw [show n + 1 = n + smN x from by unfold smN szU smA; omega]; rw [spr_as (fun k hk => congrArg u8 (small_end0 (by assumption) k hk))] <;> rfl)))))))) (fun (h1 : (decide (0 < 32 - (32 - (((len4 (N4.mk x 0 0 0)) + 7) / 8)))) = false) => have f2 := (oF h1); fun (n8 : Nat) => aI (sK4 (aI (aT (ad w 0)) (aI (aT (ad n1 0)) (aI (aT (bytes_runs (N4.mk x 0 0 0))) (sk (aI (aT (@is_subn Try.prog 3 3 (.const (.int .i64 32)) (.tmp 30)  32 (((len4 (N4.mk x 0 0 0)) + 7) / 8) (show (((len4 (N4.mk x 0 0 0)) + 7) / 8) ≤ 32 ∧ 32 - (((len4 (N4.mk x 0 0 0)) + 7) / 8) ≤ 9223372036854775807 from by have := len4_le (N4.mk x 0 0 0); omega))) (aI (aT (@is_slqFrom Try.prog 36 5 (.tmp 29) (.tmp 31) (by kernel_rfl) 1 (by kernel_rfl) (some ⟨n8, 0, none⟩) 32 32 (32 - (((len4 (N4.mk x 0 0 0)) + 7) / 8)) (show 32 - (((len4 (N4.mk x 0 0 0)) + 7) / 8) ≤ 32 ∧ 32 ≤ 32 from by have := len4_le (N4.mk x 0 0 0); omega))) (aI (aT (srun_append_noneM (P := Try.prog) (t := 36) (ty := 36) (e := 5) (sz := 1) (by kernel_rfl) (by kernel_rfl) (some ⟨n3, 0, none⟩) (n + 1) (n + 1 + n4) (show (n + 1) ≤ (n + 1 + n4) from by omega) (fromA (some ⟨n8, 0, none⟩) 32 (32 - (((len4 (N4.mk x 0 0 0)) + 7) / 8)) 1) (32 - (32 - (((len4 (N4.mk x 0 0 0)) + 7) / 8))) (32 - (32 - (((len4 (N4.mk x 0 0 0)) + 7) / 8))) (show 32 - (32 - (((len4 (N4.mk x 0 0 0)) + 7) / 8)) = 0 from by have := len4_le (N4.mk x 0 0 0); omega))) (sK2 (aI (aT (ad w 0)) tV)))))))))) (aT (eX (fun (ns : List Nat) => ns.length = 2 ∧ ((Value.tuple #[]) : Value) = (fun (ns : List Nat) => (Value.tuple #[])) ns ∧ ([some ⟨w, true, 0, (.lit [(Value.slice (some ⟨n3, 0, none⟩) (n + 1) (n + 1 + n4))])⟩, some ⟨n3, true, 0, (spr (n + 1 + n4) (n + 1) (fun k => u8 (catU f n (fun _ => (UInt8.ofNat (((len4 (N4.mk x 0 0 0)) + 7) / 8))) k)) (u8 0))⟩] : List (Option Blk)) = (fun (ns : List Nat) => [some ⟨w, true, 0, (.lit [(Value.slice (some ⟨(ns.getD 0 0), 0, none⟩) (n + smN x) (n + smN x + (ns.getD 1 0)))])⟩, some ⟨(ns.getD 0 0), true, 0, (spr (n + smN x + (ns.getD 1 0)) (n + smN x) (fun k => u8 (catU f n (smB x) k)) (u8 0))⟩]) ns) [n3, n4] (aI (@rfl Nat 2) (aI (@rfl Value (Value.tuple #[])) ((show ([some ⟨w, true, 0, (.lit [(Value.slice (some ⟨n3, 0, none⟩) (n + 1) (n + 1 + n4))])⟩, some ⟨n3, true, 0, (spr (n + 1 + n4) (n + 1) (fun k => u8 (catU f n (fun _ => (UInt8.ofNat (((len4 (N4.mk x 0 0 0)) + 7) / 8))) k)) (u8 0))⟩] : List (Option Blk)) = [some ⟨w, true, 0, (.lit [(Value.slice (some ⟨n3, 0, none⟩) (n + smN x) (n + smN x + n4))])⟩, some ⟨n3, true, 0, (spr (n + smN x + n4) (n + smN x) (fun k => u8 (catU f n (smB x) k)) (u8 0))⟩] from by first | (rw [show n + 1 + (32 - (32 - (len4 (N4.mk x 0 0 0) + 7) / 8)) = n + smN x from by unfold smN szU smA; omega]; rw [spr_as (fun k hk => congrArg u8 (small_end k hk))] <;> rfl) | (rw [show n + 1 = n + smN x from by unfold smN szU smA; omega]; rw [spr_as (fun k hk => congrArg u8 (small_end0 (by assumption) k hk))] <;> rfl)))))))))))))
theorem wsmall_nil (w : Nat) (x : UInt64) : Runs Try.prog 30 [(ptr w 0), (u64 x)] [⟨w, true, 0, (.lit [(Value.slice none 0 0)])⟩] 2 (fun (ns : List Nat) => (Value.tuple #[])) (fun (ns : List Nat) => [some ⟨w, true, 0, (.lit [(Value.slice (some ⟨(ns.getD 0 0), 0, none⟩) (smN x) (smN x + (ns.getD 1 0)))])⟩, some ⟨(ns.getD 0 0), true, 0, (spr (smN x + (ns.getD 1 0)) (smN x) (fun k => u8 (smB x k)) (u8 0))⟩]) :=
  runs_of_ev mix Try.func30 rfl rfl 400 (.regn (rg [.g, (.call [] 0 0 (fun _ => (Value.agg #[(u64 x), (u64 0), (u64 0), (u64 0)])) (fun _ => [])), .new, (.st 1 (.lit 0))]) (more (fun n1 => fun _ => (.reg (rg [(.ld 1 (.lit 0)), (.call [] 0 0 (fun _ => (nat (len4 (N4.mk x 0 0 0)))) (fun _ => [])), (.as (nat ((len4 (N4.mk x 0 0 0)) + 7))), (.as (nat (((len4 (N4.mk x 0 0 0)) + 7) / 8))), .g]) (.regn (rg [.g, .g, .g, .g, (.ld 0 (.lit 0)), .g, (.as (u8 (UInt8.ofNat (((len4 (N4.mk x 0 0 0)) + 7) / 8)))), (.oth [] 1 1 (fun ns => Value.slice (some ⟨ns.getD 0 0, 0, none⟩) 1 1) (fun ns => [some ⟨ns.getD 0 0, true, 0, .lit [(u8 (UInt8.ofNat (((len4 (N4.mk x 0 0 0)) + 7) / 8)))]⟩])), (.oth [(2, true)] 2 1 (fun ns => Value.slice (some ⟨(ns.getD 0 0), 0, none⟩) 1 (1 + (ns.getD 1 0))) (fun ns => [none, some ⟨(ns.getD 0 0), true, 0, (spr (1 + (ns.getD 1 0)) 1 (fun k => u8 ((fun _ => (UInt8.ofNat (((len4 (N4.mk x 0 0 0)) + 7) / 8))) k)) (u8 0))⟩])), .g, .g, (.st 0 (.lit 0))]) (more (fun n2 => more (fun n3 => more (fun n4 => fun _ => (.both (decide (0 < 32 - (32 - (((len4 (N4.mk x 0 0 0)) + 7) / 8)))) (.regn (rg [.g, .g, .g, .g, (.ld 0 (.lit 0)), (.ld 1 (.lit 0)), (.call [] 1 1 (fun ns => Value.slice (some ⟨ns.getD 0 0, 0, none⟩) 32 32) (fun ns => [some ⟨ns.getD 0 0, true, 0, tabF 32 (fun k => u8 (bytesF (N4.mk x 0 0 0) k))⟩])), .g, (.as (nat (32 - (((len4 (N4.mk x 0 0 0)) + 7) / 8)))), (.asf (slF 1)), (.oth [(3, false), (4, true)] 2 0 (fun ns => Value.slice (some ⟨(ns.getD 0 0), 0, none⟩) (1 + (32 - (32 - (((len4 (N4.mk x 0 0 0)) + 7) / 8)))) (1 + (32 - (32 - (((len4 (N4.mk x 0 0 0)) + 7) / 8))) + (ns.getD 1 0))) (fun ns => [some ⟨(ns.getD 0 0), true, 0, (spr (1 + (32 - (32 - (((len4 (N4.mk x 0 0 0)) + 7) / 8))) + (ns.getD 1 0)) (1 + (32 - (32 - (((len4 (N4.mk x 0 0 0)) + 7) / 8)))) (fun k => u8 (catU (fun _ => (UInt8.ofNat (((len4 (N4.mk x 0 0 0)) + 7) / 8))) 1 (fun j => bytesF (N4.mk x 0 0 0) ((32 - (((len4 (N4.mk x 0 0 0)) + 7) / 8)) + j)) k)) (u8 0))⟩, none])), .g, .g, (.st 0 (.lit 0))]) (more (fun n5 => more (fun n6 => more (fun n7 => fun _ => .done))))) (.regn (rg [.g, .g, .g, .g, (.ld 0 (.lit 0)), (.ld 1 (.lit 0)), (.call [] 1 1 (fun ns => Value.slice (some ⟨ns.getD 0 0, 0, none⟩) 32 32) (fun ns => [some ⟨ns.getD 0 0, true, 0, tabF 32 (fun k => u8 (bytesF (N4.mk x 0 0 0) k))⟩])), .g, (.as (nat (32 - (((len4 (N4.mk x 0 0 0)) + 7) / 8)))), (.asf (slF 1)), (.oth [] 0 0 (fun _ => (Value.slice (some ⟨n3, 0, none⟩) 1 (1 + n4))) (fun _ => [])), .g, .g, (.st 0 (.lit 0))]) (more (fun n8 => fun _ => .done))))))))))))) [] [3] rfl
    (have f0 : (len4 (N4.mk x 0 0 0) + 7) / 8 ≤ 8 := (szU_le x); Eq.mp (by kernel_rfl) (fun (n1 : Nat) => aI (sk (aI (aT (small_pure x)) (sk (aI (aT (ad n1 0)) tV)))) (aI (aI (aT (ad n1 0)) (aI (aT (len_pure (N4.mk x 0 0 0))) (aI (aT (@is_addn Try.prog 3 3 (.tmp 9) (.const (.int .i64 7))  (len4 (N4.mk x 0 0 0)) 7 (show (len4 (N4.mk x 0 0 0)) + 7 ≤ 9223372036854775807 from by have := len4_le (N4.mk x 0 0 0); omega))) (aI (aT (@is_quon Try.prog 3 3 (.tmp 10) (.const (.int .i64 8))  ((len4 (N4.mk x 0 0 0)) + 7) 8 (show 0 < 8 ∧ ((len4 (N4.mk x 0 0 0)) + 7) ≤ 9223372036854775807 from by have := len4_le (N4.mk x 0 0 0); omega))) kV1)))) (fun (n2 n3 n4 : Nat) => aI (sK4 (aI (aT (ad w 0)) (sk (aI (aT (@conv_int_u8 Try.prog 3 5 (.tmp 17) (by kernel_rfl) (by kernel_rfl) (((len4 (N4.mk x 0 0 0)) + 7) / 8))) (aI (aT (mk_build (P := Try.prog) (t := 36) (e := 5) one5 1 #[(0, (u8 (UInt8.ofNat (((len4 (N4.mk x 0 0 0)) + 7) / 8))))] #[(u8 (UInt8.ofNat (((len4 (N4.mk x 0 0 0)) + 7) / 8)))] (by kernel_rfl) (by decide) (by kernel_rfl))) (aI (aT (SRuns.dark [true] (mk_append_nil (P := Try.prog) (t := 36) (ty := 36) (e := 5) (by kernel_rfl) one5 n2 0 0 1 1 u8 (fun _ => (UInt8.ofNat (((len4 (N4.mk x 0 0 0)) + 7) / 8))) (.lit [(u8 (UInt8.ofNat (((len4 (N4.mk x 0 0 0)) + 7) / 8)))]) (lit1_get (u8 (UInt8.ofNat (((len4 (N4.mk x 0 0 0)) + 7) / 8)))) (show 0 < 1 ∧ 1 * 1 ≤ 140737488355328 ∧ 1 ≤ 9223372036854775807 from by omega)))) (sK2 (aI (aT (ad w 0)) tV)))))))) (aI (fun (h1 : (decide (0 < 32 - (32 - (((len4 (N4.mk x 0 0 0)) + 7) / 8)))) = true) => have f1 := (oT h1); fun (n5 n6 n7 : Nat) => aI (sK4 (aI (aT (ad w 0)) (aI (aT (ad n1 0)) (aI (aT (bytes_runs (N4.mk x 0 0 0))) (sk (aI (aT (@is_subn Try.prog 3 3 (.const (.int .i64 32)) (.tmp 30)  32 (((len4 (N4.mk x 0 0 0)) + 7) / 8) (show (((len4 (N4.mk x 0 0 0)) + 7) / 8) ≤ 32 ∧ 32 - (((len4 (N4.mk x 0 0 0)) + 7) / 8) ≤ 9223372036854775807 from by have := len4_le (N4.mk x 0 0 0); omega))) (aI (aT (@is_slqFrom Try.prog 36 5 (.tmp 29) (.tmp 31) (by kernel_rfl) 1 (by kernel_rfl) (some ⟨n5, 0, none⟩) 32 32 (32 - (((len4 (N4.mk x 0 0 0)) + 7) / 8)) (show 32 - (((len4 (N4.mk x 0 0 0)) + 7) / 8) ≤ 32 ∧ 32 ≤ 32 from by have := len4_le (N4.mk x 0 0 0); omega))) (aI (aT (SRuns.dark [false, true] (mk_appendA (P := Try.prog) (t := 36) (ty := 36) (e := 5) (by kernel_rfl) one5 n3 1 n4 n5 0 (32 - (((len4 (N4.mk x 0 0 0)) + 7) / 8)) (32 - (32 - (((len4 (N4.mk x 0 0 0)) + 7) / 8))) (32 - (32 - (((len4 (N4.mk x 0 0 0)) + 7) / 8))) u8 (fun _ => (UInt8.ofNat (((len4 (N4.mk x 0 0 0)) + 7) / 8))) (fun j => bytesF (N4.mk x 0 0 0) ((32 - (((len4 (N4.mk x 0 0 0)) + 7) / 8)) + j)) (tabF 32 (fun k => u8 (bytesF (N4.mk x 0 0 0) k))) (fun j hj => tabF_in (show (32 - (((len4 (N4.mk x 0 0 0)) + 7) / 8)) + j < 32 from by omega)) (fun _ => rfl) (show (1 + (32 - (32 - (((len4 (N4.mk x 0 0 0)) + 7) / 8)))) * 1 ≤ 140737488355328 ∧ 1 + (32 - (32 - (((len4 (N4.mk x 0 0 0)) + 7) / 8))) ≤ 9223372036854775807 from by have := len4_le (N4.mk x 0 0 0); omega) (fromA_own (show 32 - (((len4 (N4.mk x 0 0 0)) + 7) / 8) < 32 from by have := len4_le (N4.mk x 0 0 0); omega))))) (sK2 (aI (aT (ad w 0)) tV)))))))))) (aT (eX (fun (ns : List Nat) => ns.length = 2 ∧ ((Value.tuple #[]) : Value) = (fun (ns : List Nat) => (Value.tuple #[])) ns ∧ ([some ⟨w, true, 0, (.lit [(Value.slice (some ⟨n6, 0, none⟩) (1 + (32 - (32 - (((len4 (N4.mk x 0 0 0)) + 7) / 8)))) (1 + (32 - (32 - (((len4 (N4.mk x 0 0 0)) + 7) / 8))) + n7))])⟩, some ⟨n6, true, 0, (spr (1 + (32 - (32 - (((len4 (N4.mk x 0 0 0)) + 7) / 8))) + n7) (1 + (32 - (32 - (((len4 (N4.mk x 0 0 0)) + 7) / 8)))) (fun k => u8 (catU (fun _ => (UInt8.ofNat (((len4 (N4.mk x 0 0 0)) + 7) / 8))) 1 (fun j => bytesF (N4.mk x 0 0 0) ((32 - (((len4 (N4.mk x 0 0 0)) + 7) / 8)) + j)) k)) (u8 0))⟩] : List (Option Blk)) = (fun (ns : List Nat) => [some ⟨w, true, 0, (.lit [(Value.slice (some ⟨(ns.getD 0 0), 0, none⟩) (smN x) (smN x + (ns.getD 1 0)))])⟩, some ⟨(ns.getD 0 0), true, 0, (spr (smN x + (ns.getD 1 0)) (smN x) (fun k => u8 (smB x k)) (u8 0))⟩]) ns) [n6, n7] (aI (@rfl Nat 2) (aI (@rfl Value (Value.tuple #[])) ((show ([some ⟨w, true, 0, (.lit [(Value.slice (some ⟨n6, 0, none⟩) (1 + (32 - (32 - (((len4 (N4.mk x 0 0 0)) + 7) / 8)))) (1 + (32 - (32 - (((len4 (N4.mk x 0 0 0)) + 7) / 8))) + n7))])⟩, some ⟨n6, true, 0, (spr (1 + (32 - (32 - (((len4 (N4.mk x 0 0 0)) + 7) / 8))) + n7) (1 + (32 - (32 - (((len4 (N4.mk x 0 0 0)) + 7) / 8)))) (fun k => u8 (catU (fun _ => (UInt8.ofNat (((len4 (N4.mk x 0 0 0)) + 7) / 8))) 1 (fun j => bytesF (N4.mk x 0 0 0) ((32 - (((len4 (N4.mk x 0 0 0)) + 7) / 8)) + j)) k)) (u8 0))⟩] : List (Option Blk)) = [some ⟨w, true, 0, (.lit [(Value.slice (some ⟨n6, 0, none⟩) (smN x) (smN x + n7))])⟩, some ⟨n6, true, 0, (spr (smN x + n7) (smN x) (fun k => u8 (smB x k)) (u8 0))⟩] from by first | (rw [show 1 + (32 - (32 - (len4 (N4.mk x 0 0 0) + 7) / 8)) = smN x from by unfold smN szU smA; omega]; rw [spr_as (fun k hk => congrArg u8 (small_endN k hk))] <;> rfl) | (rw [show 1 = smN x from by unfold smN szU smA; omega]; rw [spr_as (fun k hk => congrArg u8 (small_endN0 (by assumption) k hk))] <;> rfl)))))))) (fun (h1 : (decide (0 < 32 - (32 - (((len4 (N4.mk x 0 0 0)) + 7) / 8)))) = false) => have f1 := (oF h1); fun (n8 : Nat) => aI (sK4 (aI (aT (ad w 0)) (aI (aT (ad n1 0)) (aI (aT (bytes_runs (N4.mk x 0 0 0))) (sk (aI (aT (@is_subn Try.prog 3 3 (.const (.int .i64 32)) (.tmp 30)  32 (((len4 (N4.mk x 0 0 0)) + 7) / 8) (show (((len4 (N4.mk x 0 0 0)) + 7) / 8) ≤ 32 ∧ 32 - (((len4 (N4.mk x 0 0 0)) + 7) / 8) ≤ 9223372036854775807 from by have := len4_le (N4.mk x 0 0 0); omega))) (aI (aT (@is_slqFrom Try.prog 36 5 (.tmp 29) (.tmp 31) (by kernel_rfl) 1 (by kernel_rfl) (some ⟨n8, 0, none⟩) 32 32 (32 - (((len4 (N4.mk x 0 0 0)) + 7) / 8)) (show 32 - (((len4 (N4.mk x 0 0 0)) + 7) / 8) ≤ 32 ∧ 32 ≤ 32 from by have := len4_le (N4.mk x 0 0 0); omega))) (aI (aT (srun_append_noneM (P := Try.prog) (t := 36) (ty := 36) (e := 5) (sz := 1) (by kernel_rfl) (by kernel_rfl) (some ⟨n3, 0, none⟩) 1 (1 + n4) (show 1 ≤ (1 + n4) from by omega) (fromA (some ⟨n8, 0, none⟩) 32 (32 - (((len4 (N4.mk x 0 0 0)) + 7) / 8)) 1) (32 - (32 - (((len4 (N4.mk x 0 0 0)) + 7) / 8))) (32 - (32 - (((len4 (N4.mk x 0 0 0)) + 7) / 8))) (show 32 - (32 - (((len4 (N4.mk x 0 0 0)) + 7) / 8)) = 0 from by have := len4_le (N4.mk x 0 0 0); omega))) (sK2 (aI (aT (ad w 0)) tV)))))))))) (aT (eX (fun (ns : List Nat) => ns.length = 2 ∧ ((Value.tuple #[]) : Value) = (fun (ns : List Nat) => (Value.tuple #[])) ns ∧ ([some ⟨w, true, 0, (.lit [(Value.slice (some ⟨n3, 0, none⟩) 1 (1 + n4))])⟩, some ⟨n3, true, 0, (spr (1 + n4) 1 (fun k => u8 ((fun _ => (UInt8.ofNat (((len4 (N4.mk x 0 0 0)) + 7) / 8))) k)) (u8 0))⟩] : List (Option Blk)) = (fun (ns : List Nat) => [some ⟨w, true, 0, (.lit [(Value.slice (some ⟨(ns.getD 0 0), 0, none⟩) (smN x) (smN x + (ns.getD 1 0)))])⟩, some ⟨(ns.getD 0 0), true, 0, (spr (smN x + (ns.getD 1 0)) (smN x) (fun k => u8 (smB x k)) (u8 0))⟩]) ns) [n3, n4] (aI (@rfl Nat 2) (aI (@rfl Value (Value.tuple #[])) ((show ([some ⟨w, true, 0, (.lit [(Value.slice (some ⟨n3, 0, none⟩) 1 (1 + n4))])⟩, some ⟨n3, true, 0, (spr (1 + n4) 1 (fun k => u8 ((fun _ => (UInt8.ofNat (((len4 (N4.mk x 0 0 0)) + 7) / 8))) k)) (u8 0))⟩] : List (Option Blk)) = [some ⟨w, true, 0, (.lit [(Value.slice (some ⟨n3, 0, none⟩) (smN x) (smN x + n4))])⟩, some ⟨n3, true, 0, (spr (smN x + n4) (smN x) (fun k => u8 (smB x k)) (u8 0))⟩] from by first | (rw [show 1 + (32 - (32 - (len4 (N4.mk x 0 0 0) + 7) / 8)) = smN x from by unfold smN szU smA; omega]; rw [spr_as (fun k hk => congrArg u8 (small_endN k hk))] <;> rfl) | (rw [show 1 = smN x from by unfold smN szU smA; omega]; rw [spr_as (fun k hk => congrArg u8 (small_endN0 (by assumption) k hk))] <;> rfl)))))))))))))
theorem wbytes_own (w b n r : Nat) (f : Nat → UInt8) (q : BytL) (hn : n ≤ 90000) (hq : OkB q) (hl : q.wn ≤ 100000) : RunsF (famB q) Try.prog 31 [(ptr w 0), (Value.slice q.wa q.wn q.wc)] [⟨w, true, 0, (.lit [(Value.slice (some ⟨b, 0, none⟩) n (n + r))])⟩, ⟨b, true, 0, (spr (n + r) n (fun k => u8 (f k)) (u8 0))⟩] 2 (fun (ns : List Nat) => (Value.tuple #[])) (fun (ns : List Nat) => [some ⟨w, true, 0, (.lit [(Value.slice (some ⟨(ns.getD 0 0), 0, none⟩) (n + byN q.wn) (n + byN q.wn + (ns.getD 1 0)))])⟩, some ⟨(ns.getD 0 0), true, 0, (spr (n + byN q.wn + (ns.getD 1 0)) (n + byN q.wn) (fun k => u8 (catU f n (byB q.wf q.wn) k)) (u8 0))⟩]) :=
  runsF_of_ev (F := (famB q)) mix Try.func31 rfl rfl 400 (.regn (rg [.g, .g, (.as (nat q.wn)), (.as (u64 (UInt64.ofNat q.wn))), (.call [(0, false), (1, false)] 2 0 (fun _ => Value.tuple #[]) (fun ns => [some ⟨w, true, 0, .lit [(Value.slice (some ⟨(ns.getD 0 0), 0, none⟩) (n + smN (UInt64.ofNat q.wn)) (n + smN (UInt64.ofNat q.wn) + (ns.getD 1 0)))]⟩, some ⟨(ns.getD 0 0), true, 0, (spr (n + smN (UInt64.ofNat q.wn) + (ns.getD 1 0)) (n + smN (UInt64.ofNat q.wn)) (fun k => u8 (catU f n (smB (UInt64.ofNat q.wn)) k)) (u8 0))⟩]))]) (more (fun n1 => more (fun n2 => fun _ => (.both (decide (0 < q.wn)) (.openr (bytB q) (.regn (rg [.g, .g, .g, .g, (.ld 0 (.lit 0)), .g, (.oth [(1, false), (2, true)] 2 0 (fun ns => Value.slice (some ⟨(ns.getD 0 0), 0, none⟩) (n + smN (UInt64.ofNat q.wn) + q.wn) (n + smN (UInt64.ofNat q.wn) + q.wn + (ns.getD 1 0))) (fun ns => [some ⟨(ns.getD 0 0), true, 0, (spr (n + smN (UInt64.ofNat q.wn) + q.wn + (ns.getD 1 0)) (n + smN (UInt64.ofNat q.wn) + q.wn) (fun k => u8 (catU (catU f n (smB (UInt64.ofNat q.wn))) (n + smN (UInt64.ofNat q.wn)) q.wf k)) (u8 0))⟩, none])), .g, .g, (.st 0 (.lit 0))]) (more (fun n3 => more (fun n4 => fun _ => .done))))) (.reg (rg [.g, .g, .g, .g, (.ld 0 (.lit 0)), .g, (.oth [] 0 0 (fun _ => (Value.slice (some ⟨n1, 0, none⟩) (n + smN (UInt64.ofNat q.wn)) (n + smN (UInt64.ofNat q.wn) + n2))) (fun _ => [])), .g, .g, (.st 0 (.lit 0))]) .done)))))) [] [] rfl
    (have f2 : smN (UInt64.ofNat q.wn) ≤ 9 := (smN_le _); Eq.mp (by kernel_rfl) (fun (n1 n2 : Nat) => aI (sK2 (aI (aT (@is_len Try.prog 36 5 (.tmp 5) (by kernel_rfl) q.wa q.wn q.wc)) (aI (aT (@conv_int_u64 Try.prog 3 47 (.tmp 6) (by kernel_rfl) (by kernel_rfl) q.wn)) (aI (aT (wsmall_own w b n r f (UInt64.ofNat q.wn) (show n ≤ 100000 from by omega))) tV)))) (aI (fun (h1 : (decide (0 < q.wn)) = true) => have f3 := (oT h1); aI (⟨(show 0 < q.wn from by omega), rfl⟩ : famB q (bytB q)) (fun (n3 n4 : Nat) => aI (sK4 (aI (aT (ad w 0)) (sk (aI (aT (SRuns.dark [false, true] (mk_appendA (P := Try.prog) (t := 36) (ty := 36) (e := 5) (by kernel_rfl) one5 n1 (n + smN (UInt64.ofNat q.wn)) n2 q.wb q.wo 0 q.wn q.wc u8 (catU f n (smB (UInt64.ofNat q.wn))) q.wf (tabF q.wn (fun k => u8 (q.wf k))) (fun j hj => by rw [Nat.zero_add]; exact tabF_in hj) (fun _ => rfl) (show (n + smN (UInt64.ofNat q.wn) + q.wn) * 1 ≤ 140737488355328 ∧ n + smN (UInt64.ofNat q.wn) + q.wn ≤ 9223372036854775807 from by have := smN_rng  (UInt64.ofNat q.wn); omega) (hq.ad (show 0 < q.wn from by omega))))) (sK2 (aI (aT (ad w 0)) tV)))))) (aT (eX (fun (ns : List Nat) => ns.length = 2 ∧ ((Value.tuple #[]) : Value) = (fun (ns : List Nat) => (Value.tuple #[])) ns ∧ ([some ⟨w, true, 0, (.lit [(Value.slice (some ⟨n3, 0, none⟩) (n + smN (UInt64.ofNat q.wn) + q.wn) (n + smN (UInt64.ofNat q.wn) + q.wn + n4))])⟩, some ⟨n3, true, 0, (spr (n + smN (UInt64.ofNat q.wn) + q.wn + n4) (n + smN (UInt64.ofNat q.wn) + q.wn) (fun k => u8 (catU (catU f n (smB (UInt64.ofNat q.wn))) (n + smN (UInt64.ofNat q.wn)) q.wf k)) (u8 0))⟩] : List (Option Blk)) = (fun (ns : List Nat) => [some ⟨w, true, 0, (.lit [(Value.slice (some ⟨(ns.getD 0 0), 0, none⟩) (n + byN q.wn) (n + byN q.wn + (ns.getD 1 0)))])⟩, some ⟨(ns.getD 0 0), true, 0, (spr (n + byN q.wn + (ns.getD 1 0)) (n + byN q.wn) (fun k => u8 (catU f n (byB q.wf q.wn) k)) (u8 0))⟩]) ns) [n3, n4] (aI (@rfl Nat 2) (aI (@rfl Value (Value.tuple #[])) ((show ([some ⟨w, true, 0, (.lit [(Value.slice (some ⟨n3, 0, none⟩) (n + smN (UInt64.ofNat q.wn) + q.wn) (n + smN (UInt64.ofNat q.wn) + q.wn + n4))])⟩, some ⟨n3, true, 0, (spr (n + smN (UInt64.ofNat q.wn) + q.wn + n4) (n + smN (UInt64.ofNat q.wn) + q.wn) (fun k => u8 (catU (catU f n (smB (UInt64.ofNat q.wn))) (n + smN (UInt64.ofNat q.wn)) q.wf k)) (u8 0))⟩] : List (Option Blk)) = [some ⟨w, true, 0, (.lit [(Value.slice (some ⟨n3, 0, none⟩) (n + byN q.wn) (n + byN q.wn + n4))])⟩, some ⟨n3, true, 0, (spr (n + byN q.wn + n4) (n + byN q.wn) (fun k => u8 (catU f n (byB q.wf q.wn) k)) (u8 0))⟩] from by first | (rw [show n + smN (UInt64.ofNat q.wn) + q.wn = n + byN q.wn from by unfold byN; omega, catU_assoc] <;> rfl) | (rw [show n + smN (UInt64.ofNat q.wn) = n + byN q.wn from by unfold byN; omega, spr_as (fun k hk => congrArg u8 (bytes_end0 (by omega) k hk))] <;> rfl))))))))) (fun (h1 : (decide (0 < q.wn)) = false) => have f3 := (oF h1); aI (sK4 (aI (aT (ad w 0)) (sk (aI (aT (srun_append_noneM (P := Try.prog) (t := 36) (ty := 36) (e := 5) (sz := 1) (by kernel_rfl) (by kernel_rfl) (some ⟨n1, 0, none⟩) (n + smN (UInt64.ofNat q.wn)) (n + smN (UInt64.ofNat q.wn) + n2) (show (n + smN (UInt64.ofNat q.wn)) ≤ (n + smN (UInt64.ofNat q.wn) + n2) from by have := smN_rng  (UInt64.ofNat q.wn); omega) q.wa q.wn q.wc (show q.wn = 0 from by omega))) (sK2 (aI (aT (ad w 0)) tV)))))) (aT (eX (fun (ns : List Nat) => ns.length = 2 ∧ ((Value.tuple #[]) : Value) = (fun (ns : List Nat) => (Value.tuple #[])) ns ∧ ([some ⟨w, true, 0, (.lit [(Value.slice (some ⟨n1, 0, none⟩) (n + smN (UInt64.ofNat q.wn)) (n + smN (UInt64.ofNat q.wn) + n2))])⟩, some ⟨n1, true, 0, (spr (n + smN (UInt64.ofNat q.wn) + n2) (n + smN (UInt64.ofNat q.wn)) (fun k => u8 (catU f n (smB (UInt64.ofNat q.wn)) k)) (u8 0))⟩] : List (Option Blk)) = (fun (ns : List Nat) => [some ⟨w, true, 0, (.lit [(Value.slice (some ⟨(ns.getD 0 0), 0, none⟩) (n + byN q.wn) (n + byN q.wn + (ns.getD 1 0)))])⟩, some ⟨(ns.getD 0 0), true, 0, (spr (n + byN q.wn + (ns.getD 1 0)) (n + byN q.wn) (fun k => u8 (catU f n (byB q.wf q.wn) k)) (u8 0))⟩]) ns) [n1, n2] (aI (@rfl Nat 2) (aI (@rfl Value (Value.tuple #[])) ((show ([some ⟨w, true, 0, (.lit [(Value.slice (some ⟨n1, 0, none⟩) (n + smN (UInt64.ofNat q.wn)) (n + smN (UInt64.ofNat q.wn) + n2))])⟩, some ⟨n1, true, 0, (spr (n + smN (UInt64.ofNat q.wn) + n2) (n + smN (UInt64.ofNat q.wn)) (fun k => u8 (catU f n (smB (UInt64.ofNat q.wn)) k)) (u8 0))⟩] : List (Option Blk)) = [some ⟨w, true, 0, (.lit [(Value.slice (some ⟨n1, 0, none⟩) (n + byN q.wn) (n + byN q.wn + n2))])⟩, some ⟨n1, true, 0, (spr (n + byN q.wn + n2) (n + byN q.wn) (fun k => u8 (catU f n (byB q.wf q.wn) k)) (u8 0))⟩] from by first | (rw [show n + smN (UInt64.ofNat q.wn) + q.wn = n + byN q.wn from by unfold byN; omega, catU_assoc] <;> rfl) | (rw [show n + smN (UInt64.ofNat q.wn) = n + byN q.wn from by unfold byN; omega, spr_as (fun k hk => congrArg u8 (bytes_end0 (by omega) k hk))] <;> rfl)))))))))))
theorem wbytes_nil (w : Nat) (q : BytL) (hq : OkB q) (hl : q.wn ≤ 100000) : RunsF (famB q) Try.prog 31 [(ptr w 0), (Value.slice q.wa q.wn q.wc)] [⟨w, true, 0, (.lit [(Value.slice none 0 0)])⟩] 2 (fun (ns : List Nat) => (Value.tuple #[])) (fun (ns : List Nat) => [some ⟨w, true, 0, (.lit [(Value.slice (some ⟨(ns.getD 0 0), 0, none⟩) (byN q.wn) (byN q.wn + (ns.getD 1 0)))])⟩, some ⟨(ns.getD 0 0), true, 0, (spr (byN q.wn + (ns.getD 1 0)) (byN q.wn) (fun k => u8 (byB q.wf q.wn k)) (u8 0))⟩]) :=
  runsF_of_ev (F := (famB q)) mix Try.func31 rfl rfl 400 (.regn (rg [.g, .g, (.as (nat q.wn)), (.as (u64 (UInt64.ofNat q.wn))), (.call [(0, false)] 2 1 (fun _ => Value.tuple #[]) (fun ns => [some ⟨w, true, 0, .lit [(Value.slice (some ⟨(ns.getD 0 0), 0, none⟩) (smN (UInt64.ofNat q.wn)) (smN (UInt64.ofNat q.wn) + (ns.getD 1 0)))]⟩, some ⟨(ns.getD 0 0), true, 0, (spr (smN (UInt64.ofNat q.wn) + (ns.getD 1 0)) (smN (UInt64.ofNat q.wn)) (fun k => u8 (smB (UInt64.ofNat q.wn) k)) (u8 0))⟩]))]) (more (fun n1 => more (fun n2 => fun _ => (.both (decide (0 < q.wn)) (.openr (bytB q) (.regn (rg [.g, .g, .g, .g, (.ld 0 (.lit 0)), .g, (.oth [(1, false), (2, true)] 2 0 (fun ns => Value.slice (some ⟨(ns.getD 0 0), 0, none⟩) (smN (UInt64.ofNat q.wn) + q.wn) (smN (UInt64.ofNat q.wn) + q.wn + (ns.getD 1 0))) (fun ns => [some ⟨(ns.getD 0 0), true, 0, (spr (smN (UInt64.ofNat q.wn) + q.wn + (ns.getD 1 0)) (smN (UInt64.ofNat q.wn) + q.wn) (fun k => u8 (catU (smB (UInt64.ofNat q.wn)) (smN (UInt64.ofNat q.wn)) q.wf k)) (u8 0))⟩, none])), .g, .g, (.st 0 (.lit 0))]) (more (fun n3 => more (fun n4 => fun _ => .done))))) (.reg (rg [.g, .g, .g, .g, (.ld 0 (.lit 0)), .g, (.oth [] 0 0 (fun _ => (Value.slice (some ⟨n1, 0, none⟩) (smN (UInt64.ofNat q.wn)) (smN (UInt64.ofNat q.wn) + n2))) (fun _ => [])), .g, .g, (.st 0 (.lit 0))]) .done)))))) [] [1] rfl
    (have f1 : smN (UInt64.ofNat q.wn) ≤ 9 := (smN_le _); Eq.mp (by kernel_rfl) (fun (n1 n2 : Nat) => aI (sK2 (aI (aT (@is_len Try.prog 36 5 (.tmp 5) (by kernel_rfl) q.wa q.wn q.wc)) (aI (aT (@conv_int_u64 Try.prog 3 47 (.tmp 6) (by kernel_rfl) (by kernel_rfl) q.wn)) (aI (aT (wsmall_nil w (UInt64.ofNat q.wn))) tV)))) (aI (fun (h1 : (decide (0 < q.wn)) = true) => have f2 := (oT h1); aI (⟨(show 0 < q.wn from by omega), rfl⟩ : famB q (bytB q)) (fun (n3 n4 : Nat) => aI (sK4 (aI (aT (ad w 0)) (sk (aI (aT (SRuns.dark [false, true] (mk_appendA (P := Try.prog) (t := 36) (ty := 36) (e := 5) (by kernel_rfl) one5 n1 (smN (UInt64.ofNat q.wn)) n2 q.wb q.wo 0 q.wn q.wc u8 (smB (UInt64.ofNat q.wn)) q.wf (tabF q.wn (fun k => u8 (q.wf k))) (fun j hj => by rw [Nat.zero_add]; exact tabF_in hj) (fun _ => rfl) (show (smN (UInt64.ofNat q.wn) + q.wn) * 1 ≤ 140737488355328 ∧ smN (UInt64.ofNat q.wn) + q.wn ≤ 9223372036854775807 from by have := smN_rng  (UInt64.ofNat q.wn); omega) (hq.ad (show 0 < q.wn from by omega))))) (sK2 (aI (aT (ad w 0)) tV)))))) (aT (eX (fun (ns : List Nat) => ns.length = 2 ∧ ((Value.tuple #[]) : Value) = (fun (ns : List Nat) => (Value.tuple #[])) ns ∧ ([some ⟨w, true, 0, (.lit [(Value.slice (some ⟨n3, 0, none⟩) (smN (UInt64.ofNat q.wn) + q.wn) (smN (UInt64.ofNat q.wn) + q.wn + n4))])⟩, some ⟨n3, true, 0, (spr (smN (UInt64.ofNat q.wn) + q.wn + n4) (smN (UInt64.ofNat q.wn) + q.wn) (fun k => u8 (catU (smB (UInt64.ofNat q.wn)) (smN (UInt64.ofNat q.wn)) q.wf k)) (u8 0))⟩] : List (Option Blk)) = (fun (ns : List Nat) => [some ⟨w, true, 0, (.lit [(Value.slice (some ⟨(ns.getD 0 0), 0, none⟩) (byN q.wn) (byN q.wn + (ns.getD 1 0)))])⟩, some ⟨(ns.getD 0 0), true, 0, (spr (byN q.wn + (ns.getD 1 0)) (byN q.wn) (fun k => u8 (byB q.wf q.wn k)) (u8 0))⟩]) ns) [n3, n4] (aI (@rfl Nat 2) (aI (@rfl Value (Value.tuple #[])) ((show ([some ⟨w, true, 0, (.lit [(Value.slice (some ⟨n3, 0, none⟩) (smN (UInt64.ofNat q.wn) + q.wn) (smN (UInt64.ofNat q.wn) + q.wn + n4))])⟩, some ⟨n3, true, 0, (spr (smN (UInt64.ofNat q.wn) + q.wn + n4) (smN (UInt64.ofNat q.wn) + q.wn) (fun k => u8 (catU (smB (UInt64.ofNat q.wn)) (smN (UInt64.ofNat q.wn)) q.wf k)) (u8 0))⟩] : List (Option Blk)) = [some ⟨w, true, 0, (.lit [(Value.slice (some ⟨n3, 0, none⟩) (byN q.wn) (byN q.wn + n4))])⟩, some ⟨n3, true, 0, (spr (byN q.wn + n4) (byN q.wn) (fun k => u8 (byB q.wf q.wn k)) (u8 0))⟩] from by first | (rw [show smN (UInt64.ofNat q.wn) + q.wn = byN q.wn from by unfold byN; omega] <;> rfl) | (rw [show smN (UInt64.ofNat q.wn) = byN q.wn from by unfold byN; omega, spr_as (fun k hk => congrArg u8 (bytes_endN (by omega) k hk))] <;> rfl))))))))) (fun (h1 : (decide (0 < q.wn)) = false) => have f2 := (oF h1); aI (sK4 (aI (aT (ad w 0)) (sk (aI (aT (srun_append_noneM (P := Try.prog) (t := 36) (ty := 36) (e := 5) (sz := 1) (by kernel_rfl) (by kernel_rfl) (some ⟨n1, 0, none⟩) (smN (UInt64.ofNat q.wn)) (smN (UInt64.ofNat q.wn) + n2) (show (smN (UInt64.ofNat q.wn)) ≤ (smN (UInt64.ofNat q.wn) + n2) from by have := smN_rng  (UInt64.ofNat q.wn); omega) q.wa q.wn q.wc (show q.wn = 0 from by omega))) (sK2 (aI (aT (ad w 0)) tV)))))) (aT (eX (fun (ns : List Nat) => ns.length = 2 ∧ ((Value.tuple #[]) : Value) = (fun (ns : List Nat) => (Value.tuple #[])) ns ∧ ([some ⟨w, true, 0, (.lit [(Value.slice (some ⟨n1, 0, none⟩) (smN (UInt64.ofNat q.wn)) (smN (UInt64.ofNat q.wn) + n2))])⟩, some ⟨n1, true, 0, (spr (smN (UInt64.ofNat q.wn) + n2) (smN (UInt64.ofNat q.wn)) (fun k => u8 (smB (UInt64.ofNat q.wn) k)) (u8 0))⟩] : List (Option Blk)) = (fun (ns : List Nat) => [some ⟨w, true, 0, (.lit [(Value.slice (some ⟨(ns.getD 0 0), 0, none⟩) (byN q.wn) (byN q.wn + (ns.getD 1 0)))])⟩, some ⟨(ns.getD 0 0), true, 0, (spr (byN q.wn + (ns.getD 1 0)) (byN q.wn) (fun k => u8 (byB q.wf q.wn k)) (u8 0))⟩]) ns) [n1, n2] (aI (@rfl Nat 2) (aI (@rfl Value (Value.tuple #[])) ((show ([some ⟨w, true, 0, (.lit [(Value.slice (some ⟨n1, 0, none⟩) (smN (UInt64.ofNat q.wn)) (smN (UInt64.ofNat q.wn) + n2))])⟩, some ⟨n1, true, 0, (spr (smN (UInt64.ofNat q.wn) + n2) (smN (UInt64.ofNat q.wn)) (fun k => u8 (smB (UInt64.ofNat q.wn) k)) (u8 0))⟩] : List (Option Blk)) = [some ⟨w, true, 0, (.lit [(Value.slice (some ⟨n1, 0, none⟩) (byN q.wn) (byN q.wn + n2))])⟩, some ⟨n1, true, 0, (spr (byN q.wn + n2) (byN q.wn) (fun k => u8 (byB q.wf q.wn k)) (u8 0))⟩] from by first | (rw [show smN (UInt64.ofNat q.wn) + q.wn = byN q.wn from by unfold byN; omega] <;> rfl) | (rw [show smN (UInt64.ofNat q.wn) = byN q.wn from by unfold byN; omega, spr_as (fun k hk => congrArg u8 (bytes_endN (by omega) k hk))] <;> rfl)))))))))))
end Go.Proofs.Ytnailbicmhkmbaa
end
section
namespace Go.Proofs.Ytnailbicmhkmbaa
open Go Go.Eng
theorem clone_runs0 (b o n c : Nat) (f : Nat → UInt8) (h0 : 0 < n) (hl : n ≤ 140737488355328) : Runs Try.prog 25 [(Value.slice (some ⟨b, o, none⟩) n c)] [⟨b, false, o, (tabF n (fun k => u8 (f k)))⟩] 2 (fun (ns : List Nat) => (Value.slice (some ⟨(ns.getD 0 0), 0, none⟩) (0 + n) (0 + n + (ns.getD 1 0)))) (fun (ns : List Nat) => [some ⟨b, false, o, (tabF n (fun k => u8 (f k)))⟩, some ⟨(ns.getD 0 0), true, 0, (spr (0 + n + (ns.getD 1 0)) (0 + n) (fun k => u8 (catU (fun _ => 0) 0 f k)) (u8 0))⟩]) :=
  runs_of_ev mix Try.func25 rfl rfl 400 (.reg (rg [.g]) (.reg (rg [.g, .g]) (.no (.regn (rg [(.oth [] 1 1 (fun ns => Value.slice (some ⟨ns.getD 0 0, 0, none⟩) 0 0) (fun ns => [some ⟨ns.getD 0 0, true, 0, (spr (0 + 0) 0 (fun k => u8 ((fun _ => 0) k)) (u8 0))⟩])), .g, (.oth [(1, false), (0, true)] 2 0 (fun ns => Value.slice (some ⟨(ns.getD 0 0), 0, none⟩) (0 + n) (0 + n + (ns.getD 1 0))) (fun ns => [some ⟨(ns.getD 0 0), true, 0, (spr (0 + n + (ns.getD 1 0)) (0 + n) (fun k => u8 (catU (fun _ => 0) 0 f k)) (u8 0))⟩, none])), .g]) (more (fun n1 => more (fun n2 => more (fun n3 => fun _ => .done)))))))) [] [1] rfl
    (Eq.mp (by kernel_rfl) (aI kV1 (aI kV2 (aT (aI (@rfl Bool false) (fun (n1 n2 n3 : Nat) => aI (aI (aT (mk_build0 (P := Try.prog) (t := 36) (e := 5) (by kernel_rfl) one5 u8 (fun _ => 0))) (sk (aI (aT (SRuns.dark [false, true] (mk_append (P := Try.prog) (t := 36) (ty := 36) (e := 5) (by kernel_rfl) one5 n1 0 0 b o 0 n c u8 (fun _ => 0) f (tabF n (fun k => u8 (f k))) (fun j hj => by rw [Nat.zero_add]; exact tabF_in hj) (fun _ => rfl) (show (0 + n) * 1 ≤ 140737488355328 ∧ 0 + n ≤ 9223372036854775807 from by omega)))) kV1))) (aT (eX (fun (ns : List Nat) => ns.length = 2 ∧ ((Value.slice (some ⟨n2, 0, none⟩) (0 + n) (0 + n + n3)) : Value) = (fun (ns : List Nat) => (Value.slice (some ⟨(ns.getD 0 0), 0, none⟩) (0 + n) (0 + n + (ns.getD 1 0)))) ns ∧ ([some ⟨b, false, o, (tabF n (fun k => u8 (f k)))⟩, some ⟨n2, true, 0, (spr (0 + n + n3) (0 + n) (fun k => u8 (catU (fun _ => 0) 0 f k)) (u8 0))⟩] : List (Option Blk)) = (fun (ns : List Nat) => [some ⟨b, false, o, (tabF n (fun k => u8 (f k)))⟩, some ⟨(ns.getD 0 0), true, 0, (spr (0 + n + (ns.getD 1 0)) (0 + n) (fun k => u8 (catU (fun _ => 0) 0 f k)) (u8 0))⟩]) ns) [n2, n3] (aI (@rfl Nat 2) (aI (@rfl Value (Value.slice (some ⟨n2, 0, none⟩) (0 + n) (0 + n + n3))) (@rfl (List (Option Blk)) [some ⟨b, false, o, (tabF n (fun k => u8 (f k)))⟩, some ⟨n2, true, 0, (spr (0 + n + n3) (0 + n) (fun k => u8 (catU (fun _ => 0) 0 f k)) (u8 0))⟩])))))))))))
theorem clone_nil0 : Pure Try.prog 25 [(Value.slice none 0 0)] (Value.slice none 0 0) :=
  pure_of_ev mix Try.func25 rfl rfl 400 (.reg (rg [.g]) (.reg (rg [.g, .g]) (.yes (.reg (rg [.g]) .done)))) []
    (Eq.mp (by kernel_rfl) (aI kV1 (aI kV2 (aT (aI (@rfl Bool true) (aI kV1 (aT (@rfl Value (Value.slice none 0 0)))))))))
theorem clone_runs (b o n c : Nat) (f : Nat → UInt8) (h0 : 0 < n) (hl : n ≤ 140737488355328) : Runs Try.prog 25 [.slice (some ⟨b, o, none⟩) n c] [⟨b, false, o, tabF n (fun k => u8 (f k))⟩] 2 (fun ns => .slice (some ⟨ns.getD 0 0, 0, none⟩) n (n + ns.getD 1 0)) (fun ns => [some ⟨b, false, o, tabF n (fun k => u8 (f k))⟩, some ⟨ns.getD 0 0, true, 0, spr (n + ns.getD 1 0) n (fun k => u8 (f k)) (u8 0)⟩]) := by
  have h := clone_runs0 b o n c f h0 hl
  simp only [Nat.zero_add, catU_nil] at h
  exact h
theorem clone_fam (q : BytL) (hq : OkB q) (h0 : 0 < q.wn) (hl : q.wn ≤ 140737488355328) : RunsF (famB q) Try.prog 25 [slqV q] [] 2 (fun ns => .slice (some ⟨ns.getD 0 0, 0, none⟩) q.wn (q.wn + ns.getD 1 0)) (fun ns => [some ⟨ns.getD 0 0, true, 0, spr (q.wn + ns.getD 1 0) q.wn (fun k => u8 (q.wf k)) (u8 0)⟩]) := by
  have e : slqV q = .slice (some ⟨q.wb, q.wo, none⟩) q.wn q.wc := by unfold slqV; rw [hq.ad h0]
  rw [e]
  exact (clone_runs q.wb q.wo q.wn q.wc q.wf h0 hl).famN ⟨h0, rfl⟩
theorem clone_nil : Pure Try.prog 25 [.slice none 0 0] (.slice none 0 0) := clone_nil0
theorem clone_zero (A : Addr) (c : Nat) : Runs Try.prog 25 [(Value.slice (some A) 0 c)] [] 1 (fun (ns : List Nat) => (Value.slice (some ⟨(ns.getD 0 0), 0, none⟩) 0 (0 + 0))) (fun (ns : List Nat) => [some ⟨(ns.getD 0 0), true, 0, (spr (0 + 0) 0 (fun k => u8 ((fun _ => 0) k)) (u8 0))⟩]) :=
  runs_of_ev mix Try.func25 rfl rfl 400 (.reg (rg [.g]) (.reg (rg [.g, .g]) (.no (.regn (rg [(.oth [] 1 1 (fun ns => Value.slice (some ⟨ns.getD 0 0, 0, none⟩) 0 0) (fun ns => [some ⟨ns.getD 0 0, true, 0, (spr (0 + 0) 0 (fun k => u8 ((fun _ => 0) k)) (u8 0))⟩])), .g, (.oth [(0, false)] 1 0 (fun ns => Value.slice (some ⟨(ns.getD 0 0), 0, none⟩) 0 (0 + 0)) (fun ns => [some ⟨(ns.getD 0 0), true, 0, (spr (0 + 0) 0 (fun k => u8 ((fun _ => 0) k)) (u8 0))⟩])), .g]) (more (fun n1 => more (fun n2 => fun _ => .done))))))) [] [0] rfl
    (Eq.mp (by kernel_rfl) (aI kV1 (aI kV2 (aT (aI (@rfl Bool false) (fun (n1 n2 : Nat) => aI (aI (aT (mk_build0 (P := Try.prog) (t := 36) (e := 5) (by kernel_rfl) one5 u8 (fun _ => 0))) (sk (aI (aT (SRuns.dark [false] (mk_append0 (P := Try.prog) (t := 36) (ty := 36) (e := 5) (by kernel_rfl) one5 n1 (spr (0 + 0) 0 (fun k => u8 ((fun _ => 0) k)) (u8 0)) (some A) c))) kV1))) (aT (eX (fun (ns : List Nat) => ns.length = 1 ∧ ((Value.slice (some ⟨n2, 0, none⟩) 0 (0 + 0)) : Value) = (fun (ns : List Nat) => (Value.slice (some ⟨(ns.getD 0 0), 0, none⟩) 0 (0 + 0))) ns ∧ ([some ⟨n2, true, 0, (spr (0 + 0) 0 (fun k => u8 ((fun _ => 0) k)) (u8 0))⟩] : List (Option Blk)) = (fun (ns : List Nat) => [some ⟨(ns.getD 0 0), true, 0, (spr (0 + 0) 0 (fun k => u8 ((fun _ => 0) k)) (u8 0))⟩]) ns) [n2] (aI (@rfl Nat 1) (aI (@rfl Value (Value.slice (some ⟨n2, 0, none⟩) 0 (0 + 0))) (@rfl (List (Option Blk)) [some ⟨n2, true, 0, (spr (0 + 0) 0 (fun k => u8 ((fun _ => 0) k)) (u8 0))⟩])))))))))))
theorem wout_own (w b n r : Nat) (f : Nat → UInt8) (h0 : 0 < n) (hl : n ≤ 100000) : Runs Try.prog 32 [(ptr w 0)] [⟨w, false, 0, (.lit [(Value.slice (some ⟨b, 0, none⟩) n (n + r))])⟩, ⟨b, false, 0, (spr (n + r) n (fun k => u8 (f k)) (u8 0))⟩] 2 (fun (ns : List Nat) => (Value.slice (some ⟨(ns.getD 0 0), 0, none⟩) n (n + (ns.getD 1 0)))) (fun (ns : List Nat) => [some ⟨w, false, 0, (.lit [(Value.slice (some ⟨b, 0, none⟩) n (n + r))])⟩, some ⟨b, false, 0, (spr (n + r) n (fun k => u8 (f k)) (u8 0))⟩, some ⟨(ns.getD 0 0), true, 0, (spr (n + (ns.getD 1 0)) n (fun k => u8 (f k)) (u8 0))⟩]) :=
  runs_of_ev mix Try.func32 rfl rfl 400 (.reg (rg [.g]) (.regn (rg [.g, .g, .g, (.ld 0 (.lit 0)), (.callF [(1, true)] 2 1 (fun ns => Value.slice (some ⟨(ns.getD 0 0), 0, none⟩) (n) (n + (ns.getD 1 0))) (fun ns => [none, some ⟨(ns.getD 0 0), true, 0, (spr (n + (ns.getD 1 0)) n (fun k => u8 (f k)) (u8 0))⟩])), .g]) (more (fun n1 => more (fun n2 => fun _ => .done))))) [] [2] rfl
    (Eq.mp (by kernel_rfl) (aI kV1 (fun (n1 n2 : Nat) => aI (sK3 (aI (aT (ad w 0)) (aI (aT (RunsF.lendG (F' := (fun _ => False)) (bs := []) (cs := [⟨b, false, 0, (spr (n + r) n (fun k => u8 (f k)) (u8 0))⟩]) (o := fun _ => []) (clone_fam (bytO b n (n + r) f) (okb_own (show n ≤ n + r from by omega) (show n ≤ 9223372036854775807 from by omega)) (show 0 < n from by omega) (show n ≤ 140737488355328 from by omega)) (fun _ => rfl) (fun w _ hb => holdb_own (holds_sprB (hb _ (List.Mem.head _)))) (famB_name rfl) (by simp))) kV1))) (aT (eX (fun (ns : List Nat) => ns.length = 2 ∧ ((Value.slice (some ⟨n1, 0, none⟩) n (n + n2)) : Value) = (fun (ns : List Nat) => (Value.slice (some ⟨(ns.getD 0 0), 0, none⟩) n (n + (ns.getD 1 0)))) ns ∧ ([some ⟨w, false, 0, (.lit [(Value.slice (some ⟨b, 0, none⟩) n (n + r))])⟩, some ⟨b, false, 0, (spr (n + r) n (fun k => u8 (f k)) (u8 0))⟩, some ⟨n1, true, 0, (spr (n + n2) n (fun k => u8 (f k)) (u8 0))⟩] : List (Option Blk)) = (fun (ns : List Nat) => [some ⟨w, false, 0, (.lit [(Value.slice (some ⟨b, 0, none⟩) n (n + r))])⟩, some ⟨b, false, 0, (spr (n + r) n (fun k => u8 (f k)) (u8 0))⟩, some ⟨(ns.getD 0 0), true, 0, (spr (n + (ns.getD 1 0)) n (fun k => u8 (f k)) (u8 0))⟩]) ns) [n1, n2] (aI (@rfl Nat 2) (aI (@rfl Value (Value.slice (some ⟨n1, 0, none⟩) n (n + n2))) (@rfl (List (Option Blk)) [some ⟨w, false, 0, (.lit [(Value.slice (some ⟨b, 0, none⟩) n (n + r))])⟩, some ⟨b, false, 0, (spr (n + r) n (fun k => u8 (f k)) (u8 0))⟩, some ⟨n1, true, 0, (spr (n + n2) n (fun k => u8 (f k)) (u8 0))⟩]))))))))
theorem wout_nil (w : Nat) : Runs Try.prog 32 [(ptr w 0)] [⟨w, false, 0, (.lit [(Value.slice none 0 0)])⟩] 0 (fun _ => (Value.slice none 0 0)) (fun _ => [some ⟨w, false, 0, (.lit [(Value.slice none 0 0)])⟩]) :=
  runs_of_ev mix Try.func32 rfl rfl 400 (.reg (rg [.g]) (.reg (rg [.g, .g, .g, (.ld 0 (.lit 0)), (.call [] 0 0 (fun _ => (Value.slice none 0 0)) (fun _ => [])), .g]) .done)) [] [] rfl
    (Eq.mp (by kernel_rfl) (aI kV1 (aI (sK3 (aI (aT (ad w 0)) (aI (aI tV clone_nil) kV1))) (aT (eX (fun (ns : List Nat) => ns.length = 0 ∧ ((Value.slice none 0 0) : Value) = (fun _ => (Value.slice none 0 0)) ns ∧ ([some ⟨w, false, 0, (.lit [(Value.slice none 0 0)])⟩] : List (Option Blk)) = (fun _ => [some ⟨w, false, 0, (.lit [(Value.slice none 0 0)])⟩]) ns) [] (aI (@rfl Nat 0) (aI (@rfl Value (Value.slice none 0 0)) (@rfl (List (Option Blk)) [some ⟨w, false, 0, (.lit [(Value.slice none 0 0)])⟩]))))))))
theorem of_fam (q : BytL) (hq : OkB q) : RunsF (famB q) Try.prog 49 [slqV q] [] 0 (fun _ => .tuple #[nat4 (ofN q.wf q.wn), int (ofE q.wn)]) (fun _ => []) := by
  rcases Nat.eq_zero_or_pos q.wn with h0 | h0
  · have e : slqV q = .slice q.wa 0 q.wc := by unfold slqV; rw [h0]
    rw [e, h0, (ofN_nil q.wf).1, (ofN_nil q.wf).2]
    exact (of_nil q.wa q.wc).toF
  · have e : slqV q = .slice (some ⟨q.wb, q.wo, none⟩) q.wn q.wc := by unfold slqV; rw [hq.ad h0]
    rw [e]
    exact (of_runs q.wb q.wo q.wn q.wc q.wf hq.len).fam ⟨h0, rfl⟩
theorem small_fam (q : BytL) (hq : OkB q) (hl : q.wn ≤ 100000) (h0 : 0 < q.wn) (h8 : (q.wf 0).toNat ≤ 8) (h9 : (q.wf 0).toNat + 1 ≤ q.wn) : RunsF (famB q) Try.prog 45 [(Value.slice q.wa q.wn q.wc)] [] 0 (fun _ => u64 (smV q.wf)) (fun _ => []) :=
  runsF_of_ev (F := (famB q)) mix Try.func45 rfl rfl 400 (.reg (rg [.g]) (.openr (bytB q) (.regn (rg [.g, .g, (.as (ptr q.wb (q.wo + 0 * 1))), (.ld 0 (.tab 0 0)), (.as (u8 (1 + (q.wf 0)))), (.as (Value.slice (fromA q.wa q.wc 1 1) (((1 + (q.wf 0)).toNat) - 1) (q.wc - 1))), (.callF [] 0 0 (fun _ => (Value.tuple #[(nat4 (ofN (bytF (bytT q ((1 + (q.wf 0)).toNat)) 1).wf (bytF (bytT q ((1 + (q.wf 0)).toNat)) 1).wn)), (int (ofE (bytF (bytT q ((1 + (q.wf 0)).toNat)) 1).wn))])) (fun _ => [])), .g, .g, .g, .new, (.st 1 (.lit 0)), .g]) (more (fun n1 => fun _ => (.reg (rg [.g, (.ld 1 (.lit 0)), .g]) .done)))))) [] [] rfl
    (have f1 := hq.cap; have f5 : (1 + q.wf 0).toNat = 1 + (q.wf 0).toNat := (add1_8 (Nat.le_trans h8 (by decide))); Eq.mp (by kernel_rfl) (aI kV1 (aI (⟨(show 0 < q.wn from by omega), rfl⟩ : famB q (bytB q)) (fun (n1 : Nat) => aI (sK2 (aI (aT (@is_ixSq Try.prog 36 5 (.tmp 7) (.const (.int .i64 0)) 1 (by kernel_rfl) (by kernel_rfl) q.wb q.wo q.wn q.wc 0 q.wa (hq.ad (show 0 < q.wn from by omega)) (show 0 < q.wn from by omega))) (aI (aT (aI (show 0 < q.wn from by omega) (@rfl Value (ptr q.wb (q.wo + 0 * 1))))) (aI (aT (@is_add8 Try.prog 5 5 (.const (.int .u8 1)) (.tmp 9) 1 (q.wf 0))) (aI (aT (is_slqPartK (P := Try.prog) (t := 36) (e := 5) (x := (.tmp 6)) (y := (.const (.int .i64 1))) (z := (.tmp 10)) (by kernel_rfl) (sz := 1) (by kernel_rfl) .i64 .u8 q.wa q.wn q.wc 1 ((1 + (q.wf 0)).toNat) (show 1 ≤ (1 + (q.wf 0)).toNat ∧ (1 + (q.wf 0)).toNat ≤ q.wc from by omega))) (aI (aT (RunsF.lendP (fun w hF => holdb_from (show 1 ≤ ((1 + (q.wf 0)).toNat) from by omega) (holdb_to (show ((1 + (q.wf 0)).toNat) ≤ q.wn from by omega) hF)) (fun x hx => famB_part (show 0 < ((1 + (q.wf 0)).toNat) - 1 → 0 < q.wn from by omega) hx) (of_fam (bytF (bytT q ((1 + (q.wf 0)).toNat)) 1) (okb_from (okb_to hq (show ((1 + (q.wf 0)).toNat) ≤ q.wn from by omega)) (show 1 ≤ ((1 + (q.wf 0)).toNat) from by omega))))) (sK4 (aI (aT (ad n1 0)) kV1)))))))) (aI (sk (aI (aT (ad n1 0)) kV1)) (aT (eX (fun (ns : List Nat) => ns.length = 0 ∧ ((u64 ((ofN (bytF (bytT q ((1 + (q.wf 0)).toNat)) 1).wf (bytF (bytT q ((1 + (q.wf 0)).toNat)) 1).wn).a)) : Value) = (fun _ => u64 (smV q.wf)) ns ∧ ([] : List (Option Blk)) = (fun _ => []) ns) [] (aI (@rfl Nat 0) (aI (@rfl Value (u64 (smV q.wf))) (@rfl (List (Option Blk)) []))))))))))
theorem wrong_fam (q : BytL) (l : UInt64) (hq : OkB q) (hl : q.wn ≤ 100000) : RunsF (famB q) Try.prog 44 [(Value.slice q.wa q.wn q.wc), (u64 l)] [] 0 (fun _ => int (wrE q.wf q.wn l)) (fun _ => []) :=
  runsF_of_ev (F := (famB q)) mix Try.func44 rfl rfl 400 (.reg (rg [.g]) (.reg (rg [.g, (.as (nat q.wn)), (.as (Value.bool (decide (q.wn = 0)))), .g]) (.br (.reg (rg [.g]) .done) (.openr (bytB q) (.reg (rg [.g, (.as (ptr q.wb (q.wo + 0 * 1))), (.ld 0 (.tab 0 0)), (.as (Value.bool (decide ((q.wf 0).toNat ≤ 8)))), .g, (.opt .g), (.opt (.as (nat q.wn))), (.opt (.as (nat (q.wn - 1)))), (.opt .g), (.opt (.as (ptr q.wb (q.wo + 0 * 1)))), (.opt (.ld 0 (.tab 0 0))), (.opt (.as (nat ((q.wf 0).toNat)))), (.opt (.as (Value.bool (decide ((q.wn - 1) < ((q.wf 0).toNat)))))), .pk, .g]) (.br (.reg (rg [.g]) .done) (.openr (bytB q) (.reg (rg [.g, (.as (ptr q.wb (q.wo + 0 * 1))), (.ld 1 (.tab 0 0)), (.as (Value.bool (decide (8 < (q.wf 0).toNat)))), .g, (.opt .g), (.opt (.as (ptr q.wb (q.wo + 0 * 1)))), (.opt (.ld 1 (.tab 0 0))), (.opt (.as (Value.bool (decide (0 < (q.wf 0).toNat))))), (.opt .g), (.opt .g), (.opt (.as (ptr q.wb (q.wo + 1 * 1)))), (.opt (.ld 1 (.tab 1 0))), (.opt (.as (Value.bool ((q.wf 1) == 0)))), (.opt .pk), .pk, .g]) (.br (.reg (rg [.g]) .done) (.reg (rg [.g, (.callF [] 0 0 (fun _ => (u64 (smV q.wf))) (fun _ => [])), .g, (.as (Value.bool (decide (l < (smV q.wf))))), .g]) (.br (.reg (rg [.g]) .done) (.reg (rg [.g]) .done)))))))))))) [] [] rfl
    (have f1 := hq.cap; Eq.mp (by kernel_rfl) (aI kV1 (aI (sk (aI (aT (@is_len Try.prog 36 5 (.tmp 6) (by kernel_rfl) q.wa q.wn q.wc)) (aI (aT (@is_eqln Try.prog 3 3 (.tmp 7) (.const (.int .i64 0))  q.wn 0)) kV1))) (aT (aI (fun (h1 : (decide (q.wn = 0)) = true) => have f2 := (oT h1); aI kV1 (aT (eX (fun (ns : List Nat) => ns.length = 0 ∧ ((int 3) : Value) = (fun _ => int (wrE q.wf q.wn l)) ns ∧ ([] : List (Option Blk)) = (fun _ => []) ns) [] (aI (@rfl Nat 0) (aI ((show (int 3) = int (wrE q.wf q.wn l) from congrArg int (by have hhh1 := h1; first | exact wr_3 (by omega) | exact wr_31s (by omega) (by omega) (by assumption) | exact wr_2 (by omega) (by omega) (wr_not (by assumption)) (by assumption) | exact wr_0 (by omega) (by omega) (wr_not (by assumption)) (by assumption)))) (@rfl (List (Option Blk)) [])))))) (fun (h1 : (decide (q.wn = 0)) = false) => have f2 := (oF h1); aI (⟨(show 0 < q.wn from by omega), rfl⟩ : famB q (bytB q)) (aI (sk (aI (aT (@is_ixSq Try.prog 36 5 (.tmp 10) (.const (.int .i64 0)) 1 (by kernel_rfl) (by kernel_rfl) q.wb q.wo q.wn q.wc 0 q.wa (hq.ad (show 0 < q.wn from by omega)) (show 0 < q.wn from by omega))) (aI (aT (aI (show 0 < q.wn from by omega) (@rfl Value (ptr q.wb (q.wo + 0 * 1))))) (aI (aT (@is_leq8 Try.prog 5 5 (.tmp 12) (.const (.int .u8 8)) (q.wf 0) 8)) (sk (aI (fun (hg : (sameB (decide ((q.wf 0).toNat ≤ 8)) true) = true) => t2) (aI (fun (hg : (sameB (decide ((q.wf 0).toNat ≤ 8)) true) = true) => have f3 : ((q.wf 0).toNat ≤ 8) := (oT (sameB_t hg)); (aI (aI hg tV) (@is_len Try.prog 36 5 (.tmp 15) (by kernel_rfl) q.wa q.wn q.wc))) (aI (fun (hg : (sameB (decide ((q.wf 0).toNat ≤ 8)) true) = true) => have f3 : ((q.wf 0).toNat ≤ 8) := (oT (sameB_t hg)); (aI (aI hg tV) (@is_subn Try.prog 3 3 (.tmp 16) (.const (.int .i64 1))  q.wn 1 (show 1 ≤ q.wn ∧ q.wn - 1 ≤ 9223372036854775807 from by omega)))) (aI (fun (hg : (sameB (decide ((q.wf 0).toNat ≤ 8)) true) = true) => t2) (aI (fun (hg : (sameB (decide ((q.wf 0).toNat ≤ 8)) true) = true) => have f3 : ((q.wf 0).toNat ≤ 8) := (oT (sameB_t hg)); (aI (aI hg tV) (@is_ixSq Try.prog 36 5 (.tmp 18) (.const (.int .i64 0)) 1 (by kernel_rfl) (by kernel_rfl) q.wb q.wo q.wn q.wc 0 q.wa (hq.ad (show 0 < q.wn from by omega)) (show 0 < q.wn from by omega)))) (aI (fun (hg : (sameB (decide ((q.wf 0).toNat ≤ 8)) true) = true) => have f3 : ((q.wf 0).toNat ≤ 8) := (oT (sameB_t hg)); (aI (aI hg tV) (aI (show 0 < q.wn from by omega) (@rfl Value (ptr q.wb (q.wo + 0 * 1)))))) (aI (fun (hg : (sameB (decide ((q.wf 0).toNat ≤ 8)) true) = true) => have f3 : ((q.wf 0).toNat ≤ 8) := (oT (sameB_t hg)); (aI (aI hg tV) (@conv_u8_int Try.prog 5 3 (.tmp 20) (by kernel_rfl) (by kernel_rfl) (q.wf 0)))) (aI (fun (hg : (sameB (decide ((q.wf 0).toNat ≤ 8)) true) = true) => (aI (aI hg (aI hg tV)) (@is_lssn Try.prog 3 3 (.tmp 17) (.tmp 21)  (q.wn - 1) ((q.wf 0).toNat)))) (aI (aT (aI (fun (hp : (decide ((q.wf 0).toNat ≤ 8)) = true) => (sameB_mk hp)) (fun (_ : (decide ((q.wf 0).toNat ≤ 8)) = false) => tV))) kV1)))))))))))))) (aT (aI (fun (h2 : (selB (decide ((q.wf 0).toNat ≤ 8)) (decide ((q.wn - 1) < ((q.wf 0).toNat))) false) = true) => have f3 : ((q.wf 0).toNat ≤ 8) := (oT (sband_l h2)); have f4 : ((q.wn - 1) < ((q.wf 0).toNat)) := (oT (sband_r h2)); aI kV1 (aT (eX (fun (ns : List Nat) => ns.length = 0 ∧ ((int 3) : Value) = (fun _ => int (wrE q.wf q.wn l)) ns ∧ ([] : List (Option Blk)) = (fun _ => []) ns) [] (aI (@rfl Nat 0) (aI ((show (int 3) = int (wrE q.wf q.wn l) from congrArg int (by have hhh1 := h1; have hhh2 := h2; first | exact wr_3 (by omega) | exact wr_31s (by omega) (by omega) (by assumption) | exact wr_2 (by omega) (by omega) (wr_not (by assumption)) (by assumption) | exact wr_0 (by omega) (by omega) (wr_not (by assumption)) (by assumption)))) (@rfl (List (Option Blk)) [])))))) (fun (h2 : (selB (decide ((q.wf 0).toNat ≤ 8)) (decide ((q.wn - 1) < ((q.wf 0).toNat))) false) = false) => have f3 : (¬ ((q.wf 0).toNat ≤ 8)) ∨ (¬ ((q.wn - 1) < ((q.wf 0).toNat))) := (Or.imp (fun h => (oF h)) (fun h => (oF h)) (sband_f h2)); aI (⟨(show 0 < q.wn from by omega), rfl⟩ : famB q (bytB q)) (aI (sk (aI (aT (@is_ixSq Try.prog 36 5 (.tmp 25) (.const (.int .i64 0)) 1 (by kernel_rfl) (by kernel_rfl) q.wb q.wo q.wn q.wc 0 q.wa (hq.ad (show 0 < q.wn from by omega)) (show 0 < q.wn from by omega))) (aI (aT (aI (show 0 < q.wn from by omega) (@rfl Value (ptr q.wb (q.wo + 0 * 1))))) (aI (aT (@is_gtr8 Try.prog 5 5 (.tmp 27) (.const (.int .u8 8)) (q.wf 0) 8)) (sk (aI (fun (hg : (sameB (decide (8 < (q.wf 0).toNat)) false) = true) => t2) (aI (fun (hg : (sameB (decide (8 < (q.wf 0).toNat)) false) = true) => have f4 : ¬ (8 < (q.wf 0).toNat) := (oF (sameB_f hg)); (aI (aI hg tV) (@is_ixSq Try.prog 36 5 (.tmp 30) (.const (.int .i64 0)) 1 (by kernel_rfl) (by kernel_rfl) q.wb q.wo q.wn q.wc 0 q.wa (hq.ad (show 0 < q.wn from by omega)) (show 0 < q.wn from by omega)))) (aI (fun (hg : (sameB (decide (8 < (q.wf 0).toNat)) false) = true) => have f4 : ¬ (8 < (q.wf 0).toNat) := (oF (sameB_f hg)); (aI (aI hg tV) (aI (show 0 < q.wn from by omega) (@rfl Value (ptr q.wb (q.wo + 0 * 1)))))) (aI (fun (hg : (sameB (decide (8 < (q.wf 0).toNat)) false) = true) => (aI (aI hg tV) (@is_gtr8 Try.prog 5 5 (.tmp 32) (.const (.int .u8 0)) (q.wf 0) 0))) (aI (fun (hg : (sameB (decide (8 < (q.wf 0).toNat)) false) = true) => (aI (aI hg tV) tV)) (aI (fun (hg : (selB (sameB (decide (8 < (q.wf 0).toNat)) false) (sameB (decide (0 < (q.wf 0).toNat)) true) false) = true) => t2) (aI (fun (hg : (selB (sameB (decide (8 < (q.wf 0).toNat)) false) (sameB (decide (0 < (q.wf 0).toNat)) true) false) = true) => have f4 : ¬ (8 < (q.wf 0).toNat) := (oF (sameB_f (pickl hg))); have f5 : (0 < (q.wf 0).toNat) := (oT (sameB_t (pickr hg))); (aI (aI hg tV) (@is_ixSq Try.prog 36 5 (.tmp 35) (.const (.int .i64 1)) 1 (by kernel_rfl) (by kernel_rfl) q.wb q.wo q.wn q.wc 1 q.wa (hq.ad (show 0 < q.wn from by omega)) (show 1 < q.wn from by omega)))) (aI (fun (hg : (selB (sameB (decide (8 < (q.wf 0).toNat)) false) (sameB (decide (0 < (q.wf 0).toNat)) true) false) = true) => have f4 : ¬ (8 < (q.wf 0).toNat) := (oF (sameB_f (pickl hg))); have f5 : (0 < (q.wf 0).toNat) := (oT (sameB_t (pickr hg))); (aI (aI hg tV) (aI (show 1 < q.wn from by omega) (@rfl Value (ptr q.wb (q.wo + 1 * 1)))))) (aI (fun (hg : (selB (sameB (decide (8 < (q.wf 0).toNat)) false) (sameB (decide (0 < (q.wf 0).toNat)) true) false) = true) => (aI (aI hg tV) (@is_eql8 Try.prog 5 5 (.tmp 37) (.const (.int .u8 0)) (q.wf 1) 0))) (aI (fun (hg : (sameB (decide (8 < (q.wf 0).toNat)) false) = true) => (aI hg (aI (fun (hp : (decide (0 < (q.wf 0).toNat)) = true) => (pickm hg (sameB_mk hp))) (fun (_ : (decide (0 < (q.wf 0).toNat)) = false) => tV)))) (aI (aT (aI (fun (_ : (decide (8 < (q.wf 0).toNat)) = true) => tV) (fun (hp : (decide (8 < (q.wf 0).toNat)) = false) => (sameB_mkf hp)))) kV1)))))))))))))))) (aT (aI (fun (h3 : (selB (decide (8 < (q.wf 0).toNat)) true (selB (decide (0 < (q.wf 0).toNat)) ((q.wf 1) == 0) false)) = true) => aI kV1 (aT (eX (fun (ns : List Nat) => ns.length = 0 ∧ ((int 31) : Value) = (fun _ => int (wrE q.wf q.wn l)) ns ∧ ([] : List (Option Blk)) = (fun _ => []) ns) [] (aI (@rfl Nat 0) (aI ((show (int 31) = int (wrE q.wf q.wn l) from congrArg int (by have hhh1 := h1; have hhh2 := h2; have hhh3 := h3; first | exact wr_3 (by omega) | exact wr_31s (by omega) (by omega) (by assumption) | exact wr_2 (by omega) (by omega) (wr_not (by assumption)) (by assumption) | exact wr_0 (by omega) (by omega) (wr_not (by assumption)) (by assumption)))) (@rfl (List (Option Blk)) [])))))) (fun (h3 : (selB (decide (8 < (q.wf 0).toNat)) true (selB (decide (0 < (q.wf 0).toNat)) ((q.wf 1) == 0) false)) = false) => have f4 : ¬ (8 < (q.wf 0).toNat) := (oF (sbor_l h3)); have f5 : (¬ (0 < (q.wf 0).toNat)) ∨ (((q.wf 1) == 0) = false) := (Or.imp (fun h => (oF h)) (fun h => h) (sband_f (sbor_r h3))); aI (sk (aI (aT (small_fam q hq (show q.wn ≤ 100000 from by omega) (show 0 < q.wn from by omega) (show (q.wf 0).toNat ≤ 8 from by omega) (show (q.wf 0).toNat + 1 ≤ q.wn from by omega))) (sk (aI (aT (@is_gtr64 Try.prog 47 47 (.tmp 43) (.tmp 44) (smV q.wf) l)) kV1)))) (aT (aI (fun (h4 : (decide (l < (smV q.wf))) = true) => have f6 := (oT h4); aI kV1 (aT (eX (fun (ns : List Nat) => ns.length = 0 ∧ ((int 2) : Value) = (fun _ => int (wrE q.wf q.wn l)) ns ∧ ([] : List (Option Blk)) = (fun _ => []) ns) [] (aI (@rfl Nat 0) (aI ((show (int 2) = int (wrE q.wf q.wn l) from congrArg int (by have hhh1 := h1; have hhh2 := h2; have hhh3 := h3; have hhh4 := h4; first | exact wr_3 (by omega) | exact wr_31s (by omega) (by omega) (by assumption) | exact wr_2 (by omega) (by omega) (wr_not (by assumption)) (by assumption) | exact wr_0 (by omega) (by omega) (wr_not (by assumption)) (by assumption)))) (@rfl (List (Option Blk)) [])))))) (fun (h4 : (decide (l < (smV q.wf))) = false) => have f6 := (oF h4); aI kV1 (aT (eX (fun (ns : List Nat) => ns.length = 0 ∧ ((int 0) : Value) = (fun _ => int (wrE q.wf q.wn l)) ns ∧ ([] : List (Option Blk)) = (fun _ => []) ns) [] (aI (@rfl Nat 0) (aI ((show (int 0) = int (wrE q.wf q.wn l) from congrArg int (by have hhh1 := h1; have hhh2 := h2; have hhh3 := h3; have hhh4 := h4; first | exact wr_3 (by omega) | exact wr_31s (by omega) (by omega) (by assumption) | exact wr_2 (by omega) (by omega) (wr_not (by assumption)) (by assumption) | exact wr_0 (by omega) (by omega) (wr_not (by assumption)) (by assumption)))) (@rfl (List (Option Blk)) []))))))))))))))))))))))
theorem fail_runs (r : Nat) (V : Value) (e e2 : Int) : Runs Try.prog 43 [(ptr r 0), (int e2)] [⟨r, true, 0, (.lit [V, (int e)])⟩] 0 (fun _ => Value.tuple #[]) (fun _ => [some ⟨r, true, 0, (.lit [V, (int (failE e e2))])⟩]) :=
  runs_of_ev mix Try.func43 rfl rfl 400 (.reg (rg [.g, .g, .g, (.ld 0 (.lit 1)), .g]) (.br (.reg (rg [.g, .g, .g, .g, (.st 0 (.lit 1))]) .done) .done)) [] [] rfl
    (Eq.mp (by kernel_rfl) (aI (sK3 (aI (aT (ad r 1)) kV1)) (aT (aI (fun (h1 : ((e : Int) == 0) = true) => aI (sK4 (aI (aT (ad r 1)) tV)) (aT (eX (fun (ns : List Nat) => ns.length = 0 ∧ ((Value.tuple #[]) : Value) = (fun _ => Value.tuple #[]) ns ∧ ([some ⟨r, true, 0, (.lit [V, (int e2)])⟩] : List (Option Blk)) = (fun _ => [some ⟨r, true, 0, (.lit [V, (int (failE e e2))])⟩]) ns) [] (aI (@rfl Nat 0) (aI (@rfl Value (Value.tuple #[])) ((show ([some ⟨r, true, 0, (.lit [V, (int e2)])⟩] : List (Option Blk)) = [some ⟨r, true, 0, (.lit [V, (int (failE e e2))])⟩] from by have hhh1 := h1; have hxh1 := (by simpa using h1 : _); unfold failE; first | rw [if_pos (by assumption)] | rw [if_neg (by assumption)]))))))) (fun (h1 : ((e : Int) == 0) = false) => aT (eX (fun (ns : List Nat) => ns.length = 0 ∧ ((Value.tuple #[]) : Value) = (fun _ => Value.tuple #[]) ns ∧ ([some ⟨r, true, 0, (.lit [V, (int e)])⟩] : List (Option Blk)) = (fun _ => [some ⟨r, true, 0, (.lit [V, (int (failE e e2))])⟩]) ns) [] (aI (@rfl Nat 0) (aI (@rfl Value (Value.tuple #[])) ((show ([some ⟨r, true, 0, (.lit [V, (int e)])⟩] : List (Option Blk)) = [some ⟨r, true, 0, (.lit [V, (int (failE e e2))])⟩] from by have hhh1 := h1; have hxh1 := (by simpa using h1 : _); unfold failE; first | rw [if_pos (by assumption)] | rw [if_neg (by assumption)]))))))))))
theorem rsmall_fam (r : Nat) (q : BytL) (e : Int) (l : UInt64) (hq : OkB q) (hl : q.wn ≤ 100000) : RunsF (famB q) Try.prog 34 [(ptr r 0), (u64 l)] [⟨r, true, 0, (.lit [(Value.slice q.wa q.wn q.wc), (int e)])⟩] 0 (fun _ => u64 (rsV q e l)) (fun _ => [some ⟨r, true, 0, (.lit [(slqV (rsQ q e l)), (int (rsE q e l))])⟩]) :=
  runsF_of_ev (F := (famB q)) mix Try.func34 rfl rfl 400 (.reg (rg [.g]) (.reg (rg [.g, .g, .g, .g, (.ld 0 (.lit 0)), .g, (.callF [] 0 0 (fun _ => (int (wrE q.wf q.wn l))) (fun _ => [])), (.call [(0, false)] 0 0 (fun _ => (Value.tuple #[])) (fun _ => [some ⟨r, true, 0, (.lit [(Value.slice q.wa q.wn q.wc), (int (failE e (wrE q.wf q.wn l)))])⟩]))]) (.reg (rg [.g, .g, .g, (.ld 0 (.lit 1)), .g]) (.br (.reg (rg [.g]) .done) (.reg (rg [.g, .g, .g, (.ld 0 (.lit 0)), (.callF [] 0 0 (fun _ => (u64 (smV q.wf))) (fun _ => [])), .g]) (.openr (bytB q) (.reg (rg [.g, .g, .g, .g, (.ld 0 (.lit 0)), .g, .g, .g, (.ld 0 (.lit 0)), (.as (ptr q.wb (q.wo + 0 * 1))), (.ld 1 (.tab 0 0)), (.as (u8 (1 + (q.wf 0)))), (.as (Value.slice (fromA q.wa q.wc ((1 + (q.wf 0)).toNat) 1) (q.wn - ((1 + (q.wf 0)).toNat)) (q.wc - ((1 + (q.wf 0)).toNat)))), .g, .g, (.st 0 (.lit 0))]) (.reg (rg [.g, .g]) .done)))))))) [] [] rfl
    (have f1 := hq.cap; Eq.mp (by kernel_rfl) (aI kV1 (aI (sK4 (aI (aT (ad r 0)) (sk (aI (aT (wrong_fam q l hq (show q.wn ≤ 100000 from by omega))) (aI (aT (Runs.dark [false] (fail_runs r (Value.slice q.wa q.wn q.wc) e (wrE q.wf q.wn l)))) tV))))) (aI (sK3 (aI (aT (ad r 1)) kV1)) (aT (aI (fun (h1 : (((failE e (wrE q.wf q.wn l)) : Int) != 0) = true) => aI kV1 (aT (eX (fun (ns : List Nat) => ns.length = 0 ∧ ((u64 0) : Value) = (fun _ => u64 (rsV q e l)) ns ∧ ([some ⟨r, true, 0, (.lit [(Value.slice q.wa q.wn q.wc), (int (failE e (wrE q.wf q.wn l)))])⟩] : List (Option Blk)) = (fun _ => [some ⟨r, true, 0, (.lit [(slqV (rsQ q e l)), (int (rsE q e l))])⟩]) ns) [] (aI (@rfl Nat 0) (aI ((show (u64 0) = u64 (rsV q e l) from congrArg u64 (by have hh := h1; rw [(rs_out (q := q) (e := e) (l := l) (by have h5 := hh; simp at h5; exact h5)).2]))) ((show ([some ⟨r, true, 0, (.lit [(Value.slice q.wa q.wn q.wc), (int (failE e (wrE q.wf q.wn l)))])⟩] : List (Option Blk)) = [some ⟨r, true, 0, (.lit [(slqV (rsQ q e l)), (int (rsE q e l))])⟩] from by have hh := h1; rw [(rs_out (q := q) (e := e) (l := l) (by have h5 := hh; simp at h5; exact h5)).1] <;> rfl))))))) (fun (h1 : (((failE e (wrE q.wf q.wn l)) : Int) != 0) = false) => aI (sK3 (aI (aT (ad r 0)) (aI (aT (small_fam q hq (show q.wn ≤ 100000 from by have g0 := (rs_zero (q := q) (e := e) (l := l) (by have h5 := h1; simp at h5; exact h5)); omega) (show 0 < q.wn from by have g0 := (rs_zero (q := q) (e := e) (l := l) (by have h5 := h1; simp at h5; exact h5)); omega) (show (q.wf 0).toNat ≤ 8 from by have g0 := (rs_zero (q := q) (e := e) (l := l) (by have h5 := h1; simp at h5; exact h5)); omega) (show (q.wf 0).toNat + 1 ≤ q.wn from by have g0 := (rs_zero (q := q) (e := e) (l := l) (by have h5 := h1; simp at h5; exact h5)); omega))) kV1))) ((have g0 := (rs_zero (q := q) (e := e) (l := l) (by have h5 := h1; simp at h5; exact h5)); aI (⟨(show 0 < q.wn from by omega), rfl⟩ : famB q (bytB q)) (aI (sK4 (aI (aT (ad r 0)) (sK3 (aI (aT (ad r 0)) (aI (aT (@is_ixSq Try.prog 36 5 (.tmp 32) (.const (.int .i64 0)) 1 (by kernel_rfl) (by kernel_rfl) q.wb q.wo q.wn q.wc 0 q.wa (hq.ad (show 0 < q.wn from by omega)) (show 0 < q.wn from by omega))) (aI (aT (aI (show 0 < q.wn from by omega) (@rfl Value (ptr q.wb (q.wo + 0 * 1))))) (aI (aT (@is_add8 Try.prog 5 5 (.const (.int .u8 1)) (.tmp 34) 1 (q.wf 0))) (aI (aT (is_slqFromK (P := Try.prog) (t := 36) (e := 5) (x := (.tmp 28)) (y := (.tmp 35)) (by kernel_rfl) (sz := 1) (by kernel_rfl) .u8 q.wa q.wn q.wc ((1 + (q.wf 0)).toNat) (show (1 + (q.wf 0)).toNat ≤ q.wn ∧ q.wn ≤ q.wc from by omega))) (sK2 (aI (aT (ad r 0)) tV)))))))))) (aI kV2 (aT (eX (fun (ns : List Nat) => ns.length = 0 ∧ ((u64 (smV q.wf)) : Value) = (fun _ => u64 (rsV q e l)) ns ∧ ([some ⟨r, true, 0, (.lit [(Value.slice (fromA q.wa q.wc ((1 + (q.wf 0)).toNat) 1) (q.wn - ((1 + (q.wf 0)).toNat)) (q.wc - ((1 + (q.wf 0)).toNat))), (int (failE e (wrE q.wf q.wn l)))])⟩] : List (Option Blk)) = (fun _ => [some ⟨r, true, 0, (.lit [(slqV (rsQ q e l)), (int (rsE q e l))])⟩]) ns) [] (aI (@rfl Nat 0) (aI ((show (u64 (smV q.wf)) = u64 (rsV q e l) from congrArg u64 (by have hh := h1; rw [(rs_in (q := q) (e := e) (l := l) (by have h5 := hh; simp at h5; exact h5)).2]))) ((show ([some ⟨r, true, 0, (.lit [(Value.slice (fromA q.wa q.wc ((1 + (q.wf 0)).toNat) 1) (q.wn - ((1 + (q.wf 0)).toNat)) (q.wc - ((1 + (q.wf 0)).toNat))), (int (failE e (wrE q.wf q.wn l)))])⟩] : List (Option Blk)) = [some ⟨r, true, 0, (.lit [(slqV (rsQ q e l)), (int (rsE q e l))])⟩] from by have hh := h1; rw [(rs_in (q := q) (e := e) (l := l) (by have h5 := hh; simp at h5; exact h5)).1] <;> rfl)))))))))))))))))
theorem rend_runs (r : Nat) (q : BytL) (e : Int) : Runs Try.prog 36 [(ptr r 0)] [⟨r, false, 0, (.lit [(Value.slice q.wa q.wn q.wc), (int e)])⟩] 0 (fun _ => int (endE q.wn e)) (fun _ => [some ⟨r, false, 0, (.lit [(Value.slice q.wa q.wn q.wc), (int e)])⟩]) :=
  runs_of_ev mix Try.func36 rfl rfl 400 (.reg (rg [.g]) (.reg (rg [.g, .g, .g, (.ld 0 (.lit 1)), .g, .g, (.opt .g), (.opt .g), (.opt .g), (.opt (.ld 0 (.lit 0))), (.opt (.as (nat q.wn))), (.opt (.as (Value.bool (decide (0 < q.wn))))), .pk]) (.br (.reg (rg [.g]) .done) (.reg (rg [.g, .g, .g, (.ld 0 (.lit 1)), .g]) .done)))) [] [] rfl
    (Eq.mp (by kernel_rfl) (aI kV1 (aI (sK3 (aI (aT (ad r 1)) (sK2 (aI (fun (hg : (sameB ((e : Int) == 0) true) = true) => t2) (aI (fun (hg : (sameB ((e : Int) == 0) true) = true) => (aI (aI hg tV) tV)) (aI (fun (hg : (sameB ((e : Int) == 0) true) = true) => (aI (aI hg tV) tV)) (aI (fun (hg : (sameB ((e : Int) == 0) true) = true) => (aI (aI hg tV) (ad r 0))) (aI (fun (hg : (sameB ((e : Int) == 0) true) = true) => have f0 : ((e : Int) == 0) = true := (sameB_t hg); (aI (aI hg tV) (@is_len Try.prog 36 5 (.tmp 12) (by kernel_rfl) q.wa q.wn q.wc))) (aI (fun (hg : (sameB ((e : Int) == 0) true) = true) => (aI (aI hg tV) (@is_gtrn Try.prog 3 3 (.tmp 13) (.const (.int .i64 0))  q.wn 0))) (aI (aT (aI (fun (hp : ((e : Int) == 0) = true) => (sameB_mk hp)) (fun (_ : ((e : Int) == 0) = false) => tV))) tV)))))))))) (aT (aI (fun (h1 : (selB ((e : Int) == 0) (decide (0 < q.wn)) false) = true) => have f0 : ((e : Int) == 0) = true := (sband_l h1); have f1 : (0 < q.wn) := (oT (sband_r h1)); aI kV1 (aT (eX (fun (ns : List Nat) => ns.length = 0 ∧ ((int 30) : Value) = (fun _ => int (endE q.wn e)) ns ∧ ([some ⟨r, false, 0, (.lit [(Value.slice q.wa q.wn q.wc), (int e)])⟩] : List (Option Blk)) = (fun _ => [some ⟨r, false, 0, (.lit [(Value.slice q.wa q.wn q.wc), (int e)])⟩]) ns) [] (aI (@rfl Nat 0) (aI ((show (int 30) = int (endE q.wn e) from congrArg int (by have hhh1 := (by simpa [selB_and] using h1 : _); unfold endE; first | rw [if_pos (by omega)] | rw [if_neg (by omega)]))) (@rfl (List (Option Blk)) [some ⟨r, false, 0, (.lit [(Value.slice q.wa q.wn q.wc), (int e)])⟩])))))) (fun (h1 : (selB ((e : Int) == 0) (decide (0 < q.wn)) false) = false) => have f0 : (((e : Int) == 0) = false) ∨ (¬ (0 < q.wn)) := (Or.imp (fun h => h) (fun h => (oF h)) (sband_f h1)); aI (sK3 (aI (aT (ad r 1)) kV1)) (aT (eX (fun (ns : List Nat) => ns.length = 0 ∧ ((int e) : Value) = (fun _ => int (endE q.wn e)) ns ∧ ([some ⟨r, false, 0, (.lit [(Value.slice q.wa q.wn q.wc), (int e)])⟩] : List (Option Blk)) = (fun _ => [some ⟨r, false, 0, (.lit [(Value.slice q.wa q.wn q.wc), (int e)])⟩]) ns) [] (aI (@rfl Nat 0) (aI ((show (int e) = int (endE q.wn e) from congrArg int (by have hhh1 := (by simpa [selB_and] using h1 : _); unfold endE; first | rw [if_pos (by omega)] | rw [if_neg (by omega)]))) (@rfl (List (Option Blk)) [some ⟨r, false, 0, (.lit [(Value.slice q.wa q.wn q.wc), (int e)])⟩])))))))))))
theorem new_pos (q : BytL) (hq : OkB q) (h0 : 0 < q.wn) (hl : q.wn ≤ 140737488355328) : RunsF (famB q) Try.prog 33 [(Value.slice q.wa q.wn q.wc)] [] 3 (fun (ns : List Nat) => (ptr (ns.getD 0 0) 0)) (fun (ns : List Nat) => [some ⟨(ns.getD 0 0), true, 0, (.lit [(Value.slice (some ⟨(ns.getD 1 0), 0, none⟩) q.wn (q.wn + (ns.getD 2 0))), (int 0)])⟩, some ⟨(ns.getD 1 0), true, 0, (spr (q.wn + (ns.getD 2 0)) q.wn (fun k => u8 (q.wf k)) (u8 0))⟩]) :=
  runsF_of_ev (F := (famB q)) mix Try.func33 rfl rfl 400 (.reg (rg [.g]) (.regn (rg [.g, (.callF [] 2 1 (fun ns => Value.slice (some ⟨(ns.getD 0 0), 0, none⟩) (q.wn) (q.wn + (ns.getD 1 0))) (fun ns => [some ⟨(ns.getD 0 0), true, 0, (spr (q.wn + (ns.getD 1 0)) q.wn (fun k => u8 (q.wf k)) (u8 0))⟩])), .g, .new, .g]) (more (fun n1 => more (fun n2 => more (fun n3 => fun _ => .done)))))) [] [1, 0] rfl
    (Eq.mp (by kernel_rfl) (aI kV1 (fun (n1 n2 n3 : Nat) => aI (sk (aI (aT (RunsF.mono (fun x hx => hx) (clone_fam q hq (show 0 < q.wn from by omega) (show q.wn ≤ 140737488355328 from by omega)))) kV3)) (aT (eX (fun (ns : List Nat) => ns.length = 3 ∧ ((ptr n3 0) : Value) = (fun (ns : List Nat) => (ptr (ns.getD 0 0) 0)) ns ∧ ([some ⟨n3, true, 0, (.lit [(Value.slice (some ⟨n1, 0, none⟩) q.wn (q.wn + n2)), (int 0)])⟩, some ⟨n1, true, 0, (spr (q.wn + n2) q.wn (fun k => u8 (q.wf k)) (u8 0))⟩] : List (Option Blk)) = (fun (ns : List Nat) => [some ⟨(ns.getD 0 0), true, 0, (.lit [(Value.slice (some ⟨(ns.getD 1 0), 0, none⟩) q.wn (q.wn + (ns.getD 2 0))), (int 0)])⟩, some ⟨(ns.getD 1 0), true, 0, (spr (q.wn + (ns.getD 2 0)) q.wn (fun k => u8 (q.wf k)) (u8 0))⟩]) ns) [n3, n1, n2] (aI (@rfl Nat 3) (aI (@rfl Value (ptr n3 0)) (@rfl (List (Option Blk)) [some ⟨n3, true, 0, (.lit [(Value.slice (some ⟨n1, 0, none⟩) q.wn (q.wn + n2)), (int 0)])⟩, some ⟨n1, true, 0, (spr (q.wn + n2) q.wn (fun k => u8 (q.wf k)) (u8 0))⟩]))))))))
end Go.Proofs.Ytnailbicmhkmbaa
end
section
namespace Go.Proofs.Ytnailbicmhkmbaa
open Go Go.Eng
def same_fam_S1 (x : BytL) (y : BytL) (x1 : Nat) : St := ⟨[(0, .v (Value.slice x.wa x.wn x.wc)), (1, .v (Value.slice y.wa y.wn y.wc)), (5, .v (nat x1))], [], 0⟩
def same_fam_R1 (x : BytL) (y : BytL) (x1 : Nat) : Prop := (x1 ≤ x.wn) ∧ (∀ k, k < x1 → x.wf k = y.wf k)
def same_fam_mu1 (x : BytL) (y : BytL) (x1 : Nat) : Nat := x.wn - x1
theorem same_fam (x y : BytL) (hx : OkB x) (hy : OkB y) : RunsF (famBB x y) Try.prog 22 [(Value.slice x.wa x.wn x.wc), (Value.slice y.wa y.wn y.wc)] [] 0 (fun _ => Value.bool (sameS x.wf x.wn y.wf y.wn)) (fun _ => []) :=
  runsF_of_ev (F := (famBB x y)) mix Try.func22 rfl rfl 400 (.reg (rg [.g]) (.reg (rg [.g, (.as (nat x.wn)), .g, (.as (nat y.wn)), (.as (Value.bool (!(decide (x.wn = y.wn)))))]) (.br (.reg (rg [.g]) .done) (.reg (rg [.g]) (.inv [0, 1, 5] [] 0 (same_fam_R1 x y) (same_fam_S1 x y) (same_fam_mu1 x y) (0 : Nat) (fun (x1 : Nat) => (.reg (rg [.g, .g, (.as (nat x.wn)), (.as (Value.bool (decide (x1 < x.wn))))]) (.br (.openr (bytB x) (.openr (bytB y) (.reg (rg [.g, .g, (.as (ptr x.wb (x.wo + x1 * 1))), (.ld 0 (.tab x1 0)), .g, .g, (.as (ptr y.wb (y.wo + x1 * 1))), (.ld 1 (.tab x1 0)), (.as (Value.bool (!((x.wf x1) == (y.wf x1)))))]) (.br (.reg (rg [.g]) .done) (.reg (rg [.g, (.as (nat (x1 + 1))), .g]) .done))))) (.reg (rg [.g]) .done))))))))) [] [] rfl
    (have f0 := hx.len; have f1 := hy.len; Eq.mp (by kernel_rfl) (aI kV1 (aI (sk (aI (aT (@is_len Try.prog 36 5 (.tmp 6) (by kernel_rfl) x.wa x.wn x.wc)) (sk (aI (aT (@is_len Try.prog 36 5 (.tmp 8) (by kernel_rfl) y.wa y.wn y.wc)) (aI (aT (@is_neqn Try.prog 3 3 (.tmp 7) (.tmp 9)  x.wn y.wn)) tV))))) (aT (aI (fun (h1 : (!(decide (x.wn = y.wn))) = true) => have f2 : ¬ (x.wn = y.wn) := (oF (bnot_t h1)); aI kV1 (aT (eX (fun (ns : List Nat) => ns.length = 0 ∧ ((Value.bool false) : Value) = (fun _ => Value.bool (sameS x.wf x.wn y.wf y.wn)) ns ∧ ([] : List (Option Blk)) = (fun _ => []) ns) [] (aI (@rfl Nat 0) (aI ((show (Value.bool false) = Value.bool (sameS x.wf x.wn y.wf y.wn) from congrArg Value.bool (by first | exact same_len (by omega) | exact same_not (by omega) (same_ne (by assumption))))) (@rfl (List (Option Blk)) [])))))) (fun (h1 : (!(decide (x.wn = y.wn))) = false) => have f2 : (x.wn = y.wn) := (oT (bnot_f h1)); aI kV1 (aI (show (same_fam_R1 x y) (0 : Nat) from (show (0 ≤ x.wn) ∧ (∀ k, k < 0 → x.wf k = y.wf k) from by exact ⟨by omega, fun k hk => absurd hk (by omega)⟩)) (aI (@rfl St ((same_fam_S1 x y) (0 : Nat))) (fun (x1 : Nat) (hx1 : (same_fam_R1 x y) x1) => have B0 : x1 ≤ x.wn := hx1.1; have B1 : ∀ k, k < x1 → x.wf k = y.wf k := hx1.2; aI (sK2 (aI (aT (@is_len Try.prog 36 5 (.tmp 12) (by kernel_rfl) x.wa x.wn x.wc)) (aI (aT (@is_lssn Try.prog 3 3 (.tmp 11) (.tmp 13)  x1 x.wn)) tV))) (aT (aI (fun (h2 : (decide (x1 < x.wn)) = true) => have f5 := (oT h2); aI (Or.inl ⟨(show 0 < x.wn from by omega), rfl⟩ : famBB x y (bytB x)) (aI (Or.inr ⟨(show 0 < y.wn from by omega), rfl⟩ : famBB x y (bytB y)) (aI (sK2 (aI (aT (@is_ixSq Try.prog 36 5 (.tmp 17) (.tmp 18) 1 (by kernel_rfl) (by kernel_rfl) x.wb x.wo x.wn x.wc x1 x.wa (hx.ad (show 0 < x.wn from by omega)) (show x1 < x.wn from by omega))) (aI (aT (aI (show x1 < x.wn from by omega) (@rfl Value (ptr x.wb (x.wo + x1 * 1))))) (sK2 (aI (aT (@is_ixSq Try.prog 36 5 (.tmp 21) (.tmp 22) 1 (by kernel_rfl) (by kernel_rfl) y.wb y.wo y.wn y.wc x1 y.wa (hy.ad (show 0 < y.wn from by omega)) (show x1 < y.wn from by omega))) (aI (aT (aI (show x1 < y.wn from by omega) (@rfl Value (ptr y.wb (y.wo + x1 * 1))))) (aI (aT (@is_neq8 Try.prog 5 5 (.tmp 20) (.tmp 24) (x.wf x1) (y.wf x1))) tV))))))) (aT (aI (fun (h3 : (!((x.wf x1) == (y.wf x1))) = true) => have f6 : ((x.wf x1) == (y.wf x1)) = false := (bnot_t h3); aI kV1 (aT (eX (fun (ns : List Nat) => ns.length = 0 ∧ ((Value.bool false) : Value) = (fun _ => Value.bool (sameS x.wf x.wn y.wf y.wn)) ns ∧ ([] : List (Option Blk)) = (fun _ => []) ns) [] (aI (@rfl Nat 0) (aI ((show (Value.bool false) = Value.bool (sameS x.wf x.wn y.wf y.wn) from congrArg Value.bool (by first | exact same_len (by omega) | exact same_not (by omega) (same_ne (by assumption))))) (@rfl (List (Option Blk)) [])))))) (fun (h3 : (!((x.wf x1) == (y.wf x1))) = false) => have f6 : ((x.wf x1) == (y.wf x1)) = true := (bnot_f h3); aI (sk (aI (aT (@is_addn Try.prog 3 3 (.tmp 15) (.const (.int .i64 1))  x1 1 (show x1 + 1 ≤ 9223372036854775807 from by omega))) kV1)) ((rnd (same_fam_R1 x y) (same_fam_S1 x y) (same_fam_mu1 x y) x1 (x1 + 1 : Nat) (show (same_fam_R1 x y) (x1 + 1 : Nat) ∧ (same_fam_mu1 x y) (x1 + 1 : Nat) < (same_fam_mu1 x y) x1 from (show (((x1 + 1) ≤ x.wn) ∧ (∀ k, k < (x1 + 1) → x.wf k = y.wf k)) ∧ (x.wn - (x1 + 1)) < (x.wn - x1) from by exact ⟨⟨by omega, same_next B1 (by assumption)⟩, by omega⟩)))))))))) (fun (h2 : (decide (x1 < x.wn)) = false) => have f5 := (oF h2); aI kV1 (aT (eX (fun (ns : List Nat) => ns.length = 0 ∧ ((Value.bool true) : Value) = (fun _ => Value.bool (sameS x.wf x.wn y.wf y.wn)) ns ∧ ([] : List (Option Blk)) = (fun _ => []) ns) [] (aI (@rfl Nat 0) (aI ((show (Value.bool true) = Value.bool (sameS x.wf x.wn y.wf y.wn) from congrArg Value.bool (by exact same_yes (by omega) (by omega) B1))) (@rfl (List (Option Blk)) [])))))))))))))))))
end Go.Proofs.Ytnailbicmhkmbaa
end
section
namespace Go.Eng
def u64i (m : Int) : UInt64 := UInt64.ofNat (m % 18446744073709551616).toNat
theorem conv_i64_u64 {P : Program} {s d : TypeId} {x : Operand} (hs : P.underlying s = some (.int .i64)) (hd : P.underlying d = some (.int .u64)) (m : Int) : IsOp P (.convert s d x) [int m] (u64 (u64i m)) := by
  have h := conv_int (x := x) hs hd m
  have e : (IntKind.u64.wrap m) = ((u64i m).toNat : Int) := by
    unfold u64i
    rw [UInt64.toNat_ofNat']
    have h0 : IntKind.u64.wrap m = m % 18446744073709551616 := by simp [IntKind.wrap, IntKind.signed, IntKind.bits]
    rw [h0]
    omega
  rw [e] at h; exact h
theorem u64i_nat {m : Int} (h : 0 ≤ m) (h2 : m ≤ 9223372036854775807) : (u64i m).toNat = m.toNat := by
  unfold u64i; rw [UInt64.toNat_ofNat']; omega
theorem rsE_ne {q : BytL} {e : Int} {l : UInt64} (h : e ≠ 0) : rsE q e l = e := if_neg h
theorem rsV_le (q : BytL) (e : Int) (l : UInt64) : (rsV q e l).toNat ≤ l.toNat := by
  unfold rsV
  split
  · rename_i h
    obtain ⟨_, _, _, _, h5, _⟩ := wrE_zero (failE_zero h).2
    rw [UInt64.lt_iff_toNat_lt] at h5
    omega
  · exact Nat.zero_le _
def ctE1 (e m : Int) : Int := if m < 0 then failE e 2 else e
def ctV (q : BytL) (e m : Int) : Nat := (rsV q (ctE1 e m) (u64i m)).toNat
def ctQ (q : BytL) (e m : Int) : BytL := rsQ q (ctE1 e m) (u64i m)
def ctE (q : BytL) (e m : Int) (z : Nat) : Int := if (ctQ q e m).wn / z < ctV q e m then failE (rsE q (ctE1 e m) (u64i m)) 3 else rsE q (ctE1 e m) (u64i m)
def ctN (q : BytL) (e m : Int) (z : Nat) : Nat := if (ctQ q e m).wn / z < ctV q e m then 0 else ctV q e m
theorem ctE1_ne {e m : Int} (h : m < 0) : ctE1 e m ≠ 0 := by
  unfold ctE1 failE; rw [if_pos h]; split <;> omega
theorem ctV_le {q : BytL} {e m : Int} (h2 : m ≤ 9223372036854775807) : ctV q e m ≤ 9223372036854775807 := by
  unfold ctV
  by_cases h : m < 0
  · have h1 : rsV q (ctE1 e m) (u64i m) = 0 := if_neg (by rw [rsE_ne (ctE1_ne h)]; exact ctE1_ne h)
    rw [h1]; exact Nat.zero_le _
  · have h3 := rsV_le q (ctE1 e m) (u64i m)
    rw [u64i_nat (by omega) h2] at h3
    omega
theorem rsQ_wn (q : BytL) (e : Int) (l : UInt64) : (rsQ q e l).wn ≤ q.wn := by
  unfold rsQ
  split
  · exact Nat.sub_le _ _
  · exact Nat.le_refl _
theorem ctQ_wn (q : BytL) (e m : Int) : (ctQ q e m).wn ≤ q.wn := rsQ_wn _ _ _
def tkE (q : BytL) (e : Int) (n : Nat) : Int := if q.wn < n then failE e 3 else e
def tkQ (q : BytL) (e : Int) (n : Nat) : BytL := if tkE q e n = 0 then bytF q n else q
theorem tkE_zero {q : BytL} {e : Int} {n : Nat} (h : tkE q e n = 0) : e = 0 ∧ n ≤ q.wn := by
  unfold tkE at h
  by_cases h1 : q.wn < n
  · rw [if_pos h1] at h; exact absurd (failE_zero h).2 (by decide)
  · rw [if_neg h1] at h; exact ⟨h, by omega⟩
theorem tk_in {q : BytL} {e : Int} {n : Nat} (h : tkE q e n = 0) : tkQ q e n = bytF q n := if_pos h
theorem tk_out {q : BytL} {e : Int} {n : Nat} (h : tkE q e n ≠ 0) : tkQ q e n = q := if_neg h
theorem okb_tk {q : BytL} (hq : OkB q) (e : Int) (n : Nat) : OkB (tkQ q e n) := by
  unfold tkQ
  split
  · rename_i h; exact okb_from hq (tkE_zero h).2
  · exact hq
theorem holdb_tk {q : BytL} {e : Int} {n : Nat} {w : World} (h : FamH (famB q) w) : FamH (famB (tkQ q e n)) w := by
  unfold tkQ
  split
  · rename_i h0; exact holdb_from (tkE_zero h0).2 h
  · exact h
theorem tk_wb {q : BytL} {e : Int} {n : Nat} : (tkQ q e n).wb = q.wb := by unfold tkQ; split <;> rfl
theorem tkQ_wn (q : BytL) (e : Int) (n : Nat) : (tkQ q e n).wn ≤ q.wn := by
  unfold tkQ
  split
  · exact Nat.sub_le _ _
  · exact Nat.le_refl _
def zA (b : Bool) (n : Nat) : Option Addr := match b with
  | true => none
  | false => some ⟨n, 0, none⟩
def zV (b : Bool) (n : Nat) : Value := .slice (zA b n) 0 0
def rbN (q : BytL) (e m : Int) : Nat := if tkE (ctQ q e m) (ctE q e m 1) (ctN q e m 1) = 0 then ctN q e m 1 else 0
def rbE (q : BytL) (e m : Int) : Int := tkE (ctQ q e m) (ctE q e m 1) (ctN q e m 1)
def rbQ (q : BytL) (e m : Int) : BytL := tkQ (ctQ q e m) (ctE q e m 1) (ctN q e m 1)
end Go.Eng
namespace Go.Eng
theorem ct_in {q : BytL} {e m : Int} {z : Nat} (h : (rsQ q (ctE1 e m) (u64i m)).wn / z < (rsV q (ctE1 e m) (u64i m)).toNat) : ctE q e m z = failE (rsE q (ctE1 e m) (u64i m)) 3 ∧ ctN q e m z = 0 := ⟨if_pos h, if_pos h⟩
theorem ct_out {q : BytL} {e m : Int} {z : Nat} (h : ¬ (rsQ q (ctE1 e m) (u64i m)).wn / z < (rsV q (ctE1 e m) (u64i m)).toNat) : ctE q e m z = rsE q (ctE1 e m) (u64i m) ∧ ctN q e m z = (rsV q (ctE1 e m) (u64i m)).toNat := ⟨if_neg h, if_neg h⟩
theorem okb_ct {q : BytL} (hq : OkB q) (e m : Int) : OkB (ctQ q e m) := okb_rs hq _ _
theorem holdb_ct {q : BytL} {e m : Int} {w : World} (h : FamH (famB q) w) : FamH (famB (ctQ q e m)) w := holdb_rs h
theorem ct_wb {q : BytL} {e m : Int} : (ctQ q e m).wb = q.wb := rs_wb
theorem rb_wn (q : BytL) (e m : Int) : (rbQ q e m).wn ≤ q.wn := Nat.le_trans (tkQ_wn _ _ _) (ctQ_wn _ _ _)
theorem okb_rb {q : BytL} (hq : OkB q) (e m : Int) : OkB (rbQ q e m) := okb_tk (okb_ct hq e m) _ _
theorem holdb_rb {q : BytL} {e m : Int} {w : World} (h : FamH (famB q) w) : FamH (famB (rbQ q e m)) w := holdb_tk (holdb_ct h)
theorem rb_wb {q : BytL} {e m : Int} : (rbQ q e m).wb = q.wb := tk_wb.trans ct_wb
end Go.Eng
namespace Go.Eng
def rbZ (q : BytL) (e m : Int) : Bool := if rbE q e m = 0 then (ctQ q e m).wa.isNone else true
theorem rb_bad {q : BytL} {e m : Int} (h : tkE (ctQ q e m) (ctE q e m 1) (ctN q e m 1) ≠ 0) : rbN q e m = 0 ∧ rbZ q e m = true := ⟨if_neg h, if_neg h⟩
theorem rb_good {q : BytL} {e m : Int} (h : tkE (ctQ q e m) (ctE q e m 1) (ctN q e m 1) = 0) : rbN q e m = ctN q e m 1 ∧ rbZ q e m = (ctQ q e m).wa.isNone := ⟨if_pos h, if_pos h⟩
end Go.Eng
namespace Go.Eng
theorem slqV_from {q : BytL} {A : Option Addr} {k : Nat} (hA : q.wa = A) : slqV (bytF q k) = .slice (fromA A q.wc k 1) (q.wn - k) (q.wc - k) := by subst hA; rfl
end Go.Eng
namespace Go.Eng
end Go.Eng
end
section
namespace Go.Proofs.Ytnailbicmhkmbaa
open Go Go.Eng
theorem count_1 (r : Nat) (q : BytL) (e m : Int) (hq : OkB q) (hl : q.wn ≤ 100000) (hm : m ≤ 9223372036854775807) : RunsF (famB q) Try.prog 47 [(ptr r 0), (int m), (int 1)] [⟨r, true, 0, (.lit [(Value.slice q.wa q.wn q.wc), (int e)])⟩] 0 (fun _ => nat (ctN q e m 1)) (fun _ => [some ⟨r, true, 0, (.lit [(slqV (ctQ q e m)), (int (ctE q e m 1))])⟩]) :=
  runsF_of_ev (F := (famB q)) mix Try.func47 rfl rfl 400 (.reg (rg [.g]) (.reg (rg [.g, .g]) (.br (.reg (rg [.g, (.call [(0, false)] 0 0 (fun _ => (Value.tuple #[])) (fun _ => [some ⟨r, true, 0, (.lit [(Value.slice q.wa q.wn q.wc), (int (failE e 2))])⟩]))]) (.keep [0, 1, 2, 6, 8, 9, 10, 11] [0] 1 (.told ⟨[(0, .v (ptr r 0)), (1, .v (int m)), (2, .v (int 1)), (6, .v (int 0)), (8, .v (int m)), (9, .v (Value.bool (decide ((m : Int) < 0)))), (10, .v (ptr r 0)), (11, .v (Value.tuple #[]))], [(0, some ⟨r, true, 0, (.lit [(Value.slice q.wa q.wn q.wc), (int (ctE1 e m))])⟩)], 1⟩ (.reg (rg [.g, .g, (.as (u64 (u64i m))), (.callF [(0, false)] 0 0 (fun _ => (u64 (rsV q (ctE1 e m) (u64i m)))) (fun _ => [some ⟨r, true, 0, (.lit [(slqV (rsQ q (ctE1 e m) (u64i m))), (int (rsE q (ctE1 e m) (u64i m)))])⟩])), (.as (nat ((rsV q (ctE1 e m) (u64i m)).toNat))), .g]) (.reg (rg [.g, .g, .g, .g, (.ld 0 (.lit 0)), (.as (nat ((rsQ q (ctE1 e m) (u64i m)).wn))), .g, (.as (nat (((rsQ q (ctE1 e m) (u64i m)).wn) / 1))), (.as (Value.bool (decide ((((rsQ q (ctE1 e m) (u64i m)).wn) / 1) < ((rsV q (ctE1 e m) (u64i m)).toNat)))))]) (.br (.reg (rg [.g, (.call [(0, false)] 0 0 (fun _ => (Value.tuple #[])) (fun _ => [some ⟨r, true, 0, (.lit [(Value.slice ((rsQ q (ctE1 e m) (u64i m)).wa) ((rsQ q (ctE1 e m) (u64i m)).wn) ((rsQ q (ctE1 e m) (u64i m)).wc)), (int (failE (rsE q (ctE1 e m) (u64i m)) 3))])⟩]))]) (.reg (rg [.g]) .done)) (.reg (rg [.g, .g]) .done))))))) (.keep [0, 1, 2, 6, 8, 9] [0] 1 (.told ⟨[(0, .v (ptr r 0)), (1, .v (int m)), (2, .v (int 1)), (6, .v (int 0)), (8, .v (int m)), (9, .v (Value.bool (decide ((m : Int) < 0))))], [(0, some ⟨r, true, 0, (.lit [(Value.slice q.wa q.wn q.wc), (int (ctE1 e m))])⟩)], 1⟩ (.reg (rg [.g, .g, (.as (u64 (u64i m))), (.callF [(0, false)] 0 0 (fun _ => (u64 (rsV q (ctE1 e m) (u64i m)))) (fun _ => [some ⟨r, true, 0, (.lit [(slqV (rsQ q (ctE1 e m) (u64i m))), (int (rsE q (ctE1 e m) (u64i m)))])⟩])), (.as (nat ((rsV q (ctE1 e m) (u64i m)).toNat))), .g]) (.reg (rg [.g, .g, .g, .g, (.ld 0 (.lit 0)), (.as (nat ((rsQ q (ctE1 e m) (u64i m)).wn))), .g, (.as (nat (((rsQ q (ctE1 e m) (u64i m)).wn) / 1))), (.as (Value.bool (decide ((((rsQ q (ctE1 e m) (u64i m)).wn) / 1) < ((rsV q (ctE1 e m) (u64i m)).toNat)))))]) (.br (.reg (rg [.g, (.call [(0, false)] 0 0 (fun _ => (Value.tuple #[])) (fun _ => [some ⟨r, true, 0, (.lit [(Value.slice ((rsQ q (ctE1 e m) (u64i m)).wa) ((rsQ q (ctE1 e m) (u64i m)).wn) ((rsQ q (ctE1 e m) (u64i m)).wc)), (int (failE (rsE q (ctE1 e m) (u64i m)) 3))])⟩]))]) (.reg (rg [.g]) .done)) (.reg (rg [.g, .g]) .done))))))))) [] [] rfl
    (have f1 := hq.cap; have f2 : (rsV q (ctE1 e m) (u64i m)).toNat ≤ 9223372036854775807 := (ctV_le hm); Eq.mp (by kernel_rfl) (aI kV1 (aI kV2 (aT (aI (fun (h1 : (decide ((m : Int) < 0)) = true) => have f3 := (oT h1); aI (sk (aI (aT (Runs.dark [false] (fail_runs r (Value.slice q.wa q.wn q.wc) e 2))) tV)) (aI (show (⟨[(0, .v (ptr r 0)), (1, .v (int m)), (2, .v (int 1)), (6, .v (int 0)), (8, .v (int m)), (9, .v (Value.bool (decide ((m : Int) < 0)))), (10, .v (ptr r 0)), (11, .v (Value.tuple #[]))], [(0, some ⟨r, true, 0, (.lit [(Value.slice q.wa q.wn q.wc), (int (failE e 2))])⟩)], 1⟩ : St) = ⟨[(0, .v (ptr r 0)), (1, .v (int m)), (2, .v (int 1)), (6, .v (int 0)), (8, .v (int m)), (9, .v (Value.bool (decide ((m : Int) < 0)))), (10, .v (ptr r 0)), (11, .v (Value.tuple #[]))], [(0, some ⟨r, true, 0, (.lit [(Value.slice q.wa q.wn q.wc), (int (ctE1 e m))])⟩)], 1⟩ from by have ee : failE e 2 = ctE1 e m := (by unfold ctE1; first | rw [if_pos (by omega)] | rw [if_neg (by omega)]); rw [ee]) (aI (sK2 (aI (aT (@conv_i64_u64 Try.prog 3 47 (.tmp 13) (by kernel_rfl) (by kernel_rfl) m)) (aI (aT (RunsF.lendP (F' := (famB q)) (fun w hF => hF) (fun x hx => famB_part (show 0 < q.wn → 0 < q.wn from by omega) hx rfl) (rsmall_fam r q (ctE1 e m) (u64i m) hq (show q.wn ≤ 100000 from by omega)))) (aI (aT (@conv_u64_int Try.prog 47 3 (.tmp 15) (by kernel_rfl) (by kernel_rfl) (rsV q (ctE1 e m) (u64i m)) (show (rsV q (ctE1 e m) (u64i m)).toNat ≤ 9223372036854775807 from by omega))) kV1)))) (aI (sK4 (aI (aT (ad r 0)) (aI (aT (@is_len Try.prog 36 5 (.tmp 21) (by kernel_rfl) ((rsQ q (ctE1 e m) (u64i m)).wa) ((rsQ q (ctE1 e m) (u64i m)).wn) ((rsQ q (ctE1 e m) (u64i m)).wc))) (sk (aI (aT (@is_quon Try.prog 3 3 (.tmp 22) (.tmp 23)  ((rsQ q (ctE1 e m) (u64i m)).wn) 1 (show 0 < 1 ∧ ((rsQ q (ctE1 e m) (u64i m)).wn) ≤ 9223372036854775807 from by have := rsQ_wn  q (ctE1 e m) (u64i m); omega))) (aI (aT (@is_gtrn Try.prog 3 3 (.tmp 17) (.tmp 24)  ((rsV q (ctE1 e m) (u64i m)).toNat) (((rsQ q (ctE1 e m) (u64i m)).wn) / 1))) tV)))))) (aT (aI (fun (h2 : (decide ((((rsQ q (ctE1 e m) (u64i m)).wn) / 1) < ((rsV q (ctE1 e m) (u64i m)).toNat))) = true) => have f4 := (oT h2); aI (sk (aI (aT (Runs.dark [false] (fail_runs r (Value.slice ((rsQ q (ctE1 e m) (u64i m)).wa) ((rsQ q (ctE1 e m) (u64i m)).wn) ((rsQ q (ctE1 e m) (u64i m)).wc)) (rsE q (ctE1 e m) (u64i m)) 3))) tV)) (aI kV1 (aT (eX (fun (ns : List Nat) => ns.length = 0 ∧ ((int 0) : Value) = (fun _ => nat (ctN q e m 1)) ns ∧ ([some ⟨r, true, 0, (.lit [(Value.slice ((rsQ q (ctE1 e m) (u64i m)).wa) ((rsQ q (ctE1 e m) (u64i m)).wn) ((rsQ q (ctE1 e m) (u64i m)).wc)), (int (failE (rsE q (ctE1 e m) (u64i m)) 3))])⟩] : List (Option Blk)) = (fun _ => [some ⟨r, true, 0, (.lit [(slqV (ctQ q e m)), (int (ctE q e m 1))])⟩]) ns) [] (aI (@rfl Nat 0) (aI ((show (int 0) = nat (ctN q e m 1) from by first | rw [(ct_in (by assumption)).2] <;> rfl | rw [(ct_out (by assumption)).2] <;> rfl)) ((show ([some ⟨r, true, 0, (.lit [(Value.slice ((rsQ q (ctE1 e m) (u64i m)).wa) ((rsQ q (ctE1 e m) (u64i m)).wn) ((rsQ q (ctE1 e m) (u64i m)).wc)), (int (failE (rsE q (ctE1 e m) (u64i m)) 3))])⟩] : List (Option Blk)) = [some ⟨r, true, 0, (.lit [(slqV (ctQ q e m)), (int (ctE q e m 1))])⟩] from by first | (rw [(ct_in (z := 1) (by assumption)).1] <;> rfl) | (rw [(ct_out (z := 1) (by assumption)).1] <;> rfl))))))))) (fun (h2 : (decide ((((rsQ q (ctE1 e m) (u64i m)).wn) / 1) < ((rsV q (ctE1 e m) (u64i m)).toNat))) = false) => have f4 := (oF h2); aI kV2 (aT (eX (fun (ns : List Nat) => ns.length = 0 ∧ ((nat ((rsV q (ctE1 e m) (u64i m)).toNat)) : Value) = (fun _ => nat (ctN q e m 1)) ns ∧ ([some ⟨r, true, 0, (.lit [(Value.slice ((rsQ q (ctE1 e m) (u64i m)).wa) ((rsQ q (ctE1 e m) (u64i m)).wn) ((rsQ q (ctE1 e m) (u64i m)).wc)), (int (rsE q (ctE1 e m) (u64i m)))])⟩] : List (Option Blk)) = (fun _ => [some ⟨r, true, 0, (.lit [(slqV (ctQ q e m)), (int (ctE q e m 1))])⟩]) ns) [] (aI (@rfl Nat 0) (aI ((show (nat ((rsV q (ctE1 e m) (u64i m)).toNat)) = nat (ctN q e m 1) from by first | rw [(ct_in (by assumption)).2] <;> rfl | rw [(ct_out (by assumption)).2] <;> rfl)) ((show ([some ⟨r, true, 0, (.lit [(Value.slice ((rsQ q (ctE1 e m) (u64i m)).wa) ((rsQ q (ctE1 e m) (u64i m)).wn) ((rsQ q (ctE1 e m) (u64i m)).wc)), (int (rsE q (ctE1 e m) (u64i m)))])⟩] : List (Option Blk)) = [some ⟨r, true, 0, (.lit [(slqV (ctQ q e m)), (int (ctE q e m 1))])⟩] from by first | (rw [(ct_in (z := 1) (by assumption)).1] <;> rfl) | (rw [(ct_out (z := 1) (by assumption)).1] <;> rfl)))))))))))))) (fun (h1 : (decide ((m : Int) < 0)) = false) => have f3 := (oF h1); aI (show (⟨[(0, .v (ptr r 0)), (1, .v (int m)), (2, .v (int 1)), (6, .v (int 0)), (8, .v (int m)), (9, .v (Value.bool (decide ((m : Int) < 0))))], [(0, some ⟨r, true, 0, (.lit [(Value.slice q.wa q.wn q.wc), (int e)])⟩)], 1⟩ : St) = ⟨[(0, .v (ptr r 0)), (1, .v (int m)), (2, .v (int 1)), (6, .v (int 0)), (8, .v (int m)), (9, .v (Value.bool (decide ((m : Int) < 0))))], [(0, some ⟨r, true, 0, (.lit [(Value.slice q.wa q.wn q.wc), (int (ctE1 e m))])⟩)], 1⟩ from congrArg (fun zz => (⟨[(0, .v (ptr r 0)), (1, .v (int m)), (2, .v (int 1)), (6, .v (int 0)), (8, .v (int m)), (9, .v (Value.bool (decide ((m : Int) < 0))))], [(0, some ⟨r, true, 0, (.lit [(Value.slice q.wa q.wn q.wc), (int zz)])⟩)], 1⟩ : St)) (show e = ctE1 e m from by unfold ctE1; first | rw [if_pos (by omega)] | rw [if_neg (by omega)])) (aI (sK2 (aI (aT (@conv_i64_u64 Try.prog 3 47 (.tmp 13) (by kernel_rfl) (by kernel_rfl) m)) (aI (aT (RunsF.lendP (F' := (famB q)) (fun w hF => hF) (fun x hx => famB_part (show 0 < q.wn → 0 < q.wn from by omega) hx rfl) (rsmall_fam r q (ctE1 e m) (u64i m) hq (show q.wn ≤ 100000 from by omega)))) (aI (aT (@conv_u64_int Try.prog 47 3 (.tmp 15) (by kernel_rfl) (by kernel_rfl) (rsV q (ctE1 e m) (u64i m)) (show (rsV q (ctE1 e m) (u64i m)).toNat ≤ 9223372036854775807 from by omega))) kV1)))) (aI (sK4 (aI (aT (ad r 0)) (aI (aT (@is_len Try.prog 36 5 (.tmp 21) (by kernel_rfl) ((rsQ q (ctE1 e m) (u64i m)).wa) ((rsQ q (ctE1 e m) (u64i m)).wn) ((rsQ q (ctE1 e m) (u64i m)).wc))) (sk (aI (aT (@is_quon Try.prog 3 3 (.tmp 22) (.tmp 23)  ((rsQ q (ctE1 e m) (u64i m)).wn) 1 (show 0 < 1 ∧ ((rsQ q (ctE1 e m) (u64i m)).wn) ≤ 9223372036854775807 from by have := rsQ_wn  q (ctE1 e m) (u64i m); omega))) (aI (aT (@is_gtrn Try.prog 3 3 (.tmp 17) (.tmp 24)  ((rsV q (ctE1 e m) (u64i m)).toNat) (((rsQ q (ctE1 e m) (u64i m)).wn) / 1))) tV)))))) (aT (aI (fun (h3 : (decide ((((rsQ q (ctE1 e m) (u64i m)).wn) / 1) < ((rsV q (ctE1 e m) (u64i m)).toNat))) = true) => have f4 := (oT h3); aI (sk (aI (aT (Runs.dark [false] (fail_runs r (Value.slice ((rsQ q (ctE1 e m) (u64i m)).wa) ((rsQ q (ctE1 e m) (u64i m)).wn) ((rsQ q (ctE1 e m) (u64i m)).wc)) (rsE q (ctE1 e m) (u64i m)) 3))) tV)) (aI kV1 (aT (eX (fun (ns : List Nat) => ns.length = 0 ∧ ((int 0) : Value) = (fun _ => nat (ctN q e m 1)) ns ∧ ([some ⟨r, true, 0, (.lit [(Value.slice ((rsQ q (ctE1 e m) (u64i m)).wa) ((rsQ q (ctE1 e m) (u64i m)).wn) ((rsQ q (ctE1 e m) (u64i m)).wc)), (int (failE (rsE q (ctE1 e m) (u64i m)) 3))])⟩] : List (Option Blk)) = (fun _ => [some ⟨r, true, 0, (.lit [(slqV (ctQ q e m)), (int (ctE q e m 1))])⟩]) ns) [] (aI (@rfl Nat 0) (aI ((show (int 0) = nat (ctN q e m 1) from by first | rw [(ct_in (by assumption)).2] <;> rfl | rw [(ct_out (by assumption)).2] <;> rfl)) ((show ([some ⟨r, true, 0, (.lit [(Value.slice ((rsQ q (ctE1 e m) (u64i m)).wa) ((rsQ q (ctE1 e m) (u64i m)).wn) ((rsQ q (ctE1 e m) (u64i m)).wc)), (int (failE (rsE q (ctE1 e m) (u64i m)) 3))])⟩] : List (Option Blk)) = [some ⟨r, true, 0, (.lit [(slqV (ctQ q e m)), (int (ctE q e m 1))])⟩] from by first | (rw [(ct_in (z := 1) (by assumption)).1] <;> rfl) | (rw [(ct_out (z := 1) (by assumption)).1] <;> rfl))))))))) (fun (h3 : (decide ((((rsQ q (ctE1 e m) (u64i m)).wn) / 1) < ((rsV q (ctE1 e m) (u64i m)).toNat))) = false) => have f4 := (oF h3); aI kV2 (aT (eX (fun (ns : List Nat) => ns.length = 0 ∧ ((nat ((rsV q (ctE1 e m) (u64i m)).toNat)) : Value) = (fun _ => nat (ctN q e m 1)) ns ∧ ([some ⟨r, true, 0, (.lit [(Value.slice ((rsQ q (ctE1 e m) (u64i m)).wa) ((rsQ q (ctE1 e m) (u64i m)).wn) ((rsQ q (ctE1 e m) (u64i m)).wc)), (int (rsE q (ctE1 e m) (u64i m)))])⟩] : List (Option Blk)) = (fun _ => [some ⟨r, true, 0, (.lit [(slqV (ctQ q e m)), (int (ctE q e m 1))])⟩]) ns) [] (aI (@rfl Nat 0) (aI ((show (nat ((rsV q (ctE1 e m) (u64i m)).toNat)) = nat (ctN q e m 1) from by first | rw [(ct_in (by assumption)).2] <;> rfl | rw [(ct_out (by assumption)).2] <;> rfl)) ((show ([some ⟨r, true, 0, (.lit [(Value.slice ((rsQ q (ctE1 e m) (u64i m)).wa) ((rsQ q (ctE1 e m) (u64i m)).wn) ((rsQ q (ctE1 e m) (u64i m)).wc)), (int (rsE q (ctE1 e m) (u64i m)))])⟩] : List (Option Blk)) = [some ⟨r, true, 0, (.lit [(slqV (ctQ q e m)), (int (ctE q e m 1))])⟩] from by first | (rw [(ct_in (z := 1) (by assumption)).1] <;> rfl) | (rw [(ct_out (z := 1) (by assumption)).1] <;> rfl))))))))))))))))))
theorem take_bad (r : Nat) (q : BytL) (e : Int) (n : Nat) (hq : OkB q) (hl : q.wn ≤ 100000) (h : tkE q e n ≠ 0) : RunsF (famB q) Try.prog 46 [(ptr r 0), (nat n)] [⟨r, true, 0, (.lit [(Value.slice q.wa q.wn q.wc), (int e)])⟩] 0 (fun _ => (Value.slice none 0 0)) (fun _ => [some ⟨r, true, 0, (.lit [(slqV (tkQ q e n)), (int (tkE q e n))])⟩]) :=
  runsF_of_ev (F := (famB q)) mix Try.func46 rfl rfl 400 (.reg (rg [.g]) (.reg (rg [.g, .g, .g, (.ld 0 (.lit 0)), (.as (nat q.wn)), .g, (.as (Value.bool (decide (q.wn < n))))]) (.br (.reg (rg [.g, (.call [(0, false)] 0 0 (fun _ => (Value.tuple #[])) (fun _ => [some ⟨r, true, 0, (.lit [(Value.slice q.wa q.wn q.wc), (int (failE e 3))])⟩]))]) (.keep [0, 1, 4, 6, 7, 8, 9, 10, 11, 12, 13, 14] [0] 1 (.told ⟨[(0, .v (ptr r 0)), (1, .v (nat n)), (4, .v (Value.slice none 0 0)), (6, .v (ptr r 0)), (7, .v (ptr r 0)), (8, .v (ptr r 0)), (9, .v (Value.slice q.wa q.wn q.wc)), (10, .v (nat q.wn)), (11, .v (nat n)), (12, .v (Value.bool (decide (q.wn < n)))), (13, .v (ptr r 0)), (14, .v (Value.tuple #[]))], [(0, some ⟨r, true, 0, (.lit [(Value.slice q.wa q.wn q.wc), (int (tkE q e n))])⟩)], 1⟩ (.reg (rg [.g, .g, .g, (.ld 0 (.lit 1)), .g]) (.yes (.reg (rg [.g]) .done)))))) (.keep [0, 1, 4, 6, 7, 8, 9, 10, 11, 12] [0] 1 (.told ⟨[(0, .v (ptr r 0)), (1, .v (nat n)), (4, .v (Value.slice none 0 0)), (6, .v (ptr r 0)), (7, .v (ptr r 0)), (8, .v (ptr r 0)), (9, .v (Value.slice q.wa q.wn q.wc)), (10, .v (nat q.wn)), (11, .v (nat n)), (12, .v (Value.bool (decide (q.wn < n))))], [(0, some ⟨r, true, 0, (.lit [(Value.slice q.wa q.wn q.wc), (int (tkE q e n))])⟩)], 1⟩ (.reg (rg [.g, .g, .g, (.ld 0 (.lit 1)), .g]) (.yes (.reg (rg [.g]) .done)))))))) [] [] rfl
    (have f1 := hq.cap; Eq.mp (by kernel_rfl) (aI kV1 (aI (sK3 (aI (aT (ad r 0)) (aI (aT (@is_len Try.prog 36 5 (.tmp 9) (by kernel_rfl) q.wa q.wn q.wc)) (sk (aI (aT (@is_lssn Try.prog 3 3 (.tmp 10) (.tmp 11)  q.wn n)) tV))))) (aT (aI (fun (h1 : (decide (q.wn < n)) = true) => have f2 := (oT h1); aI (sk (aI (aT (Runs.dark [false] (fail_runs r (Value.slice q.wa q.wn q.wc) e 3))) tV)) (aI (show (⟨[(0, .v (ptr r 0)), (1, .v (nat n)), (4, .v (Value.slice none 0 0)), (6, .v (ptr r 0)), (7, .v (ptr r 0)), (8, .v (ptr r 0)), (9, .v (Value.slice q.wa q.wn q.wc)), (10, .v (nat q.wn)), (11, .v (nat n)), (12, .v (Value.bool (decide (q.wn < n)))), (13, .v (ptr r 0)), (14, .v (Value.tuple #[]))], [(0, some ⟨r, true, 0, (.lit [(Value.slice q.wa q.wn q.wc), (int (failE e 3))])⟩)], 1⟩ : St) = ⟨[(0, .v (ptr r 0)), (1, .v (nat n)), (4, .v (Value.slice none 0 0)), (6, .v (ptr r 0)), (7, .v (ptr r 0)), (8, .v (ptr r 0)), (9, .v (Value.slice q.wa q.wn q.wc)), (10, .v (nat q.wn)), (11, .v (nat n)), (12, .v (Value.bool (decide (q.wn < n)))), (13, .v (ptr r 0)), (14, .v (Value.tuple #[]))], [(0, some ⟨r, true, 0, (.lit [(Value.slice q.wa q.wn q.wc), (int (tkE q e n))])⟩)], 1⟩ from by have ee : failE e 3 = tkE q e n := (by unfold tkE; first | rw [if_pos (by omega)] | rw [if_neg (by omega)]); rw [ee]) (aI (sK3 (aI (aT (ad r 1)) kV1)) ((fun (hp2 : (((tkE q e n) : Int) != 0) = true) => aT (aI hp2 (aI kV1 (aT (eX (fun (ns : List Nat) => ns.length = 0 ∧ ((Value.slice none 0 0) : Value) = (fun _ => (Value.slice none 0 0)) ns ∧ ([some ⟨r, true, 0, (.lit [(Value.slice q.wa q.wn q.wc), (int (tkE q e n))])⟩] : List (Option Blk)) = (fun _ => [some ⟨r, true, 0, (.lit [(slqV (tkQ q e n)), (int (tkE q e n))])⟩]) ns) [] (aI (@rfl Nat 0) (aI (@rfl Value (Value.slice none 0 0)) ((show ([some ⟨r, true, 0, (.lit [(Value.slice q.wa q.wn q.wc), (int (tkE q e n))])⟩] : List (Option Blk)) = [some ⟨r, true, 0, (.lit [(slqV (tkQ q e n)), (int (tkE q e n))])⟩] from by rw [tk_out h] <;> rfl))))))))) (show (((tkE q e n) : Int) != 0) = true from by simpa using h))))) (fun (h1 : (decide (q.wn < n)) = false) => have f2 := (oF h1); aI (show (⟨[(0, .v (ptr r 0)), (1, .v (nat n)), (4, .v (Value.slice none 0 0)), (6, .v (ptr r 0)), (7, .v (ptr r 0)), (8, .v (ptr r 0)), (9, .v (Value.slice q.wa q.wn q.wc)), (10, .v (nat q.wn)), (11, .v (nat n)), (12, .v (Value.bool (decide (q.wn < n))))], [(0, some ⟨r, true, 0, (.lit [(Value.slice q.wa q.wn q.wc), (int e)])⟩)], 1⟩ : St) = ⟨[(0, .v (ptr r 0)), (1, .v (nat n)), (4, .v (Value.slice none 0 0)), (6, .v (ptr r 0)), (7, .v (ptr r 0)), (8, .v (ptr r 0)), (9, .v (Value.slice q.wa q.wn q.wc)), (10, .v (nat q.wn)), (11, .v (nat n)), (12, .v (Value.bool (decide (q.wn < n))))], [(0, some ⟨r, true, 0, (.lit [(Value.slice q.wa q.wn q.wc), (int (tkE q e n))])⟩)], 1⟩ from congrArg (fun zz => (⟨[(0, .v (ptr r 0)), (1, .v (nat n)), (4, .v (Value.slice none 0 0)), (6, .v (ptr r 0)), (7, .v (ptr r 0)), (8, .v (ptr r 0)), (9, .v (Value.slice q.wa q.wn q.wc)), (10, .v (nat q.wn)), (11, .v (nat n)), (12, .v (Value.bool (decide (q.wn < n))))], [(0, some ⟨r, true, 0, (.lit [(Value.slice q.wa q.wn q.wc), (int zz)])⟩)], 1⟩ : St)) (show e = tkE q e n from by unfold tkE; first | rw [if_pos (by omega)] | rw [if_neg (by omega)])) (aI (sK3 (aI (aT (ad r 1)) kV1)) ((fun (hp3 : (((tkE q e n) : Int) != 0) = true) => aT (aI hp3 (aI kV1 (aT (eX (fun (ns : List Nat) => ns.length = 0 ∧ ((Value.slice none 0 0) : Value) = (fun _ => (Value.slice none 0 0)) ns ∧ ([some ⟨r, true, 0, (.lit [(Value.slice q.wa q.wn q.wc), (int (tkE q e n))])⟩] : List (Option Blk)) = (fun _ => [some ⟨r, true, 0, (.lit [(slqV (tkQ q e n)), (int (tkE q e n))])⟩]) ns) [] (aI (@rfl Nat 0) (aI (@rfl Value (Value.slice none 0 0)) ((show ([some ⟨r, true, 0, (.lit [(Value.slice q.wa q.wn q.wc), (int (tkE q e n))])⟩] : List (Option Blk)) = [some ⟨r, true, 0, (.lit [(slqV (tkQ q e n)), (int (tkE q e n))])⟩] from by rw [tk_out h] <;> rfl))))))))) (show (((tkE q e n) : Int) != 0) = true from by simpa using h)))))))))
theorem take_pos (r : Nat) (q : BytL) (e : Int) (n : Nat) (hq : OkB q) (hl : q.wn ≤ 100000) (h : tkE q e n = 0) (h0 : 0 < n) : RunsF (famB q) Try.prog 46 [(ptr r 0), (nat n)] [⟨r, true, 0, (.lit [(Value.slice q.wa q.wn q.wc), (int e)])⟩] 2 (fun (ns : List Nat) => (Value.slice (some ⟨(ns.getD 0 0), 0, none⟩) n (n + (ns.getD 1 0)))) (fun (ns : List Nat) => [some ⟨r, true, 0, (.lit [(slqV (tkQ q e n)), (int (tkE q e n))])⟩, some ⟨(ns.getD 0 0), true, 0, (spr (n + (ns.getD 1 0)) n (fun k => u8 (q.wf k)) (u8 0))⟩]) :=
  runsF_of_ev (F := (famB q)) mix Try.func46 rfl rfl 400 (.reg (rg [.g]) (.reg (rg [.g, .g, .g, (.ld 0 (.lit 0)), (.as (nat q.wn)), .g, (.as (Value.bool (decide (q.wn < n))))]) (.no (.keep [0, 1, 4, 6, 7, 8, 9, 10, 11, 12] [0] 1 (.told ⟨[(0, .v (ptr r 0)), (1, .v (nat n)), (4, .v (Value.slice none 0 0)), (6, .v (ptr r 0)), (7, .v (ptr r 0)), (8, .v (ptr r 0)), (9, .v (Value.slice q.wa q.wn q.wc)), (10, .v (nat q.wn)), (11, .v (nat n)), (12, .v (Value.bool (decide (q.wn < n))))], [(0, some ⟨r, true, 0, (.lit [(Value.slice q.wa q.wn q.wc), (int (tkE q e n))])⟩)], 1⟩ (.reg (rg [.g, .g, .g, (.ld 0 (.lit 1)), .g]) (.no (.regn (rg [.g, .g, .g, (.ld 0 (.lit 0)), .g, (.as (Value.slice q.wa n q.wc)), (.callF [] 2 1 (fun ns => Value.slice (some ⟨(ns.getD 0 0), 0, none⟩) n (n + (ns.getD 1 0))) (fun ns => [some ⟨(ns.getD 0 0), true, 0, (spr (n + (ns.getD 1 0)) n (fun k => u8 (q.wf k)) (u8 0))⟩])), .g]) (more (fun n1 => more (fun n2 => fun _ => (.reg (rg [.g, .g, .g, .g, (.ld 0 (.lit 0)), .g, (.as (Value.slice (fromA q.wa q.wc n 1) (q.wn - n) (q.wc - n))), .g, .g, (.st 0 (.lit 0))]) (.reg (rg [.g, .g]) .done))))))))))))) [] [1] rfl
    (have f1 := hq.cap; have f3 : n ≤ q.wn := (tkE_zero h).2; Eq.mp (by kernel_rfl) (aI kV1 (aI (sK3 (aI (aT (ad r 0)) (aI (aT (@is_len Try.prog 36 5 (.tmp 9) (by kernel_rfl) q.wa q.wn q.wc)) (sk (aI (aT (@is_lssn Try.prog 3 3 (.tmp 10) (.tmp 11)  q.wn n)) tV))))) ((fun (hp1 : (decide (q.wn < n)) = false) => have f4 := (oF hp1); aT (aI hp1 (aI (show (⟨[(0, .v (ptr r 0)), (1, .v (nat n)), (4, .v (Value.slice none 0 0)), (6, .v (ptr r 0)), (7, .v (ptr r 0)), (8, .v (ptr r 0)), (9, .v (Value.slice q.wa q.wn q.wc)), (10, .v (nat q.wn)), (11, .v (nat n)), (12, .v (Value.bool (decide (q.wn < n))))], [(0, some ⟨r, true, 0, (.lit [(Value.slice q.wa q.wn q.wc), (int e)])⟩)], 1⟩ : St) = ⟨[(0, .v (ptr r 0)), (1, .v (nat n)), (4, .v (Value.slice none 0 0)), (6, .v (ptr r 0)), (7, .v (ptr r 0)), (8, .v (ptr r 0)), (9, .v (Value.slice q.wa q.wn q.wc)), (10, .v (nat q.wn)), (11, .v (nat n)), (12, .v (Value.bool (decide (q.wn < n))))], [(0, some ⟨r, true, 0, (.lit [(Value.slice q.wa q.wn q.wc), (int (tkE q e n))])⟩)], 1⟩ from congrArg (fun zz => (⟨[(0, .v (ptr r 0)), (1, .v (nat n)), (4, .v (Value.slice none 0 0)), (6, .v (ptr r 0)), (7, .v (ptr r 0)), (8, .v (ptr r 0)), (9, .v (Value.slice q.wa q.wn q.wc)), (10, .v (nat q.wn)), (11, .v (nat n)), (12, .v (Value.bool (decide (q.wn < n))))], [(0, some ⟨r, true, 0, (.lit [(Value.slice q.wa q.wn q.wc), (int zz)])⟩)], 1⟩ : St)) (show e = tkE q e n from by unfold tkE; first | rw [if_pos (by omega)] | rw [if_neg (by omega)])) (aI (sK3 (aI (aT (ad r 1)) kV1)) ((fun (hp2 : (((tkE q e n) : Int) != 0) = false) => aT (aI hp2 (fun (n1 n2 : Nat) => aI (sK3 (aI (aT (ad r 0)) (sk (aI (aT (@is_slqTo Try.prog 36 5 (.tmp 23) (.tmp 24) (by kernel_rfl) 1 (by kernel_rfl) q.wa q.wn q.wc n (show n ≤ q.wc from by omega))) (aI (aT (RunsF.lendP (F' := (famB q)) (fun w hF => (holdb_to (show n ≤ q.wn from by omega) hF)) (fun x hx => famB_part (show 0 < n → 0 < q.wn from by omega) hx (show (bytT q n).wb = _ from rfl)) (clone_fam (bytT q n) (okb_to hq (show n ≤ q.wn from by omega)) (show 0 < n from by omega) (show n ≤ 140737488355328 from by omega)))) kV1))))) (aI (sK4 (aI (aT (ad r 0)) (sk (aI (aT (@is_slqFrom Try.prog 36 5 (.tmp 31) (.tmp 32) (by kernel_rfl) 1 (by kernel_rfl) q.wa q.wn q.wc n (show n ≤ q.wn ∧ q.wn ≤ q.wc from by omega))) (sK2 (aI (aT (ad r 0)) tV)))))) (aI kV2 (aT (eX (fun (ns : List Nat) => ns.length = 2 ∧ ((Value.slice (some ⟨n1, 0, none⟩) n (n + n2)) : Value) = (fun (ns : List Nat) => (Value.slice (some ⟨(ns.getD 0 0), 0, none⟩) n (n + (ns.getD 1 0)))) ns ∧ ([some ⟨r, true, 0, (.lit [(Value.slice (fromA q.wa q.wc n 1) (q.wn - n) (q.wc - n)), (int (tkE q e n))])⟩, some ⟨n1, true, 0, (spr (n + n2) n (fun k => u8 (q.wf k)) (u8 0))⟩] : List (Option Blk)) = (fun (ns : List Nat) => [some ⟨r, true, 0, (.lit [(slqV (tkQ q e n)), (int (tkE q e n))])⟩, some ⟨(ns.getD 0 0), true, 0, (spr (n + (ns.getD 1 0)) n (fun k => u8 (q.wf k)) (u8 0))⟩]) ns) [n1, n2] (aI (@rfl Nat 2) (aI (@rfl Value (Value.slice (some ⟨n1, 0, none⟩) n (n + n2))) ((show ([some ⟨r, true, 0, (.lit [(Value.slice (fromA q.wa q.wc n 1) (q.wn - n) (q.wc - n)), (int (tkE q e n))])⟩, some ⟨n1, true, 0, (spr (n + n2) n (fun k => u8 (q.wf k)) (u8 0))⟩] : List (Option Blk)) = [some ⟨r, true, 0, (.lit [(slqV (tkQ q e n)), (int (tkE q e n))])⟩, some ⟨n1, true, 0, (spr (n + n2) n (fun k => u8 (q.wf k)) (u8 0))⟩] from by rw [tk_in h] <;> rfl))))))))))) (show (((tkE q e n) : Int) != 0) = false from by simpa using h)))))) (show (decide (q.wn < n)) = false from by simp only [selB_and, selB_or, Bool.or_eq_true, Bool.or_eq_false_iff, Bool.and_eq_true, Bool.and_eq_false_iff, decide_eq_true_eq, decide_eq_false_iff_not]; omega)))))
theorem clone_nilc (c : Nat) : Pure Try.prog 25 [(Value.slice none 0 c)] (Value.slice none 0 0) :=
  pure_of_ev mix Try.func25 rfl rfl 400 (.reg (rg [.g]) (.reg (rg [.g, .g]) (.yes (.reg (rg [.g]) .done)))) []
    (Eq.mp (by kernel_rfl) (aI kV1 (aI kV2 (aT (aI (@rfl Bool true) (aI kV1 (aT (@rfl Value (Value.slice none 0 0)))))))))
theorem take_zn (r : Nat) (q : BytL) (e : Int) (hq : OkB q) (hl : q.wn ≤ 100000) (hA : q.wa = none) (h : tkE q e 0 = 0) : RunsF (famB q) Try.prog 46 [(ptr r 0), (int 0)] [⟨r, true, 0, (.lit [(Value.slice none q.wn q.wc), (int e)])⟩] 0 (fun _ => (Value.slice none 0 0)) (fun _ => [some ⟨r, true, 0, (.lit [(slqV (tkQ q e 0)), (int (tkE q e 0))])⟩]) :=
  runsF_of_ev (F := (famB q)) mix Try.func46 rfl rfl 400 (.reg (rg [.g]) (.reg (rg [.g, .g, .g, (.ld 0 (.lit 0)), (.as (nat q.wn)), .g, (.as (Value.bool (decide (q.wn < 0))))]) (.no (.keep [0, 1, 4, 6, 7, 8, 9, 10, 11, 12] [0] 1 (.told ⟨[(0, .v (ptr r 0)), (1, .v (int 0)), (4, .v (Value.slice none 0 0)), (6, .v (ptr r 0)), (7, .v (ptr r 0)), (8, .v (ptr r 0)), (9, .v (Value.slice none q.wn q.wc)), (10, .v (nat q.wn)), (11, .v (int 0)), (12, .v (Value.bool (decide (q.wn < 0))))], [(0, some ⟨r, true, 0, (.lit [(Value.slice none q.wn q.wc), (int (tkE q e 0))])⟩)], 1⟩ (.reg (rg [.g, .g, .g, (.ld 0 (.lit 1)), .g]) (.no (.reg (rg [.g, .g, .g, (.ld 0 (.lit 0)), .g, (.as (Value.slice none 0 q.wc)), (.call [] 0 0 (fun _ => (Value.slice none 0 0)) (fun _ => [])), .g]) (.reg (rg [.g, .g, .g, .g, (.ld 0 (.lit 0)), .g, (.as (Value.slice (fromA none q.wc 0 1) (q.wn - 0) (q.wc - 0))), .g, .g, (.st 0 (.lit 0))]) (.reg (rg [.g, .g]) .done)))))))))) [] [] rfl
    (have f1 := hq.cap; Eq.mp (by kernel_rfl) (aI kV1 (aI (sK3 (aI (aT (ad r 0)) (aI (aT (@is_len Try.prog 36 5 (.tmp 9) (by kernel_rfl) none q.wn q.wc)) (sk (aI (aT (@is_lssn Try.prog 3 3 (.tmp 10) (.tmp 11)  q.wn 0)) tV))))) ((fun (hp1 : (decide (q.wn < 0)) = false) => have f2 := (oF hp1); aT (aI hp1 (aI (show (⟨[(0, .v (ptr r 0)), (1, .v (int 0)), (4, .v (Value.slice none 0 0)), (6, .v (ptr r 0)), (7, .v (ptr r 0)), (8, .v (ptr r 0)), (9, .v (Value.slice none q.wn q.wc)), (10, .v (nat q.wn)), (11, .v (int 0)), (12, .v (Value.bool (decide (q.wn < 0))))], [(0, some ⟨r, true, 0, (.lit [(Value.slice none q.wn q.wc), (int e)])⟩)], 1⟩ : St) = ⟨[(0, .v (ptr r 0)), (1, .v (int 0)), (4, .v (Value.slice none 0 0)), (6, .v (ptr r 0)), (7, .v (ptr r 0)), (8, .v (ptr r 0)), (9, .v (Value.slice none q.wn q.wc)), (10, .v (nat q.wn)), (11, .v (int 0)), (12, .v (Value.bool (decide (q.wn < 0))))], [(0, some ⟨r, true, 0, (.lit [(Value.slice none q.wn q.wc), (int (tkE q e 0))])⟩)], 1⟩ from congrArg (fun zz => (⟨[(0, .v (ptr r 0)), (1, .v (int 0)), (4, .v (Value.slice none 0 0)), (6, .v (ptr r 0)), (7, .v (ptr r 0)), (8, .v (ptr r 0)), (9, .v (Value.slice none q.wn q.wc)), (10, .v (nat q.wn)), (11, .v (int 0)), (12, .v (Value.bool (decide (q.wn < 0))))], [(0, some ⟨r, true, 0, (.lit [(Value.slice none q.wn q.wc), (int zz)])⟩)], 1⟩ : St)) (show e = tkE q e 0 from by unfold tkE; first | rw [if_pos (by omega)] | rw [if_neg (by omega)])) (aI (sK3 (aI (aT (ad r 1)) kV1)) ((fun (hp2 : (((tkE q e 0) : Int) != 0) = false) => aT (aI hp2 (aI (sK3 (aI (aT (ad r 0)) (sk (aI (aT (@is_slqTo Try.prog 36 5 (.tmp 23) (.tmp 24) (by kernel_rfl) 1 (by kernel_rfl) none q.wn q.wc 0 (show 0 ≤ q.wc from by omega))) (aI (aT (clone_nilc q.wc)) kV1))))) (aI (sK4 (aI (aT (ad r 0)) (sk (aI (aT (@is_slqFrom Try.prog 36 5 (.tmp 31) (.tmp 32) (by kernel_rfl) 1 (by kernel_rfl) none q.wn q.wc 0 (show 0 ≤ q.wn ∧ q.wn ≤ q.wc from by omega))) (sK2 (aI (aT (ad r 0)) tV)))))) (aI kV2 (aT (eX (fun (ns : List Nat) => ns.length = 0 ∧ ((Value.slice none 0 0) : Value) = (fun _ => (Value.slice none 0 0)) ns ∧ ([some ⟨r, true, 0, (.lit [(Value.slice (fromA none q.wc 0 1) (q.wn - 0) (q.wc - 0)), (int (tkE q e 0))])⟩] : List (Option Blk)) = (fun _ => [some ⟨r, true, 0, (.lit [(slqV (tkQ q e 0)), (int (tkE q e 0))])⟩]) ns) [] (aI (@rfl Nat 0) (aI (@rfl Value (Value.slice none 0 0)) ((show ([some ⟨r, true, 0, (.lit [(Value.slice (fromA none q.wc 0 1) (q.wn - 0) (q.wc - 0)), (int (tkE q e 0))])⟩] : List (Option Blk)) = [some ⟨r, true, 0, (.lit [(slqV (tkQ q e 0)), (int (tkE q e 0))])⟩] from by rw [tk_in h, slqV_from hA] <;> rfl))))))))))) (show (((tkE q e 0) : Int) != 0) = false from by simpa using h)))))) (show (decide (q.wn < 0)) = false from by simp only [selB_and, selB_or, Bool.or_eq_true, Bool.or_eq_false_iff, Bool.and_eq_true, Bool.and_eq_false_iff, decide_eq_true_eq, decide_eq_false_iff_not]; omega)))))
theorem take_zs (r : Nat) (q : BytL) (e : Int) (A : Addr) (hq : OkB q) (hl : q.wn ≤ 100000) (hA : q.wa = some A) (h : tkE q e 0 = 0) : RunsF (famB q) Try.prog 46 [(ptr r 0), (int 0)] [⟨r, true, 0, (.lit [(Value.slice (some A) q.wn q.wc), (int e)])⟩] 1 (fun (ns : List Nat) => (Value.slice (some ⟨(ns.getD 0 0), 0, none⟩) 0 (0 + 0))) (fun (ns : List Nat) => [some ⟨r, true, 0, (.lit [(slqV (tkQ q e 0)), (int (tkE q e 0))])⟩, some ⟨(ns.getD 0 0), true, 0, (spr (0 + 0) 0 (fun k => u8 ((fun _ => 0) k)) (u8 0))⟩]) :=
  runsF_of_ev (F := (famB q)) mix Try.func46 rfl rfl 400 (.reg (rg [.g]) (.reg (rg [.g, .g, .g, (.ld 0 (.lit 0)), (.as (nat q.wn)), .g, (.as (Value.bool (decide (q.wn < 0))))]) (.no (.keep [0, 1, 4, 6, 7, 8, 9, 10, 11, 12] [0] 1 (.told ⟨[(0, .v (ptr r 0)), (1, .v (int 0)), (4, .v (Value.slice none 0 0)), (6, .v (ptr r 0)), (7, .v (ptr r 0)), (8, .v (ptr r 0)), (9, .v (Value.slice (some A) q.wn q.wc)), (10, .v (nat q.wn)), (11, .v (int 0)), (12, .v (Value.bool (decide (q.wn < 0))))], [(0, some ⟨r, true, 0, (.lit [(Value.slice (some A) q.wn q.wc), (int (tkE q e 0))])⟩)], 1⟩ (.reg (rg [.g, .g, .g, (.ld 0 (.lit 1)), .g]) (.no (.regn (rg [.g, .g, .g, (.ld 0 (.lit 0)), .g, (.as (Value.slice (some A) 0 q.wc)), (.call [] 1 1 (fun ns => Value.slice (some ⟨(ns.getD 0 0), 0, none⟩) 0 (0 + 0)) (fun ns => [some ⟨(ns.getD 0 0), true, 0, (spr (0 + 0) 0 (fun k => u8 ((fun _ => 0) k)) (u8 0))⟩])), .g]) (more (fun n1 => fun _ => (.reg (rg [.g, .g, .g, .g, (.ld 0 (.lit 0)), .g, (.as (Value.slice (fromA (some A) q.wc 0 1) (q.wn - 0) (q.wc - 0))), .g, .g, (.st 0 (.lit 0))]) (.reg (rg [.g, .g]) .done)))))))))))) [] [1] rfl
    (have f1 := hq.cap; Eq.mp (by kernel_rfl) (aI kV1 (aI (sK3 (aI (aT (ad r 0)) (aI (aT (@is_len Try.prog 36 5 (.tmp 9) (by kernel_rfl) (some A) q.wn q.wc)) (sk (aI (aT (@is_lssn Try.prog 3 3 (.tmp 10) (.tmp 11)  q.wn 0)) tV))))) ((fun (hp1 : (decide (q.wn < 0)) = false) => have f2 := (oF hp1); aT (aI hp1 (aI (show (⟨[(0, .v (ptr r 0)), (1, .v (int 0)), (4, .v (Value.slice none 0 0)), (6, .v (ptr r 0)), (7, .v (ptr r 0)), (8, .v (ptr r 0)), (9, .v (Value.slice (some A) q.wn q.wc)), (10, .v (nat q.wn)), (11, .v (int 0)), (12, .v (Value.bool (decide (q.wn < 0))))], [(0, some ⟨r, true, 0, (.lit [(Value.slice (some A) q.wn q.wc), (int e)])⟩)], 1⟩ : St) = ⟨[(0, .v (ptr r 0)), (1, .v (int 0)), (4, .v (Value.slice none 0 0)), (6, .v (ptr r 0)), (7, .v (ptr r 0)), (8, .v (ptr r 0)), (9, .v (Value.slice (some A) q.wn q.wc)), (10, .v (nat q.wn)), (11, .v (int 0)), (12, .v (Value.bool (decide (q.wn < 0))))], [(0, some ⟨r, true, 0, (.lit [(Value.slice (some A) q.wn q.wc), (int (tkE q e 0))])⟩)], 1⟩ from congrArg (fun zz => (⟨[(0, .v (ptr r 0)), (1, .v (int 0)), (4, .v (Value.slice none 0 0)), (6, .v (ptr r 0)), (7, .v (ptr r 0)), (8, .v (ptr r 0)), (9, .v (Value.slice (some A) q.wn q.wc)), (10, .v (nat q.wn)), (11, .v (int 0)), (12, .v (Value.bool (decide (q.wn < 0))))], [(0, some ⟨r, true, 0, (.lit [(Value.slice (some A) q.wn q.wc), (int zz)])⟩)], 1⟩ : St)) (show e = tkE q e 0 from by unfold tkE; first | rw [if_pos (by omega)] | rw [if_neg (by omega)])) (aI (sK3 (aI (aT (ad r 1)) kV1)) ((fun (hp2 : (((tkE q e 0) : Int) != 0) = false) => aT (aI hp2 (fun (n1 : Nat) => aI (sK3 (aI (aT (ad r 0)) (sk (aI (aT (@is_slqTo Try.prog 36 5 (.tmp 23) (.tmp 24) (by kernel_rfl) 1 (by kernel_rfl) (some A) q.wn q.wc 0 (show 0 ≤ q.wc from by omega))) (aI (aT (clone_zero A q.wc)) kV1))))) (aI (sK4 (aI (aT (ad r 0)) (sk (aI (aT (@is_slqFrom Try.prog 36 5 (.tmp 31) (.tmp 32) (by kernel_rfl) 1 (by kernel_rfl) (some A) q.wn q.wc 0 (show 0 ≤ q.wn ∧ q.wn ≤ q.wc from by omega))) (sK2 (aI (aT (ad r 0)) tV)))))) (aI kV2 (aT (eX (fun (ns : List Nat) => ns.length = 1 ∧ ((Value.slice (some ⟨n1, 0, none⟩) 0 (0 + 0)) : Value) = (fun (ns : List Nat) => (Value.slice (some ⟨(ns.getD 0 0), 0, none⟩) 0 (0 + 0))) ns ∧ ([some ⟨r, true, 0, (.lit [(Value.slice (fromA (some A) q.wc 0 1) (q.wn - 0) (q.wc - 0)), (int (tkE q e 0))])⟩, some ⟨n1, true, 0, (spr (0 + 0) 0 (fun k => u8 ((fun _ => 0) k)) (u8 0))⟩] : List (Option Blk)) = (fun (ns : List Nat) => [some ⟨r, true, 0, (.lit [(slqV (tkQ q e 0)), (int (tkE q e 0))])⟩, some ⟨(ns.getD 0 0), true, 0, (spr (0 + 0) 0 (fun k => u8 ((fun _ => 0) k)) (u8 0))⟩]) ns) [n1] (aI (@rfl Nat 1) (aI (@rfl Value (Value.slice (some ⟨n1, 0, none⟩) 0 (0 + 0))) ((show ([some ⟨r, true, 0, (.lit [(Value.slice (fromA (some A) q.wc 0 1) (q.wn - 0) (q.wc - 0)), (int (tkE q e 0))])⟩, some ⟨n1, true, 0, (spr (0 + 0) 0 (fun k => u8 ((fun _ => 0) k)) (u8 0))⟩] : List (Option Blk)) = [some ⟨r, true, 0, (.lit [(slqV (tkQ q e 0)), (int (tkE q e 0))])⟩, some ⟨n1, true, 0, (spr (0 + 0) 0 (fun k => u8 ((fun _ => 0) k)) (u8 0))⟩] from by rw [tk_in h, slqV_from hA] <;> rfl))))))))))) (show (((tkE q e 0) : Int) != 0) = false from by simpa using h)))))) (show (decide (q.wn < 0)) = false from by simp only [selB_and, selB_or, Bool.or_eq_true, Bool.or_eq_false_iff, Bool.and_eq_true, Bool.and_eq_false_iff, decide_eq_true_eq, decide_eq_false_iff_not]; omega)))))
theorem take_zero (r : Nat) (q : BytL) (e : Int) (n : Nat) (hq : OkB q) (hl : q.wn ≤ 100000) (hn : n = 0) (h : tkE q e n = 0) : RunsF (famB q) Try.prog 46 [ptr r 0, nat n] [⟨r, true, 0, .lit [slqV q, int e]⟩] 1 (fun ns => zV q.wa.isNone (ns.getD 0 0)) (fun _ => [some ⟨r, true, 0, .lit [slqV (tkQ q e n), int (tkE q e n)]⟩]) := by
  subst hn
  cases hA : q.wa with
  | none =>
    have e1 : slqV q = .slice none q.wn q.wc := by unfold slqV; rw [hA]
    rw [e1]
    exact (take_zn r q e hq hl hA h).name1
  | some A =>
    have e1 : slqV q = .slice (some A) q.wn q.wc := by unfold slqV; rw [hA]
    rw [e1]
    exact RunsF.drop (o := fun _ => [some ⟨r, true, 0, .lit [slqV (tkQ q e 0), int (tkE q e 0)]⟩]) (take_zs r q e A hq hl hA h)
theorem rbytes_bad (r : Nat) (q : BytL) (e m : Int) (hq : OkB q) (hl : q.wn ≤ 100000) (hm : m ≤ 9223372036854775807) (h : tkE (ctQ q e m) (ctE q e m 1) (ctN q e m 1) ≠ 0) : RunsF (famB q) Try.prog 35 [(ptr r 0), (int m)] [⟨r, true, 0, (.lit [(Value.slice q.wa q.wn q.wc), (int e)])⟩] 0 (fun _ => (Value.slice none 0 0)) (fun _ => [some ⟨r, true, 0, (.lit [(slqV (rbQ q e m)), (int (rbE q e m))])⟩]) :=
  runsF_of_ev (F := (famB q)) mix Try.func35 rfl rfl 400 (.reg (rg [.g]) (.reg (rg [.g, .g, .g, (.callF [(0, false)] 0 0 (fun _ => (nat (ctN q e m 1))) (fun _ => [some ⟨r, true, 0, (.lit [(slqV (ctQ q e m)), (int (ctE q e m 1))])⟩])), (.callF [(0, false)] 0 0 (fun _ => (Value.slice none 0 0)) (fun _ => [some ⟨r, true, 0, (.lit [(slqV (tkQ (ctQ q e m) (ctE q e m 1) (ctN q e m 1))), (int (tkE (ctQ q e m) (ctE q e m 1) (ctN q e m 1)))])⟩])), .g]) .done)) [] [] rfl
    (have f1 := hq.cap; Eq.mp (by kernel_rfl) (aI kV1 (aI (sK3 (aI (aT (RunsF.lendP (F' := (famB q)) (fun w hF => hF) (fun x hx => famB_part (show 0 < q.wn → 0 < q.wn from by omega) hx rfl) (count_1 r q e m hq (show q.wn ≤ 100000 from by omega) (show m ≤ 9223372036854775807 from by omega)))) (aI (aT (RunsF.lendP (F' := (famB q)) (fun w hF => (holdb_ct hF)) (fun x hx => famB_part (show 0 < (ctQ q e m).wn → 0 < q.wn from by have := ctQ_wn  q e m; omega) hx (ct_wb.trans rfl)) (take_bad r (ctQ q e m) (ctE q e m 1) (ctN q e m 1) (okb_ct hq e m) (show (ctQ q e m).wn ≤ 100000 from by have := ctQ_wn  q e m; omega) h))) kV1))) (aT (eX (fun (ns : List Nat) => ns.length = 0 ∧ ((Value.slice none 0 0) : Value) = (fun _ => (Value.slice none 0 0)) ns ∧ ([some ⟨r, true, 0, (.lit [(Value.slice ((tkQ (ctQ q e m) (ctE q e m 1) (ctN q e m 1)).wa) ((tkQ (ctQ q e m) (ctE q e m 1) (ctN q e m 1)).wn) ((tkQ (ctQ q e m) (ctE q e m 1) (ctN q e m 1)).wc)), (int (tkE (ctQ q e m) (ctE q e m 1) (ctN q e m 1)))])⟩] : List (Option Blk)) = (fun _ => [some ⟨r, true, 0, (.lit [(slqV (rbQ q e m)), (int (rbE q e m))])⟩]) ns) [] (aI (@rfl Nat 0) (aI (@rfl Value (Value.slice none 0 0)) (@rfl (List (Option Blk)) [some ⟨r, true, 0, (.lit [(slqV (rbQ q e m)), (int (rbE q e m))])⟩]))))))))
theorem rbytes_pos (r : Nat) (q : BytL) (e m : Int) (hq : OkB q) (hl : q.wn ≤ 100000) (hm : m ≤ 9223372036854775807) (h : tkE (ctQ q e m) (ctE q e m 1) (ctN q e m 1) = 0) (h0 : 0 < ctN q e m 1) : RunsF (famB q) Try.prog 35 [(ptr r 0), (int m)] [⟨r, true, 0, (.lit [(Value.slice q.wa q.wn q.wc), (int e)])⟩] 2 (fun (ns : List Nat) => (Value.slice (some ⟨(ns.getD 0 0), 0, none⟩) (ctN q e m 1) ((ctN q e m 1) + (ns.getD 1 0)))) (fun (ns : List Nat) => [some ⟨r, true, 0, (.lit [(slqV (rbQ q e m)), (int (rbE q e m))])⟩, some ⟨(ns.getD 0 0), true, 0, (spr ((ctN q e m 1) + (ns.getD 1 0)) (ctN q e m 1) (fun k => u8 ((ctQ q e m).wf k)) (u8 0))⟩]) :=
  runsF_of_ev (F := (famB q)) mix Try.func35 rfl rfl 400 (.reg (rg [.g]) (.regn (rg [.g, .g, .g, (.callF [(0, false)] 0 0 (fun _ => (nat (ctN q e m 1))) (fun _ => [some ⟨r, true, 0, (.lit [(slqV (ctQ q e m)), (int (ctE q e m 1))])⟩])), (.callF [(0, false)] 2 1 (fun ns => Value.slice (some ⟨(ns.getD 0 0), 0, none⟩) (ctN q e m 1) ((ctN q e m 1) + (ns.getD 1 0))) (fun ns => [some ⟨r, true, 0, (.lit [(slqV (tkQ (ctQ q e m) (ctE q e m 1) (ctN q e m 1))), (int (tkE (ctQ q e m) (ctE q e m 1) (ctN q e m 1)))])⟩, some ⟨(ns.getD 0 0), true, 0, (spr ((ctN q e m 1) + (ns.getD 1 0)) (ctN q e m 1) (fun k => u8 ((ctQ q e m).wf k)) (u8 0))⟩])), .g]) (more (fun n1 => more (fun n2 => fun _ => .done))))) [] [1] rfl
    (have f1 := hq.cap; Eq.mp (by kernel_rfl) (aI kV1 (fun (n1 n2 : Nat) => aI (sK3 (aI (aT (RunsF.lendP (F' := (famB q)) (fun w hF => hF) (fun x hx => famB_part (show 0 < q.wn → 0 < q.wn from by omega) hx rfl) (count_1 r q e m hq (show q.wn ≤ 100000 from by omega) (show m ≤ 9223372036854775807 from by omega)))) (aI (aT (RunsF.lendP (F' := (famB q)) (fun w hF => (holdb_ct hF)) (fun x hx => famB_part (show 0 < (ctQ q e m).wn → 0 < q.wn from by have := ctQ_wn  q e m; omega) hx (ct_wb.trans rfl)) (take_pos r (ctQ q e m) (ctE q e m 1) (ctN q e m 1) (okb_ct hq e m) (show (ctQ q e m).wn ≤ 100000 from by have := ctQ_wn  q e m; omega) h h0))) kV1))) (aT (eX (fun (ns : List Nat) => ns.length = 2 ∧ ((Value.slice (some ⟨n1, 0, none⟩) (ctN q e m 1) ((ctN q e m 1) + n2)) : Value) = (fun (ns : List Nat) => (Value.slice (some ⟨(ns.getD 0 0), 0, none⟩) (ctN q e m 1) ((ctN q e m 1) + (ns.getD 1 0)))) ns ∧ ([some ⟨r, true, 0, (.lit [(Value.slice ((tkQ (ctQ q e m) (ctE q e m 1) (ctN q e m 1)).wa) ((tkQ (ctQ q e m) (ctE q e m 1) (ctN q e m 1)).wn) ((tkQ (ctQ q e m) (ctE q e m 1) (ctN q e m 1)).wc)), (int (tkE (ctQ q e m) (ctE q e m 1) (ctN q e m 1)))])⟩, some ⟨n1, true, 0, (spr ((ctN q e m 1) + n2) (ctN q e m 1) (fun k => u8 ((ctQ q e m).wf k)) (u8 0))⟩] : List (Option Blk)) = (fun (ns : List Nat) => [some ⟨r, true, 0, (.lit [(slqV (rbQ q e m)), (int (rbE q e m))])⟩, some ⟨(ns.getD 0 0), true, 0, (spr ((ctN q e m 1) + (ns.getD 1 0)) (ctN q e m 1) (fun k => u8 ((ctQ q e m).wf k)) (u8 0))⟩]) ns) [n1, n2] (aI (@rfl Nat 2) (aI (@rfl Value (Value.slice (some ⟨n1, 0, none⟩) (ctN q e m 1) ((ctN q e m 1) + n2))) (@rfl (List (Option Blk)) [some ⟨r, true, 0, (.lit [(slqV (rbQ q e m)), (int (rbE q e m))])⟩, some ⟨n1, true, 0, (spr ((ctN q e m 1) + n2) (ctN q e m 1) (fun k => u8 ((ctQ q e m).wf k)) (u8 0))⟩]))))))))
theorem rbytes_zero (r : Nat) (q : BytL) (e m : Int) (hq : OkB q) (hl : q.wn ≤ 100000) (hm : m ≤ 9223372036854775807) (h : tkE (ctQ q e m) (ctE q e m 1) (ctN q e m 1) = 0) (h0 : ¬ 0 < ctN q e m 1) : RunsF (famB q) Try.prog 35 [(ptr r 0), (int m)] [⟨r, true, 0, (.lit [(Value.slice q.wa q.wn q.wc), (int e)])⟩] 1 (fun (ns : List Nat) => (Value.slice (zA (ctQ q e m).wa.isNone (ns.getD 0 0)) 0 0)) (fun (ns : List Nat) => [some ⟨r, true, 0, (.lit [(slqV (rbQ q e m)), (int (rbE q e m))])⟩]) :=
  runsF_of_ev (F := (famB q)) mix Try.func35 rfl rfl 400 (.reg (rg [.g]) (.regn (rg [.g, .g, .g, (.callF [(0, false)] 0 0 (fun _ => (nat (ctN q e m 1))) (fun _ => [some ⟨r, true, 0, (.lit [(slqV (ctQ q e m)), (int (ctE q e m 1))])⟩])), (.callF [(0, false)] 1 0 (fun ns => zV (ctQ q e m).wa.isNone (ns.getD 0 0)) (fun ns => [some ⟨r, true, 0, (.lit [(slqV (tkQ (ctQ q e m) (ctE q e m 1) (ctN q e m 1))), (int (tkE (ctQ q e m) (ctE q e m 1) (ctN q e m 1)))])⟩])), .g]) (more (fun n1 => fun _ => .done)))) [] [] rfl
    (have f1 := hq.cap; Eq.mp (by kernel_rfl) (aI kV1 (fun (n1 : Nat) => aI (sK3 (aI (aT (RunsF.lendP (F' := (famB q)) (fun w hF => hF) (fun x hx => famB_part (show 0 < q.wn → 0 < q.wn from by omega) hx rfl) (count_1 r q e m hq (show q.wn ≤ 100000 from by omega) (show m ≤ 9223372036854775807 from by omega)))) (aI (aT (RunsF.lendP (F' := (famB q)) (fun w hF => (holdb_ct hF)) (fun x hx => famB_part (show 0 < (ctQ q e m).wn → 0 < q.wn from by have := ctQ_wn  q e m; omega) hx (ct_wb.trans rfl)) (take_zero r (ctQ q e m) (ctE q e m 1) (ctN q e m 1) (okb_ct hq e m) (show (ctQ q e m).wn ≤ 100000 from by have := ctQ_wn  q e m; omega) (Nat.eq_zero_of_not_pos h0) h))) kV1))) (aT (eX (fun (ns : List Nat) => ns.length = 1 ∧ ((Value.slice (zA (ctQ q e m).wa.isNone n1) 0 0) : Value) = (fun (ns : List Nat) => (Value.slice (zA (ctQ q e m).wa.isNone (ns.getD 0 0)) 0 0)) ns ∧ ([some ⟨r, true, 0, (.lit [(Value.slice ((tkQ (ctQ q e m) (ctE q e m 1) (ctN q e m 1)).wa) ((tkQ (ctQ q e m) (ctE q e m 1) (ctN q e m 1)).wn) ((tkQ (ctQ q e m) (ctE q e m 1) (ctN q e m 1)).wc)), (int (tkE (ctQ q e m) (ctE q e m 1) (ctN q e m 1)))])⟩] : List (Option Blk)) = (fun (ns : List Nat) => [some ⟨r, true, 0, (.lit [(slqV (rbQ q e m)), (int (rbE q e m))])⟩]) ns) [n1] (aI (@rfl Nat 1) (aI (@rfl Value (Value.slice (zA (ctQ q e m).wa.isNone n1) 0 0)) (@rfl (List (Option Blk)) [some ⟨r, true, 0, (.lit [(slqV (rbQ q e m)), (int (rbE q e m))])⟩]))))))))
theorem rbytes_z (r : Nat) (q : BytL) (e m : Int) (hq : OkB q) (hl : q.wn ≤ 100000) (hm : m ≤ 9223372036854775807) (h0 : ¬ 0 < rbN q e m) : RunsF (famB q) Try.prog 35 [ptr r 0, int m] [⟨r, true, 0, .lit [slqV q, int e]⟩] 1 (fun ns => zV (rbZ q e m) (ns.getD 0 0)) (fun _ => [some ⟨r, true, 0, .lit [slqV (rbQ q e m), int (rbE q e m)]⟩]) := by
  by_cases h : tkE (ctQ q e m) (ctE q e m 1) (ctN q e m 1) = 0
  · obtain ⟨e1, e2⟩ := rb_good h
    rw [e2]
    exact rbytes_zero r q e m hq hl hm h (by omega)
  · obtain ⟨e1, e2⟩ := rb_bad h
    rw [e2]
    exact (rbytes_bad r q e m hq hl hm h).name1
theorem rbytes_p (r : Nat) (q : BytL) (e m : Int) (hq : OkB q) (hl : q.wn ≤ 100000) (hm : m ≤ 9223372036854775807) (h0 : 0 < rbN q e m) : RunsF (famB q) Try.prog 35 [ptr r 0, int m] [⟨r, true, 0, .lit [slqV q, int e]⟩] 2 (fun ns => .slice (some ⟨ns.getD 0 0, 0, none⟩) (rbN q e m) (rbN q e m + ns.getD 1 0)) (fun ns => [some ⟨r, true, 0, .lit [slqV (rbQ q e m), int (rbE q e m)]⟩, some ⟨ns.getD 0 0, true, 0, spr (rbN q e m + ns.getD 1 0) (rbN q e m) (fun k => u8 ((ctQ q e m).wf k)) (u8 0)⟩]) := by
  by_cases h : tkE (ctQ q e m) (ctE q e m 1) (ctN q e m 1) = 0
  · obtain ⟨e1, e2⟩ := rb_good h
    rw [e1]
    exact rbytes_pos r q e m hq hl hm h (by omega)
  · exact absurd (rb_bad h).1 (by omega)
end Go.Proofs.Ytnailbicmhkmbaa
end
section
namespace Go.Eng
open Go.RowKit Go.WideShapes Go.ChangeShapes Go.ChangeAt Go.Deep
section
variable {H : Type} {enc : TypeId × Value → H} {P : Program}
end
theorem failE_ne {e x : Int} (h : e ≠ 0) : failE e x = e := if_neg h
theorem tkE_ne {q : BytL} {e : Int} {n : Nat} (h : e ≠ 0) : tkE q e n = e := by
  unfold tkE; split
  · exact failE_ne h
  · rfl
theorem ctE1_keep {e m : Int} (h : e ≠ 0) : ctE1 e m = e := by
  unfold ctE1; split
  · exact failE_ne h
  · rfl
theorem rs_keep {q : BytL} {e : Int} {l : UInt64} (h : e ≠ 0) : rsE q e l = e ∧ rsV q e l = 0 := by
  have h1 := rsE_ne (q := q) (l := l) h
  exact ⟨h1, if_neg (by rw [h1]; exact h)⟩
theorem ct_keep {q : BytL} {e m : Int} {z : Nat} (h : e ≠ 0) : ctE q e m z = e ∧ ctN q e m z = 0 := by
  have h1 : ctE1 e m ≠ 0 := by rw [ctE1_keep h]; exact h
  have h2 := rs_keep (q := q) (l := u64i m) h1
  have h3 : ctV q e m = 0 := by unfold ctV; rw [h2.2]; rfl
  unfold ctE ctN
  rw [h3, if_neg (Nat.not_lt_zero _), if_neg (Nat.not_lt_zero _), h2.1, ctE1_keep h]
  exact ⟨rfl, rfl⟩
theorem rb_keep {q : BytL} {e m : Int} (h : e ≠ 0) : rbE q e m = e ∧ rbN q e m = 0 := by
  have h1 := ct_keep (q := q) (m := m) (z := 1) h
  have h2 : rbE q e m = e := by unfold rbE; rw [h1.1]; exact tkE_ne h
  exact ⟨h2, if_neg (show rbE q e m ≠ 0 by rw [h2]; exact h)⟩
end Go.Eng
end
section
namespace Go.Eng
def nwN (n : Nat) : Nat := smN (UInt64.ofNat n) + 32 * n
def nwB (g : Nat → N4) (n : Nat) : Nat → UInt8 := fun k => if k < smN (UInt64.ofNat n) then smB (UInt64.ofNat n) k else bytesF (g ((k - smN (UInt64.ofNat n)) / 32)) ((k - smN (UInt64.ofNat n)) % 32)
end Go.Eng
end
section
namespace Go.Proofs.Ytnailbicmhkmbaa
open Go Go.Eng
theorem new_zn (c : Nat) : Runs Try.prog 33 [(Value.slice none 0 c)] [] 1 (fun (ns : List Nat) => (ptr (ns.getD 0 0) 0)) (fun (ns : List Nat) => [some ⟨(ns.getD 0 0), true, 0, (.lit [(Value.slice none 0 0), (int 0)])⟩]) :=
  runs_of_ev mix Try.func33 rfl rfl 400 (.reg (rg [.g]) (.regn (rg [.g, (.call [] 0 0 (fun _ => (Value.slice none 0 0)) (fun _ => [])), .g, .new, .g]) (more (fun n1 => fun _ => .done)))) [] [0] rfl
    (Eq.mp (by kernel_rfl) (aI kV1 (fun (n1 : Nat) => aI (sk (aI (aT (clone_nilc c)) kV3)) (aT (eX (fun (ns : List Nat) => ns.length = 1 ∧ ((ptr n1 0) : Value) = (fun (ns : List Nat) => (ptr (ns.getD 0 0) 0)) ns ∧ ([some ⟨n1, true, 0, (.lit [(Value.slice none 0 0), (int 0)])⟩] : List (Option Blk)) = (fun (ns : List Nat) => [some ⟨(ns.getD 0 0), true, 0, (.lit [(Value.slice none 0 0), (int 0)])⟩]) ns) [n1] (aI (@rfl Nat 1) (aI (@rfl Value (ptr n1 0)) (@rfl (List (Option Blk)) [some ⟨n1, true, 0, (.lit [(Value.slice none 0 0), (int 0)])⟩]))))))))
theorem new_zs (A : Addr) (c : Nat) : Runs Try.prog 33 [(Value.slice (some A) 0 c)] [] 2 (fun (ns : List Nat) => (ptr (ns.getD 0 0) 0)) (fun (ns : List Nat) => [some ⟨(ns.getD 0 0), true, 0, (.lit [(Value.slice (some ⟨(ns.getD 1 0), 0, none⟩) 0 (0 + 0)), (int 0)])⟩, some ⟨(ns.getD 1 0), true, 0, (spr (0 + 0) 0 (fun k => u8 ((fun _ => 0) k)) (u8 0))⟩]) :=
  runs_of_ev mix Try.func33 rfl rfl 400 (.reg (rg [.g]) (.regn (rg [.g, (.call [] 1 1 (fun ns => Value.slice (some ⟨(ns.getD 0 0), 0, none⟩) 0 (0 + 0)) (fun ns => [some ⟨(ns.getD 0 0), true, 0, (spr (0 + 0) 0 (fun k => u8 ((fun _ => 0) k)) (u8 0))⟩])), .g, .new, .g]) (more (fun n1 => more (fun n2 => fun _ => .done))))) [] [1, 0] rfl
    (Eq.mp (by kernel_rfl) (aI kV1 (fun (n1 n2 : Nat) => aI (sk (aI (aT (clone_zero A c)) kV3)) (aT (eX (fun (ns : List Nat) => ns.length = 2 ∧ ((ptr n2 0) : Value) = (fun (ns : List Nat) => (ptr (ns.getD 0 0) 0)) ns ∧ ([some ⟨n2, true, 0, (.lit [(Value.slice (some ⟨n1, 0, none⟩) 0 (0 + 0)), (int 0)])⟩, some ⟨n1, true, 0, (spr (0 + 0) 0 (fun k => u8 ((fun _ => 0) k)) (u8 0))⟩] : List (Option Blk)) = (fun (ns : List Nat) => [some ⟨(ns.getD 0 0), true, 0, (.lit [(Value.slice (some ⟨(ns.getD 1 0), 0, none⟩) 0 (0 + 0)), (int 0)])⟩, some ⟨(ns.getD 1 0), true, 0, (spr (0 + 0) 0 (fun k => u8 ((fun _ => 0) k)) (u8 0))⟩]) ns) [n2, n1] (aI (@rfl Nat 2) (aI (@rfl Value (ptr n2 0)) (@rfl (List (Option Blk)) [some ⟨n2, true, 0, (.lit [(Value.slice (some ⟨n1, 0, none⟩) 0 (0 + 0)), (int 0)])⟩, some ⟨n1, true, 0, (spr (0 + 0) 0 (fun k => u8 ((fun _ => 0) k)) (u8 0))⟩]))))))))
end Go.Proofs.Ytnailbicmhkmbaa
end
section
namespace Go.Eng
theorem Post.conv {m m' n n' : Nat → Option Blk} {w w' : World} (hp : Post m w m' w') (h0 : ∀ k, Owns m k → Owns n k) (π : Nat → Nat)
    (hπ : ∀ p q b c, n' p = some b → n' q = some c → π p = π q → p = q)
    (h2 : ∀ p b, n' p = some b → b.own = true ∧ ∃ b', m' (π p) = some b' ∧ (∀ k, b.has k → b'.has k) ∧ b'.own = true ∧ ∀ w, Holds b' w → Holds b w) : Post n w n' w' where
  holds p b hb := by obtain ⟨_, b', h3, _, _, h6⟩ := h2 p b hb; exact h6 _ (hp.holds _ _ h3)
  apart p q b c hpq hb hc ho := by
    obtain ⟨_, b', h3, h4, h5, _⟩ := h2 p b hb
    obtain ⟨_, c', k3, k4, k5, _⟩ := h2 q c hc
    exact fun k l1 l2 => hp.apart _ _ b' c' (fun e => hpq (hπ p q b c hb hc e)) h3 k3 h5 k (h4 k l1) (k4 k l2)
  adv := ⟨hp.adv.os, hp.adv.output, hp.adv.tape, hp.adv.size, fun k hk hn => hp.adv.heap k hk fun ho => hn (h0 k ho), fun k ⟨p, b, hb, ho, hk⟩ => by
      obtain ⟨_, b', h3, h4, h5, _⟩ := h2 p b hb
      rcases hp.adv.names k ⟨π p, b', h3, h5, h4 k hk⟩ with h6 | h6
      · exact .inl (h0 k h6)
      · exact .inr h6, fun p b hb ho => by
      have := (h2 p b hb).1
      rw [ho] at this; cases this⟩
structure Suf (bs bs' : List (Option Blk)) (ρ : Nat → Nat) : Prop where
  inj : ∀ p q b c, listMem bs p = some b → listMem bs q = some c → ρ p = ρ q → p = q
  sub : ∀ p b, listMem bs p = some b → ∃ b', listMem bs' (ρ p) = some b' ∧ (∀ k, b.has k → b'.has k) ∧ b'.own = b.own ∧ ∀ w, Holds b' w → Holds b w
theorem Suf.owns {bs bs' : List (Option Blk)} {ρ : Nat → Nat} (h : Suf bs bs' ρ) (k : Nat) : Owns (listMem bs) k → Owns (listMem bs') k := fun ⟨p, b, hb, ho, hk⟩ => by
  obtain ⟨b', h1, h2, h3, _⟩ := h.sub p b hb
  exact ⟨ρ p, b', h1, by rw [h3, ho], h2 k hk⟩
theorem Suf.holds {bs bs' : List (Option Blk)} {ρ : Nat → Nat} (h : Suf bs bs' ρ) {w : World} (hm : ∀ p b, listMem bs' p = some b → Holds b w) : ∀ p b, listMem bs p = some b → Holds b w := fun p b hb => by
  obtain ⟨b', h1, _, _, h4⟩ := h.sub p b hb
  exact h4 w (hm _ _ h1)
theorem Suf.apart {bs bs' : List (Option Blk)} {ρ : Nat → Nat} (h : Suf bs bs' ρ) (ha : Apart (listMem bs')) : Apart (listMem bs) := fun p q b c hpq hb hc ho => by
  obtain ⟨b', h1, h2, h3, _⟩ := h.sub p b hb
  obtain ⟨c', k1, k2, k3, _⟩ := h.sub q c hc
  exact fun k l1 l2 => ha _ _ b' c' (fun e => hpq (h.inj p q b c hb hc e)) h1 k1 (by rw [h3, ho]) k (h2 k l1) (k2 k l2)
theorem Suf.fam {F : Blk → Prop} {bs bs' : List (Option Blk)} {ρ : Nat → Nat} (h : Suf bs bs' ρ) {w : World} (hF : Fam F (listMem bs') w) : Fam F (listMem bs) w := fun b hb => by
  obtain ⟨h1, h2, h3⟩ := hF b hb
  exact ⟨h1, h2, fun k hk ho => h3 k hk (h.owns _ ho)⟩
def Leaves (out out' : List (Option Blk)) (π : Nat → Nat) : Prop :=
  (∀ p q b c, listMem out' p = some b → listMem out' q = some c → π p = π q → p = q) ∧
  ∀ p b, listMem out' p = some b → b.own = true ∧ ∃ b', listMem out (π p) = some b' ∧ (∀ k, b.has k → b'.has k) ∧ b'.own = true ∧ ∀ w, Holds b' w → Holds b w
theorem RunsO.conv {F : Blk → Prop} {P : Program} {f : FuncId} {args : List Value} {bs bs' : List (Option Blk)} {k k' : Nat} {v v' : List Nat → Value} {out out' : List Nat → List (Option Blk)} (h : RunsO F P f args bs k v out)
    (ρ : Nat → Nat) (h1 : Suf bs bs' ρ) (π : Nat → Nat) (σ : List Nat → List Nat) (hσ : ∀ ns, ns.length = k → (σ ns).length = k' ∧ v' (σ ns) = v ns ∧ Leaves (out ns) (out' (σ ns)) π) : RunsO F P f args bs' k' v' out' := by
  intro w hm ha hF
  refine Calls.mono (h w (h1.holds hm) (h1.apart ha) (h1.fam hF)) ?_
  rintro e w' ⟨ns, hns, he, hp⟩
  obtain ⟨h3, h4, h5, h6⟩ := hσ ns hns
  exact ⟨σ ns, h3, by rw [h4, he], hp.conv h1.owns π h5 h6⟩
theorem SRunsO.conv {P : Program} {s : Sem Next} {bs bs' : List (Option Blk)} {k k' : Nat} {v v' : List Nat → Value} {out out' : List Nat → List (Option Blk)} (h : SRunsO P s bs k v out)
    (ρ : Nat → Nat) (h1 : Suf bs bs' ρ) (π : Nat → Nat) (σ : List Nat → List Nat) (hσ : ∀ ns, ns.length = k → (σ ns).length = k' ∧ v' (σ ns) = v ns ∧ Leaves (out ns) (out' (σ ns)) π) : SRunsO P s bs' k' v' out' := by
  intro w hm ha
  obtain ⟨ns, w', hns, he, hp⟩ := h w (h1.holds hm) (h1.apart ha)
  obtain ⟨h3, h4, h5, h6⟩ := hσ ns hns
  exact ⟨σ ns, w', h3, by rw [h4]; exact he, hp.conv h1.owns π h5 h6⟩
theorem RunsF.toO {F : Blk → Prop} {P : Program} {f : FuncId} {args : List Value} {bs : List Blk} {k : Nat} {v : List Nat → Value} {out : List Nat → List (Option Blk)} (h : RunsF F P f args bs k v out) : RunsO F P f args (bs.map some) k v out :=
  fun w hm ha hF => h w (fun b hb => by obtain ⟨i, hi⟩ := List.getElem?_of_mem hb; exact hm i b (listMem_some.2 hi)) ha hF
theorem Runs.toO {F : Blk → Prop} {P : Program} {f : FuncId} {args : List Value} {bs : List Blk} {k : Nat} {v : List Nat → Value} {out : List Nat → List (Option Blk)} (h : Runs P f args bs k v out) : RunsO F P f args (bs.map some) k v out := h.toF.toO
theorem SRuns.toO {P : Program} {s : Sem Next} {bs : List Blk} {k : Nat} {v : List Nat → Value} {out : List Nat → List (Option Blk)} (h : SRuns P s bs k v out) : SRunsO P s (bs.map some) k v out :=
  fun w hm ha => h w (fun b hb => by obtain ⟨i, hi⟩ := List.getElem?_of_mem hb; exact hm i b (listMem_some.2 hi)) ha
theorem RunsO.toF {F : Blk → Prop} {P : Program} {f : FuncId} {args : List Value} {bs : List Blk} {k : Nat} {v : List Nat → Value} {out : List Nat → List (Option Blk)} (h : RunsO F P f args (bs.map some) k v out) : RunsF F P f args bs k v out :=
  fun w hm ha hF => h w (fun i b hb => hm b (List.mem_of_getElem? (listMem_some.1 hb))) ha hF
theorem lm0 {o : Option Blk} {r : List (Option Blk)} : listMem (o :: r) 0 = o := rfl
theorem lm1 {o : Option Blk} {r : List (Option Blk)} (p : Nat) : listMem (o :: r) (p + 1) = listMem r p := by simp [listMem]
theorem lmN (p : Nat) : listMem ([] : List (Option Blk)) p = none := by simp [listMem]
inductive Sub : List (Option Blk) → List (Option Blk) → Prop where
  | zz (l : List (Option Blk)) : Sub [] l
  | dr {l l' : List (Option Blk)} (o : Option Blk) : Sub l l' → Sub (none :: l) (o :: l')
  | kp {l l' : List (Option Blk)} (b b' : Blk) (h : (∀ k, b.has k → b'.has k) ∧ b'.own = b.own ∧ ∀ w, Holds b' w → Holds b w) : Sub l l' → Sub (some b :: l) (some b' :: l')
  | gp {l l' : List (Option Blk)} (o : Option Blk) : Sub l l' → Sub l (o :: l')
  | dn {l l' : List (Option Blk)} : Sub l l' → Sub (none :: l) l'
theorem Sub.at {l l' : List (Option Blk)} (h : Sub l l') : ∃ ρ, Suf l l' ρ := by
  induction h with
  | zz l => exact ⟨id, ⟨fun p q b c hb => (by rw [lmN] at hb; cases hb), fun p b hb => (by rw [lmN] at hb; cases hb)⟩⟩
  | @dr l l' o _ ih =>
    obtain ⟨ρ, h1, h2⟩ := ih
    refine ⟨fun p => match p with | 0 => 0 | p + 1 => ρ p + 1, ⟨fun p q b c hb hc e => ?_, fun p b hb => ?_⟩⟩
    · cases p with
      | zero => cases hb
      | succ p => cases q with
        | zero => cases hc
        | succ q => rw [lm1] at hb hc; simp only at e; have := h1 p q b c hb hc (by omega); omega
    · cases p with
      | zero => cases hb
      | succ p => rw [lm1] at hb; simp only [lm1]; exact h2 p b hb
  | @kp l l' b0 b0' h0 _ ih =>
    obtain ⟨ρ, h1, h2⟩ := ih
    refine ⟨fun p => match p with | 0 => 0 | p + 1 => ρ p + 1, ⟨fun p q b c hb hc e => ?_, fun p b hb => ?_⟩⟩
    · cases p with
      | zero => cases q with
        | zero => rfl
        | succ q => simp only at e; omega
      | succ p => cases q with
        | zero => simp only at e; omega
        | succ q => rw [lm1] at hb hc; simp only at e; have := h1 p q b c hb hc (by omega); omega
    · cases p with
      | zero => rw [lm0] at hb; injection hb with hb; subst hb; exact ⟨b0', rfl, h0⟩
      | succ p => rw [lm1] at hb; simp only [lm1]; exact h2 p b hb
  | dn _ ih =>
    obtain ⟨ρ, h1, h2⟩ := ih
    refine ⟨fun p => match p with | 0 => 0 | p + 1 => ρ p, ⟨fun p q b c hb hc e => ?_, fun p b hb => ?_⟩⟩
    · cases p with
      | zero => cases hb
      | succ p => cases q with
        | zero => cases hc
        | succ q => rw [lm1] at hb hc; simp only at e; have := h1 p q b c hb hc e; omega
    · cases p with
      | zero => cases hb
      | succ p => rw [lm1] at hb; simp only; exact h2 p b hb
  | gp _ _ ih =>
    obtain ⟨ρ, h1, h2⟩ := ih
    exact ⟨fun p => ρ p + 1, ⟨fun p q b c hb hc e => h1 p q b c hb hc (by omega), fun p b hb => by simp only [lm1]; exact h2 p b hb⟩⟩
def ownL : List (Option Blk) → Prop
  | [] => True
  | none :: r => ownL r
  | some b :: r => b.own = true ∧ ownL r
theorem ownL_at : ∀ {l : List (Option Blk)}, ownL l → ∀ p b, listMem l p = some b → b.own = true
  | [], _, p, b, hb => by rw [lmN] at hb; cases hb
  | none :: r, h, 0, b, hb => by cases hb
  | some c :: r, h, 0, b, hb => by rw [lm0] at hb; injection hb with hb; subst hb; exact h.1
  | none :: r, h, p + 1, b, hb => by rw [lm1] at hb; exact ownL_at (l := r) h p b hb
  | some c :: r, h, p + 1, b, hb => by rw [lm1] at hb; exact ownL_at h.2 p b hb
theorem Sub.leaves {l l' : List (Option Blk)} (h : Sub l' l) (ho : ownL l') : ∃ π, Leaves l l' π := by
  obtain ⟨ρ, h1, h2⟩ := h.at
  refine ⟨ρ, h1, fun p b hb => ?_⟩
  have hown := ownL_at ho p b hb
  obtain ⟨b', k1, k2, k3, k4⟩ := h2 p b hb
  exact ⟨hown, b', k1, k2, by rw [k3, hown], k4⟩
theorem RunsO.as {F : Blk → Prop} {P : Program} {f : FuncId} {args : List Value} {bs bs' : List (Option Blk)} {k k' : Nat} {v v' : List Nat → Value} {out out' : List Nat → List (Option Blk)} (h : RunsO F P f args bs k v out)
    (h1 : Sub bs bs') (σ : List Nat → List Nat) (hσ : ∀ ns, ns.length = k → (σ ns).length = k' ∧ v' (σ ns) = v ns ∧ Sub (out' (σ ns)) (out ns) ∧ ownL (out' (σ ns))) : RunsO F P f args bs' k' v' out' := by
  obtain ⟨ρ, hρ⟩ := h1.at
  intro w hm ha hF
  refine Calls.mono (h w (hρ.holds hm) (hρ.apart ha) (hρ.fam hF)) ?_
  rintro e w' ⟨ns, hns, he, hp⟩
  obtain ⟨h3, h4, h5, h6⟩ := hσ ns hns
  obtain ⟨π, h7, h8⟩ := h5.leaves h6
  exact ⟨σ ns, h3, by rw [h4, he], hp.conv hρ.owns π h7 h8⟩
theorem SRunsO.as {P : Program} {s : Sem Next} {bs bs' : List (Option Blk)} {k k' : Nat} {v v' : List Nat → Value} {out out' : List Nat → List (Option Blk)} (h : SRunsO P s bs k v out)
    (h1 : Sub bs bs') (σ : List Nat → List Nat) (hσ : ∀ ns, ns.length = k → (σ ns).length = k' ∧ v' (σ ns) = v ns ∧ Sub (out' (σ ns)) (out ns) ∧ ownL (out' (σ ns))) : SRunsO P s bs' k' v' out' := by
  obtain ⟨ρ, hρ⟩ := h1.at
  intro w hm ha
  obtain ⟨ns, w', hns, he, hp⟩ := h w (hρ.holds hm) (hρ.apart ha)
  obtain ⟨h3, h4, h5, h6⟩ := hσ ns hns
  obtain ⟨π, h7, h8⟩ := h5.leaves h6
  exact ⟨σ ns, w', h3, by rw [h4]; exact he, hp.conv hρ.owns π h7 h8⟩
theorem Sub.refl : ∀ (l : List (Option Blk)), Sub l l
  | [] => .zz _
  | none :: r => .dr _ (Sub.refl r)
  | some b :: r => .kp b b ⟨fun _ h => h, rfl, fun _ h => h⟩ (Sub.refl r)
theorem Sub.cons {l l' : List (Option Blk)} (o : Option Blk) (h : Sub l l') : Sub (o :: l) (o :: l') := match o with
  | none => .dr _ h
  | some b => .kp b b ⟨fun _ h => h, rfl, fun _ h => h⟩ h
theorem RunsO.mono {F F' : Blk → Prop} {P : Program} {f : FuncId} {args : List Value} {bs : List (Option Blk)} {k : Nat} {v : List Nat → Value} {out : List Nat → List (Option Blk)} (hs : ∀ b, F b → F' b) (h : RunsO F P f args bs k v out) : RunsO F' P f args bs k v out :=
  fun w hm ha hF => h w hm ha fun b hb => hF b (hs b hb)
theorem RunsO.frame {F : Blk → Prop} {P : Program} {f : FuncId} {args : List Value} {bs : List (Option Blk)} {ps : List (Nat × Bool)} {k k' : Nat} {v v' : List Nat → Value} {out out' : List Nat → List (Option Blk)}
    (h : RunsO F P f args (lendO (listMem bs) ps) k v out) (hn : nodupPs ps = true) (σ : List Nat → List Nat)
    (hσ : ∀ ns, ns.length = k → (σ ns).length = k' ∧ v' (σ ns) = v ns ∧ ps.length ≤ (out ns).length ∧ ∀ p b, listMem (out' (σ ns)) p = some b → memApply (listMem bs) (outUpd ps bs.length (out ns)) p = some b) : RunsO F P f args bs k' v' out' := by
  intro w hm ha hF
  refine Calls.mono (h w (lendO_holds hm) (lendO_apart ha hn) (fam_lendO hF)) ?_
  rintro e w' ⟨ns, hns, he, hp⟩
  obtain ⟨h1, h2, h3, h4⟩ := hσ ns hns
  exact ⟨σ ns, h1, by rw [h2, he], (post_frameO hm ha h3 hp).sub h4⟩
theorem RunsO.reads {F : Blk → Prop} {P : Program} {f : FuncId} {args : List Value} {bs : List (Option Blk)} (ps : List (Nat × Bool)) {k : Nat} {v0 : Value} {out : List Nat → List (Option Blk)}
    (h : RunsO F P f args (lendO (listMem bs) ps) 0 (fun _ => v0) out) (hn : nodupPs ps = true) (hr : ps.all (fun x => x.2) = true) : RunsO F P f args bs k (fun _ => v0) (fun _ => bs) := by
  have hout : ∀ (qs : List (Nat × Bool)) (nx : Nat) (m : Nat), qs.all (fun x => x.2) = true → outUpd qs nx (List.replicate qs.length none) = [] := by
    intro qs
    induction qs with
    | nil => intro nx m _; rfl
    | cons x r ih =>
      obtain ⟨p, ro⟩ := x
      intro nx m hx
      simp only [List.all_cons, Bool.and_eq_true] at hx
      have : ro = true := hx.1
      subst this
      simp only [List.length_cons, List.replicate_succ, outUpd]
      exact ih nx m hx.2
  have h' : RunsO F P f args (lendO (listMem bs) ps) 0 (fun _ => v0) (fun _ => List.replicate ps.length none) := fun w hm ha hF => Calls.mono (h w hm ha hF) fun e w' ⟨ns, h1, h2, h3⟩ => ⟨ns, h1, h2, h3.sub fun p b hb => by
    have : ∀ (n p : Nat), listMem (List.replicate n (none : Option Blk)) p = none := fun n p => by
      simp only [listMem, List.getElem?_replicate]
      split <;> simp_all
    rw [this] at hb; cases hb⟩
  refine h'.frame hn (fun _ => List.replicate k 0) fun ns _ => ⟨by simp, rfl, by simp, fun p b hb => ?_⟩
  rw [hout ps bs.length 0 hr]
  exact hb
section
variable {α : Type}
def gsA (A : Grw α) : Option Addr := match A.z with
  | true => none
  | false => some ⟨A.nm, 0, none⟩
def gsC (A : Grw α) : Nat := match A.z with
  | true => 0
  | false => A.n + A.r
def gsV (A : Grw α) : Value := .slice (gsA A) A.n (gsC A)
def gsE (C : α → List Value) (zc : List Value) (sz : Nat) (A : Grw α) : Option Blk := match A.z with
  | true => none
  | false => some ⟨A.nm, true, 0, sprE sz (A.n + A.r) A.n (fun k => C (A.f k)) zc⟩
def Grw.ok (A : Grw α) : Prop := A.z = true → A.n = 0
def Grw.cat (A : Grw α) (m : Nat) (h : Nat → α) (nm r : Nat) : Grw α := ⟨decide (m = 0) && A.z, nm, A.n + m, r, catU A.f A.n h⟩
def gsOf (S : Nat) (F : Nat → α) (a r : Nat) : Grw α := ⟨decide (S = 0), a, S, r, F⟩
theorem gsOf_ok (S : Nat) (F : Nat → α) (a r : Nat) : (gsOf S F a r).ok := fun h => of_decide_eq_true h
variable {A : Grw α} {C : α → List Value} {zc : List Value} {sz : Nat} {K : α → Value} {zv : Value}
theorem gsA_nil (h : A.z = true) : gsA A = none := by unfold gsA; rw [h]
theorem gsC_nil (h : A.z = true) : gsC A = 0 := by unfold gsC; rw [h]
theorem gsE_nil (h : A.z = true) : gsE C zc sz A = none := by unfold gsE; rw [h]
theorem gsA_own (h : A.z = false) : gsA A = some ⟨A.nm, 0, none⟩ := by unfold gsA; rw [h]
theorem gsC_own (h : A.z = false) : gsC A = A.n + A.r := by unfold gsC; rw [h]
theorem gsE_own (h : A.z = false) : gsE C zc sz A = some ⟨A.nm, true, 0, sprE sz (A.n + A.r) A.n (fun k => C (A.f k)) zc⟩ := by unfold gsE; rw [h]
theorem gsV_nil (h : A.z = true) (hk : A.ok) : gsV A = .slice none 0 0 := by unfold gsV; rw [gsA_nil h, gsC_nil h, hk h]
theorem gsV_own (h : A.z = false) : gsV A = .slice (some ⟨A.nm, 0, none⟩) A.n (A.n + A.r) := by unfold gsV; rw [gsA_own h, gsC_own h]
theorem Grw.ok.pos (hk : A.ok) (h : 0 < A.n) : A.z = false := by
  cases hz : A.z with
  | false => rfl
  | true => have := hk hz; omega
theorem sprE_row {c n : Nat} {f g : Nat → α} (hg : ∀ k, k < n → f k = g k) : sprE sz c n (fun k => C (f k)) zc = sprE sz c n (fun k => C (g k)) zc := by
  unfold sprE
  congr 1; funext k
  by_cases h : k < n
  · rw [if_pos h, if_pos h]; show C (f k) = C (g k); rw [hg k h]
  · rw [if_neg h, if_neg h]
theorem gsE_row {A' : Grw α} (h1 : A'.z = A.z) (h2 : A'.nm = A.nm) (h3 : A'.n = A.n) (h4 : A'.r = A.r) (h5 : ∀ k, k < A.n → A'.f k = A.f k) : gsE C zc sz A' = gsE C zc sz A := by
  obtain ⟨z, nm, n, r, f⟩ := A; obtain ⟨z', nm', n', r', f'⟩ := A'
  simp only at h1 h2 h3 h4 h5; subst h1; subst h2; subst h3; subst h4
  unfold gsE
  cases z' <;> simp only [sprE_row h5]
structure Prt (α : Type) where
  wa : Option Addr
  n : Nat
  c : Nat
  nm : Nat
  o : Nat
  f : Nat → α
def Prt.ok (D : Prt α) : Prop := (0 < D.n → D.wa = some ⟨D.nm, D.o, none⟩) ∧ D.n ≤ D.c
theorem gsE_ownL {r : List (Option Blk)} (h : ownL r) : ownL (gsE C zc sz A :: r) := by
  unfold gsE
  cases A.z with
  | true => exact h
  | false => exact ⟨rfl, h⟩
section
variable {P : Program} {t ty e : TypeId} {B : Nat}
theorem sizeB_agg (h1 : AggC P e zc sz B) : sizeB P e = some sz := by
  obtain ⟨i, z, hi, _, hsz, _⟩ := h1
  simp [sizeB, hi, hsz]
theorem mkG_catE (ht : P.underlying t = some (.slice e)) (h1 : AggC P e zc sz B) (A : Grw α) (hA : A.ok) (hC : ∀ a, (C a).length = sz ∧ (C a).all Value.oneCell' = true) (h : Nat → α) (m : Nat) (adr : Option Addr) (cc : Nat) (ob : Option Blk)
    (hs : 0 < m → ∃ k bo os S, adr = some ⟨k, bo + os, none⟩ ∧ ob = some ⟨k, false, bo, S⟩ ∧ ∀ j, j < m * sz → S.get (os + j) = some (cf sz (fun k => C (h k)) j))
    (hb : (A.n + m) * B ≤ 140737488355328 ∧ A.n + m ≤ 9223372036854775807) :
    SRunsO P (appendSem t ty (gsV A) (.slice adr m cc)) [gsE C zc sz A, ob] 2 (fun ns => gsV (A.cat m h (ns.getD 0 0) (ns.getD 1 0))) (fun ns => [gsE C zc sz (A.cat m h (ns.getD 0 0) (ns.getD 1 0)), none]) := by
  rcases Nat.eq_zero_or_pos m with hm | hm
  · subst hm
    have hcap : A.n ≤ gsC A := by
      unfold gsC; cases hz : A.z with
      | true => rw [hA hz]; exact Nat.zero_le _
      | false => simp only; omega
    have key := (srun_append_noneM (P := P) (t := t) (ty := ty) ht (sizeB_agg h1) (gsA A) A.n (gsC A) hcap adr 0 cc rfl).toO
    intro w hm ha
    obtain ⟨ns, w', hns, he, hp⟩ := key w (fun p b hb => by cases p <;> cases hb) (fun p q b c _ hb => by cases p <;> cases hb)
    refine ⟨[A.nm, A.r], w', rfl, ?_, ?_⟩
    · have ec : A.cat 0 h A.nm A.r = ⟨A.z, A.nm, A.n, A.r, catU A.f A.n h⟩ := by
        unfold Grw.cat; rw [show (decide (0 = 0) && A.z) = A.z from by simp]; rfl
      have e : gsV (A.cat 0 h A.nm A.r) = .slice (gsA A) A.n (gsC A) := by rw [ec]; rfl
      show _ ∨ _
      simp only [List.getD_cons_zero, List.getD_cons_succ, e]
      exact he
    · have e : gsE C zc sz (A.cat 0 h A.nm A.r) = gsE C zc sz A := gsE_row (by simp [Grw.cat]) rfl rfl rfl fun k hk => by simp [Grw.cat, catU, hk]
      simp only [List.getD_cons_zero, List.getD_cons_succ, e]
      have hnil : ∀ p : Nat, listMem (List.map some ([] : List Blk)) p = none := fun p => by simp [listMem]
      have hadv := hp.adv
      have hw : ∀ k, k < w.heap.size → w'.heap[k]? = w.heap[k]? := fun k hk => hadv.heap k hk fun ⟨p, b, hb, _⟩ => by rw [hnil] at hb; cases hb
      have hsub : ∀ p b, listMem [gsE C zc sz A, none] p = some b → p = 0 ∧ gsE C zc sz A = some b := fun p b hb => by
        rcases p with _ | _ | p
        · exact ⟨rfl, hb⟩
        · cases hb
        · simp [listMem] at hb
      refine ⟨fun p b hb => ?_, fun p q b c hpq hb hc ho => ?_, ⟨hadv.os, hadv.output, hadv.tape, hadv.size, fun k hk _ => hw k hk, fun k ⟨p, b, hb, ho, hk⟩ => ?_, fun p b hb ho => ?_⟩⟩
      · obtain ⟨rfl, h2⟩ := hsub p b hb
        have := hm 0 b h2
        exact this.of_heap hadv.size fun k hk => hw _ (this.has_lt hk)
      · obtain ⟨rfl, _⟩ := hsub p b hb
        obtain ⟨rfl, _⟩ := hsub q c hc
        exact absurd rfl hpq
      · obtain ⟨rfl, h2⟩ := hsub p b hb
        exact .inl ⟨0, b, h2, ho, hk⟩
      · obtain ⟨rfl, h2⟩ := hsub p b hb
        cases hz : A.z with
        | true => rw [gsE_nil hz] at h2; cases h2
        | false => rw [gsE_own hz] at h2; exact absurd (by injection h2 with h2; rw [← h2]) (show ¬ b.own = true from by rw [ho]; decide)
  · obtain ⟨k, bo, os, S, rfl, rfl, hS⟩ := hs hm
    have hmz : decide (m = 0) = false := decide_eq_false (by omega)
    cases hz : A.z with
    | true =>
      have hn := hA hz
      rw [gsV_nil hz hA, gsE_nil hz]
      have key := (mkE_append_nil (P := P) (t := t) (ty := ty) ht h1 k bo os m cc C hC h S hS ⟨hm, by rw [hn, Nat.zero_add] at hb; exact hb.1, by omega⟩).toO
      have e1 : ∀ ns : List Nat, gsV (A.cat m h (ns.getD 0 0) (ns.getD 1 0)) = .slice (some ⟨ns.getD 0 0, 0, none⟩) m (m + ns.getD 1 0) := fun ns => by
        rw [gsV_own (by simp [Grw.cat, hmz])]; simp only [Grw.cat, hn, Nat.zero_add]
      have e2 : ∀ ns : List Nat, gsE C zc sz (A.cat m h (ns.getD 0 0) (ns.getD 1 0)) = some ⟨ns.getD 0 0, true, 0, sprE sz (m + ns.getD 1 0) m (fun k => C (h k)) zc⟩ := fun ns => by
        rw [gsE_own (by simp [Grw.cat, hmz])]; simp only [Grw.cat, hn, Nat.zero_add]
        rw [sprE_row (g := h) fun k _ => by simp [catU]]
      refine key.conv (fun p => p + 1) ⟨fun p q b c _ _ e => Nat.succ.inj e, fun p b hb => ⟨b, by rw [lm1]; exact hb, fun _ h => h, rfl, fun _ h => h⟩⟩ (fun p => p + 1) id fun ns hns => ⟨hns, e1 ns, fun p q b c _ _ e => Nat.succ.inj e, fun p b hb => ?_⟩
      rcases p with _ | _ | p
      · rw [lm0] at hb; simp only [id, e2] at hb; injection hb with hb; subst hb
        exact ⟨rfl, _, rfl, fun _ h => h, rfl, fun _ h => h⟩
      · cases hb
      · simp [listMem] at hb
    | false =>
      rw [gsV_own hz, gsE_own hz]
      have key := (mkE_append (P := P) (t := t) (ty := ty) ht h1 A.nm A.n A.r k bo os m cc C hC A.f h S hS hb).toO
      refine key.as (.refl _) id fun ns _ => ⟨by assumption, ?_, ?_, ?_⟩
      · show gsV _ = _
        rw [gsV_own (by simp [Grw.cat, hmz])]; simp only [Grw.cat, id]
      · rw [gsE_own (by simp [Grw.cat, hmz])]
        simp only [Grw.cat, id]
        exact .kp _ _ ⟨fun _ h => h, rfl, fun w hw => hw⟩ (.dr _ (.zz _))
      · rw [gsE_own (by simp [Grw.cat, hmz])]; exact ⟨rfl, trivial⟩
end
theorem gs_le (hA : A.ok) : A.n ≤ gsC A := by
  unfold gsC; cases hz : A.z with
  | true => rw [hA hz]; exact Nat.zero_le _
  | false => simp only; omega
end
section
variable {P : Program} {t ty e : TypeId}
theorem mkE_build0 {sz B : Nat} {zc : List Value} (ht : P.underlying t = some (.slice e)) (h1 : AggC P e zc sz B) {α : Type} (K : α → List Value) (g : Nat → α) :
    SRuns P (buildSem t 0 #[]) [] 1 (fun ns => .slice (some ⟨ns.getD 0 0, 0, none⟩) 0 0) (fun ns => [some ⟨ns.getD 0 0, true, 0, sprE sz (0 + 0) 0 (fun k => K (g k)) zc⟩]) := by
  obtain ⟨i, z, hi, hz, hsz, hB, hzc, hzl, hs0⟩ := h1
  have h0 : SRuns P (buildSem t 0 #[]) [] 1 (fun ns => .slice (some ⟨ns.getD 0 0, 0, none⟩) 0 0) (fun ns => [some ⟨ns.getD 0 0, true, 0, .lit (#[] : Array Value).toList⟩]) := srun_made (e := e) fun w => by
    refine run_value ?_
    simp [Instr.buildSlice, run_underlying ht, sizeOf, typeInfo, hi, newRow, Instr.fill]
    exact congrArg (fun a => w.alloc (Obj.cells a e)) (Array.eq_empty_of_size_eq_zero (by simp))
  exact h0.recont (C' := fun _ => sprE sz (0 + 0) 0 (fun k => K (g k)) zc) (fun _ => rfl) fun ns o v ho => by
    rw [sprE_out (by omega)] at ho; cases ho
end
section
end
theorem RunsO.darkO {F : Blk → Prop} {P : Program} {f : FuncId} {args : List Value} {bs : List (Option Blk)} {k : Nat} {v : List Nat → Value} {out : List Nat → List (Option Blk)} (fl : List Bool) (h : RunsO F P f args bs k v out) :
    RunsO F P f args bs k v (fun ns => dkn fl (out ns)) := fun w hb ha hF => Calls.mono (h w hb ha hF) fun _ _ ⟨ns, h1, h2, h3⟩ => ⟨ns, h1, h2, h3.sub (dkn_sub fl (out ns))⟩
end Go.Eng
end
section
namespace Go.Eng
open Go.RowKit Go.WideShapes Go.ChangeShapes Go.ChangeAt Go.Deep
theorem catU_zero (f g : Nat → UInt8) : catU f 0 g = g := by funext k; unfold catU; rw [if_neg (by omega)]; rfl
def u8C (x : UInt8) : List Value := [u8 x]
theorem gsE_u8 (A : Grw UInt8) : gsE u8C [u8 0] 1 A = grO u8 (u8 0) A := by
  unfold gsE grO
  cases A.z with
  | true => rfl
  | false =>
    simp only
    congr 2
    unfold sprE spr tabF
    congr 1
    funext k
    by_cases h : k < A.n
    · show _ = [if k < A.n then u8 (A.f k) else u8 0]
      rw [if_pos h, if_pos h]; rfl
    · show _ = [if k < A.n then u8 (A.f k) else u8 0]
      rw [if_neg h, if_neg h]
theorem gs_src {α : Type} {C : α → List Value} {zc : List Value} {sz : Nat} (A : Grw α) (hA : A.ok) (hsz : 0 < sz) (hC : ∀ a, (C a).length = sz) (hz : zc.length = sz) :
    0 < A.n → ∃ k bo os S, gsA A = some ⟨k, bo + os, none⟩ ∧ roO (gsE C zc sz A) = some ⟨k, false, bo, S⟩ ∧ ∀ j, j < A.n * sz → S.get (os + j) = some (cf sz (fun k => C (A.f k)) j) := fun h0 => by
  have hz' := hA.pos h0
  refine ⟨A.nm, 0, 0, sprE sz (A.n + A.r) A.n (fun k => C (A.f k)) zc, gsA_own hz', by rw [gsE_own hz']; rfl, fun j hj => ?_⟩
  have h1 : j < (A.n + A.r) * sz := by rw [Nat.add_mul]; omega
  rw [Nat.zero_add]
  unfold sprE
  rw [tabE_in hsz (fun k _ => by split; exact hC _; exact hz) h1, cf_spr_lt hj]
end Go.Eng
end
section
namespace Go.Eng
theorem gsE_own8 {n a r : Nat} {f : Nat → UInt8} : gsE u8C [u8 0] 1 (⟨false, a, n, r, f⟩ : Grw UInt8) = some ⟨a, true, 0, spr (n + r) n (fun k => u8 (f k)) (u8 0)⟩ := by rw [gsE_u8]; rfl
theorem wr_G {F : Blk → Prop} {P : Program} {k : FuncId} {args : List Value} {w : Nat} (W : Grw UInt8) (hW : W.ok) {m : Nat} {h : Nat → UInt8} (hm : 0 < m)
    (hown : W.z = false → RunsF F P k args [⟨w, true, 0, .lit [.slice (some ⟨W.nm, 0, none⟩) W.n (W.n + W.r)]⟩, ⟨W.nm, true, 0, spr (W.n + W.r) W.n (fun k => u8 (W.f k)) (u8 0)⟩] 2 (fun _ => .tuple #[]) (fun ns => [some ⟨w, true, 0, .lit [.slice (some ⟨ns.getD 0 0, 0, none⟩) (W.n + m) (W.n + m + ns.getD 1 0)]⟩, some ⟨ns.getD 0 0, true, 0, spr (W.n + m + ns.getD 1 0) (W.n + m) (fun k => u8 (catU W.f W.n h k)) (u8 0)⟩]))
    (hnil : RunsF F P k args [⟨w, true, 0, .lit [.slice none 0 0]⟩] 2 (fun _ => .tuple #[]) (fun ns => [some ⟨w, true, 0, .lit [.slice (some ⟨ns.getD 0 0, 0, none⟩) m (m + ns.getD 1 0)]⟩, some ⟨ns.getD 0 0, true, 0, spr (m + ns.getD 1 0) m (fun k => u8 (h k)) (u8 0)⟩])) :
    RunsO F P k args [some ⟨w, true, 0, .lit [gsV W]⟩, gsE u8C [u8 0] 1 W] 2 (fun _ => .tuple #[]) (fun ns => [some ⟨w, true, 0, .lit [gsV (W.cat m h (ns.getD 0 0) (ns.getD 1 0))]⟩, gsE u8C [u8 0] 1 (W.cat m h (ns.getD 0 0) (ns.getD 1 0))]) := by
  have hz : ∀ a r, W.cat m h a r = ⟨false, a, W.n + m, r, catU W.f W.n h⟩ := fun a r => by
    unfold Grw.cat; rw [decide_eq_false (by omega), Bool.false_and]
  simp only [hz, gsE_own8]
  cases hc : W.z with
  | false =>
    have h1 := (hown hc).toO
    rw [gsV_own hc, show gsE u8C [u8 0] 1 W = some ⟨W.nm, true, 0, spr (W.n + W.r) W.n (fun k => u8 (W.f k)) (u8 0)⟩ from by rw [gsE_u8]; unfold grO; rw [hc]]
    exact h1
  | true =>
    have hn := hW hc
    have h1 := hnil.toO
    rw [gsV_nil hc hW, gsE_nil hc, hn]
    refine h1.as (.cons _ (.zz _)) id fun ns hns => ⟨hns, rfl, ?_, ⟨rfl, rfl, trivial⟩⟩
    simp only [id, Nat.zero_add, catU_zero]
    exact .refl _
end Go.Eng
namespace Go.Eng
end Go.Eng
namespace Go.Eng
end Go.Eng
end
section
namespace Go.Proofs.Ytnailbicmhkmbaa
open Go Go.Eng
theorem wsmall_G {F : Blk → Prop} (w : Nat) (W : Grw UInt8) (hW : W.ok) (x : UInt64) (hn : W.n ≤ 60000) : RunsO F Try.prog 30 [ptr w 0, u64 x] [some ⟨w, true, 0, .lit [gsV W]⟩, gsE u8C [u8 0] 1 W] 2 (fun _ => .tuple #[]) (fun ns => [some ⟨w, true, 0, .lit [gsV (W.cat (smN x) (smB x) (ns.getD 0 0) (ns.getD 1 0))]⟩, gsE u8C [u8 0] 1 (W.cat (smN x) (smB x) (ns.getD 0 0) (ns.getD 1 0))]) :=
  wr_G W hW (m := smN x) (h := smB x) (by have := smN_rng x; omega) (fun _ => (wsmall_own w W.nm W.n W.r W.f x (by omega)).toF) (wsmall_nil w x).toF
theorem wbytes_G {F : Blk → Prop} (w : Nat) (W : Grw UInt8) (hW : W.ok) (q : BytL) (hq : OkB q) (hl : q.wn ≤ 100000) (hn : W.n ≤ 60000) : RunsO (famB q) Try.prog 31 [ptr w 0, .slice q.wa q.wn q.wc] [some ⟨w, true, 0, .lit [gsV W]⟩, gsE u8C [u8 0] 1 W] 2 (fun _ => .tuple #[]) (fun ns => [some ⟨w, true, 0, .lit [gsV (W.cat (byN q.wn) (byB q.wf q.wn) (ns.getD 0 0) (ns.getD 1 0))]⟩, gsE u8C [u8 0] 1 (W.cat (byN q.wn) (byB q.wf q.wn) (ns.getD 0 0) (ns.getD 1 0))]) :=
  wr_G W hW (m := byN q.wn) (h := byB q.wf q.wn) (by have := byN_rng q.wn; omega) (fun _ => wbytes_own w W.nm W.n W.r W.f q (by omega) hq hl) (wbytes_nil w q hq hl)
end Go.Proofs.Ytnailbicmhkmbaa
end
section
namespace Go.Eng
theorem dig_be {f : Nat → UInt8} {n j : Nat} (hj : j < n) : dig (beN f n n) j = (f (n - 1 - j)).toNat :=
  (dig_of_num (f := fun j => (f (n - 1 - j)).toNat) (fun i _ => (f _).toNat_lt) rfl j hj).symm
theorem u8_back (x : UInt8) : UInt8.ofNat x.toNat = x := UInt8.toNat_inj.1 (by rw [UInt8.toNat_ofNat', Nat.mod_eq_of_lt x.toNat_lt])
theorem smV_val {f : Nat → UInt8} (h : (f 0).toNat ≤ 8) : (smV f).toNat = beN (fun k => f (k + 1)) (f 0).toNat (f 0).toNat := by
  have h1 := add1_8 (x := f 0) (by omega)
  unfold smV
  rw [h1, show 1 + (f 0).toNat - 1 = (f 0).toNat by omega]
  have hlt : beN (fun k => f (k + 1)) (f 0).toNat (f 0).toNat < 2 ^ 64 := Nat.lt_of_lt_of_le (beN_lt _ _ _) (by rw [pow256]; exact Nat.pow_le_pow_right (by omega) (by omega))
  have h2 : (ofN (fun k => f (k + 1)) (f 0).toNat) = N4.ofNat (beN (fun k => f (k + 1)) (f 0).toNat (f 0).toNat) := by
    unfold ofN
    rw [show decide (32 < (f 0).toNat) = false from decide_eq_false (by omega)]
  have h3 : (N4.ofNat (beN (fun k => f (k + 1)) (f 0).toNat (f 0).toNat)).val = beN (fun k => f (k + 1)) (f 0).toNat (f 0).toNat := by
    rw [N4.val_ofNat, Nat.mod_eq_of_lt (Nat.lt_trans hlt (by decide))]
  rw [h2]
  generalize N4.ofNat (beN (fun k => f (k + 1)) (f 0).toNat (f 0).toNat) = a at h3
  have ha := a.a.toNat_lt
  unfold N4.val at h3
  omega
theorem szU_smV {f : Nat → UInt8} (h : (f 0).toNat ≤ 8) (h1 : ¬ (0 < (f 0).toNat ∧ (f 1 == 0) = true)) : szU (smV f) = (f 0).toNat := by
  have hv := smV_val h
  have hlt : (smV f).toNat < 256 ^ (f 0).toNat := by rw [hv]; exact beN_lt _ _ _
  have hl := szU_lt (smV f)
  rcases Nat.lt_trichotomy (szU (smV f)) (f 0).toNat with h2 | h2 | h2
  · exfalso
    obtain ⟨s, hs⟩ : ∃ s, (f 0).toNat = s + 1 := ⟨(f 0).toNat - 1, by omega⟩
    have h3 : 1 ≤ (f 1).toNat := by
      rcases Nat.eq_zero_or_pos (f 1).toNat with h4 | h4
      · exact absurd ⟨by omega, by rw [beq_iff_eq]; exact UInt8.toNat_inj.1 h4⟩ h1
      · exact h4
    have h5 : 256 ^ s ≤ (smV f).toNat := by
      rw [hv, hs]
      show 256 ^ s ≤ numOf (fun j => (f (s + 1 - 1 - j + 1)).toNat) (s + 1)
      simp only [numOf]
      rw [show s + 1 - 1 - s + 1 = 1 by omega]
      have h6 : 1 * 256 ^ s ≤ (f 1).toNat * 256 ^ s := Nat.mul_le_mul_right _ h3
      omega
    have h6 : 256 ^ szU (smV f) ≤ 256 ^ s := Nat.pow_le_pow_right (by omega) (by omega)
    omega
  · exact h2
  · exfalso
    have h3 := szU_ge (x := smV f) (by omega)
    have h4 : 256 ^ (f 0).toNat ≤ 256 ^ (szU (smV f) - 1) := Nat.pow_le_pow_right (by omega) (by omega)
    omega
theorem small_again {f : Nat → UInt8} (h : (f 0).toNat ≤ 8) (h1 : ¬ (0 < (f 0).toNat ∧ (f 1 == 0) = true)) : smN (smV f) = (f 0).toNat + 1 ∧ ∀ k, k < smN (smV f) → smB (smV f) k = f k := by
  have hz := szU_smV h h1
  refine ⟨by unfold smN; rw [hz], fun k hk => ?_⟩
  unfold smN at hk
  rcases Nat.eq_zero_or_pos k with h0 | h0
  · subst h0
    unfold smB
    rw [if_pos rfl, hz, u8_back]
  · rw [smB_dig _ h0 (by omega), hz, smV_val h, dig_be (by omega), show (f 0).toNat - 1 - ((f 0).toNat - k) + 1 = k by omega, u8_back]
def AgS (Q Q' : BytL) (E E' : Int) (n : Nat) (g : Nat → UInt8) : Prop := E' = 0 → E = 0 ∧ n + Q'.wn = Q.wn ∧ (∀ k, k < n → g k = Q.wf k) ∧ ∀ k, Q'.wf k = Q.wf (n + k)
theorem ag_small (Q : BytL) (E : Int) (x : UInt64) : AgS Q (rsQ Q E x) E (rsE Q E x) (smN (rsV Q E x)) (smB (rsV Q E x)) := fun h => by
  obtain ⟨h1, h2⟩ := failE_zero h
  obtain ⟨a, b, c, d, _, e⟩ := wrE_zero h2
  obtain ⟨e1, e2⟩ := rs_in h
  obtain ⟨g1, g2⟩ := small_again b e
  rw [e1, e2, d]
  refine ⟨h1, ?_, g2, fun k => ?_⟩
  · rw [g1]; show _ + (Q.wn - _) = _; omega
  · rw [g1]; show Q.wf (k + _) = _; congr 1; omega
theorem ag_take {Q : BytL} {E : Int} {n : Nat} {g : Nat → UInt8} (hg : E = 0 → ∀ k, k < n → g k = Q.wf k) : AgS Q (tkQ Q E n) E (tkE Q E n) n g := fun h => by
  obtain ⟨h1, h2⟩ := tkE_zero h
  rw [tk_in h]
  refine ⟨h1, ?_, hg h1, fun k => ?_⟩
  · show _ + (Q.wn - n) = _; omega
  · show Q.wf (k + n) = _; congr 1; omega
theorem ag_cat {Q Q1 Q2 : BytL} {E E1 E2 : Int} {n m : Nat} {f g : Nat → UInt8} (h1 : AgS Q Q1 E E1 n f) (h2 : AgS Q1 Q2 E1 E2 m g) : AgS Q Q2 E E2 (n + m) (catU f n g) := fun h => by
  obtain ⟨a1, a2, a3, a4⟩ := h2 h
  obtain ⟨b1, b2, b3, b4⟩ := h1 a1
  refine ⟨b1, by omega, fun k hk => ?_, fun k => by rw [a4, b4, Nat.add_assoc]⟩
  unfold catU
  by_cases h5 : k < n
  · rw [if_pos h5]; exact b3 k h5
  · rw [if_neg h5, a3 _ (by omega), b4, show n + (k - n) = k by omega]
theorem ctE1_zero {e m : Int} (h : ctE1 e m = 0) : e = 0 := by
  unfold ctE1 at h
  by_cases h1 : m < 0
  · rw [if_pos h1] at h; exact (failE_zero h).1
  · rw [if_neg h1] at h; exact h
theorem ag_count (Q : BytL) (E m : Int) {z : Nat} : AgS Q (ctQ Q E m) E (ctE Q E m z) (smN (UInt64.ofNat (ctN Q E m z))) (smB (UInt64.ofNat (ctN Q E m z))) := fun h => by
  by_cases h1 : (rsQ Q (ctE1 E m) (u64i m)).wn / z < (rsV Q (ctE1 E m) (u64i m)).toNat
  · rw [(ct_in h1).1] at h
    exact absurd (failE_zero h).2 (by decide)
  · obtain ⟨e1, e2⟩ := ct_out h1
    rw [e1] at h
    have h2 := ag_small Q (ctE1 E m) (u64i m) h
    rw [e2, UInt64.ofNat_toNat]
    exact ⟨ctE1_zero h2.1, h2.2⟩
theorem ag_bytes (Q : BytL) (E m : Int) : AgS Q (rbQ Q E m) E (rbE Q E m) (byN (rbN Q E m)) (byB (ctQ Q E m).wf (rbN Q E m)) := fun h => by
  rw [(rb_good h).1]
  exact ag_cat (ag_count Q E m (z := 1)) (ag_take (g := (ctQ Q E m).wf) fun _ _ _ => rfl) h
end Go.Eng
namespace Go.Eng
end Go.Eng
namespace Go.Eng
end Go.Eng
namespace Go.Eng
end Go.Eng
end
section
namespace Go.Eng
theorem smB_0 (x : UInt64) : (smB x 0).toNat = szU x := by
  have := szU_le x
  unfold smB
  rw [if_pos rfl, UInt8.toNat_ofNat', Nat.mod_eq_of_lt (by omega)]
theorem smB_1 {x : UInt64} (h : 0 < szU x) : 0 < (smB x 1).toNat := by
  rw [smB_dig x (by omega) (by omega), UInt8.toNat_ofNat', Nat.mod_eq_of_lt (dig_lt _ _)]
  have h1 := szU_ge (x := x) (by omega)
  have h2 := szU_lt x
  unfold dig
  have hp : 0 < 256 ^ (szU x - 1) := Nat.pow_pos (by omega)
  have h3 : 1 ≤ x.toNat / 256 ^ (szU x - 1) := (Nat.le_div_iff_mul_le hp).2 (by omega)
  have h4 : x.toNat / 256 ^ (szU x - 1) < 256 := by
    rw [Nat.div_lt_iff_lt_mul hp, Nat.mul_comm, ← Nat.pow_succ]
    show _ < 256 ^ (szU x - 1 + 1)
    rw [show szU x - 1 + 1 = szU x by omega]
    exact h2
  rw [Nat.mod_eq_of_lt h4]
  omega
theorem small_back {x : UInt64} {f : Nat → UInt8} {n : Nat} {l : UInt64} (hf : ∀ k, k < smN x → f k = smB x k) (hn : smN x ≤ n) (hl : ¬ l < x) : wrE f n l = 0 ∧ smV f = x ∧ (1 + f 0).toNat = smN x := by
  have hz := szU_le x
  have h0 : (f 0).toNat = szU x := by rw [hf 0 (smN_rng x).1, smB_0]
  have hs : smN x = szU x + 1 := rfl
  have hv : smV f = x := UInt64.toNat_inj.1 (by
    rw [smV_val (by omega), h0]
    have h1 : beN (fun k => f (k + 1)) (szU x) (szU x) = numOf (dig x.toNat) (szU x) := numOf_congr fun j hj => by
      show (f (szU x - 1 - j + 1)).toNat = _
      rw [hf _ (by omega), smB_dig x (by omega) (by omega), UInt8.toNat_ofNat', Nat.mod_eq_of_lt (dig_lt _ _), show szU x - (szU x - 1 - j + 1) = j by omega]
    rw [h1, numOf_dig, Nat.mod_eq_of_lt (szU_lt x)])
  refine ⟨(wr_0 (by omega) (by omega) ?_ (by rw [hv]; exact hl)).symm, hv, by rw [add1_8 (by omega)]; omega⟩
  rintro (h1 | ⟨h1, h2⟩)
  · omega
  · have h3 := smB_1 (x := x) (by omega)
    rw [← hf 1 (by omega)] at h3
    rw [beq_iff_eq] at h2
    rw [h2] at h3
    exact absurd h3 (by decide)
theorem small_short {x : UInt64} {f : Nat → UInt8} {n : Nat} {l : UInt64} (hf : ∀ k, k < n → f k = smB x k) (hn : n < smN x) : wrE f n l = 3 := by
  have hz := szU_le x
  have hs : smN x = szU x + 1 := rfl
  refine (wr_3 ?_).symm
  rcases Nat.eq_zero_or_pos n with h0 | h0
  · exact .inl h0
  · have h1 : (f 0).toNat = szU x := by rw [hf 0 h0, smB_0]
    exact .inr ⟨by omega, by omega⟩
def FwS (Q Q' : BytL) (E' : Int) (n : Nat) (V : Prop) : Prop := (n ≤ Q.wn ∧ E' = 0 ∧ Q'.wn + n = Q.wn ∧ (∀ k, Q'.wf k = Q.wf (n + k)) ∧ V) ∨ (Q.wn < n ∧ E' = 3)
def At (Q : BytL) (n : Nat) (g : Nat → UInt8) : Prop := ∀ k, k < n → k < Q.wn → Q.wf k = g k
theorem fw_small {Q : BytL} {x l : UInt64} (h : At Q (smN x) (smB x)) (hl : ¬ l < x) : FwS Q (rsQ Q 0 l) (rsE Q 0 l) (smN x) (rsV Q 0 l = x) := by
  rcases Nat.lt_or_ge Q.wn (smN x) with h1 | h1
  · exact .inr ⟨h1, by show failE 0 _ = 3; rw [show failE 0 (wrE Q.wf Q.wn l) = wrE Q.wf Q.wn l from if_pos rfl]; exact small_short (fun k hk => h k (by omega) hk) h1⟩
  · obtain ⟨a, b, c⟩ := small_back (f := Q.wf) (n := Q.wn) (l := l) (fun k hk => h k hk (by omega)) h1 hl
    have hE : rsE Q 0 l = 0 := by show failE 0 _ = 0; rw [a]; rfl
    obtain ⟨e1, e2⟩ := rs_in hE
    rw [e1, e2, c]
    refine .inl ⟨h1, hE, ?_, fun k => ?_, b⟩
    · show Q.wn - smN x + smN x = _; omega
    · show Q.wf (k + smN x) = _; rw [Nat.add_comm]
theorem fw_count {Q : BytL} {n z : Nat} {m : Int} (hz : 0 < z) (hm : 0 ≤ m) (hm2 : m ≤ 9223372036854775807) (hn : n ≤ m.toNat) (h : At Q (smN (UInt64.ofNat n)) (smB (UInt64.ofNat n))) :
    (smN (UInt64.ofNat n) + n * z ≤ Q.wn ∧ ctE Q 0 m z = 0 ∧ ctN Q 0 m z = n ∧ (ctQ Q 0 m).wn + smN (UInt64.ofNat n) = Q.wn ∧ ∀ k, (ctQ Q 0 m).wf k = Q.wf (smN (UInt64.ofNat n) + k)) ∨
    (Q.wn < smN (UInt64.ofNat n) + n * z ∧ ctE Q 0 m z = 3 ∧ ctN Q 0 m z = 0) := by
  have e1 : ctE1 0 m = 0 := by unfold ctE1; rw [if_neg (by omega)]
  have hx : (UInt64.ofNat n).toNat = n := by rw [UInt64.toNat_ofNat']; omega
  have hl : ¬ u64i m < UInt64.ofNat n := by
    rw [UInt64.lt_iff_toNat_lt, hx, u64i_nat hm hm2]; omega
  rcases fw_small h hl with ⟨h1, h2, h3, h4, h5⟩ | ⟨h1, h2⟩
  · have hv : ctV Q 0 m = n := by unfold ctV; rw [e1, h5, hx]
    have hq : ctQ Q 0 m = rsQ Q 0 (u64i m) := by unfold ctQ; rw [e1]
    rw [← hq] at h3 h4
    by_cases hd : (ctQ Q 0 m).wn / z < n
    · refine .inr ⟨?_, ?_, ?_⟩
      · have := (Nat.div_lt_iff_lt_mul hz).1 hd
        omega
      · unfold ctE; rw [hv, if_pos hd, e1, h2]; rfl
      · unfold ctN; rw [hv, if_pos hd]
    · refine .inl ⟨?_, ?_, ?_, h3, h4⟩
      · have := (Nat.le_div_iff_mul_le hz).1 (Nat.le_of_not_lt hd)
        omega
      · unfold ctE; rw [hv, if_neg hd, e1, h2]
      · unfold ctN; rw [hv, if_neg hd]
  · have hv : ctV Q 0 m = 0 := by
      unfold ctV
      rw [e1, (rs_out (by rw [h2]; decide)).2]; rfl
    refine .inr ⟨by omega, ?_, ?_⟩
    · unfold ctE; rw [hv, if_neg (Nat.not_lt_zero _), e1, h2]
    · unfold ctN; rw [hv, if_neg (Nat.not_lt_zero _)]
theorem at_first {Q : BytL} {n m : Nat} {f g : Nat → UInt8} (h : At Q (n + m) (catU f n g)) : At Q n f := fun k hk hq => by
  rw [h k (by omega) hq]; unfold catU; rw [if_pos hk]
theorem at_rest {Q Q' : BytL} {n m : Nat} {f g : Nat → UInt8} (h : At Q (n + m) (catU f n g)) (hn : Q'.wn + n = Q.wn) (hf : ∀ k, Q'.wf k = Q.wf (n + k)) : At Q' m g := fun k hk hq => by
  rw [hf, h _ (by omega) (by omega)]
  unfold catU
  rw [if_neg (by omega), show n + k - n = k by omega]
theorem fw_bytes {Q : BytL} {n : Nat} {B : Nat → UInt8} {m : Int} (hm : 0 ≤ m) (hm2 : m ≤ 9223372036854775807) (hn : n ≤ m.toNat) (h : At Q (byN n) (byB B n)) :
    FwS Q (rbQ Q 0 m) (rbE Q 0 m) (byN n) (rbN Q 0 m = n ∧ ∀ k, k < n → (ctQ Q 0 m).wf k = B k) := by
  rcases fw_count (z := 1) (by decide) hm hm2 hn (at_first h) with ⟨h1, h2, h3, h4, h5⟩ | ⟨h1, h2, h3⟩
  · have hat := at_rest h h4 h5
    have hE : tkE (ctQ Q 0 m) (ctE Q 0 m 1) (ctN Q 0 m 1) = 0 := by rw [h2, h3]; unfold tkE; rw [if_neg (by omega)]
    refine .inl ⟨by unfold byN; omega, hE, ?_, fun k => ?_, ?_, fun k hk => hat k hk (by omega)⟩
    · unfold rbQ byN; rw [tk_in hE, h3]
      show (ctQ Q 0 m).wn - n + _ = _
      omega
    · unfold rbQ byN; rw [tk_in hE, h3]
      show (ctQ Q 0 m).wf (k + n) = _
      rw [h5]; congr 1; omega
    · rw [(rb_good hE).1, h3]
  · refine .inr ⟨by unfold byN; omega, ?_⟩
    unfold rbE; rw [h2, h3]; unfold tkE; rw [if_neg (Nat.not_lt_zero _)]
end Go.Eng
namespace Go.Eng
end Go.Eng
end
section
namespace Go.Eng
structure NatL where
  la : Option Addr
  ln : Nat
  lc : Nat
  lb : Nat
  lo : Nat
  lf : Nat → N4
instance : Inhabited NatL := ⟨⟨none, 0, 0, 0, 0, fun _ => N4.mk 0 0 0 0⟩⟩
section
open Go.RowKit Go.WideShapes Go.ChangeShapes Go.ChangeAt Go.Deep
variable {H : Type} {enc : TypeId × Value → H} {P : Program}
end
end Go.Eng
end
section
namespace Go.Eng
section words32
variable {P : Program} {t t' : TypeId} {x y : Operand} (a b : UInt32)
def shl32 (a : UInt32) (n : Nat) : UInt32 := .ofNat (a.toNat * 2 ^ n)
def shr32 (a : UInt32) (n : Nat) : UInt32 := .ofNat (a.toNat / 2 ^ n)
end words32
section
variable {P : Program} {s d : TypeId} {x : Operand}
end
end Go.Eng
namespace Go.Eng
def rot (x : UInt32) (n : Nat) : UInt32 := shl32 x (32 - n) ||| shr32 x n
structure W8 where
  a : UInt32
  b : UInt32
  c : UInt32
  d : UInt32
  e : UInt32
  f : UInt32
  g : UInt32
  h : UInt32
def rndX (s : W8) (add : UInt32) : UInt32 := s.h + (rot s.e 6 ^^^ rot s.e 11 ^^^ rot s.e 25) + (s.e &&& s.f ^^^ ~~~s.e &&& s.g) + add
def rndY (s : W8) : UInt32 := (rot s.a 2 ^^^ rot s.a 13 ^^^ rot s.a 22) + (s.a &&& s.b ^^^ s.a &&& s.c ^^^ s.b &&& s.c)
def rndS (s : W8) (add : UInt32) : W8 := ⟨rndX s add + rndY s, s.a, s.b, s.c, s.d + rndX s add, s.e, s.f, s.g⟩
end Go.Eng
namespace Go.Eng
section
variable {P : Program} {t e : TypeId} {x y : Operand}
end
end Go.Eng
namespace Go.Eng
def sp1 (b : Nat → UInt8) : Nat → (Nat → UInt32)
  | 0 => fun _ => 0
  | i + 1 => upd (sp1 b i) (i / 4) (shl32 (sp1 b i (i / 4)) 8 ||| (b i).toUInt32)
def sg0 (x : UInt32) : UInt32 := rot x 7 ^^^ rot x 18 ^^^ shr32 x 3
def sg1 (x : UInt32) : UInt32 := rot x 17 ^^^ rot x 19 ^^^ shr32 x 10
def sp2 (b : Nat → UInt8) : Nat → (Nat → UInt32)
  | 0 => sp1 b 64
  | j + 1 => upd (sp2 b j) (j + 16) (sp2 b j (j + 16 - 16) + sp2 b j (j + 16 - 7) + sg0 (sp2 b j (j + 16 - 15)) + sg1 (sp2 b j (j + 16 - 2)))
def sprW (b : Nat → UInt8) : Nat → UInt32 := sp2 b 48
end Go.Eng
namespace Go.Eng
def W8.get (s : W8) : Nat → UInt32
  | 0 => s.a
  | 1 => s.b
  | 2 => s.c
  | 3 => s.d
  | 4 => s.e
  | 5 => s.f
  | 6 => s.g
  | _ => s.h
def w8F (s : Nat → UInt32) : W8 := ⟨s 0, s 1, s 2, s 3, s 4, s 5, s 6, s 7⟩
def rndF (s : Nat → UInt32) (add : UInt32) : Nat → UInt32 := (rndS (w8F s) add).get
def rndK : List Nat := [1116352408, 1899447441, 3049323471, 3921009573, 961987163, 1508970993, 2453635748, 2870763221, 3624381080, 310598401, 607225278, 1426881987, 1925078388, 2162078206, 2614888103, 3248222580, 3835390401, 4022224774, 264347078, 604807628, 770255983, 1249150122, 1555081692, 1996064986, 2554220882, 2821834349, 2952996808, 3210313671, 3336571891, 3584528711, 113926993, 338241895, 666307205, 773529912, 1294757372, 1396182291, 1695183700, 1986661051, 2177026350, 2456956037, 2730485921, 2820302411, 3259730800, 3345764771, 3516065817, 3600352804, 4094571909, 275423344, 430227734, 506948616, 659060556, 883997877, 958139571, 1322822218, 1537002063, 1747873779, 1955562222, 2024104815, 2227730452, 2361852424, 2428436474, 2756734187, 3204031479, 3329325298]
def rndW (i : Nat) : UInt32 := .ofNat (rndK.getD i 0)
def mixR (s w : Nat → UInt32) : Nat → (Nat → UInt32)
  | 0 => s
  | i + 1 => rndF (mixR s w i) (rndW i + w i)
def addR (s t : Nat → UInt32) : Nat → (Nat → UInt32)
  | 0 => t
  | i + 1 => upd (addR s t i) i (addR s t i i + s i)
def mixS (s : Nat → UInt32) (b : Nat → UInt8) : Nat → UInt32 := addR s (mixR s (sprW b) 64) 8
def begK : List Nat := [1779033703, 3144134277, 1013904242, 2773480762, 1359893119, 2600822924, 528734635, 1541459225]
def begW (i : Nat) : UInt32 := .ofNat (begK.getD i 0)
def begB : Blk := ⟨0, false, 0, litF 8 fun k => u32 (begW k)⟩
def rndB : Blk := ⟨1, false, 0, tabF 64 fun k => u32 (rndW k)⟩
def famT (b : Blk) : Prop := b = begB ∨ b = rndB
end Go.Eng
namespace Go.Eng
end Go.Eng
end
section
namespace Go.Eng
structure HS where
  s : Nat → UInt32
  l : Nat → UInt8
  n : UInt64
def cpyL {α : Type} (l : Nat → α) (i n : Nat) (g : Nat → α) : Nat → α := fun k => if i ≤ k ∧ k < i + n then g (k - i) else l k
theorem cpyL_zero {α : Type} (l : Nat → α) (i : Nat) (g : Nat → α) : cpyL l i 0 g = l := by
  funext k; unfold cpyL; rw [if_neg (by omega)]
theorem cpyL_succ {α : Type} (l : Nat → α) (i n : Nat) (g : Nat → α) : upd (cpyL l i n g) (i + n) (g n) = cpyL l i (n + 1) g := by
  funext k; unfold upd cpyL
  by_cases h : k = i + n
  · subst h; rw [if_pos rfl, if_pos (by omega), Nat.add_sub_cancel_left]
  · rw [if_neg h]
    by_cases h2 : i ≤ k ∧ k < i + n
    · rw [if_pos h2, if_pos (by omega)]
    · rw [if_neg h2, if_neg (by omega)]
section
variable {P : Program} {dT sT ty e : TypeId}
end
def put (H : HS) (x : UInt8) : HS :=
  if (H.n + 1) % 64 = 0 then ⟨mixS H.s (upd H.l (H.n % 64).toNat x), upd H.l (H.n % 64).toNat x, H.n + 1⟩ else ⟨H.s, upd H.l (H.n % 64).toNat x, H.n + 1⟩
def puts (H : HS) (f : Nat → UInt8) : Nat → HS
  | 0 => H
  | k + 1 => put (puts H f k) (f k)
theorem puts_add (H : HS) (f : Nat → UInt8) (a : Nat) : ∀ b, puts H f (a + b) = puts (puts H f a) (fun k => f (a + k)) b
  | 0 => rfl
  | b + 1 => by show put (puts H f (a + b)) (f (a + b)) = put _ (f (a + b)); rw [puts_add H f a b]
theorem puts_congr (H : HS) {f g : Nat → UInt8} : ∀ {n : Nat}, (∀ k, k < n → f k = g k) → puts H f n = puts H g n
  | 0, _ => rfl
  | n + 1, h => by rw [puts, puts, puts_congr H (fun k hk => h k (by omega)), h n (by omega)]
theorem n64_lt (n : UInt64) : (n % 64).toNat < 64 := by
  rw [UInt64.toNat_mod]; exact Nat.mod_lt _ (by decide)
theorem n64_add (n : UInt64) (k : Nat) (h : (n % 64).toNat + k < 64) : ((n + UInt64.ofNat k) % 64).toNat = (n % 64).toNat + k := by
  have h1 : (64 : UInt64).toNat = 64 := rfl
  rw [UInt64.toNat_mod, h1] at h
  rw [UInt64.toNat_mod, UInt64.toNat_mod, h1]
  rw [UInt64.toNat_add, UInt64.toNat_ofNat']
  have := n.toNat_lt
  omega
theorem n64_end (n : UInt64) (k : Nat) (h : (n % 64).toNat + k = 64) : (n + UInt64.ofNat k) % 64 = 0 := by
  apply UInt64.toNat_inj.1
  have h1 : (64 : UInt64).toNat = 64 := rfl
  rw [UInt64.toNat_mod, h1] at h ⊢
  rw [UInt64.toNat_add, UInt64.toNat_ofNat']
  have := n.toNat_lt
  show _ = 0
  omega
theorem n_succ (n : UInt64) (k : Nat) : n + UInt64.ofNat k + 1 = n + UInt64.ofNat (k + 1) := by
  apply UInt64.toNat_inj.1
  simp only [UInt64.toNat_add, UInt64.toNat_ofNat']
  have h1 : (1 : UInt64).toNat = 1 := rfl
  rw [h1]
  omega
theorem puts_mid (H : HS) (g : Nat → UInt8) : ∀ {k : Nat}, (H.n % 64).toNat + k < 64 → puts H g k = ⟨H.s, cpyL H.l (H.n % 64).toNat k g, H.n + UInt64.ofNat k⟩
  | 0, _ => by
    rw [puts, cpyL_zero]
    show H = ⟨H.s, H.l, H.n + 0⟩
    rw [UInt64.add_zero]
  | k + 1, h => by
    have hz : ¬ (H.n + UInt64.ofNat (k + 1)) % 64 = 0 := fun e => by
      have h1 := n64_add H.n (k + 1) (by omega)
      rw [e] at h1
      have h2 : (0 : UInt64).toNat = 0 := rfl
      omega
    rw [puts, puts_mid H g (by omega), put]
    simp only [n_succ]
    rw [if_neg hz, n64_add H.n k (by omega), cpyL_succ]
theorem puts_end (H : HS) (g : Nat → UInt8) {k : Nat} (h : (H.n % 64).toNat + k = 64) : puts H g k = ⟨mixS H.s (cpyL H.l (H.n % 64).toNat k g), cpyL H.l (H.n % 64).toNat k g, H.n + UInt64.ofNat k⟩ := by
  have := n64_lt H.n
  obtain ⟨k, rfl⟩ : ∃ j, k = j + 1 := ⟨k - 1, by omega⟩
  rw [puts, puts_mid H g (by omega), put]
  simp only [n_succ]
  rw [if_pos (n64_end H.n (k + 1) h), n64_add H.n k (by omega), cpyL_succ]
def wakeH (H : HS) : HS := if (H.n == 0) = true then ⟨begW, H.l, H.n⟩ else H
def wrH (H : HS) (f : Nat → UInt8) (n : Nat) : HS := puts (wakeH H) f n
end Go.Eng
end
section
namespace Go.Eng
section
variable {P : Program} {t ty e : TypeId}
end
def zerosU (n : UInt64) : UInt64 := (119 - n % 64) % 64
def tailZ (n : UInt64) : Nat := (1 + zerosU n).toNat
def lenB (n : UInt64) (i : Nat) : UInt8 := (shr64 (8 * n) (56 - 8 * i)).toUInt8
def tailF (n : UInt64) : Nat → UInt8 := fun k => if k = 0 then 128 else if k < tailZ n then 0 else lenB n (k - tailZ n)
theorem zeros_lt (n : UInt64) : (zerosU n).toNat < 64 := n64_lt _
theorem tailZ_val (n : UInt64) : tailZ n = 1 + (zerosU n).toNat := by
  unfold tailZ
  rw [UInt64.toNat_add]
  have := zeros_lt n
  have h1 : (1 : UInt64).toNat = 1 := rfl
  omega
theorem zeros_mod (n : UInt64) : (n.toNat + (zerosU n).toNat) % 64 = 55 := by
  unfold zerosU
  have h64 : (64 : UInt64).toNat = 64 := rfl
  have h119 : (119 : UInt64).toNat = 119 := rfl
  have h1 := n64_lt n
  have h2 : (n % 64).toNat = n.toNat % 64 := by rw [UInt64.toNat_mod, h64]
  rw [UInt64.toNat_mod, h64, UInt64.toNat_sub_of_le _ _ (by rw [UInt64.le_iff_toNat_le]; omega), h119]
  omega
theorem tail_mod (n : UInt64) : (n.toNat + (tailZ n + 8)) % 64 = 0 := by
  have := zeros_mod n
  rw [tailZ_val]; omega
def digB (s : Nat → UInt32) (i : Nat) : UInt8 := (shr32 (s (i / 4)) (24 - i % 4 * 8)).toUInt8
def endH (H : HS) : HS := wrH H (tailF H.n) (tailZ H.n + 8)
def sumD (H : HS) : Nat → UInt8 := digB (endH H).s
end Go.Eng
namespace Go.Eng
end Go.Eng
namespace Go.Eng
theorem tailZ_le (n : UInt64) : 0 < (1 + (119 - n % 64) % 64).toNat ∧ (1 + (119 - n % 64) % 64).toNat ≤ 64 := by
  have h := tailZ_val n
  have h2 := zeros_lt n
  unfold tailZ zerosU at h
  unfold zerosU at h2
  omega
end Go.Eng
namespace Go.Eng
end Go.Eng
namespace Go.Eng
theorem mixS_congr {s : Nat → UInt32} {f g : Nat → UInt8} (h : ∀ k, k < 64 → f k = g k) : mixS s f = mixS s g := by
  have h1 : sp1 f 64 = sp1 g 64 := by
    have : ∀ n, n ≤ 64 → sp1 f n = sp1 g n := fun n => by
      induction n with
      | zero => intro _; rfl
      | succ n ih => intro hn; rw [sp1, sp1, ih (by omega), h n (by omega)]
    exact this 64 (Nat.le_refl _)
  have h2 : ∀ n, sp2 f n = sp2 g n := fun n => by
    induction n with
    | zero => exact h1
    | succ n ih => rw [sp2, sp2, ih]
  unfold mixS sprW
  rw [h2]
def foldS (f : Nat → UInt8) : Nat → (Nat → UInt32)
  | 0 => begW
  | j + 1 => mixS (foldS f j) (fun k => f (64 * j + k))
def begH : HS := ⟨begW, fun _ => 0, 0⟩
theorem puts_n (H : HS) (f : Nat → UInt8) : ∀ n, (puts H f n).n = H.n + UInt64.ofNat n
  | 0 => by show H.n = H.n + 0; rw [UInt64.add_zero]
  | n + 1 => by
    rw [puts, put, ← n_succ, ← puts_n H f n]
    split <;> rfl
theorem puts_fold (f : Nat → UInt8) : ∀ j, (puts begH f (64 * j)).s = foldS f j
  | 0 => rfl
  | j + 1 => by
    have hn : ((puts begH f (64 * j)).n % 64).toNat = 0 := by
      rw [puts_n]
      have h1 : (64 : UInt64).toNat = 64 := rfl
      show ((0 + UInt64.ofNat (64 * j)) % 64).toNat = 0
      rw [UInt64.zero_add, UInt64.toNat_mod, UInt64.toNat_ofNat', h1]
      omega
    rw [show 64 * (j + 1) = 64 * j + 64 by omega, puts_add, puts_end _ _ (k := 64) (by omega), foldS, ← puts_fold f j]
    exact mixS_congr fun k hk => by
      unfold cpyL
      rw [hn, if_pos (by omega), Nat.sub_zero]
structure Stands (H : HS) (f : Nat → UInt8) (n : Nat) : Prop where
  wake : wakeH H = puts begH f n
  num : H.n = UInt64.ofNat n
theorem Stands.wr {H : HS} {f : Nat → UInt8} {n : Nat} (h : Stands H f n) (g : Nat → UInt8) (m : Nat) : wrH H g m = puts begH (catU f n g) (n + m) := by
  unfold wrH
  rw [h.wake, puts_add begH (catU f n g) n m, puts_congr begH (f := f) (g := catU f n g) (fun k hk => by unfold catU; rw [if_pos hk])]
  exact puts_congr _ fun k hk => by unfold catU; rw [if_neg (by omega), Nat.add_sub_cancel_left]
theorem Stands.congr {H : HS} {f g : Nat → UInt8} {n : Nat} (h : Stands H f n) (hfg : ∀ k, k < n → f k = g k) : Stands H g n :=
  ⟨by rw [h.wake]; exact puts_congr _ hfg, h.num⟩
def padF (f : Nat → UInt8) (n : Nat) : Nat → UInt8 := catU f n (tailF (UInt64.ofNat n))
def digOf (f : Nat → UInt8) (n : Nat) : Nat → UInt8 := digB (foldS (padF f n) ((n + (tailZ (UInt64.ofNat n) + 8)) / 64))
theorem Stands.sum {H : HS} {f : Nat → UInt8} {n : Nat} (h : Stands H f n) (hn : n < 18446744073709551616 - 128) : sumD H = digOf f n := by
  have hz := tailZ_le (UInt64.ofNat n)
  have hz2 : tailZ (UInt64.ofNat n) ≤ 64 := hz.2
  have hm := tail_mod (UInt64.ofNat n)
  rw [UInt64.toNat_ofNat', Nat.mod_eq_of_lt (show n < 2 ^ 64 by omega)] at hm
  unfold sumD digOf endH
  rw [h.num]
  refine congrArg digB ?_
  have e := h.wr (tailF (UInt64.ofNat n)) (tailZ (UInt64.ofNat n) + 8)
  have hq : 64 * ((n + (tailZ (UInt64.ofNat n) + 8)) / 64) = n + (tailZ (UInt64.ofNat n) + 8) := by omega
  rw [e]
  show _ = foldS (padF f n) _
  rw [← puts_fold, hq]; rfl
end Go.Eng
namespace Go.Eng
end Go.Eng
end
section
namespace Go.Eng
end Go.Eng
end
section
namespace Go.Eng
theorem noneO_get {α : Type} (cs : List α) (p : Nat) (b : Blk) : listMem (cs.map fun _ => (none : Option Blk)) p ≠ some b := fun h => by
  unfold listMem at h
  rw [List.getElem?_map] at h
  cases hc : cs[p]? <;> rw [hc] at h <;> simp at h
theorem RunsO.lendQ {F F' : Blk → Prop} {P : Program} {f : FuncId} {args : List Value} {bs cs : List (Option Blk)} {k : Nat} {v : List Nat → Value} {o nw : List Nat → List (Option Blk)} (h : RunsO F P f args bs k v (fun ns => o ns ++ nw ns)) (ho : ∀ ns, (o ns).length = bs.length)
    (hF : ∀ w : World, FamH F' w → (∀ b, some b ∈ cs → Holds b w) → FamH F w) (hn : ∀ x, F x → ∀ j, x.has j → (∃ y, F' y ∧ y.has j) ∨ ∃ c, some c ∈ cs ∧ c.has j) :
    RunsO F' P f args (bs ++ cs) k v (fun ns => o ns ++ (cs.map (fun _ => none) ++ nw ns)) := by
  intro w hm ha hF'
  have hin : ∀ (l : List (Option Blk)) p b, listMem l p = some b → p < l.length ∧ some b ∈ l := fun l p b hp => by
    unfold listMem at hp
    cases hc : l[p]? with
    | none => rw [hc] at hp; cases hp
    | some x =>
      rw [hc] at hp
      obtain ⟨h1, h2⟩ := List.getElem?_eq_some_iff.1 hc
      have h3 : x = some b := hp
      exact ⟨h1, by rw [← h3, ← h2]; exact List.getElem_mem h1⟩
  have hsub : ∀ p b, listMem bs p = some b → p < bs.length ∧ listMem (bs ++ cs) p = some b := fun p b hp => by
    have hl := (hin bs p b hp).1
    exact ⟨hl, by rw [listMem_left hl]; exact hp⟩
  have hcs : ∀ b, some b ∈ cs → ∃ q, bs.length ≤ q ∧ listMem (bs ++ cs) q = some b := fun b hb => by
    obtain ⟨i, hi⟩ := List.getElem?_of_mem hb
    refine ⟨bs.length + i, by omega, ?_⟩
    rw [listMem_right (by omega), Nat.add_sub_cancel_left]
    unfold listMem; rw [hi]
  have ho1 : ∀ k, Owns (listMem bs) k → Owns (listMem (bs ++ cs)) k := fun k ⟨p, b, h1, h2, h3⟩ => ⟨p, b, (hsub p b h1).2, h2, h3⟩
  have hw := hF w (fun b hb' => ⟨(hF' b hb').1, (hF' b hb').2.1⟩) (fun b hb' => by
    obtain ⟨q, _, hq⟩ := hcs b hb'
    exact hm q b hq)
  refine Calls.mono (h w (fun p b hp => hm p b (hsub p b hp).2) (fun p q b c hpq hpb hqc hown => ha p q b c hpq (hsub p b hpb).2 (hsub q c hqc).2 hown) (fun b hFb => ⟨(hw b hFb).1, (hw b hFb).2, fun j hj ⟨p, b', h1, h2, h3⟩ => ?_⟩)) ?_
  · obtain ⟨hl, hp'⟩ := hsub p b' h1
    rcases hn b hFb j hj with ⟨y, hy, he⟩ | ⟨c, hcm, he⟩
    · exact (hF' y hy).2.2 j he ⟨p, b', hp', h2, h3⟩
    · obtain ⟨q, hq1, hq⟩ := hcs c hcm
      exact ha p q b' c (by omega) hp' hq h2 j h3 he
  · rintro e w' ⟨ns, hns, he, hp⟩
    have hpos : ∀ p b, listMem (o ns ++ (cs.map (fun _ => none) ++ nw ns)) p = some b → ∃ p', listMem (o ns ++ nw ns) p' = some b ∧ ((p < bs.length ∧ p' = p) ∨ (bs.length + cs.length ≤ p ∧ p' = p - cs.length)) := fun p b hpb => by
      rcases listMem_app hpb with ⟨h1, h2⟩ | ⟨h1, h2⟩
      · rw [ho] at h1
        exact ⟨p, by rw [listMem_left (by rw [ho]; exact h1)]; exact h2, .inl ⟨h1, rfl⟩⟩
      · rw [ho] at h1 h2
        rcases listMem_app h2 with ⟨h3, h4⟩ | ⟨h3, h4⟩
        · exact absurd h4 (noneO_get _ _ _)
        · rw [List.length_map] at h3 h4
          refine ⟨p - cs.length, ?_, .inr ⟨by omega, rfl⟩⟩
          rw [listMem_right (by rw [ho]; omega), ho, show p - cs.length - bs.length = p - bs.length - cs.length by omega]; exact h4
    refine ⟨ns, hns, he, ⟨fun p b hpb => ?_, fun p q b c hpq hpb hqc => ?_, ⟨hp.adv.os, hp.adv.output, hp.adv.tape, hp.adv.size, fun k hk hno => hp.adv.heap k hk (fun hk' => hno (ho1 k hk')), fun k ⟨p, b, h1, h2, h3⟩ => ?_, fun p b hpb hob => ?_⟩⟩⟩
    · obtain ⟨p', h1, _⟩ := hpos p b hpb
      exact hp.holds p' b h1
    · obtain ⟨p', h1, h2⟩ := hpos p b hpb
      obtain ⟨q', h3, h4⟩ := hpos q c hqc
      exact hp.apart p' q' b c (by omega) h1 h3
    · obtain ⟨p', h4, _⟩ := hpos p b h1
      rcases hp.adv.names k ⟨p', b, h4, h2, h3⟩ with h5 | h5
      · exact .inl (ho1 k h5)
      · exact .inr h5
    · obtain ⟨p', h1, h2⟩ := hpos p b hpb
      have h3 := hp.adv.ro p' b h1 hob
      exact (hsub p' b h3).2 |> fun h4 => by
        rcases h2 with ⟨_, rfl⟩ | ⟨h5, rfl⟩
        · exact h4
        · have := (hsub _ b h3).1
          omega
end Go.Eng
end
section
namespace Go.Eng
structure SWO {α : Type} (lt : α → α → Bool) : Prop where
  irr : ∀ a, lt a a = false
  tr : ∀ a b c, lt a b = true → lt b c = true → lt a c = true
  neg : ∀ a b c, lt a b = false → lt b c = false → lt a c = false
section
variable {α : Type} {lt : α → α → Bool}
theorem SWO.asy (h : SWO lt) {a b : α} (hab : lt a b = true) : lt b a = false := by
  cases hb : lt b a with
  | false => rfl
  | true => have := h.tr a b a hab hb; rw [h.irr a] at this; cases this
def swp (f : Nat → α) (i k : Nat) : Nat → α := upd (upd f i (f k)) k (f i)
theorem swp_i (f : Nat → α) (i k : Nat) : swp f i k i = f k := by
  unfold swp upd
  by_cases h : i = k
  · subst h; simp
  · simp [h]
theorem swp_k (f : Nat → α) (i k : Nat) : swp f i k k = f i := by unfold swp upd; simp
theorem swp_o (f : Nat → α) {i k x : Nat} (h1 : x ≠ i) (h2 : x ≠ k) : swp f i k x = f x := by unfold swp upd; simp [h1, h2]
structure En (f : Nat → α) (n : Nat) (S : α → Prop) : Prop where
  mem : ∀ k, k < n → S (f k)
  sur : ∀ x, S x → ∃ k, k < n ∧ f k = x
  inj : ∀ j k, j < n → k < n → f j = f k → j = k
theorem En.swp {f : Nat → α} {n : Nat} {S : α → Prop} (h : En f n S) {i k : Nat} (hi : i < n) (hk : k < n) : En (swp f i k) n S := by
  have hs : ∀ x, Go.Eng.swp f i k x = f (if x = i then k else if x = k then i else x) := fun x => by
    by_cases h1 : x = i
    · subst h1; rw [swp_i, if_pos rfl]
    · by_cases h2 : x = k
      · subst h2; rw [swp_k, if_neg h1, if_pos rfl]
      · rw [swp_o f h1 h2, if_neg h1, if_neg h2]
  have hlt : ∀ x, x < n → (if x = i then k else if x = k then i else x) < n := fun x hx => by
    by_cases h1 : x = i
    · rw [if_pos h1]; exact hk
    · rw [if_neg h1]
      by_cases h2 : x = k
      · rw [if_pos h2]; exact hi
      · rw [if_neg h2]; exact hx
  refine ⟨fun x hx => by rw [hs]; exact h.mem _ (hlt x hx), fun y hy => ?_, fun x z hx hz e => ?_⟩
  · obtain ⟨x, hx, rfl⟩ := h.sur y hy
    refine ⟨if x = i then k else if x = k then i else x, hlt x hx, ?_⟩
    rw [hs]
    congr 1
    by_cases h1 : x = i
    · subst h1
      rw [if_pos rfl]
      by_cases h2 : k = x
      · rw [if_pos h2]; exact h2
      · rw [if_neg h2, if_pos rfl]
    · rw [if_neg h1]
      by_cases h2 : x = k
      · subst h2; rw [if_pos rfl, if_pos rfl]
      · rw [if_neg h2, if_neg h1, if_neg h2]
  · rw [hs, hs] at e
    have e := h.inj _ _ (hlt x hx) (hlt z hz) e
    by_cases h1 : x = i <;> by_cases h2 : x = k <;> by_cases h3 : z = i <;> by_cases h4 : z = k <;> simp_all
theorem En.push {f : Nat → α} {n : Nat} {S : α → Prop} (h : En f n S) {x : α} (hx : ¬ S x) : En (catU f n fun _ => x) (n + 1) fun y => S y ∨ y = x := by
  have h1 : ∀ k, k < n → catU f n (fun _ => x) k = f k := fun k hk => if_pos hk
  have h2 : catU f n (fun _ => x) n = x := if_neg (Nat.lt_irrefl n)
  refine ⟨fun k hk => ?_, fun y hy => ?_, fun j k hj hk e => ?_⟩
  · by_cases h3 : k < n
    · rw [h1 k h3]; exact .inl (h.mem k h3)
    · rw [show k = n by omega, h2]; exact .inr rfl
  · rcases hy with hy | rfl
    · obtain ⟨k, hk, rfl⟩ := h.sur y hy
      exact ⟨k, by omega, h1 k hk⟩
    · exact ⟨n, by omega, h2⟩
  · by_cases h3 : j < n <;> by_cases h4 : k < n
    · rw [h1 j h3, h1 k h4] at e; exact h.inj j k h3 h4 e
    · rw [h1 j h3, show k = n by omega, h2] at e; exact absurd (e ▸ h.mem j h3) hx
    · rw [h1 k h4, show j = n by omega, h2] at e; exact absurd (e ▸ h.mem k h4) hx
    · omega
theorem En.pop {f : Nat → α} {n : Nat} {S : α → Prop} (h : En f (n + 1) S) : En f n fun y => S y ∧ y ≠ f n :=
  ⟨fun k hk => ⟨h.mem k (by omega), fun e => by have := h.inj k n (by omega) (by omega) e; omega⟩, fun y hy => by
    obtain ⟨k, hk, rfl⟩ := h.sur y hy.1
    refine ⟨k, ?_, rfl⟩
    rcases Nat.lt_or_ge k n with h1 | h1
    · exact h1
    · exact absurd (by rw [show k = n by omega]) hy.2, fun j k hj hk e => h.inj j k (by omega) (by omega) e⟩
theorem En.congr {f g : Nat → α} {n : Nat} {S : α → Prop} (h : En f n S) (hg : ∀ k, k < n → g k = f k) : En g n S :=
  ⟨fun k hk => by rw [hg k hk]; exact h.mem k hk, fun x hx => by obtain ⟨k, hk, e⟩ := h.sur x hx; exact ⟨k, hk, by rw [hg k hk, e]⟩, fun j k hj hk e => h.inj j k hj hk (by rw [← hg j hj, ← hg k hk, e])⟩
theorem En.iff {f : Nat → α} {n : Nat} {S T : α → Prop} (h : En f n S) (hT : ∀ x, T x ↔ S x) : En f n T :=
  ⟨fun k hk => (hT _).2 (h.mem k hk), fun x hx => h.sur x ((hT x).1 hx), h.inj⟩
theorem En.none {f : Nat → α} : En f 0 fun _ => False := ⟨fun k h => absurd h (Nat.not_lt_zero k), fun _ h => h.elim, fun j k h => absurd h (Nat.not_lt_zero j)⟩
def HpB (lt : α → α → Bool) (b : Nat) (f : Nat → α) (n : Nat) : Prop := ∀ k, 0 < k → k < n → b ≤ (k - 1) / 2 → lt (f k) (f ((k - 1) / 2)) = false
theorem HpB.root (h : SWO lt) {f : Nat → α} {n : Nat} (hp : HpB lt 0 f n) : ∀ k, k < n → lt (f k) (f 0) = false := by
  intro k
  induction k using Nat.strongRecOn with
  | _ k ih =>
    intro hk
    by_cases h0 : k = 0
    · subst h0; exact h.irr _
    · exact h.neg _ _ _ (hp k (by omega) hk (Nat.zero_le _)) (ih ((k - 1) / 2) (by omega) (by omega))
def upH (lt : α → α → Bool) : Nat → (Nat → α) → Nat → Nat → α
  | 0, f, _ => f
  | m + 1, f, j => if j = 0 then f else if lt (f j) (f ((j - 1) / 2)) = true then upH lt m (swp f ((j - 1) / 2) j) ((j - 1) / 2) else f
def upF (lt : α → α → Bool) (f : Nat → α) (j : Nat) : Nat → α := upH lt j f j
theorem upH_zero (f : Nat → α) : ∀ m, upH lt m f 0 = f
  | 0 => rfl
  | m + 1 => by rw [upH, if_pos rfl]
theorem upH_more (f : Nat → α) : ∀ m j, j ≤ m → upH lt m f j = upH lt j f j := by
  intro m
  induction m using Nat.strongRecOn generalizing f with
  | _ m ih =>
    intro j hj
    rcases Nat.eq_zero_or_pos j with h0 | h0
    · subst h0; rw [upH_zero, upH_zero]
    · obtain ⟨m, rfl⟩ : ∃ q, m = q + 1 := ⟨m - 1, by omega⟩
      obtain ⟨j, rfl⟩ : ∃ q, j = q + 1 := ⟨j - 1, by omega⟩
      rw [upH, upH]
      split
      · rfl
      · split
        · rw [ih m (by omega) _ _ (by omega), ih j (by omega) _ ((j + 1 - 1) / 2) (by omega)]
        · rfl
theorem upF_end {f : Nat → α} {j : Nat} (h : j = 0 ∨ lt (f j) (f ((j - 1) / 2)) = false) : upF lt f j = f := by
  unfold upF
  cases j with
  | zero => rfl
  | succ j =>
    rw [upH, if_neg (by omega)]
    rcases h with h | h
    · omega
    · rw [if_neg (by rw [h]; decide)]
theorem upF_go {f : Nat → α} {j : Nat} (h0 : 0 < j) (h : lt (f j) (f ((j - 1) / 2)) = true) : upF lt f j = upF lt (swp f ((j - 1) / 2) j) ((j - 1) / 2) := by
  unfold upF
  obtain ⟨j, rfl⟩ : ∃ q, j = q + 1 := ⟨j - 1, by omega⟩
  rw [upH, if_neg (by omega), if_pos h, upH_more _ j _ (by omega)]
def HpU (lt : α → α → Bool) (f : Nat → α) (n j : Nat) : Prop :=
  (∀ k, 0 < k → k < n → k ≠ j → lt (f k) (f ((k - 1) / 2)) = false) ∧ ∀ k, 0 < k → k < n → (k - 1) / 2 = j → 0 < j → lt (f k) (f ((j - 1) / 2)) = false
theorem HpU.end {f : Nat → α} {n j : Nat} (hp : HpU lt f n j) (he : j = 0 ∨ lt (f j) (f ((j - 1) / 2)) = false) : HpB lt 0 f n := fun k h0 hk _ => by
  by_cases e : k = j
  · subst e
    rcases he with he | he
    · omega
    · exact he
  · exact hp.1 k h0 hk e
theorem HpU.step (h : SWO lt) {f : Nat → α} {n j : Nat} (hp : HpU lt f n j) (hj : 0 < j) (hn : j < n) (hl : lt (f j) (f ((j - 1) / 2)) = true) : HpU lt (swp f ((j - 1) / 2) j) n ((j - 1) / 2) := by
  have ho : ∀ x, x ≠ (j - 1) / 2 → x ≠ j → swp f ((j - 1) / 2) j x = f x := fun x h1 h2 => swp_o f h1 h2
  have hi : swp f ((j - 1) / 2) j ((j - 1) / 2) = f j := swp_i _ _ _
  have hk : swp f ((j - 1) / 2) j j = f ((j - 1) / 2) := swp_k _ _ _
  refine ⟨fun k h0 hkn hkp => ?_, fun k h0 hkn hkp h1 => ?_⟩
  · by_cases e : k = j
    · subst e; rw [hk, hi]; exact h.asy hl
    · rw [ho k hkp e]
      by_cases e2 : (k - 1) / 2 = j
      · rw [e2, hk]; exact hp.2 k h0 hkn e2 hj
      · by_cases e3 : (k - 1) / 2 = (j - 1) / 2
        · rw [e3, hi]; exact h.neg _ _ _ (e3 ▸ hp.1 k h0 hkn e) (h.asy hl)
        · rw [ho _ e3 e2]; exact hp.1 k h0 hkn e
  · rw [ho ((((j - 1) / 2) - 1) / 2) (by omega) (by omega)]
    by_cases e : k = j
    · subst e; rw [hk]; exact hp.1 _ h1 (by omega) (by omega)
    · rw [ho k (by omega) e]
      exact h.neg _ _ _ (hkp ▸ hp.1 k h0 hkn e) (hp.1 _ h1 (by omega) (by omega))
theorem upF_ok (h : SWO lt) {n : Nat} : ∀ (j : Nat) (f : Nat → α), j < n → HpU lt f n j → HpB lt 0 (upF lt f j) n ∧ (∀ S, En f n S → En (upF lt f j) n S) ∧ ∀ k, n ≤ k → upF lt f j k = f k := by
  intro j
  induction j using Nat.strongRecOn with
  | _ j ih =>
    intro f hj hp
    by_cases he : j = 0 ∨ lt (f j) (f ((j - 1) / 2)) = false
    · rw [upF_end he]; exact ⟨hp.end he, fun S hS => hS, fun _ _ => rfl⟩
    · have h0 : 0 < j := by omega
      have hl : lt (f j) (f ((j - 1) / 2)) = true := by
        cases hb : lt (f j) (f ((j - 1) / 2)) with
        | true => rfl
        | false => exact absurd (.inr hb) he
      rw [upF_go h0 hl]
      obtain ⟨h1, h2, h3⟩ := ih ((j - 1) / 2) (by omega) (swp f ((j - 1) / 2) j) (by omega) (hp.step h h0 hj hl)
      exact ⟨h1, fun S hS => h2 S (hS.swp (by omega) hj), fun k hk => (h3 k hk).trans (swp_o f (by omega) (by omega))⟩
def pick (lt : α → α → Bool) (n : Nat) (f : Nat → α) (i : Nat) : Nat := if 2 * i + 2 < n ∧ lt (f (2 * i + 2)) (f (2 * i + 1)) = true then 2 * i + 2 else 2 * i + 1
def dnH (lt : α → α → Bool) (n : Nat) : Nat → (Nat → α) → Nat → (Nat → α) × Nat
  | 0, f, i => (f, i)
  | m + 1, f, i => if n ≤ 2 * i + 1 then (f, i) else if lt (f (pick lt n f i)) (f i) = true then dnH lt n m (swp f i (pick lt n f i)) (pick lt n f i) else (f, i)
def dnF (lt : α → α → Bool) (n : Nat) (f : Nat → α) (i : Nat) : (Nat → α) × Nat := dnH lt n n f i
theorem pick_gt (n : Nat) (f : Nat → α) (i : Nat) : i < pick lt n f i ∧ (2 * i + 1 < n → pick lt n f i < n) ∧ (pick lt n f i - 1) / 2 = i := by
  unfold pick; split <;> omega
theorem dnH_more {n : Nat} : ∀ (m q : Nat) (f : Nat → α) (i : Nat), n ≤ m + i → n ≤ q + i → dnH lt n m f i = dnH lt n q f i
  | 0, 0, f, i, _, _ => rfl
  | 0, q + 1, f, i, h, _ => by rw [dnH, dnH, if_pos (by omega)]
  | m + 1, 0, f, i, _, h => by rw [dnH, dnH, if_pos (by omega)]
  | m + 1, q + 1, f, i, h1, h2 => by
    have := pick_gt (lt := lt) n f i
    rw [dnH, dnH]
    split
    · rfl
    · split
      · exact dnH_more m q _ _ (by omega) (by omega)
      · rfl
theorem dnF_end {n : Nat} {f : Nat → α} {i : Nat} (h : n ≤ 2 * i + 1 ∨ lt (f (pick lt n f i)) (f i) = false) : dnF lt n f i = (f, i) := by
  unfold dnF
  cases n with
  | zero => rfl
  | succ n =>
    rw [dnH]
    rcases h with h | h
    · rw [if_pos h]
    · split
      · rfl
      · rw [if_neg (by rw [h]; decide)]
theorem dnF_go {n : Nat} {f : Nat → α} {i : Nat} (h1 : 2 * i + 1 < n) (h : lt (f (pick lt n f i)) (f i) = true) : dnF lt n f i = dnF lt n (swp f i (pick lt n f i)) (pick lt n f i) := by
  have := pick_gt (lt := lt) n f i
  unfold dnF
  obtain ⟨m, rfl⟩ : ∃ q, n = q + 1 := ⟨n - 1, by omega⟩
  rw [dnH, if_neg (by omega), if_pos h]
  exact dnH_more _ _ _ _ (by omega) (by omega)
def HpD (lt : α → α → Bool) (b : Nat) (f : Nat → α) (n i : Nat) : Prop :=
  (∀ k, 0 < k → k < n → b ≤ (k - 1) / 2 → (k - 1) / 2 ≠ i → lt (f k) (f ((k - 1) / 2)) = false) ∧ (0 < i → b ≤ (i - 1) / 2 → ∀ k, 0 < k → k < n → (k - 1) / 2 = i → lt (f k) (f ((i - 1) / 2)) = false)
theorem pick_least (h : SWO lt) {n : Nat} {f : Nat → α} {i k : Nat} (h0 : 0 < k) (hk : k < n) (e : (k - 1) / 2 = i) : lt (f k) (f (pick lt n f i)) = false := by
  have hk2 : k = 2 * i + 1 ∨ k = 2 * i + 2 := by omega
  unfold pick
  split
  · rename_i hc
    rcases hk2 with rfl | rfl
    · exact h.asy hc.2
    · exact h.irr _
  · rename_i hc
    rcases hk2 with rfl | rfl
    · exact h.irr _
    · cases hb : lt (f (2 * i + 2)) (f (2 * i + 1)) with
      | false => rfl
      | true => exact absurd ⟨hk, hb⟩ hc
theorem HpD.end (h : SWO lt) {b : Nat} {f : Nat → α} {n i : Nat} (hp : HpD lt b f n i) (he : n ≤ 2 * i + 1 ∨ lt (f (pick lt n f i)) (f i) = false) : HpB lt b f n := fun k h0 hk hb => by
  by_cases e : (k - 1) / 2 = i
  · rcases he with he | he
    · omega
    · rw [e]; exact h.neg _ _ _ (pick_least h h0 hk e) he
  · exact hp.1 k h0 hk hb e
theorem HpD.step (h : SWO lt) {b : Nat} {f : Nat → α} {n i : Nat} (hp : HpD lt b f n i) (hi : 2 * i + 1 < n) (hl : lt (f (pick lt n f i)) (f i) = true) : HpD lt b (swp f i (pick lt n f i)) n (pick lt n f i) := by
  obtain ⟨g1, g2', g3⟩ := pick_gt (lt := lt) n f i
  have g2 := g2' hi
  clear g2'
  have hleast : ∀ k, 0 < k → k < n → (k - 1) / 2 = i → lt (f k) (f (pick lt n f i)) = false := fun k a b c => pick_least h a b c
  generalize pick lt n f i = j at *
  have ho : ∀ x, x ≠ i → x ≠ j → swp f i j x = f x := fun x h1 h2 => swp_o f h1 h2
  have hi' : swp f i j i = f j := swp_i _ _ _
  have hk : swp f i j j = f i := swp_k _ _ _
  refine ⟨fun k h0 hkn hb hkp => ?_, fun h0j hb k h0 hkn hkp => ?_⟩
  · by_cases e : (k - 1) / 2 = i
    · rw [e, hi']
      by_cases e2 : k = j
      · rw [e2, hk]; exact h.asy hl
      · rw [ho k (by omega) e2]; exact hleast k h0 hkn e
    · rw [ho _ e hkp]
      by_cases e2 : k = i
      · subst e2; rw [hi']; exact hp.2 h0 hb j (by omega) g2 g3
      · rw [ho k e2 (by intro e3; subst e3; omega)]; exact hp.1 k h0 hkn hb e
  · rw [g3, hi', ho k (by omega) (by omega)]
    have := hp.1 k h0 hkn (by omega) (by omega)
    rw [hkp] at this; exact this
theorem dnF_ok (h : SWO lt) {b n : Nat} : ∀ (m i : Nat) (f : Nat → α), n ≤ m + i → HpD lt b f n i → HpB lt b (dnF lt n f i).1 n ∧ (∀ q S, n ≤ q → En f q S → En (dnF lt n f i).1 q S) ∧ (∀ k, n ≤ k → (dnF lt n f i).1 k = f k) ∧ i ≤ (dnF lt n f i).2 ∧ ∀ k, k < i → (dnF lt n f i).1 k = f k
  | m, i, f, hm, hp => by
    by_cases he : n ≤ 2 * i + 1 ∨ lt (f (pick lt n f i)) (f i) = false
    · rw [dnF_end he]; exact ⟨hp.end h he, fun q S _ hS => hS, fun _ _ => rfl, Nat.le_refl _, fun _ _ => rfl⟩
    · have hi : 2 * i + 1 < n := by omega
      have hl : lt (f (pick lt n f i)) (f i) = true := by
        cases hb : lt (f (pick lt n f i)) (f i) with
        | true => rfl
        | false => exact absurd (.inr hb) he
      obtain ⟨g1, g2', g3⟩ := pick_gt (lt := lt) n f i
      have g2 := g2' hi
      clear g2'
      rw [dnF_go hi hl]
      match m, hm with
      | 0, hm => omega
      | m + 1, hm =>
        obtain ⟨h1, h2, h3, h4, h5⟩ := dnF_ok h m (pick lt n f i) (swp f i (pick lt n f i)) (by omega) (hp.step h hi hl)
        exact ⟨h1, fun q S hq hS => h2 q S hq (hS.swp (by omega) (by omega)), fun k hk => (h3 k hk).trans (swp_o f (by omega) (by omega)), by omega, fun k hk => (h5 k (by omega)).trans (swp_o f (by omega) (by omega))⟩
def popF (lt : α → α → Bool) (f : Nat → α) (n : Nat) : Nat → α := (dnF lt n (swp f 0 n) 0).1
theorem popF_ok (h : SWO lt) {f : Nat → α} {n : Nat} (hp : HpB lt 0 f (n + 1)) : HpB lt 0 (popF lt f n) n ∧ popF lt f n n = f 0 ∧ (∀ S, En f (n + 1) S → En (popF lt f n) n fun y => S y ∧ y ≠ f 0) ∧ ∀ k, k < n + 1 → lt (f k) (f 0) = false := by
  obtain ⟨h1, h2, h3, _⟩ := dnF_ok h (b := 0) (n := n) n 0 (swp f 0 n) (by omega) ⟨fun k h0 hk _ hkp => by
    rw [swp_o f (by omega) (by omega), swp_o f (by omega) (by omega)]; exact hp k h0 (by omega) (Nat.zero_le _), fun h => absurd h (Nat.lt_irrefl 0)⟩
  have e : popF lt f n n = f 0 := (h3 n (Nat.le_refl _)).trans (swp_k f 0 n)
  refine ⟨h1, e, fun S hS => ?_, hp.root h⟩
  have := (h2 (n + 1) S (by omega) (hS.swp (by omega) (by omega))).pop
  have e2 : (dnF lt n (swp f 0 n) 0).1 n = f 0 := e
  rw [e2] at this; exact this
end
end Go.Eng
namespace Go.Eng
end Go.Eng
namespace Go.Eng
def pshG {α : Type} (g : Nat → α) (len : Nat) (x z : α) (b nm : Nat) : Nat → α := fun j => if j < len then g j else if j = len then x else if nm = b then g j else z
theorem pshG_lt {α : Type} {g : Nat → α} {len : Nat} {x z : α} {b nm k : Nat} (h : k < len) : pshG g len x z b nm k = g k := if_pos h
theorem pshG_eq {α : Type} {g : Nat → α} {len : Nat} {x z : α} {b nm : Nat} : pshG g len x z b nm len = x := by unfold pshG; rw [if_neg (Nat.lt_irrefl _), if_pos rfl]
section
variable {P : Program} {t ty e : TypeId} {i : TypeInfo} {z : Value} {sz : Nat} {zc : List Value}
end
section
variable {P : Program} {t t' : TypeId} {x y : Operand}
end
section
variable {α : Type} {lt : α → α → Bool}
theorem push_ok (h : SWO lt) {f g : Nat → α} {n : Nat} {x : α} (hp : HpB lt 0 f n) (hg : ∀ k, k < n → g k = f k) (hx : g n = x) : HpB lt 0 (upF lt g n) (n + 1) ∧ (∀ S, En f n S → ¬ S x → En (upF lt g n) (n + 1) fun y => S y ∨ y = x) ∧ ∀ k, n + 1 ≤ k → upF lt g n k = g k := by
  obtain ⟨h1, h2, h3⟩ := upF_ok h (n := n + 1) n g (by omega) ⟨fun k h0 hk hkn => by rw [hg k (by omega), hg ((k - 1) / 2) (by omega)]; exact hp k h0 (by omega) (Nat.zero_le _), fun k h0 hk e => by omega⟩
  refine ⟨h1, fun S hS hn => h2 _ ((hS.push hn).congr fun k hk => ?_), h3⟩
  unfold catU
  by_cases hk2 : k < n
  · rw [if_pos hk2]; exact hg k hk2
  · rw [if_neg hk2, show k = n by omega]; exact hx
end
end Go.Eng
end
section
namespace Go.Eng
structure TmR where
  a : UInt64
  i : Int
  n : UInt64
deriving DecidableEq
def tmZ : TmR := ⟨0, 0, 0⟩
def ltT (a b : TmR) : Bool := selB (decide (a.a < b.a)) true (selB (a.a == b.a) (decide (a.n < b.n)) false)
theorem ltT_iff {a b : TmR} : ltT a b = true ↔ a.a.toNat < b.a.toNat ∨ a.a.toNat = b.a.toNat ∧ a.n.toNat < b.n.toNat := by
  have e1 : (a.a < b.a) = (a.a.toNat < b.a.toNat) := rfl
  have e2 : (a.n < b.n) = (a.n.toNat < b.n.toNat) := rfl
  have e3 : (a.a == b.a) = true ↔ a.a.toNat = b.a.toNat := by rw [beq_iff_eq]; exact UInt64.toNat_inj.symm
  unfold ltT
  by_cases h1 : a.a.toNat < b.a.toNat
  · simp [selB, e1, h1]
  · by_cases h2 : a.a.toNat = b.a.toNat
    · simp [selB, e1, h1, e3.2 h2, e2, h2]
    · have : (a.a == b.a) = false := by
        cases h : (a.a == b.a) with
        | false => rfl
        | true => exact absurd (e3.1 h) h2
      simp [selB, e1, h1, this, h2]
theorem ltT_not {a b : TmR} : ltT a b = false ↔ ¬ (a.a.toNat < b.a.toNat ∨ a.a.toNat = b.a.toNat ∧ a.n.toNat < b.n.toNat) := by
  rw [← ltT_iff]; simp
theorem ltT_swo : SWO ltT := ⟨fun a => by rw [ltT_not]; omega, fun a b c h k => by rw [ltT_iff] at *; omega, fun a b c h k => by rw [ltT_not] at *; omega⟩
def popN (F : Nat → TmR) (n : Nat) : Nat → Nat → TmR
  | 0 => F
  | k + 1 => popF ltT (popN F n k) (n - k - 1)
structure IsDue (F : Nat → TmR) (n : Nat) (now : UInt64) (d : Nat) : Prop where
  le : d ≤ n
  due : ∀ k, k < d → decide ((popN F n k 0).a ≤ now) = true
  stop : d < n → decide ((popN F n d 0).a ≤ now) = false
theorem IsDue.lt {F : Nat → TmR} {n d k : Nat} {now : UInt64} (h : IsDue F n now d) (hk : k ≤ d) (hg : selB (decide (0 < n - k)) (decide ((popN F n k 0).a ≤ now)) false = true) : k < d := by
  have h1 := h.stop
  have := h.le
  rcases Nat.lt_or_ge k d with h2 | h2
  · exact h2
  · have e : k = d := by omega
    subst e
    by_cases h3 : 0 < n - k
    · rw [h1 (by omega)] at hg; cases hd : decide (0 < n - k) <;> rw [hd] at hg <;> cases hg
    · rw [decide_eq_false h3] at hg; cases hg
structure Std (F : Nat → TmR) (n : Nat) (L : List TmR) : Prop where
  hp : HpB ltT 0 F n
  en : En F n (· ∈ L)
  up : L.Pairwise fun x y => ltT x y = true
  len : L.length = n
theorem Std.none {F : Nat → TmR} : Std F 0 [] := ⟨fun k _ h => absurd h (Nat.not_lt_zero k), En.none.iff fun x => by simp, List.Pairwise.nil, rfl⟩
def insT (x : TmR) : List TmR → List TmR
  | [] => [x]
  | y :: L => if y.a.toNat ≤ x.a.toNat then y :: insT x L else x :: y :: L
theorem insT_len (x : TmR) : ∀ L, (insT x L).length = L.length + 1
  | [] => rfl
  | y :: L => by unfold insT; split <;> simp [insT_len x L]
theorem insT_mem (x z : TmR) : ∀ L, z ∈ insT x L ↔ z ∈ L ∨ z = x
  | [] => by simp [insT]
  | y :: L => by
    unfold insT; split
    · rw [List.mem_cons, insT_mem x z L, List.mem_cons]; exact or_assoc.symm
    · rw [List.mem_cons]; exact or_comm
theorem insT_up (x : TmR) : ∀ L, (L.Pairwise fun x y => ltT x y = true) → (∀ y ∈ L, y.n.toNat < x.n.toNat) → (insT x L).Pairwise fun x y => ltT x y = true
  | [], _, _ => by simp [insT]
  | y :: L, h, hn => by
    have h1 := List.pairwise_cons.1 h
    unfold insT; split
    · rename_i hy
      refine List.pairwise_cons.2 ⟨fun z hz => ?_, insT_up x L h1.2 fun w hw => hn w (List.mem_cons_of_mem _ hw)⟩
      rcases (insT_mem x z L).1 hz with hz | rfl
      · exact h1.1 z hz
      · rw [ltT_iff]; have := hn y (by simp); omega
    · rename_i hy
      refine List.pairwise_cons.2 ⟨fun z hz => ?_, h⟩
      rcases List.mem_cons.1 hz with rfl | hz
      · rw [ltT_iff]; omega
      · have := h1.1 z hz; rw [ltT_iff] at this ⊢; omega
theorem Std.push {F g : Nat → TmR} {n : Nat} {L : List TmR} {x : TmR} (h : Std F n L) (hg : ∀ k, k < n → g k = F k) (hx : g n = x) (hn : ∀ y ∈ L, y.n.toNat < x.n.toNat) : Std (upF ltT g n) (n + 1) (insT x L) := by
  obtain ⟨h1, h2, _⟩ := push_ok ltT_swo h.hp hg hx
  refine ⟨h1, (h2 _ h.en fun hm => ?_).iff fun y => insT_mem x y L, insT_up x L h.up hn, by rw [insT_len, h.len]⟩
  have := hn x hm; omega
theorem Std.pop {F : Nat → TmR} {n : Nat} {x : TmR} {L : List TmR} (h : Std F n (x :: L)) : 0 < n ∧ F 0 = x ∧ popF ltT F (n - 1) (n - 1) = x ∧ Std (popF ltT F (n - 1)) (n - 1) L := by
  have hl := h.len
  simp only [List.length_cons] at hl
  obtain ⟨m, rfl⟩ : ∃ q, n = q + 1 := ⟨n - 1, by omega⟩
  simp only [Nat.add_sub_cancel]
  obtain ⟨h1, h2, h3, h4⟩ := popF_ok ltT_swo h.hp
  have hu := List.pairwise_cons.1 h.up
  have e : F 0 = x := by
    have hm := h.en.mem 0 (by omega)
    rcases List.mem_cons.1 hm with hm | hm
    · exact hm
    · obtain ⟨k, hk, e⟩ := h.en.sur x (by simp)
      have := h4 k hk
      rw [e, hu.1 _ hm] at this; cases this
  refine ⟨by omega, e, h2.trans e, ⟨h1, (h3 _ h.en).iff fun y => ?_, hu.2, by omega⟩⟩
  rw [e]
  constructor
  · intro hy
    refine ⟨List.mem_cons_of_mem _ hy, fun e => ?_⟩
    subst e
    have := hu.1 _ hy
    rw [ltT_swo.irr] at this; cases this
  · rintro ⟨hy, hne⟩
    rcases List.mem_cons.1 hy with hy | hy
    · exact absurd hy hne
    · exact hy
theorem popN_next {F : Nat → TmR} {n : Nat} (hn : 0 < n) : ∀ k, popN F n (k + 1) = popN (popF ltT F (n - 1)) (n - 1) k
  | 0 => rfl
  | k + 1 => by
    rw [popN, popN_next hn k, popN]
    congr 1; omega
theorem Std.popN {F : Nat → TmR} : ∀ {n : Nat} {L : List TmR} (k : Nat), Std F n L → k ≤ n → Std (popN F n k) (n - k) (L.drop k) ∧ (k < n → Go.Eng.popN F n k 0 = L.getD k tmZ)
  | n, [], k, h, hk => by
    have := h.len; simp at this
    subst this
    have e : k = 0 := by omega
    subst e
    exact ⟨h, fun h => absurd h (Nat.lt_irrefl _)⟩
  | n, x :: L, 0, h, hk => ⟨h, fun _ => h.pop.2.1⟩
  | n, x :: L, k + 1, h, hk => by
    obtain ⟨h0, _, _, h1⟩ := h.pop
    obtain ⟨h2, h3⟩ := Std.popN k h1 (by omega)
    rw [popN_next h0]
    refine ⟨by rw [show n - (k + 1) = n - 1 - k by omega]; exact h2, fun hk2 => ?_⟩
    rw [h3 (by omega)]; rfl
def dueN (now : UInt64) : List TmR → Nat
  | [] => 0
  | x :: L => if decide (x.a ≤ now) = true then dueN now L + 1 else 0
theorem dueN_le (now : UInt64) : ∀ L, dueN now L ≤ L.length
  | [] => Nat.le_refl 0
  | x :: L => by unfold dueN; have := dueN_le now L; split <;> simp <;> omega
theorem dueN_lt (now : UInt64) : ∀ (L : List TmR) (k : Nat), k < dueN now L → decide ((L.getD k tmZ).a ≤ now) = true
  | [], k, h => absurd h (Nat.not_lt_zero k)
  | x :: L, k, h => by
    unfold dueN at h
    split at h
    · rename_i hx
      cases k with
      | zero => exact hx
      | succ k => exact dueN_lt now L k (by omega)
    · omega
theorem dueN_stop (now : UInt64) : ∀ (L : List TmR), dueN now L < L.length → decide ((L.getD (dueN now L) tmZ).a ≤ now) = false
  | [], h => absurd h (Nat.lt_irrefl 0)
  | x :: L, h => by
    unfold dueN at h ⊢
    split at h
    · rename_i hx
      rw [if_pos hx]
      exact dueN_stop now L (by simp at h; omega)
    · rename_i hx
      rw [if_neg hx]
      cases hb : decide (x.a ≤ now) with
      | true => exact absurd hb hx
      | false => exact hb
theorem Std.due {F : Nat → TmR} {n : Nat} {L : List TmR} (h : Std F n L) (now : UInt64) : IsDue F n now (dueN now L) := by
  have hle : dueN now L ≤ n := h.len ▸ dueN_le now L
  refine ⟨hle, fun k hk => ?_, fun hs => ?_⟩
  · rw [(h.popN k (by omega)).2 (by omega)]; exact dueN_lt now L k hk
  · rw [(h.popN _ (by omega)).2 hs]; exact dueN_stop now L (by rw [h.len]; exact hs)
theorem Std.left {F : Nat → TmR} {n : Nat} {L : List TmR} (h : Std F n L) (now : UInt64) : Std (Go.Eng.popN F n (dueN now L)) (n - dueN now L) (L.drop (dueN now L)) := (h.popN _ (h.len ▸ dueN_le now L)).1
end Go.Eng
end
