/-
  Many in one: Maps, Fams, Heap, Byt, Grow, Timer, Timer2, Timer3, Timer4, Timer5, Opt, Timer6, Timer7.
-/
import Derived.Test.YthapokgokbfibaaZ6
import Derived.MapKept
import Derived.WideKeyRuns
section
namespace Go.Eng
open Go.WideShapes
set_option linter.unusedSimpArgs false
set_option linter.unusedVariables false
theorem run_gm {P : Program} {w : World} {r : Nat} {es : Array MapEntry} {clock : Nat} (hb : w.heap[r]? = some (.map es clock)) : (getObj r).run P w = .ok (.map es clock) w := by
  simp [getObj, Sem.run, hb]
theorem run_sm {P : Program} {w : World} {r : Nat} {es : Array MapEntry} {clock : Nat} (o : Obj) (hb : w.heap[r]? = some (.map es clock)) : (setObj r o).run P w = .ok () { w with heap := w.heap.setIfInBounds r o } := by
  simp [setObj, Sem.run, hb]
theorem heap_set' {w : World} {r : Nat} {o o' : Obj} (hb : w.heap[r]? = some o) : (w.heap.setIfInBounds r o')[r]? = some o' ∧ ∀ r', r' ≠ r → (w.heap.setIfInBounds r o')[r']? = w.heap[r']? := by
  have hlt : r < w.heap.size := (Array.getElem?_eq_some_iff.1 hb).1
  exact ⟨by simp [hlt], fun r' hne => by simp [Ne.symm hne]⟩
theorem heap_alloc' (w : World) (o : Obj) : (w.alloc o).heap[w.heap.size]? = some o ∧ ∀ r', r' < w.heap.size → (w.alloc o).heap[r']? = w.heap[r']? := by
  have e : (w.alloc o).heap = w.heap.push o := rfl
  rw [e]
  exact ⟨by simp, fun r' h => by simp [Array.getElem?_push, Nat.ne_of_lt h]⟩
def entsL {α β : Type} (kv : α → Value) (ev : β → Value) : List (α × β) → Nat → List MapEntry
  | [], _ => []
  | (k, x) :: r, i => ⟨kv k, ev x, i⟩ :: entsL kv ev r (i + 1)
def mapC {α β : Type} (kv : α → Value) (ev : β → Value) (l : List (α × β)) : Cont := .map (entsL kv ev l 0).toArray l.length
def findE {α β : Type} (eqb : α → α → Bool) (k : α) : List (α × β) → Option β
  | [] => none
  | (h, x) :: r => if eqb k h = true then some x else findE eqb k r
def putE {α β : Type} (eqb : α → α → Bool) (k : α) (x : β) : List (α × β) → List (α × β)
  | [] => [(k, x)]
  | (h, y) :: r => if eqb k h = true then (k, x) :: r else (h, y) :: putE eqb k x r
structure MapT {α β : Type} (P : Program) (mt kt et : TypeId) (kv : α → Value) (ev : β → Value) (z : β) (eqb : α → α → Bool) : Prop where
  hm : P.underlying mt = some (.map kt et)
  chk : ∀ em k w, (Instr.checkKey em 10000 kt (kv k)).run P w = .ok () w
  fnd : ∀ k l i w, ∀ r : Option (Nat × Value), (Instr.findAsking kt (kv k) l i).run P w = .ok r w → (Instr.findKey kt (kv k) l).run P w = (Instr.findAsking kt (kv k) l 0).run P w
  eqr : ∀ k h w, (Op.equal kt (kv k) (kv h)).run P w = .ok (eqb k h) w
  eqv : ∀ k h, eqb k h = true → Instr.sameBits 10000 (kv h) (kv k) = true
  zer : ∀ w, (zeroValue et).run P w = .ok (ev z) w
def findI {α β : Type} (eqb : α → α → Bool) (k : α) : List (α × β) → Nat → Option (Nat × β)
  | [], _ => none
  | (h, x) :: r, i => if eqb k h = true then some (i, x) else findI eqb k r (i + 1)
section
variable {α β : Type} {P : Program} {mt kt et : TypeId} {kv : α → Value} {ev : β → Value} {z : β} {eqb : α → α → Bool}
theorem run_asking (M : MapT P mt kt et kv ev z eqb) (k : α) (w : World) : ∀ (l : List (α × β)) (n i : Nat), (Instr.findAsking kt (kv k) (entsL kv ev l n) i).run P w = .ok ((findI eqb k l i).map fun p => (p.1, ev p.2)) w
  | [], _, _ => rfl
  | (h, x) :: r, n, i => by
    simp only [entsL, Instr.findAsking, Sem.run_bind, M.eqr, Result.andThen_ok, findI]
    by_cases e : eqb k h = true
    · rw [if_pos e, if_pos e]; rfl
    · rw [if_neg e, if_neg e]; exact run_asking M k w r (n + 1) (i + 1)
theorem run_findKeyM (M : MapT P mt kt et kv ev z eqb) (k : α) (w : World) (l : List (α × β)) : (Instr.findKey kt (kv k) (entsL kv ev l 0)).run P w = .ok ((findI eqb k l 0).map fun p => (p.1, ev p.2)) w := by
  rw [M.fnd k _ 0 w _ (run_asking M k w l 0 0)]; exact run_asking M k w l 0 0
theorem findI_E (k : α) : ∀ (l : List (α × β)) (i : Nat), (findI eqb k l i).map (·.2) = findE eqb k l
  | [], _ => rfl
  | (h, x) :: r, i => by
    simp only [findI, findE]
    split
    · rfl
    · exact findI_E k r (i + 1)
theorem findI_spec (k : α) : ∀ (l : List (α × β)) (i j : Nat) (x : β), findI eqb k l i = some (j, x) → ∃ h, i ≤ j ∧ l[j - i]? = some (h, x) ∧ eqb k h = true
  | [], _, _, _, e => by cases e
  | (h, y) :: r, i, j, x, e => by
    simp only [findI] at e
    split at e
    · rename_i he
      injection e with e; injection e with e1 e2; subst e1; subst e2
      exact ⟨h, Nat.le_refl _, by simp, he⟩
    · obtain ⟨h', h1, h2, h3⟩ := findI_spec k r (i + 1) j x e
      exact ⟨h', by omega, by rw [show j - i = (j - (i + 1)) + 1 by omega]; simpa using h2, h3⟩
theorem entsL_get : ∀ (l : List (α × β)) (n j : Nat) (h : α) (x : β), l[j]? = some (h, x) → (entsL kv ev l n)[j]? = some ⟨kv h, ev x, n + j⟩
  | [], _, _, _, _, e => by simp at e
  | (h0, x0) :: r, n, 0, h, x, e => by
    simp at e; obtain ⟨rfl, rfl⟩ := e; simp [entsL]
  | (h0, x0) :: r, n, j + 1, h, x, e => by
    simp only [List.getElem?_cons_succ] at e
    simp only [entsL, List.getElem?_cons_succ]
    rw [entsL_get r (n + 1) j h x e, show n + 1 + j = n + (j + 1) by omega]
theorem entsL_len : ∀ (l : List (α × β)) (n : Nat), (entsL kv ev l n).length = l.length
  | [], _ => rfl
  | _ :: r, n => by simp [entsL, entsL_len r]
theorem entsL_put (k : α) (x : β) : ∀ (l : List (α × β)) (n i : Nat) (j : Nat) (y : β), findI eqb k l i = some (j, y) →
    (entsL kv ev l n).modify (j - i) (fun e => { e with key := kv k, val := ev x }) = entsL kv ev (putE eqb k x l) n ∧ (putE eqb k x l).length = l.length
  | [], _, _, _, _, e => by cases e
  | (h, y0) :: r, n, i, j, y, e => by
    simp only [findI] at e
    split at e
    · rename_i he
      injection e with e; injection e with e1 e2; subst e1
      simp [putE, he, entsL]
    · rename_i he
      obtain ⟨_, h1, _, _⟩ := findI_spec k r (i + 1) j y e
      obtain ⟨i1, i2⟩ := entsL_put k x r (n + 1) (i + 1) j y e
      rw [show j - i = (j - (i + 1)) + 1 by omega]
      simp only [putE, he, entsL]
      simp [i1, i2, entsL]
theorem entsL_new (k : α) (x : β) : ∀ (l : List (α × β)) (n i : Nat), findI eqb k l i = none →
    entsL kv ev l n ++ [⟨kv k, ev x, n + l.length⟩] = entsL kv ev (putE eqb k x l) n ∧ (putE eqb k x l).length = l.length + 1
  | [], n, i, e => by simp [putE, entsL]
  | (h, y0) :: r, n, i, e => by
    simp only [findI] at e
    split at e
    · cases e
    · rename_i he
      obtain ⟨i1, i2⟩ := entsL_new k x r (n + 1) (i + 1) e
      simp only [putE, he, entsL]
      simp only [Bool.false_eq_true, if_false, entsL, List.cons_append, List.length_cons]
      refine ⟨?_, by simp [i2]⟩
      rw [← i1, show n + (r.length + 1) = n + 1 + r.length by omega]
def lookSem (t : TypeId) (x k : Value) (ok : Bool) : Sem Next := do pure (.value (← Instr.lookup t x k ok))
theorem srun_look (M : MapT P mt kt et kv ev z eqb) (b : Nat) (own : Bool) (l : List (α × β)) (k : α) :
    SRuns P (lookSem mt (.map (some b)) (kv k) true) [⟨b, own, 0, mapC kv ev l⟩] 0 (fun _ => .tuple #[ev ((findE eqb k l).getD z), .bool (findE eqb k l).isSome]) (fun _ => [none]) := by
  intro w hall ha
  have hb := (hall _ (List.mem_singleton.2 rfl)).obj _ _ rfl
  refine ⟨[], w, rfl, .inl (run_value ?_), ⟨fun p c hpc => ?_, fun p p' c d hpp hc hd ho => ?_, ⟨rfl, rfl, rfl, Nat.le_refl _, fun _ _ _ => rfl, fun j hj => ?_, fun p c hpc ho => ?_⟩⟩⟩
  · simp only at hb
    unfold Instr.lookup
    simp only [Sem.run_bind, run_underlying M.hm, Result.andThen_ok, run_gm hb, Sem.run_pure, M.chk, run_findKeyM M]
    have hE := findI_E (eqb := eqb) k l 0
    cases hf : findI eqb k l 0 with
    | none =>
      rw [hf] at hE; simp only [Option.map_none] at hE
      rw [← hE]
      simp [M.zer]
    | some q =>
      rw [hf] at hE; simp only [Option.map_some] at hE
      rw [← hE]
      simp
  · rcases p with _ | p <;> simp [listMem] at hpc
  · rcases p with _ | p <;> simp [listMem] at hc
  · obtain ⟨p, c, hpc, _, _⟩ := hj
    rcases p with _ | p <;> simp [listMem] at hpc
  · rcases p with _ | p <;> simp [listMem] at hpc
def updSem (t : TypeId) (x k v : Value) : Sem Next := do Instr.mapUpdate t x k v; pure .skip
theorem post_map {b : Nat} {es es' : Array MapEntry} {c c' : Nat} {w : World} (h : Holds ⟨b, true, 0, .map es c⟩ w) :
    Post (listMem ([⟨b, true, 0, .map es c⟩].map some)) w (listMem [some ⟨b, true, 0, .map es' c'⟩]) { w with heap := w.heap.setIfInBounds b (.map es' c') } := by
  have hb := h.obj _ _ rfl
  obtain ⟨h1, h2⟩ := heap_set' (o' := .map es' c') hb
  refine ⟨fun p q hpq => ?_, fun p p' q d hpp hc hd ho => ?_, ⟨rfl, rfl, rfl, by simp, fun j hj hn => h2 j fun e => ?_, fun j hj => ?_, fun p q hpq ho => ?_⟩⟩
  · rcases p with _ | p
    · injection hpq with hpq; subst hpq
      exact ⟨by simpa using h.lt, (fun o v ho => by cases ho), (fun _ o v ho => by cases ho), fun es2 c2 e2 => by injection e2 with e2 e3; subst e2; subst e3; exact h1⟩
    · simp [listMem] at hpq
  · rcases p with _ | p
    · rcases p' with _ | p'
      · exact absurd rfl hpp
      · simp [listMem] at hd
    · simp [listMem] at hc
  · subst e
    exact hn ⟨0, _, rfl, rfl, rfl⟩
  · obtain ⟨p, q, hpq, ho, rfl⟩ := hj
    rcases p with _ | p
    · injection hpq with hpq; subst hpq; exact .inl ⟨0, _, rfl, rfl, rfl⟩
    · simp [listMem] at hpq
  · rcases p with _ | p
    · injection hpq with hpq; subst hpq; cases ho
    · simp [listMem] at hpq
theorem srun_upd (M : MapT P mt kt et kv ev z eqb) (b : Nat) (l : List (α × β)) (k : α) (x : β) :
    SRuns P (updSem mt (.map (some b)) (kv k) (ev x)) [⟨b, true, 0, mapC kv ev l⟩] 0 (fun _ => undef) (fun _ => [some ⟨b, true, 0, mapC kv ev (putE eqb k x l)⟩]) := by
  intro w hall ha
  have hH := hall _ (List.mem_singleton.2 rfl)
  have hb := hH.obj _ _ rfl
  simp only at hb
  refine ⟨[], _, rfl, .inr ⟨?_, rfl⟩, post_map hH⟩
  unfold updSem Instr.mapUpdate
  simp only [Sem.run_bind, run_underlying M.hm, Result.andThen_ok, run_gm hb, M.chk, run_findKeyM M]
  cases hf : findI eqb k l 0 with
  | none =>
    obtain ⟨i1, i2⟩ := entsL_new (kv := kv) (ev := ev) k x l 0 0 hf
    simp only [Option.map_none, run_sm _ hb, Sem.run_pure, Result.andThen_ok]
    congr 4
    · rw [← i1]; simp
    · exact i2.symm
  | some q =>
    obtain ⟨j, y⟩ := q
    obtain ⟨h, _, h2, h3⟩ := findI_spec k l 0 j y hf
    obtain ⟨i1, i2⟩ := entsL_put (kv := kv) (ev := ev) k x l 0 0 j y hf
    have hj := entsL_get (kv := kv) (ev := ev) l 0 j h y (by simpa using h2)
    have hs := M.eqv k h h3
    simp only [Option.map_some, List.getElem?_toArray, hj, Option.getD_some, Instr.keyThatStays, hs, if_true, Sem.run_pure, Result.andThen_ok, run_sm _ hb]
    rw [i2, ← i1]
    simp [run_sm _ hb]
def mkmSem (t : TypeId) : Sem Next := do pure (.value (← Instr.makeMap t none))
theorem srun_mkm (t : TypeId) : SRuns P (mkmSem t) [] 1 (fun ns => .map (some (ns.getD 0 0))) (fun ns => [some ⟨ns.getD 0 0, true, 0, mapC kv ev []⟩]) := by
  intro w hall ha
  obtain ⟨h1, h2⟩ := heap_alloc' w (.map #[] 0)
  refine ⟨[w.heap.size], w.alloc (.map #[] 0), rfl, .inl (run_value rfl), ⟨fun p c hpc => ?_, fun p p' c d hpp hc hd ho => ?_, ⟨rfl, rfl, rfl, by simp, fun j hj _ => h2 j hj, fun j hj => ?_, fun p c hpc ho => ?_⟩⟩⟩
  · rcases p with _ | p
    · injection hpc with hpc; subst hpc
      exact ⟨by simp, (fun o v ho => by cases ho), (fun _ o v ho => by cases ho), fun es2 c2 e2 => by injection e2 with e2 e3; subst e2; subst e3; exact h1⟩
    · simp [listMem] at hpc
  · rcases p with _ | p
    · rcases p' with _ | p'
      · exact absurd rfl hpp
      · simp [listMem] at hd
    · simp [listMem] at hc
  · obtain ⟨p, c, hpc, ho, rfl⟩ := hj
    rcases p with _ | p
    · injection hpc with hpc; subst hpc; exact .inr (Nat.le_refl _)
    · simp [listMem] at hpc
  · rcases p with _ | p
    · injection hpc with hpc; subst hpc; cases ho
    · simp [listMem] at hpc
end
def ev0 (_ : Unit) : Value := .agg #[]
theorem eq4_eq {x y : N4} (h : eq4 x y = true) : x = y := by
  simp only [eq4, Bool.and_eq_true, beq_iff_eq] at h
  obtain ⟨a, b, c, d⟩ := x
  obtain ⟨a', b', c', d'⟩ := y
  simp_all
theorem run_part_int {P : Program} {e : TypeId} {k : IntKind} {cs : Array Value} {i : Nat} {v : Value} (w : World) (he : P.underlying e = some (.int k)) (hv : cs[i]? = some v) : (part e cs i).run P w = .ok v w := pureRun_run (pureRun_part he hv) w
theorem chk_arr4 {P : Program} {t e : TypeId} (ht : P.underlying t = some (.array 4 e)) (he : P.underlying e = some (.int .u64)) (hs : sizeB P e = some 1) (em : Bool) (x : N4) (w : World) : (Instr.checkKey em 10000 t (nat4 x)).run P w = .ok () w := by
  have hsz : (sizeOf e).run P w = .ok 1 w := pureRun_run (pureRun_sizeOf hs) w
  have hc : ∀ k a, (Instr.checkKey em 9999 e (.int k a)).run P w = .ok () w := fun k a => by
    unfold Instr.checkKey; simp [run_underlying he]
  have hp : ∀ i v, (#[u64 x.a, u64 x.b, u64 x.c, u64 x.d] : Array Value)[i]? = some v → (part e #[u64 x.a, u64 x.b, u64 x.c, u64 x.d] i).run P w = .ok v w := fun i v h => run_part_int w he h
  unfold Instr.checkKey
  simp [Std.Legacy.Range.forIn_eq_forIn_range', Std.Legacy.Range.size, List.range', run_underlying ht, nat4, hsz, hc]
  have h0 := hp 0 (u64 x.a) rfl; have h1 := hp 1 (u64 x.b) rfl; have h2 := hp 2 (u64 x.c) rfl; have h3 := hp 3 (u64 x.d) rfl
  simp only [u64] at h0 h1 h2 h3 ⊢
  simp only [h0, Result.andThen_ok, hc, hsz, h1, Nat.mul_one, h2, h3]
theorem nat4_keys {P : Program} {mt kt et u : TypeId} (hm : P.underlying mt = some (.map kt et)) (ht : P.underlying kt = some (.array 4 u)) (hu : P.underlying u = some (.int .u64)) (hs : sizeB P u = some 1) {β : Type} {ev : β → Value} {z : β}
    (hz : ∀ w, (zeroValue et).run P w = .ok (ev z) w) : MapT P mt kt et nat4 ev z eq4 where
  hm := hm
  chk em k w := chk_arr4 ht hu hs em k w
  fnd k l i w r h := run_findKey_eq w (by rw [ht]) _ _
  eqr k h w := pureRun_run (equal_nat4 ht hu hs k h) w
  eqv k h e := by
    have := eq4_eq e
    subst this
    simp [Instr.sameBits, nat4, u64]
  zer := hz
end Go.Eng
end
section
namespace Go.Eng
open Go.RowKit Go.WideShapes Go.ChangeShapes Go.ChangeAt Go.Deep
set_option linter.unusedSimpArgs false
set_option linter.unusedVariables false
set_option maxRecDepth 100000
theorem Runs.toF {F : Blk → Prop} {P : Program} {f : FuncId} {args : List Value} {bs : List Blk} {k : Nat} {v : List Nat → Value} {out : List Nat → List (Option Blk)} (h : Runs P f args bs k v out) : RunsF F P f args bs k v out :=
  fun w hb ha _ => h w hb ha
theorem RunsF.mono {F F' : Blk → Prop} {P : Program} {f : FuncId} {args : List Value} {bs : List Blk} {k : Nat} {v : List Nat → Value} {out : List Nat → List (Option Blk)} (hs : ∀ b, F b → F' b) (h : RunsF F P f args bs k v out) : RunsF F' P f args bs k v out :=
  fun w hb ha hF => h w hb ha fun b hb' => hF b (hs b hb')
def noneL : List Blk → List (Option Blk)
  | [] => []
  | _ :: r => none :: noneL r
theorem noneL_get : ∀ (l : List Blk) (p : Nat) (b : Blk), listMem (noneL l) p ≠ some b
  | [], p, b => by simp [noneL, listMem]
  | _ :: r, 0, b => by simp [noneL, listMem]
  | _ :: r, p + 1, b => noneL_get r p b
theorem RunsF.read {F : Blk → Prop} {P : Program} {f : FuncId} {args : List Value} {cs : List Blk} {v : Value} (h : RunsF F P f args [] 0 (fun _ => v) (fun _ => []))
    (hF : ∀ w : World, (∀ b ∈ cs, Holds b w) → ∀ b, F b → Holds b w ∧ b.own = false) (hb : ∀ b ∈ cs, b.own = false) : Runs P f args cs 0 (fun _ => v) (fun _ => noneL cs) := by
  intro w hm ha
  have hno : ∀ k, ¬ Owns (listMem (([] : List Blk).map some)) k := fun k ⟨p, b, h1, h2, _⟩ => by cases h1
  refine Calls.mono (h w (fun b hb' => by cases hb') (fun p q b c _ hpb _ ho => by cases hpb) (fun b hFb => ⟨(hF w hm b hFb).1, (hF w hm b hFb).2, hno _⟩)) ?_
  rintro e w' ⟨ns, hns, he, hp⟩
  refine ⟨ns, hns, he, ⟨fun p b hpb => absurd hpb (noneL_get _ _ _), fun p q b c _ hpb _ _ => absurd hpb (noneL_get _ _ _), ⟨hp.adv.os, hp.adv.output, hp.adv.tape, hp.adv.size, fun k hk _ => hp.adv.heap k hk (hno k), fun k ⟨p, b, h1, _, _⟩ => absurd h1 (noneL_get _ _ _), fun p b hpb _ => absurd hpb (noneL_get _ _ _)⟩⟩⟩
section
variable {P : Program} {t e : TypeId} {x ix : Operand}
theorem is_ixSq {sz : Nat} (ht : P.underlying t = some (.slice e)) (he : sizeB P e = some sz) (b o n c i : Nat) (wa : Option Addr) (hwa : wa = some ⟨b, o, none⟩) (hi : i < n) : IsOp P (.indexAddr t x ix) [.slice wa n c, nat i] (ptr b (o + i * sz)) := by
  subst hwa; exact is_ixSl ht he b o n c i hi
end
theorem RunsF.over {F F' : Blk → Prop} {P : Program} {f : FuncId} {args : List Value} {bs : List Blk} {k : Nat} {v : List Nat → Value} {out : List Nat → List (Option Blk)} (hs : ∀ b, F b → ∃ b', F' b' ∧ b.name = b'.name ∧ b.own = b'.own ∧ ∀ w : World, Holds b' w → Holds b w) (h : RunsF F P f args bs k v out) : RunsF F' P f args bs k v out :=
  fun w hb ha hF => h w hb ha fun b hb' => by
    obtain ⟨b', h1, h2, h3, h4⟩ := hs b hb'
    obtain ⟨k1, k2, k3⟩ := hF b' h1
    exact ⟨h4 w k1, h3.trans k2, by rw [h2]; exact k3⟩
theorem RunsF.lend {F F' : Blk → Prop} {P : Program} {f : FuncId} {args : List Value} {cs : List Blk} {v : Value} (h : RunsF F P f args [] 0 (fun _ => v) (fun _ => []))
    (hF : ∀ w : World, (∀ b ∈ cs, Holds b w) → ∀ b, F b → F' b ∨ (Holds b w ∧ b.own = false)) (hb : ∀ b ∈ cs, b.own = false) : RunsF F' P f args cs 0 (fun _ => v) (fun _ => noneL cs) := by
  intro w hm ha hF'
  have hno : ∀ k, ¬ Owns (listMem (([] : List Blk).map some)) k := fun k ⟨p, b, h1, h2, _⟩ => by cases h1
  refine Calls.mono (h w (fun b hb' => by cases hb') (fun p q b c _ hpb _ ho => by cases hpb) (fun b hFb => ?_)) ?_
  · rcases hF w hm b hFb with h1 | h1
    · exact ⟨(hF' b h1).1, (hF' b h1).2.1, hno _⟩
    · exact ⟨h1.1, h1.2, hno _⟩
  rintro e w' ⟨ns, hns, he, hp⟩
  refine ⟨ns, hns, he, ⟨fun p b hpb => absurd hpb (noneL_get _ _ _), fun p q b c _ hpb _ _ => absurd hpb (noneL_get _ _ _), ⟨hp.adv.os, hp.adv.output, hp.adv.tape, hp.adv.size, fun k hk _ => hp.adv.heap k hk (hno k), fun k ⟨p, b, h1, _, _⟩ => absurd h1 (noneL_get _ _ _), fun p b hpb _ => absurd hpb (noneL_get _ _ _)⟩⟩⟩
theorem runsF_law {F : Blk → Prop} {P : Program} {f : FuncId} {args : List Value} {bs : List Blk} {v : Value} {out : List Nat → List (Option Blk)} {W : World} (h : RunsF F P f args bs 0 (fun _ => v) out) (hb : ∀ b ∈ bs, Holds b W) (hro : ∀ b ∈ bs, b.own = false)
    (hF : ∀ b, F b → Holds b W ∧ b.own = false) : Calls P f args.toArray W fun e w' => e = .returned v ∧ Below W.heap.size W w' := by
  have hl : ∀ p b, listMem (bs.map some) p = some b → b.own = false := fun p b hp => hro b (List.mem_of_getElem? (listMem_some.1 hp))
  refine Calls.mono (h W hb (fun p q x y _ hx _ ho => ?_) fun b hb => ⟨(hF b hb).1, (hF b hb).2, fun ⟨p, x, hp, ho, _⟩ => ?_⟩) fun e w' ⟨ns, _, he, hp⟩ => ⟨he, below_of_adv hp.adv hl⟩
  · rw [hl p x hx] at ho; cases ho
  · rw [hl p x hp] at ho; cases ho
theorem RunsF.lendR {F F' : Blk → Prop} {P : Program} {f : FuncId} {args : List Value} {bs cs : List Blk} {v : Value} (h : RunsF F P f args bs 0 (fun _ => v) (fun _ => bs.map some))
    (hF : ∀ w : World, (∀ b ∈ cs, Holds b w) → ∀ b, F b → F' b ∨ (Holds b w ∧ b.own = false)) (hb : ∀ b ∈ bs ++ cs, b.own = false) : RunsF F' P f args (bs ++ cs) 0 (fun _ => v) (fun _ => noneL (bs ++ cs)) := by
  intro w hm ha hF'
  have hno : ∀ (l : List Blk) k, (∀ b ∈ l, b.own = false) → ¬ Owns (listMem (l.map some)) k := fun l k hl ⟨p, b, h1, h2, _⟩ => by
    have := hl b (List.mem_of_getElem? (listMem_some.1 h1))
    rw [h2] at this; cases this
  have hbs : ∀ b ∈ bs, b.own = false := fun b hb' => hb b (by simp [hb'])
  refine Calls.mono (h w (fun b hb' => hm b (by simp [hb'])) (fun p q b c _ hpb _ ho => ?_) (fun b hFb => ?_)) ?_
  · have := hbs b (List.mem_of_getElem? (listMem_some.1 hpb))
    rw [ho] at this; cases this
  · rcases hF w (fun b hb' => hm b (by simp [hb'])) b hFb with h1 | h1
    · exact ⟨(hF' b h1).1, (hF' b h1).2.1, hno bs _ hbs⟩
    · exact ⟨h1.1, h1.2, hno bs _ hbs⟩
  · rintro e w' ⟨ns, hns, he, hp⟩
    refine ⟨ns, hns, he, ⟨fun p b hpb => absurd hpb (noneL_get _ _ _), fun p q b c _ hpb _ _ => absurd hpb (noneL_get _ _ _), ⟨hp.adv.os, hp.adv.output, hp.adv.tape, hp.adv.size, fun k hk _ => hp.adv.heap k hk (hno bs k hbs), fun k ⟨p, b, h1, _, _⟩ => absurd h1 (noneL_get _ _ _), fun p b hpb _ => absurd hpb (noneL_get _ _ _)⟩⟩⟩
theorem listMem_none (cs : List Blk) (l : List (Option Blk)) : ∀ (p : Nat) (b : Blk), listMem (noneL cs ++ l) p = some b → ∃ p', p = cs.length + p' ∧ listMem l p' = some b := by
  induction cs with
  | nil => intro p b h; exact ⟨p, by simp, h⟩
  | cons c r ih =>
    intro p b h
    cases p with
    | zero => simp [noneL, listMem] at h
    | succ p =>
      obtain ⟨p', h1, h2⟩ := ih p b (by simpa [noneL, listMem] using h)
      exact ⟨p', by simp only [List.length_cons]; omega, h2⟩
theorem RunsF.lendN {F F' : Blk → Prop} {P : Program} {f : FuncId} {args : List Value} {cs : List Blk} {k : Nat} {v : List Nat → Value} {out : List Nat → List (Option Blk)} (h : RunsF F P f args [] k v out)
    (hF : ∀ w : World, (∀ b ∈ cs, Holds b w) → ∀ b, F b → F' b ∨ (Holds b w ∧ b.own = false)) (hb : ∀ b ∈ cs, b.own = false) : RunsF F' P f args cs k v (fun ns => noneL cs ++ out ns) := by
  intro w hm ha hF'
  have hno : ∀ k, ¬ Owns (listMem (([] : List Blk).map some)) k := fun k ⟨p, b, h1, h2, _⟩ => by cases h1
  refine Calls.mono (h w (fun b hb' => by cases hb') (fun p q b c _ hpb _ ho => by cases hpb) (fun b hFb => ?_)) ?_
  · rcases hF w hm b hFb with h1 | h1
    · exact ⟨(hF' b h1).1, (hF' b h1).2.1, hno _⟩
    · exact ⟨h1.1, h1.2, hno _⟩
  rintro e w' ⟨ns, hns, he, hp⟩
  refine ⟨ns, hns, he, ⟨fun p b hpb => ?_, fun p q b c hpq hpb hqc ho => ?_, ⟨hp.adv.os, hp.adv.output, hp.adv.tape, hp.adv.size, fun k hk _ => hp.adv.heap k hk (hno k), fun k ⟨p, b, h1, h2, h3⟩ => ?_, fun p b hpb ho => ?_⟩⟩⟩
  · obtain ⟨p', _, h2⟩ := listMem_none cs _ p b hpb
    exact hp.holds p' b h2
  · obtain ⟨p', h1, h2⟩ := listMem_none cs _ p b hpb
    obtain ⟨q', h3, h4⟩ := listMem_none cs _ q c hqc
    exact hp.apart p' q' b c (by omega) h2 h4 ho
  · obtain ⟨p', _, h4⟩ := listMem_none cs _ p b h1
    rcases hp.adv.names k ⟨p', b, h4, h2, h3⟩ with h5 | h5
    · exact absurd h5 (hno k)
    · exact .inr h5
  · obtain ⟨p', _, h4⟩ := listMem_none cs _ p b hpb
    have := hp.adv.ro p' b h4 ho
    cases this
def fromA (a : Option Addr) (cap i sz : Nat) : Option Addr := if cap = i then a else a.map (·.add (i * sz))
theorem is_slqFrom {P : Program} {t e : TypeId} {x y : Operand} (ht : P.underlying t = some (.slice e)) {sz : Nat} (hs : sizeB P e = some sz) (wa : Option Addr) (len cap i : Nat) (hi : i ≤ len ∧ len ≤ cap) : IsOp P (.slice t x (some y) none none) [.slice wa len cap, nat i] (.slice (fromA wa cap i sz) (len - i) (cap - i)) := by
  intro ρ o' ho hv
  rw [ho] at hv
  have hv' : [ρ x, ρ y] = [Value.slice wa len cap, nat i] := hv
  injection hv' with h1 hv'
  injection hv' with h2 _
  unfold execOp
  rw [ho]
  simp only [Option.map]
  show pureRun P (Sem.bind (Instr.sliceAt t (ρ x) (some (ρ y)) none none) fun v => Sem.pure (Next.value v)) = _
  rw [pureRun_bind, h1, h2]
  have hi' : 0 ≤ (i : Int) ∧ (i : Int) ≤ (len : Int) := by omega
  have e : pureRun P (Instr.sliceAt t (.slice wa len cap) (some (nat i)) none none) = some (.slice (fromA wa cap i sz) (len - i) (cap - i)) := by
    simp only [Instr.sliceAt, Instr.slice, Instr.sliceBounds, Instr.sliceBound, nat, pureRun_bind', asIntOf, pureRun, pure, pureRun_underlying ht, hi', and_self, if_true, pureRun_sizeOf hs, Int.toNat_natCast]
    rfl
  rw [e]
  rfl
def FamH (F : Blk → Prop) (w : World) : Prop := ∀ b, F b → Holds b w ∧ b.own = false
theorem RunsF.lendS {F F' : Blk → Prop} {P : Program} {f : FuncId} {args : List Value} {bs cs : List Blk} {v : Value} (h : RunsF F P f args bs 0 (fun _ => v) (fun _ => bs.map some))
    (hF : ∀ w : World, FamH F' w → (∀ b ∈ cs, Holds b w) → FamH F w) (hb : ∀ b ∈ bs ++ cs, b.own = false) : RunsF F' P f args (bs ++ cs) 0 (fun _ => v) (fun _ => noneL (bs ++ cs)) := by
  intro w hm ha hF'
  have hno : ∀ (l : List Blk) k, (∀ b ∈ l, b.own = false) → ¬ Owns (listMem (l.map some)) k := fun l k hl ⟨p, b, h1, h2, _⟩ => by
    have := hl b (List.mem_of_getElem? (listMem_some.1 h1))
    rw [h2] at this; cases this
  have hbs : ∀ b ∈ bs, b.own = false := fun b hb' => hb b (by simp [hb'])
  have hw := hF w (fun b hb' => ⟨(hF' b hb').1, (hF' b hb').2.1⟩) (fun b hb' => hm b (by simp [hb']))
  refine Calls.mono (h w (fun b hb' => hm b (by simp [hb'])) (fun p q b c _ hpb _ ho => ?_) (fun b hFb => ⟨(hw b hFb).1, (hw b hFb).2, hno bs _ hbs⟩)) ?_
  · have := hbs b (List.mem_of_getElem? (listMem_some.1 hpb))
    rw [ho] at this; cases this
  · rintro e w' ⟨ns, hns, he, hp⟩
    refine ⟨ns, hns, he, ⟨fun p b hpb => absurd hpb (noneL_get _ _ _), fun p q b c _ hpb _ _ => absurd hpb (noneL_get _ _ _), ⟨hp.adv.os, hp.adv.output, hp.adv.tape, hp.adv.size, fun k hk _ => hp.adv.heap k hk (hno bs k hbs), fun k ⟨p, b, h1, _, _⟩ => absurd h1 (noneL_get _ _ _), fun p b hpb _ => absurd hpb (noneL_get _ _ _)⟩⟩⟩
theorem RunsF.darkF {F : Blk → Prop} {P : Program} {f : FuncId} {args : List Value} {bs : List Blk} {k : Nat} {v : List Nat → Value} {out : List Nat → List (Option Blk)} (fl : List Bool) (h : RunsF F P f args bs k v out) :
    RunsF F P f args bs k v (fun ns => dkn fl (out ns)) := fun w hb ha hF => Calls.mono (h w hb ha hF) fun _ _ ⟨ns, h1, h2, h3⟩ => ⟨ns, h1, h2, h3.sub (dkn_sub fl (out ns))⟩
theorem is_slqTo {P : Program} {t e : TypeId} {x y : Operand} (ht : P.underlying t = some (.slice e)) {sz : Nat} (hs : sizeB P e = some sz) (wa : Option Addr) (len cap i : Nat) (hi : i ≤ cap) : IsOp P (.slice t x none (some y) none) [.slice wa len cap, nat i] (.slice wa i cap) := by
  intro ρ o' ho hv
  rw [ho] at hv
  have hv' : [ρ x, ρ y] = [Value.slice wa len cap, nat i] := hv
  injection hv' with h1 hv'
  injection hv' with h2 _
  unfold execOp
  rw [ho]
  simp only [Option.map]
  show pureRun P (Sem.bind (Instr.sliceAt t (ρ x) none (some (ρ y)) none) fun v => Sem.pure (Next.value v)) = _
  rw [pureRun_bind, h1, h2]
  have hi' : 0 ≤ (i : Int) ∧ (i : Int) ≤ (cap : Int) := by omega
  have e : pureRun P (Instr.sliceAt t (.slice wa len cap) none (some (nat i)) none) = some (.slice wa i cap) := by
    simp only [Instr.sliceAt, Instr.slice, Instr.sliceBounds, Instr.sliceBound, nat, pureRun_bind', asIntOf, pureRun, pure, pureRun_underlying ht, hi', and_self, if_true, pureRun_sizeOf hs, Int.toNat_natCast]
    cases wa <;> simp [Addr.add]
  rw [e]
  rfl
end Go.Eng
end
section
set_option linter.unusedVariables false
namespace Go.Eng
structure SWO {α : Type} (lt : α → α → Bool) : Prop where
  irr : ∀ a, lt a a = false
  tr : ∀ a b c, lt a b = true → lt b c = true → lt a c = true
  neg : ∀ a b c, lt a b = false → lt b c = false → lt a c = false
section
variable {α : Type} {lt : α → α → Bool}
theorem SWO.asy (h : SWO lt) {a b : α} (hab : lt a b = true) : lt b a = false := by
  cases hb : lt b a with
  | false => rfl
  | true => have := h.tr a b a hab hb; rw [h.irr a] at this; cases this
def swp (f : Nat → α) (i k : Nat) : Nat → α := upd (upd f i (f k)) k (f i)
theorem swp_i (f : Nat → α) (i k : Nat) : swp f i k i = f k := by
  unfold swp upd
  by_cases h : i = k
  · subst h; simp
  · simp [h]
theorem swp_k (f : Nat → α) (i k : Nat) : swp f i k k = f i := by unfold swp upd; simp
theorem swp_o (f : Nat → α) {i k x : Nat} (h1 : x ≠ i) (h2 : x ≠ k) : swp f i k x = f x := by unfold swp upd; simp [h1, h2]
structure En (f : Nat → α) (n : Nat) (S : α → Prop) : Prop where
  mem : ∀ k, k < n → S (f k)
  sur : ∀ x, S x → ∃ k, k < n ∧ f k = x
  inj : ∀ j k, j < n → k < n → f j = f k → j = k
theorem En.swp {f : Nat → α} {n : Nat} {S : α → Prop} (h : En f n S) {i k : Nat} (hi : i < n) (hk : k < n) : En (swp f i k) n S := by
  have hs : ∀ x, Go.Eng.swp f i k x = f (if x = i then k else if x = k then i else x) := fun x => by
    by_cases h1 : x = i
    · subst h1; rw [swp_i, if_pos rfl]
    · by_cases h2 : x = k
      · subst h2; rw [swp_k, if_neg h1, if_pos rfl]
      · rw [swp_o f h1 h2, if_neg h1, if_neg h2]
  have hlt : ∀ x, x < n → (if x = i then k else if x = k then i else x) < n := fun x hx => by
    by_cases h1 : x = i
    · rw [if_pos h1]; exact hk
    · rw [if_neg h1]
      by_cases h2 : x = k
      · rw [if_pos h2]; exact hi
      · rw [if_neg h2]; exact hx
  refine ⟨fun x hx => by rw [hs]; exact h.mem _ (hlt x hx), fun y hy => ?_, fun x z hx hz e => ?_⟩
  · obtain ⟨x, hx, rfl⟩ := h.sur y hy
    refine ⟨if x = i then k else if x = k then i else x, hlt x hx, ?_⟩
    rw [hs]
    congr 1
    by_cases h1 : x = i
    · subst h1
      rw [if_pos rfl]
      by_cases h2 : k = x
      · rw [if_pos h2]; exact h2
      · rw [if_neg h2, if_pos rfl]
    · rw [if_neg h1]
      by_cases h2 : x = k
      · subst h2; rw [if_pos rfl, if_pos rfl]
      · rw [if_neg h2, if_neg h1, if_neg h2]
  · rw [hs, hs] at e
    have e := h.inj _ _ (hlt x hx) (hlt z hz) e
    by_cases h1 : x = i <;> by_cases h2 : x = k <;> by_cases h3 : z = i <;> by_cases h4 : z = k <;> simp_all
theorem En.push {f : Nat → α} {n : Nat} {S : α → Prop} (h : En f n S) {x : α} (hx : ¬ S x) : En (catU f n fun _ => x) (n + 1) fun y => S y ∨ y = x := by
  have h1 : ∀ k, k < n → catU f n (fun _ => x) k = f k := fun k hk => if_pos hk
  have h2 : catU f n (fun _ => x) n = x := if_neg (Nat.lt_irrefl n)
  refine ⟨fun k hk => ?_, fun y hy => ?_, fun j k hj hk e => ?_⟩
  · by_cases h3 : k < n
    · rw [h1 k h3]; exact .inl (h.mem k h3)
    · rw [show k = n by omega, h2]; exact .inr rfl
  · rcases hy with hy | rfl
    · obtain ⟨k, hk, rfl⟩ := h.sur y hy
      exact ⟨k, by omega, h1 k hk⟩
    · exact ⟨n, by omega, h2⟩
  · by_cases h3 : j < n <;> by_cases h4 : k < n
    · rw [h1 j h3, h1 k h4] at e; exact h.inj j k h3 h4 e
    · rw [h1 j h3, show k = n by omega, h2] at e; exact absurd (e ▸ h.mem j h3) hx
    · rw [h1 k h4, show j = n by omega, h2] at e; exact absurd (e ▸ h.mem k h4) hx
    · omega
theorem En.pop {f : Nat → α} {n : Nat} {S : α → Prop} (h : En f (n + 1) S) : En f n fun y => S y ∧ y ≠ f n :=
  ⟨fun k hk => ⟨h.mem k (by omega), fun e => by have := h.inj k n (by omega) (by omega) e; omega⟩, fun y hy => by
    obtain ⟨k, hk, rfl⟩ := h.sur y hy.1
    refine ⟨k, ?_, rfl⟩
    rcases Nat.lt_or_ge k n with h1 | h1
    · exact h1
    · exact absurd (by rw [show k = n by omega]) hy.2, fun j k hj hk e => h.inj j k (by omega) (by omega) e⟩
theorem En.congr {f g : Nat → α} {n : Nat} {S : α → Prop} (h : En f n S) (hg : ∀ k, k < n → g k = f k) : En g n S :=
  ⟨fun k hk => by rw [hg k hk]; exact h.mem k hk, fun x hx => by obtain ⟨k, hk, e⟩ := h.sur x hx; exact ⟨k, hk, by rw [hg k hk, e]⟩, fun j k hj hk e => h.inj j k hj hk (by rw [← hg j hj, ← hg k hk, e])⟩
theorem En.iff {f : Nat → α} {n : Nat} {S T : α → Prop} (h : En f n S) (hT : ∀ x, T x ↔ S x) : En f n T :=
  ⟨fun k hk => (hT _).2 (h.mem k hk), fun x hx => h.sur x ((hT x).1 hx), h.inj⟩
theorem En.none {f : Nat → α} : En f 0 fun _ => False := ⟨fun k h => absurd h (Nat.not_lt_zero k), fun _ h => h.elim, fun j k h => absurd h (Nat.not_lt_zero j)⟩
def HpB (lt : α → α → Bool) (b : Nat) (f : Nat → α) (n : Nat) : Prop := ∀ k, 0 < k → k < n → b ≤ (k - 1) / 2 → lt (f k) (f ((k - 1) / 2)) = false
theorem HpB.root (h : SWO lt) {f : Nat → α} {n : Nat} (hp : HpB lt 0 f n) : ∀ k, k < n → lt (f k) (f 0) = false := by
  intro k
  induction k using Nat.strongRecOn with
  | _ k ih =>
    intro hk
    by_cases h0 : k = 0
    · subst h0; exact h.irr _
    · exact h.neg _ _ _ (hp k (by omega) hk (Nat.zero_le _)) (ih ((k - 1) / 2) (by omega) (by omega))
def upH (lt : α → α → Bool) : Nat → (Nat → α) → Nat → Nat → α
  | 0, f, _ => f
  | m + 1, f, j => if j = 0 then f else if lt (f j) (f ((j - 1) / 2)) = true then upH lt m (swp f ((j - 1) / 2) j) ((j - 1) / 2) else f
def upF (lt : α → α → Bool) (f : Nat → α) (j : Nat) : Nat → α := upH lt j f j
theorem upH_zero (f : Nat → α) : ∀ m, upH lt m f 0 = f
  | 0 => rfl
  | m + 1 => by rw [upH, if_pos rfl]
theorem upH_more (f : Nat → α) : ∀ m j, j ≤ m → upH lt m f j = upH lt j f j := by
  intro m
  induction m using Nat.strongRecOn generalizing f with
  | _ m ih =>
    intro j hj
    rcases Nat.eq_zero_or_pos j with h0 | h0
    · subst h0; rw [upH_zero, upH_zero]
    · obtain ⟨m, rfl⟩ : ∃ q, m = q + 1 := ⟨m - 1, by omega⟩
      obtain ⟨j, rfl⟩ : ∃ q, j = q + 1 := ⟨j - 1, by omega⟩
      rw [upH, upH]
      split
      · rfl
      · split
        · rw [ih m (by omega) _ _ (by omega), ih j (by omega) _ ((j + 1 - 1) / 2) (by omega)]
        · rfl
theorem upF_end {f : Nat → α} {j : Nat} (h : j = 0 ∨ lt (f j) (f ((j - 1) / 2)) = false) : upF lt f j = f := by
  unfold upF
  cases j with
  | zero => rfl
  | succ j =>
    rw [upH, if_neg (by omega)]
    rcases h with h | h
    · omega
    · rw [if_neg (by rw [h]; decide)]
theorem upF_go {f : Nat → α} {j : Nat} (h0 : 0 < j) (h : lt (f j) (f ((j - 1) / 2)) = true) : upF lt f j = upF lt (swp f ((j - 1) / 2) j) ((j - 1) / 2) := by
  unfold upF
  obtain ⟨j, rfl⟩ : ∃ q, j = q + 1 := ⟨j - 1, by omega⟩
  rw [upH, if_neg (by omega), if_pos h, upH_more _ j _ (by omega)]
def HpU (lt : α → α → Bool) (f : Nat → α) (n j : Nat) : Prop :=
  (∀ k, 0 < k → k < n → k ≠ j → lt (f k) (f ((k - 1) / 2)) = false) ∧ ∀ k, 0 < k → k < n → (k - 1) / 2 = j → 0 < j → lt (f k) (f ((j - 1) / 2)) = false
theorem HpU.end {f : Nat → α} {n j : Nat} (hp : HpU lt f n j) (he : j = 0 ∨ lt (f j) (f ((j - 1) / 2)) = false) : HpB lt 0 f n := fun k h0 hk _ => by
  by_cases e : k = j
  · subst e
    rcases he with he | he
    · omega
    · exact he
  · exact hp.1 k h0 hk e
theorem HpU.step (h : SWO lt) {f : Nat → α} {n j : Nat} (hp : HpU lt f n j) (hj : 0 < j) (hn : j < n) (hl : lt (f j) (f ((j - 1) / 2)) = true) : HpU lt (swp f ((j - 1) / 2) j) n ((j - 1) / 2) := by
  have ho : ∀ x, x ≠ (j - 1) / 2 → x ≠ j → swp f ((j - 1) / 2) j x = f x := fun x h1 h2 => swp_o f h1 h2
  have hi : swp f ((j - 1) / 2) j ((j - 1) / 2) = f j := swp_i _ _ _
  have hk : swp f ((j - 1) / 2) j j = f ((j - 1) / 2) := swp_k _ _ _
  refine ⟨fun k h0 hkn hkp => ?_, fun k h0 hkn hkp h1 => ?_⟩
  · by_cases e : k = j
    · subst e; rw [hk, hi]; exact h.asy hl
    · rw [ho k hkp e]
      by_cases e2 : (k - 1) / 2 = j
      · rw [e2, hk]; exact hp.2 k h0 hkn e2 hj
      · by_cases e3 : (k - 1) / 2 = (j - 1) / 2
        · rw [e3, hi]; exact h.neg _ _ _ (e3 ▸ hp.1 k h0 hkn e) (h.asy hl)
        · rw [ho _ e3 e2]; exact hp.1 k h0 hkn e
  · rw [ho ((((j - 1) / 2) - 1) / 2) (by omega) (by omega)]
    by_cases e : k = j
    · subst e; rw [hk]; exact hp.1 _ h1 (by omega) (by omega)
    · rw [ho k (by omega) e]
      exact h.neg _ _ _ (hkp ▸ hp.1 k h0 hkn e) (hp.1 _ h1 (by omega) (by omega))
theorem upF_ok (h : SWO lt) {n : Nat} : ∀ (j : Nat) (f : Nat → α), j < n → HpU lt f n j → HpB lt 0 (upF lt f j) n ∧ (∀ S, En f n S → En (upF lt f j) n S) ∧ ∀ k, n ≤ k → upF lt f j k = f k := by
  intro j
  induction j using Nat.strongRecOn with
  | _ j ih =>
    intro f hj hp
    by_cases he : j = 0 ∨ lt (f j) (f ((j - 1) / 2)) = false
    · rw [upF_end he]; exact ⟨hp.end he, fun S hS => hS, fun _ _ => rfl⟩
    · have h0 : 0 < j := by omega
      have hl : lt (f j) (f ((j - 1) / 2)) = true := by
        cases hb : lt (f j) (f ((j - 1) / 2)) with
        | true => rfl
        | false => exact absurd (.inr hb) he
      rw [upF_go h0 hl]
      obtain ⟨h1, h2, h3⟩ := ih ((j - 1) / 2) (by omega) (swp f ((j - 1) / 2) j) (by omega) (hp.step h h0 hj hl)
      exact ⟨h1, fun S hS => h2 S (hS.swp (by omega) hj), fun k hk => (h3 k hk).trans (swp_o f (by omega) (by omega))⟩
def pushF (lt : α → α → Bool) (f : Nat → α) (n : Nat) (x : α) : Nat → α := upF lt (catU f n fun _ => x) n
theorem pushF_ok (h : SWO lt) {f : Nat → α} {n : Nat} {x : α} (hp : HpB lt 0 f n) : HpB lt 0 (pushF lt f n x) (n + 1) ∧ ∀ S, En f n S → ¬ S x → En (pushF lt f n x) (n + 1) fun y => S y ∨ y = x := by
  have hc : ∀ k, k < n → catU f n (fun _ => x) k = f k := fun k hk => if_pos hk
  obtain ⟨h1, h2, _⟩ := upF_ok h (n := n + 1) n (catU f n fun _ => x) (by omega) ⟨fun k h0 hk hkn => by rw [hc k (by omega), hc ((k - 1) / 2) (by omega)]; exact hp k h0 (by omega) (Nat.zero_le _), fun k h0 hk e => by omega⟩
  exact ⟨h1, fun S hS hx => h2 _ (hS.push hx)⟩
def pick (lt : α → α → Bool) (n : Nat) (f : Nat → α) (i : Nat) : Nat := if 2 * i + 2 < n ∧ lt (f (2 * i + 2)) (f (2 * i + 1)) = true then 2 * i + 2 else 2 * i + 1
def dnH (lt : α → α → Bool) (n : Nat) : Nat → (Nat → α) → Nat → (Nat → α) × Nat
  | 0, f, i => (f, i)
  | m + 1, f, i => if n ≤ 2 * i + 1 then (f, i) else if lt (f (pick lt n f i)) (f i) = true then dnH lt n m (swp f i (pick lt n f i)) (pick lt n f i) else (f, i)
def dnF (lt : α → α → Bool) (n : Nat) (f : Nat → α) (i : Nat) : (Nat → α) × Nat := dnH lt n n f i
theorem pick_gt (n : Nat) (f : Nat → α) (i : Nat) : i < pick lt n f i ∧ (2 * i + 1 < n → pick lt n f i < n) ∧ (pick lt n f i - 1) / 2 = i := by
  unfold pick; split <;> omega
theorem dnH_more {n : Nat} : ∀ (m q : Nat) (f : Nat → α) (i : Nat), n ≤ m + i → n ≤ q + i → dnH lt n m f i = dnH lt n q f i
  | 0, 0, f, i, _, _ => rfl
  | 0, q + 1, f, i, h, _ => by rw [dnH, dnH, if_pos (by omega)]
  | m + 1, 0, f, i, _, h => by rw [dnH, dnH, if_pos (by omega)]
  | m + 1, q + 1, f, i, h1, h2 => by
    have := pick_gt (lt := lt) n f i
    rw [dnH, dnH]
    split
    · rfl
    · split
      · exact dnH_more m q _ _ (by omega) (by omega)
      · rfl
theorem dnF_end {n : Nat} {f : Nat → α} {i : Nat} (h : n ≤ 2 * i + 1 ∨ lt (f (pick lt n f i)) (f i) = false) : dnF lt n f i = (f, i) := by
  unfold dnF
  cases n with
  | zero => rfl
  | succ n =>
    rw [dnH]
    rcases h with h | h
    · rw [if_pos h]
    · split
      · rfl
      · rw [if_neg (by rw [h]; decide)]
theorem dnF_go {n : Nat} {f : Nat → α} {i : Nat} (h1 : 2 * i + 1 < n) (h : lt (f (pick lt n f i)) (f i) = true) : dnF lt n f i = dnF lt n (swp f i (pick lt n f i)) (pick lt n f i) := by
  have := pick_gt (lt := lt) n f i
  unfold dnF
  obtain ⟨m, rfl⟩ : ∃ q, n = q + 1 := ⟨n - 1, by omega⟩
  rw [dnH, if_neg (by omega), if_pos h]
  exact dnH_more _ _ _ _ (by omega) (by omega)
def HpD (lt : α → α → Bool) (b : Nat) (f : Nat → α) (n i : Nat) : Prop :=
  (∀ k, 0 < k → k < n → b ≤ (k - 1) / 2 → (k - 1) / 2 ≠ i → lt (f k) (f ((k - 1) / 2)) = false) ∧ (0 < i → b ≤ (i - 1) / 2 → ∀ k, 0 < k → k < n → (k - 1) / 2 = i → lt (f k) (f ((i - 1) / 2)) = false)
theorem pick_least (h : SWO lt) {n : Nat} {f : Nat → α} {i k : Nat} (h0 : 0 < k) (hk : k < n) (e : (k - 1) / 2 = i) : lt (f k) (f (pick lt n f i)) = false := by
  have hk2 : k = 2 * i + 1 ∨ k = 2 * i + 2 := by omega
  unfold pick
  split
  · rename_i hc
    rcases hk2 with rfl | rfl
    · exact h.asy hc.2
    · exact h.irr _
  · rename_i hc
    rcases hk2 with rfl | rfl
    · exact h.irr _
    · cases hb : lt (f (2 * i + 2)) (f (2 * i + 1)) with
      | false => rfl
      | true => exact absurd ⟨hk, hb⟩ hc
theorem HpD.end (h : SWO lt) {b : Nat} {f : Nat → α} {n i : Nat} (hp : HpD lt b f n i) (he : n ≤ 2 * i + 1 ∨ lt (f (pick lt n f i)) (f i) = false) : HpB lt b f n := fun k h0 hk hb => by
  by_cases e : (k - 1) / 2 = i
  · rcases he with he | he
    · omega
    · rw [e]; exact h.neg _ _ _ (pick_least h h0 hk e) he
  · exact hp.1 k h0 hk hb e
theorem HpD.step (h : SWO lt) {b : Nat} {f : Nat → α} {n i : Nat} (hp : HpD lt b f n i) (hi : 2 * i + 1 < n) (hl : lt (f (pick lt n f i)) (f i) = true) : HpD lt b (swp f i (pick lt n f i)) n (pick lt n f i) := by
  obtain ⟨g1, g2', g3⟩ := pick_gt (lt := lt) n f i
  have g2 := g2' hi
  clear g2'
  have hleast : ∀ k, 0 < k → k < n → (k - 1) / 2 = i → lt (f k) (f (pick lt n f i)) = false := fun k a b c => pick_least h a b c
  generalize pick lt n f i = j at *
  have ho : ∀ x, x ≠ i → x ≠ j → swp f i j x = f x := fun x h1 h2 => swp_o f h1 h2
  have hi' : swp f i j i = f j := swp_i _ _ _
  have hk : swp f i j j = f i := swp_k _ _ _
  refine ⟨fun k h0 hkn hb hkp => ?_, fun h0j hb k h0 hkn hkp => ?_⟩
  · by_cases e : (k - 1) / 2 = i
    · rw [e, hi']
      by_cases e2 : k = j
      · rw [e2, hk]; exact h.asy hl
      · rw [ho k (by omega) e2]; exact hleast k h0 hkn e
    · rw [ho _ e hkp]
      by_cases e2 : k = i
      · subst e2; rw [hi']; exact hp.2 h0 hb j (by omega) g2 g3
      · rw [ho k e2 (by intro e3; subst e3; omega)]; exact hp.1 k h0 hkn hb e
  · rw [g3, hi', ho k (by omega) (by omega)]
    have := hp.1 k h0 hkn (by omega) (by omega)
    rw [hkp] at this; exact this
theorem dnF_ok (h : SWO lt) {b n : Nat} : ∀ (m i : Nat) (f : Nat → α), n ≤ m + i → HpD lt b f n i → HpB lt b (dnF lt n f i).1 n ∧ (∀ q S, n ≤ q → En f q S → En (dnF lt n f i).1 q S) ∧ (∀ k, n ≤ k → (dnF lt n f i).1 k = f k) ∧ i ≤ (dnF lt n f i).2 ∧ ∀ k, k < i → (dnF lt n f i).1 k = f k
  | m, i, f, hm, hp => by
    by_cases he : n ≤ 2 * i + 1 ∨ lt (f (pick lt n f i)) (f i) = false
    · rw [dnF_end he]; exact ⟨hp.end h he, fun q S _ hS => hS, fun _ _ => rfl, Nat.le_refl _, fun _ _ => rfl⟩
    · have hi : 2 * i + 1 < n := by omega
      have hl : lt (f (pick lt n f i)) (f i) = true := by
        cases hb : lt (f (pick lt n f i)) (f i) with
        | true => rfl
        | false => exact absurd (.inr hb) he
      obtain ⟨g1, g2', g3⟩ := pick_gt (lt := lt) n f i
      have g2 := g2' hi
      clear g2'
      rw [dnF_go hi hl]
      match m, hm with
      | 0, hm => omega
      | m + 1, hm =>
        obtain ⟨h1, h2, h3, h4, h5⟩ := dnF_ok h m (pick lt n f i) (swp f i (pick lt n f i)) (by omega) (hp.step h hi hl)
        exact ⟨h1, fun q S hq hS => h2 q S hq (hS.swp (by omega) (by omega)), fun k hk => (h3 k hk).trans (swp_o f (by omega) (by omega)), by omega, fun k hk => (h5 k (by omega)).trans (swp_o f (by omega) (by omega))⟩
def popF (lt : α → α → Bool) (f : Nat → α) (n : Nat) : Nat → α := (dnF lt n (swp f 0 n) 0).1
theorem popF_ok (h : SWO lt) {f : Nat → α} {n : Nat} (hp : HpB lt 0 f (n + 1)) : HpB lt 0 (popF lt f n) n ∧ popF lt f n n = f 0 ∧ (∀ S, En f (n + 1) S → En (popF lt f n) n fun y => S y ∧ y ≠ f 0) ∧ ∀ k, k < n + 1 → lt (f k) (f 0) = false := by
  obtain ⟨h1, h2, h3, _⟩ := dnF_ok h (b := 0) (n := n) n 0 (swp f 0 n) (by omega) ⟨fun k h0 hk _ hkp => by
    rw [swp_o f (by omega) (by omega), swp_o f (by omega) (by omega)]; exact hp k h0 (by omega) (Nat.zero_le _), fun h => absurd h (Nat.lt_irrefl 0)⟩
  have e : popF lt f n n = f 0 := (h3 n (Nat.le_refl _)).trans (swp_k f 0 n)
  refine ⟨h1, e, fun S hS => ?_, hp.root h⟩
  have := (h2 (n + 1) S (by omega) (hS.swp (by omega) (by omega))).pop
  have e2 : (dnF lt n (swp f 0 n) 0).1 n = f 0 := e
  rw [e2] at this; exact this
end
end Go.Eng
namespace Go.Eng
def invSem (recv : Value) (name : String) (args : Array Value) : Sem Next := do
  let d ← (pure { target := .fn (.method name) #[], args := #[recv] ++ args } : Sem Deferred)
  invoke d.target d.args
def derefM (P : Program) (t : TypeId) (name : String) (f : FuncId) (e : TypeId) : Bool := match P.info? t with
  | some i => match i.methods.find? (·.name == name) with
    | some m => match m.func with
      | some (g, false) => m.path.isEmpty && Nat.beq g f && Nat.ble 1 (P.types.size + Made.depth) && (match P.underlying t with
        | some (.pointer e') => Nat.beq e' e
        | _ => false) && (match aggB P e with
        | some false => true
        | _ => false) && (match P.funcs[f]? with
        | some fn => !(fn.name == "runtime.NumGoroutine") && !fn.body.isNone
        | none => false)
      | _ => false
    | none => false
  | none => false
theorem run_invoke_deref {P : Program} {t : TypeId} {name : String} {f : FuncId} {e : TypeId} (h : derefM P t name f e = true) {w : World} {r : Nat} {sv : Value} (hc : w.cell? ⟨r, 0, none⟩ = some sv) (args : Array Value) :
    (invSem (.iface t (.pointer (some ⟨r, 0, none⟩))) name args).run P w = .ok (.enter f (#[sv] ++ args)) w := by
  unfold derefM at h
  split at h
  · rename_i i hi
    split at h
    · rename_i m hm
      split at h
      · rename_i g hf
        simp only [Bool.and_eq_true] at h
        obtain ⟨⟨⟨⟨⟨hp, hg⟩, hk⟩, hu⟩, ha⟩, hfn⟩ := h
        have hg := Nat.eq_of_beq_eq_true hg
        subst hg
        obtain ⟨k, hk⟩ : ∃ k, P.types.size + Made.depth = k + 1 := ⟨P.types.size + Made.depth - 1, by have := Nat.le_of_ble_eq_true hk; omega⟩
        split at hu
        · rename_i e' hu'
          have he := Nat.eq_of_beq_eq_true hu
          subst he
          split at ha
          · rename_i hag
            split at hfn
            · rename_i fn hfn'
              simp only [Bool.and_eq_true, Bool.not_eq_true'] at hfn
              have hpath : m.path = #[] := by simpa using hp
              have hload := run_loadAt_one (P := P) (t := e') (w := w) (b := r) (o := 0) (v := sv) hag hc
              have hload' : (loadVar e' ⟨r, 0, none⟩).run P w = .ok sv w := by simpa [Instr.loadAt, Instr.sureAddr] using hload
              have hnil : ∀ (a : Array TypeId) (y : TypeId) (s m : String), Builtin.ssaWrapNilChk_ a y #[.pointer (some ⟨r, 0, none⟩), strVal s, strVal m] = pure (.pointer (some ⟨r, 0, none⟩)) := fun _ _ _ _ => rfl
              have hmeth : (method (k + 1) t (.pointer (some ⟨r, 0, none⟩)) name).run P w = .ok (g, sv) w := by
                simp [method, typeInfo, hi, hm, hpath, follow, hf, receiverAt, run_underlying hu', Place.get, hnil, asAddr, hload']
              have hcall : (callFunc g (#[sv] ++ args)).run P w = .ok (.enter g (#[sv] ++ args)) w := by
                have h1 : (fn.name == "runtime.NumGoroutine") = false := hfn.1
                have h2 : fn.body.isNone = false := hfn.2
                unfold callFunc
                simp only [Sem.run_bind, run_program, Result.andThen_ok, hfn', h1, h2, Bool.false_eq_true, if_false, Sem.run_pure]
              have hext : ((#[Value.iface t (.pointer (some ⟨r, 0, none⟩))] ++ args).extract 1 (1 + args.size)) = args := by
                apply Array.ext'
                simp
              have hm2 : (callMethod (.iface t (.pointer (some ⟨r, 0, none⟩))) name args).run P w = .ok (.enter g (#[sv] ++ args)) w := by
                simp only [callMethod, Sem.run_bind, run_program, Result.andThen_ok, hk, hmeth, hcall]
              show (invoke (.fn (.method name) #[]) (#[Value.iface t (.pointer (some ⟨r, 0, none⟩))] ++ args)).run P w = _
              have h0 : (#[Value.iface t (.pointer (some ⟨r, 0, none⟩))] ++ args)[0]? = some (Value.iface t (.pointer (some ⟨r, 0, none⟩))) := by
                rw [Array.getElem?_append_left (by simp)]; rfl
              have hsz : (#[Value.iface t (.pointer (some ⟨r, 0, none⟩))] ++ args).size = 1 + args.size := by simp
              simp only [invoke, h0, hsz, hext, hm2]
            · cases hfn
          · cases ha
        · cases hu
      · cases h
    · cases h
  · cases h
theorem mruns_deref {F : Blk → Prop} {P : Program} {t : TypeId} {name : String} {f : FuncId} {e : TypeId} (h : derefM P t name f e = true) {rb : Blk} {sv : Value} {args : Array Value} {bs : List Blk} {k : Nat} {v : List Nat → Value} {out : List Nat → List (Option Blk)}
    (hrb : rb ∈ bs) (hb : rb.base = 0) (hs : rb.cont.get 0 = some sv) (hR : RunsF F P f (sv :: args.toList) bs k v out) : MRuns F P (invSem (.iface t (.pointer (some ⟨rb.name, 0, none⟩))) name args) bs k v out := fun w hw ha hF => by
  have hc := (hw rb hrb).cell 0 sv hs
  rw [hb] at hc
  refine ⟨f, #[sv] ++ args, run_invoke_deref h hc args, ?_⟩
  have h2 := hR w hw ha hF
  have e : (sv :: args.toList).toArray = #[sv] ++ args := by apply Array.ext'; simp
  rw [e] at h2; exact h2
end Go.Eng
namespace Go.Eng
set_option linter.unusedSimpArgs false
set_option linter.unusedVariables false
set_option maxRecDepth 100000
def pshG {α : Type} (g : Nat → α) (len : Nat) (x z : α) (b nm : Nat) : Nat → α := fun j => if j < len then g j else if j = len then x else if nm = b then g j else z
theorem pshG_K {α β : Type} (K : α → β) (g : Nat → α) (len : Nat) (x z : α) (b nm : Nat) : (fun j => K (pshG g len x z b nm j)) = pshG (fun j => K (g j)) len (K x) (K z) b nm := by
  funext j; unfold pshG; split
  · rfl
  · split
    · rfl
    · split <;> rfl
theorem pshG_lt {α : Type} {g : Nat → α} {len : Nat} {x z : α} {b nm k : Nat} (h : k < len) : pshG g len x z b nm k = g k := if_pos h
theorem pshG_eq {α : Type} {g : Nat → α} {len : Nat} {x z : α} {b nm : Nat} : pshG g len x z b nm len = x := by unfold pshG; rw [if_neg (Nat.lt_irrefl _), if_pos rfl]
section
variable {P : Program} {t ty e : TypeId} {i : TypeInfo} {z : Value} {sz : Nat} {zc : List Value}
theorem srunJ_append (ht : P.underlying t = some (.slice e)) (hi : P.info? e = some i) (hz : i.zero = some z) (hsz : i.size = sz) (hs0 : 0 < sz) (hzc : z.cells.toList = zc) (hzl : zc.length = sz)
    {b len c k bo os cc : Nat} {g : Nat → List Value} {x : List Value} {S : Cont} (hle : len ≤ c) (hg : ∀ k, (g k).length = sz) (hx : x.length = sz) (hS : ∀ j, j < sz → S.get (os + j) = x[j]?) (h1 : x.all Value.oneCell' = true)
    (hb : (len + 1) * i.bytes ≤ 140737488355328) (hb2 : len + 1 ≤ 9223372036854775807) :
    SRuns P (appendSem t ty (.slice (some ⟨b, 0, none⟩) len c) (.slice (some ⟨k, bo + os, none⟩) 1 cc)) [⟨b, true, 0, .tab c sz g⟩, ⟨k, false, bo, S⟩] 2
      (fun ns => .slice (some ⟨ns.getD 0 0, 0, none⟩) (len + 1) (len + 1 + ns.getD 1 0))
      (fun ns => [some ⟨ns.getD 0 0, true, 0, .tab (len + 1 + ns.getD 1 0) sz (pshG g len x zc b (ns.getD 0 0))⟩, some ⟨k, false, bo, S⟩]) := by
  intro w hall ha
  have hA : Holds ⟨b, true, 0, .tab c sz g⟩ w := hall _ (by simp)
  have hK : Holds ⟨k, false, bo, S⟩ w := hall _ (by simp)
  have hnews : ∀ j u, x[j]? = some u → w.cell? ((⟨k, bo + os, none⟩ : Addr).add j) = some u := fun j u hj => by
    have hjn : j < sz := by rw [← hx]; exact (List.getElem?_eq_some_iff.1 hj).1
    rw [add_none, Nat.add_assoc]
    exact hK.cell _ _ (by rw [hS j hjn, hj])
  have hone : ∀ u ∈ x, u.oneCell' = true := List.all_eq_true.1 h1
  have hm : ∀ p c', listMem [some ⟨b, true, 0, .tab c sz g⟩, some ⟨k, false, bo, S⟩] p = some c' → Holds c' w := fun p c' hc => hall c' (List.mem_of_getElem? (listMem_some (l := [⟨b, true, 0, .tab c sz g⟩, ⟨k, false, bo, S⟩]).1 hc))
  have hpl : ∀ nm k, (pshG g len x zc b nm k).length = sz := fun nm k => by unfold pshG; split; exact hg _; split; exact hx; split; exact hg _; exact hzl
  have hdm : ∀ o, len * sz ≤ o → o < len * sz + sz → o / sz = len ∧ o % sz = o - len * sz := fun o h1 h2 => by
    have e : o = sz * len + (o - len * sz) := by rw [Nat.mul_comm]; omega
    constructor
    · rw [e, Nat.mul_add_div hs0, Nat.div_eq_of_lt (by omega), Nat.add_zero]
    · rw [e, Nat.mul_add_mod, Nat.mod_eq_of_lt (by omega)]; rw [Nat.mul_comm sz len]; omega
  have hdlt : ∀ o, o < len * sz → o / sz < len := fun o h => div_lt_row h
  have hdgt : ∀ o, len * sz + sz ≤ o → len < o / sz := fun o h => by
    rw [Nat.lt_iff_add_one_le, Nat.le_div_iff_mul_le hs0, Nat.add_mul, Nat.one_mul]; exact h
  have hcf : ∀ o nm, cf sz (pshG g len x zc b nm) o = if o < len * sz then cf sz g o else if o < len * sz + sz then x.getD (o - len * sz) undef else if nm = b then cf sz g o else zc.getD (o % sz) undef := fun o nm => by
    unfold cf pshG
    by_cases h2 : o < len * sz
    · rw [if_pos (hdlt o h2), if_pos h2]
    · by_cases h3 : o < len * sz + sz
      · obtain ⟨e1, e2⟩ := hdm o (by omega) h3
        rw [if_neg (by omega), if_pos e1, if_neg h2, if_pos h3, e2]
      · have := hdgt o (by omega)
        rw [if_neg (by omega), if_neg (by omega), if_neg h2, if_neg h3]
        split <;> rfl
  have hadd : (len + 1) * sz = len * sz + sz := Nat.succ_mul _ _
  by_cases hr : len + 1 ≤ c
  ·
    have hle2 : len * sz + sz ≤ c * sz := by rw [← hadd]; exact Nat.mul_le_mul_right _ hr
    have hget : ∀ j, j < sz → ∃ u, (Cont.tab c sz g).get (len * sz + j) = some u := fun j hj => ⟨_, tabE_in hs0 (fun k _ => hg k) (by omega)⟩
    have hrun := run_append_room_cells (P := P) w t ty e i ht hi b 0 len c ⟨k, bo + os, none⟩ 1 cc x (by simp [hsz, hx]) hnews hone (by omega)
      (fun j hj => by
        obtain ⟨u, hu⟩ := hget j (by omega)
        have := hA.cell _ _ hu
        rw [show 0 + len * i.size + j = 0 + (len * sz + j) by rw [hsz]; omega, this]; rfl)
      (fun j hj => by
        obtain ⟨u, hu⟩ := hget j (by omega)
        have := hA.free rfl _ _ hu
        rw [show 0 + len * i.size + j = 0 + (len * sz + j) by rw [hsz]; omega]; exact this)
    have hrun2 : (Builtin.append_ #[t, t] ty #[.slice (some ⟨b, 0, none⟩) len c, .slice (some ⟨k, bo + os, none⟩) 1 cc]).run P w = .ok (.slice (some ⟨b, 0, none⟩) (len + 1) (len + 1 + (c - len - 1))) (w.setCells b (0 + len * i.size) x) := by
      rw [show len + 1 + (c - len - 1) = c by omega]; exact hrun
    refine ⟨[b, c - len - 1], _, rfl, .inl (run_value hrun2), ?_⟩
    have hp := post_cells (m := listMem [some ⟨b, true, 0, .tab c sz g⟩, some ⟨k, false, bo, S⟩]) (w := w) (p := 0) (b := ⟨b, true, 0, .tab c sz g⟩) (o0 := len * sz) (cs := x)
      (c := .tab c sz (pshG g len x zc b b)) hm ha rfl rfl rfl (fun j hj => hget j (by omega)) (fun j => by
        rw [hx]
        by_cases hj : j < c * sz
        · rw [tabE_in hs0 (fun k _ => hpl b k) hj, hcf]
          by_cases h2 : j < len * sz
          · rw [if_pos h2, if_neg (by omega), tabE_in hs0 (fun k _ => hg k) hj]
          · by_cases h3 : j < len * sz + sz
            · rw [if_neg h2, if_pos h3, if_pos (by omega), List.getD_eq_getElem?_getD, List.getElem?_eq_getElem (by omega)]; rfl
            · rw [if_neg h2, if_neg h3, if_pos rfl, if_neg (by omega), tabE_in hs0 (fun k _ => hg k) hj]
        · rw [tabE_out hj, if_neg (by omega), tabE_out hj])
    rw [listMem_set0] at hp
    have e1 : len + 1 + (c - len - 1) = c := by omega
    simpa [hsz, e1] using hp
  ·
    have hce : c = len := by omega
    subst hce
    have hgr : c < c + 1 := by omega
    have hrun := run_append_grow (P := P) w t ty e i z ht hi hz ⟨b, 0, none⟩ c c ((List.range (c * sz)).map (cf sz g)) (by simp [hsz])
      (fun j v hj => by
        obtain ⟨hjn, rfl⟩ := map_range_get hj
        rw [add_none, Nat.zero_add]
        have := hA.cell j (cf sz g j) (tabE_in hs0 (fun k _ => hg k) hjn)
        rw [Nat.zero_add] at this; exact this)
      ⟨k, bo + os, none⟩ 1 cc x (by simp [hsz, hx]) hnews hgr (by omega) (growslice_fits hgr hb)
    have hge := grownCap_ge w (c + 1) c e
    obtain ⟨q, hq⟩ : ∃ q, grownCap w (c + 1) c e = c + 1 + q := ⟨_, (Nat.add_sub_cancel' hge).symm⟩
    rw [hq] at hrun
    refine ⟨[w.heap.size, q], _, rfl, .inl (run_value hrun), ?_⟩
    have hp0 := Post.drew hm ha
    have hp := hp0.trans (post_new hp0.holds hp0.apart 0 (((List.range (c * sz)).map (cf sz g)).toArray ++ x.toArray ++ Builtin.zeroCells z.cells (c + 1 + q - (c + 1))) e)
    rw [show w.drew.heap.size = w.heap.size from rfl, listMem_set0] at hp
    have hnb : ¬ w.heap.size = b := fun h => by have := hA.lt; simp only at this; omega
    have hc : ∀ o v, (Cont.tab (c + 1 + q) sz (pshG g c x zc b w.heap.size)).get o = some v →
        (Cont.lit (((List.range (c * sz)).map (cf sz g)).toArray ++ x.toArray ++ Builtin.zeroCells z.cells (c + 1 + q - (c + 1))).toList).get o = some v := fun o v ho => by
      rw [show c + 1 + q - (c + 1) = q by omega]
      simp only [Cont.get, Array.toList_append, List.append_assoc]
      have hall3 : (c + 1 + q) * sz = c * sz + sz + q * sz := by rw [Nat.add_mul, Nat.add_mul, Nat.one_mul]
      by_cases h0 : o < (c + 1 + q) * sz
      · rw [tabE_in hs0 (fun k _ => hpl _ k) h0, hcf] at ho
        by_cases h2 : o < c * sz
        · rw [if_pos h2] at ho
          rw [List.getElem?_append_left (by simp; exact h2), List.getElem?_map, List.getElem?_range h2]; exact ho
        · rw [if_neg h2] at ho
          rw [List.getElem?_append_right (by simp; omega)]
          simp only [List.length_map, List.length_range]
          by_cases h3 : o < c * sz + sz
          · rw [if_pos h3, List.getD_eq_getElem?_getD, List.getElem?_eq_getElem (by omega)] at ho
            rw [List.getElem?_append_left (by omega)]
            rw [List.getElem?_eq_getElem (by omega)]; exact ho
          · rw [if_neg h3, if_neg hnb] at ho
            rw [List.getElem?_append_right (by omega)]
            simp only [hx]
            rw [zeroCells_many hzc q _ (by rw [hzl]; omega), ← ho, hzl]
            rw [show o - c * sz - sz = o - sz * (c + 1) by rw [Nat.mul_comm sz, hadd]; omega, Nat.sub_mul_mod]
            rw [Nat.mul_comm, hadd]; omega
      · rw [tabE_out h0] at ho; cases ho
    have hN := (hp.holds 0 _ rfl).recont rfl hc
    refine ⟨fun p d hpc => ?_, fun p p' d d' hpp hc1 hd ho => ?_, ⟨hp.adv.os, hp.adv.output, hp.adv.tape, hp.adv.size, hp.adv.heap, fun j hj => ?_, fun p d hpc ho => ?_⟩⟩
    · rcases p with _ | _ | p
      · injection hpc with hpc; subst hpc; exact hN
      · injection hpc with hpc; subst hpc; exact hp.holds 1 _ rfl
      · simp [listMem] at hpc
    · rcases p with _ | _ | p
      · injection hc1 with hc1; subst hc1
        rcases p' with _ | _ | p'
        · exact absurd rfl hpp
        · injection hd with hd; subst hd
          have h01 := hp.apart 0 1 _ _ (by omega) rfl rfl rfl
          exact h01
        · simp [listMem] at hd
      · injection hc1 with hc1; subst hc1; cases ho
      · simp [listMem] at hc1
    · obtain ⟨p, d, hpc, ho, rfl⟩ := hj
      rcases p with _ | _ | p
      · injection hpc with hpc; subst hpc
        exact .inr (Nat.le_refl _)
      · injection hpc with hpc; subst hpc; cases ho
      · simp [listMem] at hpc
    · rcases p with _ | _ | p
      · injection hpc with hpc; subst hpc; cases ho
      · exact hpc
      · simp [listMem] at hpc
theorem mkJ_append {B : Nat} (ht : P.underlying t = some (.slice e)) (h1 : AggC P e zc sz B) (b len c k bo os cc : Nat) {α : Type} (K : α → List Value) (hK : ∀ a, (K a).length = sz ∧ (K a).all Value.oneCell' = true) (g : Nat → α) (x z0 : α) (hz0 : K z0 = zc) (S : Cont)
    (hS : ∀ j, j < sz → S.get (os + j) = (K x)[j]?) (hle : len ≤ c) (hb : (len + 1) * B ≤ 140737488355328 ∧ len + 1 ≤ 9223372036854775807) :
    SRuns P (appendSem t ty (.slice (some ⟨b, 0, none⟩) len c) (.slice (some ⟨k, bo + os, none⟩) 1 cc)) [⟨b, true, 0, .tab c sz fun k => K (g k)⟩, ⟨k, false, bo, S⟩] 2
      (fun ns => .slice (some ⟨ns.getD 0 0, 0, none⟩) (len + 1) (len + 1 + ns.getD 1 0))
      (fun ns => [some ⟨ns.getD 0 0, true, 0, .tab (len + 1 + ns.getD 1 0) sz fun k => K (pshG g len x z0 b (ns.getD 0 0) k)⟩, some ⟨k, false, bo, S⟩]) := by
  obtain ⟨i, z, hi, hz, hsz, hB, hzc, hzl, hs0⟩ := h1
  subst hB
  have := srunJ_append (P := P) (t := t) (ty := ty) ht hi hz hsz hs0 hzc hzl (b := b) (len := len) (c := c) (k := k) (bo := bo) (os := os) (cc := cc) (g := fun k => K (g k)) (x := K x) (S := S) hle (fun _ => (hK _).1) (hK x).1 hS (hK x).2 hb.1 hb.2
  simp only [pshG_K, hz0]
  exact this
theorem mkJ_append_nil {B : Nat} (ht : P.underlying t = some (.slice e)) (h1 : AggC P e zc sz B) (k bo os cc : Nat) {α : Type} (K : α → List Value) (hK : ∀ a, (K a).length = sz ∧ (K a).all Value.oneCell' = true) (x z0 : α) (hz0 : K z0 = zc) (S : Cont)
    (hS : ∀ j, j < sz → S.get (os + j) = (K x)[j]?) (hb : 1 * B ≤ 140737488355328) :
    SRuns P (appendSem t ty (.slice none 0 0) (.slice (some ⟨k, bo + os, none⟩) 1 cc)) [⟨k, false, bo, S⟩] 2
      (fun ns => .slice (some ⟨ns.getD 0 0, 0, none⟩) 1 (1 + ns.getD 1 0))
      (fun ns => [some ⟨k, false, bo, S⟩, some ⟨ns.getD 0 0, true, 0, .tab (1 + ns.getD 1 0) sz fun k => K (pshG (fun _ => z0) 0 x z0 0 0 k)⟩]) := by
  have h2 := mkE_append_nil (P := P) (t := t) (ty := ty) (e := e) ht h1 k bo os 1 cc K hK (fun _ => x) S (fun j hj => by
    obtain ⟨i, z, hi, hz, hsz, hB, hzc, hzl, hs0⟩ := h1
    have hj' : j < sz := by omega
    rw [hS j hj']
    unfold cf
    rw [Nat.mod_eq_of_lt hj', List.getD_eq_getElem?_getD, List.getElem?_eq_getElem (by rw [(hK x).1]; exact hj')]
    rfl) ⟨by omega, hb, by omega⟩
  have e : ∀ c, sprE sz c 1 (fun k => K x) zc = .tab c sz fun k => K (pshG (fun _ => z0) 0 x z0 0 0 k) := fun c => by
    unfold sprE
    congr 1
    funext k
    unfold pshG
    by_cases hk : k = 0
    · subst hk; rfl
    · rw [if_neg (by omega), if_neg (by omega), if_neg hk]; exact hz0.symm
  simp only [e] at h2
  exact h2
end
section
variable {P : Program} {t t' : TypeId} {x y : Operand}
theorem is_half (j : Nat) (h : j ≤ 9223372036854775807) : IsOp P (.binOp .quo t x y t') [int ((j : Int) - ((1 : Nat) : Int)), int 2] (nat ((j - 1) / 2)) := isOp_bin guard_int (by
  show pureRun P (Op.intDiv .quo .i64 ((j : Int) - ((1 : Nat) : Int)) (2 : Int)) = _
  unfold Op.intDiv
  rw [if_neg (by omega)]
  show some (Value.int .i64 (IntKind.i64.wrap (((j : Int) - ((1 : Nat) : Int)).tdiv 2))) = _
  have e : ((j : Int) - ((1 : Nat) : Int)).tdiv 2 = (((j - 1) / 2 : Nat) : Int) := by
    rcases Nat.eq_zero_or_pos j with h0 | h0
    · subst h0; rfl
    · rw [Int.tdiv_eq_ediv_of_nonneg (by omega)]; omega
  rw [e]
  generalize he : (j - 1) / 2 = q
  rw [wrap_i64 _ (by omega)]; rfl)
end
theorem store_tabK {sz n : Nat} {α : Type} (K : α → List Value) (hK : ∀ a, (K a).length = sz) (f : Nat → α) (i : Nat) (v : α) : (Cont.tab n sz fun k => K (f k)).store (.tab i 0) (K v) = some (.tab n sz fun k => K (upd f i v k)) := by
  simp only [Cont.store, hK, Nat.zero_add]
  have e1 : Nat.ble sz sz = true := by simp
  simp only [e1, Nat.beq_refl, Bool.and_self]
  congr 2
  funext k
  unfold upd
  by_cases h : k = i
  · subst h; rw [if_pos rfl, if_pos rfl]; unfold splice; simp [hK, List.drop_eq_nil_of_le]
  · rw [if_neg h, if_neg h]
theorem get_lit {l : List Value} (o : Nat) : (Cont.lit l).get (0 + o) = l[o]? := by rw [Nat.zero_add]; rfl
section
variable {α : Type} {lt : α → α → Bool}
theorem push_ok (h : SWO lt) {f g : Nat → α} {n : Nat} {x : α} (hp : HpB lt 0 f n) (hg : ∀ k, k < n → g k = f k) (hx : g n = x) : HpB lt 0 (upF lt g n) (n + 1) ∧ (∀ S, En f n S → ¬ S x → En (upF lt g n) (n + 1) fun y => S y ∨ y = x) ∧ ∀ k, n + 1 ≤ k → upF lt g n k = g k := by
  obtain ⟨h1, h2, h3⟩ := upF_ok h (n := n + 1) n g (by omega) ⟨fun k h0 hk hkn => by rw [hg k (by omega), hg ((k - 1) / 2) (by omega)]; exact hp k h0 (by omega) (Nat.zero_le _), fun k h0 hk e => by omega⟩
  refine ⟨h1, fun S hS hn => h2 _ ((hS.push hn).congr fun k hk => ?_), h3⟩
  unfold catU
  by_cases hk2 : k < n
  · rw [if_pos hk2]; exact hg k hk2
  · rw [if_neg hk2, show k = n by omega]; exact hx
theorem up_end {F : Nat → α} {j : Nat} (h : selB (decide ((j - 1) / 2 = j)) true (!(lt (F j) (F ((j - 1) / 2)))) = true) : j = 0 ∨ lt (F j) (F ((j - 1) / 2)) = false := by
  cases hb : lt (F j) (F ((j - 1) / 2)) with
  | false => exact .inr rfl
  | true =>
    rw [hb] at h
    by_cases e : (j - 1) / 2 = j
    · exact .inl (by omega)
    · simp [selB, e] at h
theorem up_step {F f : Nat → α} {j j0 n : Nat} (B0 : j < n) (B1 : upF lt F j = upF lt f j0) (h : selB (decide ((j - 1) / 2 = j)) true (!(lt (F j) (F ((j - 1) / 2)))) = false) :
    ((j - 1) / 2 < n ∧ upF lt (swp F ((j - 1) / 2) j) ((j - 1) / 2) = upF lt f j0) ∧ (j - 1) / 2 < j := by
  have e : ¬ (j - 1) / 2 = j := fun e => by simp [selB, e] at h
  have hl : lt (F j) (F ((j - 1) / 2)) = true := by
    cases hb : lt (F j) (F ((j - 1) / 2)) with
    | true => rfl
    | false => rw [hb] at h; simp [selB, e] at h
  refine ⟨⟨by omega, ?_⟩, by omega⟩
  rw [← upF_go (by omega) hl]; exact B1
theorem dn_none {F f : Nat → α} {i i0 m : Nat} (B1 : dnF lt m F i = dnF lt m f i0) (h : m ≤ 2 * i + 1) : dnF lt m f i0 = (F, i) := by
  rw [← B1]; exact dnF_end (.inl h)
theorem dn_r {F f : Nat → α} {i i0 m : Nat} (B1 : dnF lt m F i = dnF lt m f i0) (h2 : selB (decide (2 * i + 1 + 1 < m)) (lt (F (2 * i + 1 + 1)) (F (2 * i + 1))) false = true) (h3 : (!(lt (F (2 * i + 1 + 1)) (F i))) = true) : dnF lt m f i0 = (F, i) := by
  rw [← B1]
  refine dnF_end (.inr ?_)
  have : pick lt m F i = 2 * i + 2 := by
    unfold pick; rw [if_pos]
    by_cases e : 2 * i + 1 + 1 < m
    · simp [selB, e] at h2; exact ⟨e, h2⟩
    · simp [selB, e] at h2
  rw [this]; simpa using h3
theorem dn_l {F f : Nat → α} {i i0 m : Nat} (B1 : dnF lt m F i = dnF lt m f i0) (h2 : selB (decide (2 * i + 1 + 1 < m)) (lt (F (2 * i + 1 + 1)) (F (2 * i + 1))) false = false) (h3 : (!(lt (F (2 * i + 1)) (F i))) = true) : dnF lt m f i0 = (F, i) := by
  rw [← B1]
  refine dnF_end (.inr ?_)
  have : pick lt m F i = 2 * i + 1 := by
    unfold pick; rw [if_neg]
    rintro ⟨e, e2⟩
    have e : 2 * i + 1 + 1 < m := e
    have e2 : lt (F (2 * i + 1 + 1)) (F (2 * i + 1)) = true := e2
    simp [selB, e, e2] at h2
  rw [this]; simpa using h3
theorem dn_step_r {F f : Nat → α} {i i0 m n : Nat} (hm : m ≤ n) (hn : n ≤ 1000000) (B0 : i ≤ 1000000) (B1 : dnF lt m F i = dnF lt m f i0) (h0 : 2 * i + 1 < m) (h2 : selB (decide (2 * i + 1 + 1 < m)) (lt (F (2 * i + 1 + 1)) (F (2 * i + 1))) false = true) (h3 : (!(lt (F (2 * i + 1 + 1)) (F i))) = false) :
    (2 * i + 1 + 1 ≤ 1000000 ∧ dnF lt m (swp F i (2 * i + 1 + 1)) (2 * i + 1 + 1) = dnF lt m f i0) ∧ 1000000 - (2 * i + 1 + 1) < 1000000 - i := by
  by_cases e : 2 * i + 1 + 1 < m
  · have e2 : lt (F (2 * i + 1 + 1)) (F (2 * i + 1)) = true := by simpa [selB, e] using h2
    have hp : pick lt m F i = 2 * i + 1 + 1 := by unfold pick; exact if_pos ⟨e, e2⟩
    refine ⟨⟨by omega, ?_⟩, by omega⟩
    have := dnF_go (lt := lt) (f := F) h0 (by rw [hp]; simpa using h3)
    rw [hp] at this; rw [← this]; exact B1
  · simp [selB, e] at h2
theorem dn_step_l {F f : Nat → α} {i i0 m n : Nat} (hm : m ≤ n) (hn : n ≤ 1000000) (B0 : i ≤ 1000000) (B1 : dnF lt m F i = dnF lt m f i0) (h0 : 2 * i + 1 < m) (h2 : selB (decide (2 * i + 1 + 1 < m)) (lt (F (2 * i + 1 + 1)) (F (2 * i + 1))) false = false) (h3 : (!(lt (F (2 * i + 1)) (F i))) = false) :
    (2 * i + 1 ≤ 1000000 ∧ dnF lt m (swp F i (2 * i + 1)) (2 * i + 1) = dnF lt m f i0) ∧ 1000000 - (2 * i + 1) < 1000000 - i := by
  have hp : pick lt m F i = 2 * i + 1 := by
    unfold pick; rw [if_neg]
    rintro ⟨e, e2⟩
    have e : 2 * i + 1 + 1 < m := e
    have e2 : lt (F (2 * i + 1 + 1)) (F (2 * i + 1)) = true := e2
    simp [selB, e, e2] at h2
  refine ⟨⟨by omega, ?_⟩, by omega⟩
  have := dnF_go (lt := lt) (f := F) h0 (by rw [hp]; simpa using h3)
  rw [hp] at this; rw [← this]; exact B1
end
end Go.Eng
end
section
set_option linter.unusedSimpArgs false
set_option linter.unusedVariables false
set_option maxRecDepth 100000
namespace Go.Eng
structure BytL where
  wa : Option Addr
  wn : Nat
  wc : Nat
  wb : Nat
  wo : Nat
  wf : Nat → UInt8
def slqV (q : BytL) : Value := .slice q.wa q.wn q.wc
def bytB (q : BytL) : Blk := ⟨q.wb, false, q.wo, tabF q.wn fun k => u8 (q.wf k)⟩
structure OkB (q : BytL) : Prop where
  cap : q.wn ≤ q.wc
  ad : 0 < q.wn → q.wa = some ⟨q.wb, q.wo, none⟩
  len : q.wn ≤ 9223372036854775807
def famB (q : BytL) (b : Blk) : Prop := 0 < q.wn ∧ b = bytB q
def bytT (x : BytL) (k : Nat) : BytL := ⟨x.wa, k, x.wc, x.wb, x.wo, x.wf⟩
def bytF (x : BytL) (k : Nat) : BytL := ⟨fromA x.wa x.wc k 1, x.wn - k, x.wc - k, x.wb, x.wo + k, fun i => x.wf (i + k)⟩
def bytO (nm n c : Nat) (f : Nat → UInt8) : BytL := ⟨some ⟨nm, 0, none⟩, n, c, nm, 0, f⟩
def bytZ (a : Option Addr) (c : Nat) : BytL := ⟨a, 0, c, 0, 0, fun _ => 0⟩
theorem okb_to {x : BytL} {k : Nat} (h : OkB x) (hk : k ≤ x.wn) : OkB (bytT x k) := ⟨Nat.le_trans hk h.cap, fun h0 => h.ad (Nat.lt_of_lt_of_le h0 hk), Nat.le_trans hk h.len⟩
theorem okb_from {x : BytL} {k : Nat} (h : OkB x) (hk : k ≤ x.wn) : OkB (bytF x k) := ⟨Nat.sub_le_sub_right h.cap k, fun h0 => by
  have h1 : 0 < x.wn - k := h0
  show fromA x.wa x.wc k 1 = some ⟨x.wb, x.wo + k, none⟩
  have hc := h.cap
  unfold fromA
  rw [if_neg (by omega), h.ad (by omega)]
  simp [add_none], Nat.le_trans (Nat.sub_le _ _) h.len⟩
theorem okb_own {nm n c : Nat} {f : Nat → UInt8} (h1 : n ≤ c) (h2 : n ≤ 9223372036854775807) : OkB (bytO nm n c f) := ⟨h1, fun _ => rfl, h2⟩
theorem okb_nil {a : Option Addr} {c : Nat} : OkB (bytZ a c) := ⟨Nat.zero_le _, fun h => absurd h (Nat.lt_irrefl 0), Nat.zero_le _⟩
theorem tabU_less {nm o n k : Nat} {f : Nat → UInt8} {w : World} (h : Holds ⟨nm, false, o, tabF n fun k => u8 (f k)⟩ w) (hk : k ≤ n) : Holds ⟨nm, false, o, tabF k fun k => u8 (f k)⟩ w :=
  h.recont rfl fun j v hj => by
    by_cases hl : j < k
    · rw [tabF_in hl] at hj
      rw [tabF_in (by omega)]; exact hj
    · rw [tabF_out hl] at hj; cases hj
theorem tabU_tail {nm o n k : Nat} {f : Nat → UInt8} {w : World} (h : Holds ⟨nm, false, o, tabF n fun k => u8 (f k)⟩ w) (hk : k ≤ n) : Holds ⟨nm, false, o + k, tabF (n - k) fun i => u8 (f (i + k))⟩ w := by
  refine ⟨h.lt, fun j v hj => ?_, (fun hb => by cases hb), obj_not rfl⟩
  by_cases hl : j < n - k
  · rw [tabF_in hl] at hj
    have := h.cell (k + j) v (by show (tabF n _).get (k + j) = _; rw [tabF_in (by omega)]; rw [Nat.add_comm k j]; exact hj)
    show w.cell? ⟨nm, o + k + j, none⟩ = some v
    rw [Nat.add_assoc]; exact this
  · rw [tabF_out hl] at hj; cases hj
theorem holdb_own {nm n c : Nat} {f : Nat → UInt8} {w : World} (h : Holds ⟨nm, false, 0, tabF n fun k => u8 (f k)⟩ w) : FamH (famB (bytO nm n c f)) w := fun b hb => by
  obtain ⟨_, rfl⟩ := hb
  exact ⟨h, rfl⟩
theorem holdb_nil {a : Option Addr} {c : Nat} {w : World} : FamH (famB (bytZ a c)) w := fun b hb => absurd hb.1 (Nat.lt_irrefl 0)
theorem holdb_to {x : BytL} {k : Nat} {w : World} (hk : k ≤ x.wn) (h : FamH (famB x) w) : FamH (famB (bytT x k)) w := fun b hb => by
  obtain ⟨h0, rfl⟩ := hb
  have h1 : 0 < k := h0
  obtain ⟨h2, _⟩ := h (bytB x) ⟨by omega, rfl⟩
  exact ⟨tabU_less h2 hk, rfl⟩
theorem holdb_from {x : BytL} {k : Nat} {w : World} (hk : k ≤ x.wn) (h : FamH (famB x) w) : FamH (famB (bytF x k)) w := fun b hb => by
  obtain ⟨h0, rfl⟩ := hb
  have h1 : 0 < x.wn - k := h0
  obtain ⟨h2, _⟩ := h (bytB x) ⟨by omega, rfl⟩
  exact ⟨tabU_tail h2 hk, rfl⟩
theorem hold_or {F G : Blk → Prop} {w : World} (hx : FamH F w) (hy : FamH G w) : FamH (fun b => F b ∨ G b) w := fun b hb => by
  rcases hb with hb | hb
  · exact hx b hb
  · exact hy b hb
section
variable {P : Program} {t e t' : TypeId} {x y z : Operand}
theorem is_slArr {n : Nat} (ht : P.underlying t = some (.array n e)) (hs : sizeB P e = some 1) (b o i : Nat) (k : IntKind) (hi : i ≤ n) :
    IsOp P (.slice t x (some y) none none) [ptr b o, .int k (i : Int)] (.slice (some ⟨b, if n = i then o else o + i, none⟩) (n - i) (n - i)) := by
  intro ρ o' ho hv
  rw [ho] at hv
  have hv' : [ρ x, ρ y] = [ptr b o, .int k (i : Int)] := hv
  injection hv' with h1 hv'
  injection hv' with h2 _
  unfold execOp
  rw [ho]
  simp only [Option.map]
  show pureRun P (Sem.bind (Instr.sliceAt t (ρ x) (some (ρ y)) none none) fun v => Sem.pure (Next.value v)) = _
  rw [pureRun_bind, h1, h2]
  have hi' : 0 ≤ (i : Int) ∧ (i : Int) ≤ (n : Int) := by omega
  have e : pureRun P (Instr.sliceAt t (ptr b o) (some (.int k (i : Int))) none none) = some (.slice (some ⟨b, if n = i then o else o + i, none⟩) (n - i) (n - i)) := by
    simp only [Instr.sliceAt, Instr.slice, ptr, Instr.sliceBounds, Instr.sliceBound, nat, pureRun_bind', asIntOf, pureRun, pure, pureRun_underlying ht, hi', and_self, if_true, pureRun_sizeOf hs, Int.toNat_natCast]
    by_cases h : n = i
    · simp [h, Instr.sureAddr, pureRun, pure]
    · simp [h, Instr.sureAddr, pureRun, pure, add_none, Nat.mul_one]
  rw [e]
  rfl
end
section
variable {P : Program} {t ty e : TypeId}
theorem mk_build0 {B : Nat} {z : Value} (ht : P.underlying t = some (.slice e)) (h1 : OneC P e z B) {α : Type} (K : α → Value) (g : Nat → α) :
    SRuns P (buildSem t 0 #[]) [] 1 (fun ns => .slice (some ⟨ns.getD 0 0, 0, none⟩) 0 0) (fun ns => [some ⟨ns.getD 0 0, true, 0, spr (0 + 0) 0 (fun k => K (g k)) z⟩]) := by
  obtain ⟨i, hi, hz, hsz, hB, hzc⟩ := h1
  have h0 : SRuns P (buildSem t 0 #[]) [] 1 (fun ns => .slice (some ⟨ns.getD 0 0, 0, none⟩) 0 0) (fun ns => [some ⟨ns.getD 0 0, true, 0, .lit (#[] : Array Value).toList⟩]) := srun_made (e := e) fun w => by
    refine run_value ?_
    simp [Instr.buildSlice, run_underlying ht, sizeOf, typeInfo, hi, newRow, Instr.fill]
    exact congrArg (fun a => w.alloc (Obj.cells a e)) (Array.eq_empty_of_size_eq_zero (by simp))
  exact h0.recont (C' := fun _ => spr (0 + 0) 0 (fun k => K (g k)) z) (fun _ => rfl) fun ns o v ho => by
    rw [spr, tabF_out (by omega)] at ho; cases ho
theorem mk_append0 {B : Nat} {z : Value} (ht : P.underlying t = some (.slice e)) (h1 : OneC P e z B) (b : Nat) (C : Cont) (al : Option Addr) (cl : Nat) :
    SRuns P (appendSem t ty (.slice (some ⟨b, 0, none⟩) 0 (0 + 0)) (.slice al 0 cl)) [⟨b, true, 0, C⟩] 1 (fun ns => .slice (some ⟨ns.getD 0 0, 0, none⟩) 0 (0 + 0)) (fun ns => [some ⟨ns.getD 0 0, true, 0, C⟩]) := by
  obtain ⟨i, hi, hz, hsz, hB, hzc⟩ := h1
  intro w hall ha
  refine ⟨[b], w, rfl, .inl (run_value ?_), Post.refl (fun p c h => ?_) ha⟩
  · cases al <;> simp [Builtin.append_, run_underlying ht, sizeOf, typeInfo, hi, Builtin.lenOf, Builtin.firstCells, storeCells, loadCells, loadCellsFrom]
  · rcases p with _ | p
    · cases h; exact hall _ (by simp)
    · simp [listMem] at h
end
theorem srun_copyG {P : Program} {dT sT ty e : TypeId} {n k od dl dc bs os sl sc : Nat} {D D' cs : List Value} {S : Cont}
    (hu : P.underlying dT = some (.slice e)) (hs : sizeB P e = some 1) (hcs : ∀ j, j < cs.length → S.get (os + j) = cs[j]?) (hlen : cs.length = min sl dl) (h1 : cs.all Value.oneCell' = true)
    (hst : (Cont.lit D).store (.lit od) cs = some (.lit D')) :
    SRuns P (copySem dT sT ty (.slice (some ⟨n, od, none⟩) dl dc) (.slice (some ⟨k, bs + os, none⟩) sl sc)) [⟨n, true, 0, .lit D⟩, ⟨k, false, bs, S⟩] 0 (fun _ => nat cs.length) (fun _ => [some ⟨n, true, 0, .lit D'⟩, none]) := by
  intro w hm ha
  have hD : Holds ⟨n, true, 0, .lit D⟩ w := hm _ (by simp)
  have hS : Holds ⟨k, false, bs, S⟩ w := hm _ (by simp)
  obtain ⟨g1, g2⟩ := Cont.store_get hst trivial
  have hr := run_copy_cells (P := P) w dT sT ty e n od dl dc ⟨k, bs + os, none⟩ sl sc cs hu (by simpa [sizeB] using hs) (by rw [hlen])
    (fun j v hj => by
      have hjl : j < cs.length := (List.getElem?_eq_some_iff.1 hj).1
      have := hS.cell (os + j) v (by rw [← hj]; exact hcs j hjl)
      rw [show (⟨k, bs + os, none⟩ : Addr).add j = ⟨k, bs + (os + j), none⟩ by rw [← Nat.add_assoc]; exact add_none k (bs + os) j]
      exact this)
    (fun j hj => by
      obtain ⟨u, hu⟩ := g1 j hj
      have := hD.cell _ u hu
      simp only [Cont.off, Nat.zero_add] at this
      rw [this]; rfl)
    (fun j hj => by
      obtain ⟨u, hu⟩ := g1 j hj
      have := hD.free rfl _ u hu
      simpa [Cont.off] using this) (List.all_eq_true.1 h1)
  refine ⟨[], w.setCells n od cs, rfl, .inl ?_, ?_⟩
  · show ((Builtin.copy_ #[dT, sT] ty #[.slice (some ⟨n, od, none⟩) dl dc, .slice (some ⟨k, bs + os, none⟩) sl sc]).bind fun v => Sem.pure (Next.value v)).run P w = _
    have : ∀ (s : Sem Value) (v : Value) (w' : World), s.run P w = .ok v w' → (s.bind fun v => Sem.pure (Next.value v)).run P w = .ok (Next.value v) w' := fun s v w' h => by
      show (s >>= fun v => Sem.pure (Next.value v)).run P w = _
      rw [Sem.run_bind, h]; rfl
    exact this _ _ _ hr
  · have hp := post_store (m := listMem ([⟨n, true, 0, .lit D⟩, ⟨k, false, bs, S⟩].map some)) (w := w) (p := 0) (b := ⟨n, true, 0, .lit D⟩) (l := .lit od) (cs := cs) (c := .lit D')
      (fun p b hb => hm b (List.mem_of_getElem? (listMem_some.1 hb))) ha rfl rfl hst trivial
    rw [show ([⟨n, true, 0, .lit D⟩, ⟨k, false, bs, S⟩].map some : List (Option Blk)) = [some ⟨n, true, 0, .lit D⟩, some ⟨k, false, bs, S⟩] from rfl] at hp ⊢
    rw [listMem_set0] at hp
    have hp2 : Post (listMem [some ⟨n, true, 0, .lit D⟩, some ⟨k, false, bs, S⟩]) w (listMem [some ⟨n, true, 0, .lit D'⟩, some ⟨k, false, bs, S⟩]) (w.setCells n od cs) := by simpa [Cont.off] using hp
    have hsub : ∀ p b, listMem [some (⟨n, true, 0, .lit D'⟩ : Blk), none] p = some b → listMem [some ⟨n, true, 0, .lit D'⟩, some ⟨k, false, bs, S⟩] p = some b := fun p b hpb => by
      rcases p with _ | _ | p
      · exact hpb
      · cases hpb
      · simp [listMem] at hpb
    exact ⟨fun p b hpb => hp2.holds p b (hsub p b hpb), fun p q b c hpq hb hc => hp2.apart p q b c hpq (hsub p b hb) (hsub q c hc), hp2.adv.weak hsub⟩
end Go.Eng
namespace Go.Eng
def slF (sz : Nat) (vs : List Value) : Value := match vs with
  | [.slice a len cap, .int _ i] => .slice (fromA a cap i.toNat sz) (len - i.toNat) (cap - i.toNat)
  | _ => undef
theorem mk_appendA {P : Program} {t ty e : TypeId} {B : Nat} {z : Value} (ht : P.underlying t = some (.slice e)) (h1 : OneC P e z B) (b len r k bo os n cc : Nat) {α : Type} (K : α → Value) (g h : Nat → α) (S : Cont) (hS : ∀ j, j < n → S.get (os + j) = some (K (h j)))
    (hK : ∀ a, (K a).oneCell' = true) (hb : (len + n) * B ≤ 140737488355328 ∧ len + n ≤ 9223372036854775807) {A : Option Addr} (hA : A = some ⟨k, bo + os, none⟩) :
    SRuns P (appendSem t ty (.slice (some ⟨b, 0, none⟩) len (len + r)) (.slice A n cc)) [⟨b, true, 0, spr (len + r) len (fun k => K (g k)) z⟩, ⟨k, false, bo, S⟩] 2
      (fun ns => .slice (some ⟨ns.getD 0 0, 0, none⟩) (len + n) (len + n + ns.getD 1 0))
      (fun ns => [some ⟨ns.getD 0 0, true, 0, spr (len + n + ns.getD 1 0) (len + n) (fun k => K (catU g len h k)) z⟩, some ⟨k, false, bo, S⟩]) := by
  subst hA; exact mk_append ht h1 b len r k bo os n cc K g h S hS hK hb
def oct (a b c d e f g h : UInt8) : Nat → UInt8
  | 0 => a
  | 1 => b
  | 2 => c
  | 3 => d
  | 4 => e
  | 5 => f
  | 6 => g
  | _ => h
theorem cat8 (f : Nat → UInt8) (z : Nat) (a b c d e g h i : UInt8) (k : Nat) (hk : k < z + 8) :
    catU (catU (catU (catU (catU (catU (catU (catU f z (fun _ => a)) (z + 1) (fun _ => b)) (z + 1 + 1) (fun _ => c)) (z + 1 + 1 + 1) (fun _ => d)) (z + 1 + 1 + 1 + 1) (fun _ => e)) (z + 1 + 1 + 1 + 1 + 1) (fun _ => g)) (z + 1 + 1 + 1 + 1 + 1 + 1) (fun _ => h)) (z + 1 + 1 + 1 + 1 + 1 + 1 + 1) (fun _ => i) k =
      if k < z then f k else oct a b c d e g h i (k - z) := by
  by_cases h1 : k < z
  · simp only [catU]
    rw [if_pos (by omega), if_pos (by omega), if_pos (by omega), if_pos (by omega), if_pos (by omega), if_pos (by omega), if_pos (by omega), if_pos h1, if_pos h1]
  · obtain ⟨j, rfl⟩ : ∃ j, k = z + j := ⟨k - z, by omega⟩
    rw [if_neg h1, Nat.add_sub_cancel_left]
    rcases j with _ | _ | _ | _ | _ | _ | _ | _ | j
    · simp only [catU]; rw [if_pos (by omega), if_pos (by omega), if_pos (by omega), if_pos (by omega), if_pos (by omega), if_pos (by omega), if_pos (by omega), if_neg (by omega)]; rfl
    · simp only [catU]; rw [if_pos (by omega), if_pos (by omega), if_pos (by omega), if_pos (by omega), if_pos (by omega), if_pos (by omega), if_neg (by omega)]; rfl
    · simp only [catU]; rw [if_pos (by omega), if_pos (by omega), if_pos (by omega), if_pos (by omega), if_pos (by omega), if_neg (by omega)]; rfl
    · simp only [catU]; rw [if_pos (by omega), if_pos (by omega), if_pos (by omega), if_pos (by omega), if_neg (by omega)]; rfl
    · simp only [catU]; rw [if_pos (by omega), if_pos (by omega), if_pos (by omega), if_neg (by omega)]; rfl
    · simp only [catU]; rw [if_pos (by omega), if_pos (by omega), if_neg (by omega)]; rfl
    · simp only [catU]; rw [if_pos (by omega), if_neg (by omega)]; rfl
    · simp only [catU]; rw [if_neg (by omega)]; rfl
    · omega
end Go.Eng
namespace Go.Eng
theorem listMem_app {a b : List (Option Blk)} {p : Nat} {x : Blk} (h : listMem (a ++ b) p = some x) : (p < a.length ∧ listMem a p = some x) ∨ (a.length ≤ p ∧ listMem b (p - a.length) = some x) := by
  unfold listMem at h ⊢
  by_cases hp : p < a.length
  · left; rw [List.getElem?_append_left hp] at h; exact ⟨hp, h⟩
  · right; rw [List.getElem?_append_right (by omega)] at h; exact ⟨by omega, h⟩
theorem listMem_left {a b : List (Option Blk)} {p : Nat} (hp : p < a.length) : listMem (a ++ b) p = listMem a p := by
  unfold listMem; rw [List.getElem?_append_left hp]
theorem listMem_right {a b : List (Option Blk)} {p : Nat} (hp : a.length ≤ p) : listMem (a ++ b) p = listMem b (p - a.length) := by
  unfold listMem; rw [List.getElem?_append_right hp]
theorem noneL_length : ∀ cs : List Blk, (noneL cs).length = cs.length
  | [] => rfl
  | _ :: r => congrArg (· + 1) (noneL_length r)
theorem RunsF.lendG {F F' : Blk → Prop} {P : Program} {f : FuncId} {args : List Value} {bs cs : List Blk} {k : Nat} {v : List Nat → Value} {o nw : List Nat → List (Option Blk)} (h : RunsF F P f args bs k v (fun ns => o ns ++ nw ns)) (ho : ∀ ns, (o ns).length = bs.length)
    (hF : ∀ w : World, FamH F' w → (∀ b ∈ cs, Holds b w) → FamH F w) (hn : ∀ x, F x → (∃ y, F' y ∧ y.name = x.name) ∨ ∃ c ∈ cs, c.name = x.name) (hc : ∀ b ∈ cs, b.own = false) :
    RunsF F' P f args (bs ++ cs) k v (fun ns => o ns ++ (noneL cs ++ nw ns)) := by
  intro w hm ha hF'
  have hsub : ∀ p b, listMem (bs.map some) p = some b → p < bs.length ∧ listMem ((bs ++ cs).map some) p = some b := fun p b hp => by
    have hl : p < bs.length := by
      have := (List.getElem?_eq_some_iff.1 (listMem_some.1 hp)).1
      simpa using this
    exact ⟨hl, by rw [List.map_append, listMem_left (by simpa using hl)]; exact hp⟩
  have ho1 : ∀ k, Owns (listMem (bs.map some)) k → Owns (listMem ((bs ++ cs).map some)) k := fun k ⟨p, b, h1, h2, h3⟩ => ⟨p, b, (hsub p b h1).2, h2, h3⟩
  have hw := hF w (fun b hb' => ⟨(hF' b hb').1, (hF' b hb').2.1⟩) (fun b hb' => hm b (by simp [hb']))
  refine Calls.mono (h w (fun b hb' => hm b (by simp [hb'])) (fun p q b c hpq hpb hqc hown => ha p q b c hpq (hsub p b hpb).2 (hsub q c hqc).2 hown) (fun b hFb => ⟨(hw b hFb).1, (hw b hFb).2, fun ⟨p, b', h1, h2, h3⟩ => ?_⟩)) ?_
  · obtain ⟨hl, hp'⟩ := hsub p b' h1
    rcases hn b hFb with ⟨y, hy, he⟩ | ⟨c, hcm, he⟩
    · exact (hF' y hy).2.2 ⟨p, b', hp', h2, by rw [h3, he]⟩
    · obtain ⟨i, hi⟩ := List.getElem?_of_mem hcm
      have hq : listMem ((bs ++ cs).map some) (bs.length + i) = some c := by
        rw [List.map_append, listMem_right (by simp)]
        simp [listMem, hi]
      exact ha p (bs.length + i) b' c (by omega) hp' hq h2 (by rw [h3, he])
  · rintro e w' ⟨ns, hns, he, hp⟩
    have hout : ∀ p b, listMem (o ns ++ (noneL cs ++ nw ns)) p = some b → (p < bs.length ∧ listMem (o ns ++ nw ns) p = some b) ∨ (bs.length + cs.length ≤ p ∧ listMem (o ns ++ nw ns) (p - cs.length) = some b) := fun p b hpb => by
      rcases listMem_app hpb with ⟨h1, h2⟩ | ⟨h1, h2⟩
      · left; rw [ho] at h1; exact ⟨h1, by rw [listMem_left (by rw [ho]; exact h1)]; exact h2⟩
      · rw [ho] at h1 h2
        rcases listMem_app h2 with ⟨h3, h4⟩ | ⟨h3, h4⟩
        · exact absurd h4 (noneL_get _ _ _)
        · right
          rw [noneL_length] at h3 h4
          refine ⟨by omega, ?_⟩
          rw [listMem_right (by rw [ho]; omega), ho, show p - cs.length - bs.length = p - bs.length - cs.length by omega]; exact h4
    have hpos : ∀ p b, listMem (o ns ++ (noneL cs ++ nw ns)) p = some b → ∃ p', listMem (o ns ++ nw ns) p' = some b ∧ ((p < bs.length ∧ p' = p) ∨ (bs.length + cs.length ≤ p ∧ p' = p - cs.length)) := fun p b hpb => by
      rcases hout p b hpb with ⟨h1, h2⟩ | ⟨h1, h2⟩
      · exact ⟨p, h2, .inl ⟨h1, rfl⟩⟩
      · exact ⟨p - cs.length, h2, .inr ⟨h1, rfl⟩⟩
    refine ⟨ns, hns, he, ⟨fun p b hpb => ?_, fun p q b c hpq hpb hqc => ?_, ⟨hp.adv.os, hp.adv.output, hp.adv.tape, hp.adv.size, fun k hk hno => hp.adv.heap k hk (fun hk' => hno (ho1 k hk')), fun k ⟨p, b, h1, h2, h3⟩ => ?_, fun p b hpb hob => ?_⟩⟩⟩
    · obtain ⟨p', h1, _⟩ := hpos p b hpb; exact hp.holds p' b h1
    · obtain ⟨p', h1, h2⟩ := hpos p b hpb
      obtain ⟨q', h3, h4⟩ := hpos q c hqc
      exact hp.apart p' q' b c (by omega) h1 h3
    · obtain ⟨p', h4, _⟩ := hpos p b h1
      rcases hp.adv.names k ⟨p', b, h4, h2, h3⟩ with h5 | h5
      · exact .inl (ho1 k h5)
      · exact .inr h5
    · obtain ⟨p', h1, h2⟩ := hpos p b hpb
      have h3 := hp.adv.ro p' b h1 hob
      obtain ⟨h4, h5⟩ := hsub p' b h3
      rcases h2 with ⟨_, rfl⟩ | ⟨h6, rfl⟩
      · exact h5
      · omega
end Go.Eng
namespace Go.Eng
theorem holds_sprB {nm n r : Nat} {f : Nat → UInt8} {w : World} (h : Holds ⟨nm, false, 0, spr (n + r) n (fun k => u8 (f k)) (u8 0)⟩ w) : Holds ⟨nm, false, 0, tabF n fun k => u8 (f k)⟩ w :=
  h.recont rfl fun j v hj => by
    by_cases hl : j < n
    · rw [tabF_in hl] at hj
      show (spr (n + r) n (fun k => u8 (f k)) (u8 0)).get j = _
      rw [spr, tabF_in (by omega), if_pos hl]; exact hj
    · rw [tabF_out hl] at hj; cases hj
theorem famB_name {F' : Blk → Prop} {q : BytL} {B : Blk} (h : B.name = q.wb) : ∀ x, famB q x → (∃ y, F' y ∧ y.name = x.name) ∨ ∃ c ∈ [B], c.name = x.name := fun x hx => by
  obtain ⟨_, rfl⟩ := hx
  exact .inr ⟨B, by simp, h⟩
theorem Runs.fam {F : Blk → Prop} {P : Program} {f : FuncId} {args : List Value} {B : Blk} {v : Value} {o : List (Option Blk)} (h : Runs P f args [B] 0 (fun _ => v) (fun _ => o)) (hB : F B) : RunsF F P f args [] 0 (fun _ => v) (fun _ => []) := by
  intro w hm ha hF
  obtain ⟨h1, h2, _⟩ := hF B hB
  have hno : ∀ k, ¬ Owns (listMem ([B].map some)) k := fun k ⟨p, b, hp, ho, _⟩ => by
    rcases p with _ | p
    · cases hp; rw [h2] at ho; cases ho
    · simp [listMem] at hp
  refine Calls.mono (h w (fun b hb => by simp at hb; subst hb; exact h1) (fun p q b c _ hb _ ho => by
    rcases p with _ | p
    · cases hb; rw [h2] at ho; cases ho
    · simp [listMem] at hb)) ?_
  rintro e w' ⟨ns, hns, he, hp⟩
  have hnil : ∀ p b, listMem ([] : List (Option Blk)) p ≠ some b := fun p b => by simp [listMem]
  exact ⟨ns, hns, he, ⟨fun p b hpb => absurd hpb (hnil p b), fun p q b c _ hpb => absurd hpb (hnil p b), ⟨hp.adv.os, hp.adv.output, hp.adv.tape, hp.adv.size, fun k hk _ => hp.adv.heap k hk (hno k), fun k ⟨p, b, hpb, _⟩ => absurd hpb (hnil p b), fun p b hpb => absurd hpb (hnil p b)⟩⟩⟩
section
variable {P : Program} {t e t' : TypeId} {x y z : Operand}
theorem is_slqPartK (ht : P.underlying t = some (.slice e)) {sz : Nat} (hs : sizeB P e = some sz) (k1 k2 : IntKind) (wa : Option Addr) (len cap i j : Nat) (hi : i ≤ j ∧ j ≤ cap) :
    IsOp P (.slice t x (some y) (some z) none) [.slice wa len cap, .int k1 (i : Int), .int k2 (j : Int)] (.slice (fromA wa cap i sz) (j - i) (cap - i)) := by
  intro ρ o' ho hv
  rw [ho] at hv
  have hv' : [ρ x, ρ y, ρ z] = [Value.slice wa len cap, .int k1 (i : Int), .int k2 (j : Int)] := hv
  injection hv' with h1 hv'
  injection hv' with h2 hv'
  injection hv' with h3 _
  unfold execOp
  rw [ho]
  simp only [Option.map]
  show pureRun P (Sem.bind (Instr.sliceAt t (ρ x) (some (ρ y)) (some (ρ z)) none) fun v => Sem.pure (Next.value v)) = _
  rw [pureRun_bind, h1, h2, h3]
  have hi' : 0 ≤ (i : Int) ∧ (i : Int) ≤ (j : Int) := by omega
  have hj' : 0 ≤ (j : Int) ∧ (j : Int) ≤ (cap : Int) := by omega
  have e : pureRun P (Instr.sliceAt t (.slice wa len cap) (some (.int k1 (i : Int))) (some (.int k2 (j : Int))) none) = some (.slice (fromA wa cap i sz) (j - i) (cap - i)) := by
    simp only [Instr.sliceAt, Instr.slice, Instr.sliceBounds, Instr.sliceBound, nat, pureRun_bind', asIntOf, pureRun, pure, pureRun_underlying ht, hi', hj', and_self, if_true, pureRun_sizeOf hs, Int.toNat_natCast]
    rfl
  rw [e]
  rfl
theorem is_slqFromK (ht : P.underlying t = some (.slice e)) {sz : Nat} (hs : sizeB P e = some sz) (k : IntKind) (wa : Option Addr) (len cap i : Nat) (hi : i ≤ len ∧ len ≤ cap) : IsOp P (.slice t x (some y) none none) [.slice wa len cap, .int k (i : Int)] (.slice (fromA wa cap i sz) (len - i) (cap - i)) := by
  intro ρ o' ho hv
  rw [ho] at hv
  have hv' : [ρ x, ρ y] = [Value.slice wa len cap, .int k (i : Int)] := hv
  injection hv' with h1 hv'
  injection hv' with h2 _
  unfold execOp
  rw [ho]
  simp only [Option.map]
  show pureRun P (Sem.bind (Instr.sliceAt t (ρ x) (some (ρ y)) none none) fun v => Sem.pure (Next.value v)) = _
  rw [pureRun_bind, h1, h2]
  have hi' : 0 ≤ (i : Int) ∧ (i : Int) ≤ (len : Int) := by omega
  have e : pureRun P (Instr.sliceAt t (.slice wa len cap) (some (.int k (i : Int))) none none) = some (.slice (fromA wa cap i sz) (len - i) (cap - i)) := by
    simp only [Instr.sliceAt, Instr.slice, Instr.sliceBounds, Instr.sliceBound, nat, pureRun_bind', asIntOf, pureRun, pure, pureRun_underlying ht, hi', and_self, if_true, pureRun_sizeOf hs, Int.toNat_natCast]
    rfl
  rw [e]
  rfl
end
section
variable {P : Program} {t t' : TypeId} {x y : Operand} (a b : UInt8)
theorem is_add8 : IsOp P (.binOp .add t x y t') [u8 a, u8 b] (u8 (a + b)) := isOp_bin guard_int (by
  show some (Value.int .u8 (IntKind.u8.wrap ((a.toNat : Int) + b.toNat))) = _
  rw [wrap_u8, u8, UInt8.toNat_add]; congr 2)
theorem is_leq8 : IsOp P (.binOp .leq t x y t') [u8 a, u8 b] (.bool (decide (a.toNat ≤ b.toNat))) := isOp_bin guard_int (by
  show some (Value.bool (decide ((a.toNat : Int) ≤ (b.toNat : Int)))) = _
  congr 2; exact decide_eq_decide.2 Int.ofNat_le)
theorem is_gtr8 : IsOp P (.binOp .gtr t x y t') [u8 a, u8 b] (.bool (decide (b.toNat < a.toNat))) := isOp_bin guard_int (by
  show some (Value.bool (decide ((b.toNat : Int) < (a.toNat : Int)))) = _
  congr 2; exact decide_eq_decide.2 Int.ofNat_lt)
end
end Go.Eng
namespace Go.Eng
theorem Runs.famN {F : Blk → Prop} {P : Program} {f : FuncId} {args : List Value} {B : Blk} {k : Nat} {v : List Nat → Value} {x : List Nat → Option Blk} {nw : List Nat → List (Option Blk)} (h : Runs P f args [B] k v (fun ns => x ns :: nw ns)) (hB : F B) : RunsF F P f args [] k v nw := by
  intro w hm ha hF
  obtain ⟨h1, h2, _⟩ := hF B hB
  have hno : ∀ k, ¬ Owns (listMem ([B].map some)) k := fun k ⟨p, b, hp, ho, _⟩ => by
    rcases p with _ | p
    · cases hp; rw [h2] at ho; cases ho
    · simp [listMem] at hp
  refine Calls.mono (h w (fun b hb => by simp at hb; subst hb; exact h1) (fun p q b c _ hb _ ho => by
    rcases p with _ | p
    · cases hb; rw [h2] at ho; cases ho
    · simp [listMem] at hb)) ?_
  rintro e w' ⟨ns, hns, he, hp⟩
  have hs : ∀ p b, listMem (nw ns) p = some b → listMem (x ns :: nw ns) (p + 1) = some b := fun p b h => by simpa [listMem] using h
  refine ⟨ns, hns, he, ⟨fun p b hpb => hp.holds _ b (hs p b hpb), fun p q b c hpq hpb hqc => hp.apart _ _ b c (by omega) (hs p b hpb) (hs q c hqc), ⟨hp.adv.os, hp.adv.output, hp.adv.tape, hp.adv.size, fun k hk _ => hp.adv.heap k hk (hno k), fun k ⟨p, b, hpb, h3, h4⟩ => ?_, fun p b hpb hob => ?_⟩⟩⟩
  · rcases hp.adv.names k ⟨p + 1, b, hs p b hpb, h3, h4⟩ with h5 | h5
    · exact absurd h5 (hno k)
    · exact .inr h5
  · have := hp.adv.ro (p + 1) b (hs p b hpb) hob
    simp [listMem] at this
end Go.Eng
namespace Go.Eng
theorem RunsF.lendP {F F' : Blk → Prop} {P : Program} {f : FuncId} {args : List Value} {bs : List Blk} {k : Nat} {v : List Nat → Value} {out : List Nat → List (Option Blk)}
    (hF : ∀ w : World, FamH F' w → FamH F w) (hn : ∀ x, F x → ∃ y, F' y ∧ y.name = x.name) (h : RunsF F P f args bs k v out) : RunsF F' P f args bs k v out := fun w hb ha hF' => h w hb ha fun b hb' => by
  obtain ⟨h1, h2⟩ := hF w (fun x hx => ⟨(hF' x hx).1, (hF' x hx).2.1⟩) b hb'
  obtain ⟨y, hy, he⟩ := hn b hb'
  exact ⟨h1, h2, by rw [← he]; exact (hF' y hy).2.2⟩
theorem famB_part {b c : BytL} {x : Blk} (h : 0 < c.wn → 0 < b.wn) (hx : famB c x) (hb : c.wb = b.wb := by rfl) : ∃ y, famB b y ∧ y.name = x.name := by
  obtain ⟨h0, rfl⟩ := hx
  exact ⟨bytB b, ⟨h h0, rfl⟩, hb.symm⟩
end Go.Eng
namespace Go.Eng
section
variable {P : Program} {t t' : TypeId} {x y : Operand}
theorem is_eql8 (a b : UInt8) : IsOp P (.binOp .eql t x y t') [u8 a, u8 b] (.bool (a == b)) := isOp_bin guard_int (by
  show some (Value.bool ((a.toNat : Int) == (b.toNat : Int))) = _
  have : ((a.toNat : Int) == (b.toNat : Int)) = (a == b) := by
    rw [Bool.eq_iff_iff, beq_iff_eq, beq_iff_eq]
    constructor
    · intro h; exact UInt8.toNat_inj.1 (by omega)
    · intro h; rw [h]
  rw [this])
end
end Go.Eng
namespace Go.Eng
theorem map_get {α : Type} (K : α → Value) (g : Nat → α) (n k : Nat) (h : k < n) : ((List.range n).map fun j => K (g j))[k]? = some (K (g k)) := by
  rw [List.getElem?_map, List.getElem?_range h]; rfl
theorem holds_litB {nm : Nat} {l : List Value} {n : Nat} {f : Nat → UInt8} {w : World} (h : Holds ⟨nm, false, 0, .lit l⟩ w) (hl : l = (List.range n).map fun k => u8 (f k)) : Holds ⟨nm, false, 0, tabF n fun k => u8 (f k)⟩ w := by
  subst hl
  exact h.recont rfl fun j v hj => by
    by_cases hl : j < n
    · rw [tabF_in hl] at hj
      show ((List.range n).map fun k => u8 (f k))[j]? = _
      rw [map_get u8 f n j hl]; exact hj
    · rw [tabF_out hl] at hj; cases hj
def bytsOf (l : List UInt8) (k : Nat) : UInt8 := l.getD k 0
theorem is_minN {P : Program} {x y : Operand} {ts : Array TypeId} (a b : Nat) : IsOp P (.call { callee := .builtin .min, args := #[x, y], argTypes := ts }) [nat a, nat b] (nat (min a b)) := by
  intro ρ o ho hv
  rw [ho] at hv
  have hv' : ρ x = nat a ∧ ρ y = nat b := by simpa [Op.operands, Call.operands] using hv
  unfold execOp
  rw [ho]
  show pureRun P ((Builtin.min_ ts o.type (#[x, y].map ρ)) >>= fun v => (pure (Next.value v) : Sem Next)) = _
  have e1 : (#[x, y].map ρ : Array Value) = #[nat a, nat b] := by simp [hv'.1, hv'.2]
  have e2 : pureRun P (Builtin.min_ ts o.type #[nat a, nat b]) = some (nat (min a b)) := by
    show some (Value.int .i64 (if ((b : Int) < (a : Int)) then (b : Int) else (a : Int))) = _
    unfold nat
    congr 2
    split <;> omega
  rw [e1, pureRun_bind', e2]
  rfl
def famBB (x y : BytL) (b : Blk) : Prop := famB x b ∨ famB y b
theorem holdb_ownT {nm n k c r : Nat} {f : Nat → UInt8} {w : World} (hk : k ≤ n) (h : Holds ⟨nm, false, 0, spr (n + r) n (fun k => u8 (f k)) (u8 0)⟩ w) : FamH (famB (bytO nm k c f)) w := holdb_own (tabU_less (holds_sprB h) hk)
end Go.Eng
namespace Go.Eng
theorem RunsF.drop {F : Blk → Prop} {P : Program} {f : FuncId} {args : List Value} {bs : List Blk} {k : Nat} {v : List Nat → Value} {o nw : List Nat → List (Option Blk)} (h : RunsF F P f args bs k v (fun ns => o ns ++ nw ns)) : RunsF F P f args bs k v o := fun w hb ha hF =>
  Calls.mono (h w hb ha hF) fun e w' ⟨ns, h1, h2, hp⟩ => by
    have hs : ∀ p b, listMem (o ns) p = some b → listMem (o ns ++ nw ns) p = some b := fun p b h => by
      have hl : p < (o ns).length := (List.getElem?_eq_some_iff.1 (show (o ns)[p]? = some (some b) by
        unfold listMem at h
        cases h3 : (o ns)[p]? with
        | none => rw [h3] at h; cases h
        | some x => rw [h3] at h; simp at h; rw [h])).1
      rw [listMem_left hl]; exact h
    exact ⟨ns, h1, h2, ⟨fun p b h => hp.holds p b (hs p b h), fun p q b c hpq hb hc => hp.apart p q b c hpq (hs p b hb) (hs q c hc), hp.adv.weak hs⟩⟩
theorem RunsF.name1 {F : Blk → Prop} {P : Program} {f : FuncId} {args : List Value} {bs : List Blk} {v : Value} {o : List (Option Blk)} (h : RunsF F P f args bs 0 (fun _ => v) (fun _ => o)) : RunsF F P f args bs 1 (fun _ => v) (fun _ => o) := fun w hb ha hF =>
  Calls.mono (h w hb ha hF) fun e w' ⟨ns, h1, h2, hp⟩ => ⟨[0], rfl, h2, hp⟩
end Go.Eng
end
section
set_option linter.unusedSimpArgs false
set_option linter.unusedVariables false
set_option maxRecDepth 100000
namespace Go.Eng
structure Grw (α : Type) where
  z : Bool
  nm : Nat
  n : Nat
  r : Nat
  f : Nat → α
def grO {α : Type} (K : α → Value) (zv : Value) (A : Grw α) : Option Blk := match A.z with
  | true => none
  | false => some ⟨A.nm, true, 0, spr (A.n + A.r) A.n (fun k => K (A.f k)) zv⟩
def grV {α : Type} (A : Grw α) : Value := match A.z with
  | true => .slice none 0 0
  | false => .slice (some ⟨A.nm, 0, none⟩) A.n (A.n + A.r)
section
variable {α : Type} {K : α → Value} {zv : Value} {A : Grw α}
theorem grO_nil (h : A.z = true) : grO K zv A = none := by unfold grO; rw [h]
theorem grV_nil (h : A.z = true) : grV A = .slice none 0 0 := by unfold grV; rw [h]
theorem grO_own (h : A.z = false) : grO K zv A = some ⟨A.nm, true, 0, spr (A.n + A.r) A.n (fun k => K (A.f k)) zv⟩ := by unfold grO; rw [h]
theorem grV_own (h : A.z = false) : grV A = .slice (some ⟨A.nm, 0, none⟩) A.n (A.n + A.r) := by unfold grV; rw [h]
end
section
variable {P : Program} {t ty e : TypeId}
theorem srun_append_none {sz : Nat} (ht : P.underlying t = some (.slice e)) (hs : sizeB P e = some sz) (a : Option Addr) (n c : Nat) (hn : n ≤ c) (al : Option Addr) (cl : Nat) :
    SRuns P (appendSem t ty (.slice a n c) (.slice al 0 cl)) [] 0 (fun _ => .slice a n c) (fun _ => []) := by
  intro w hall ha
  obtain ⟨i, hi, hi2⟩ : ∃ i, P.info? e = some i ∧ i.size = sz := by
    unfold sizeB at hs
    cases h : P.info? e with
    | none => simp [h] at hs
    | some i => simp [h] at hs; exact ⟨i, rfl, hs⟩
  refine ⟨[], w, rfl, .inl (run_value ?_), Post.refl (fun p c h => by cases h) ha⟩
  have hn' : ¬ c < n := by omega
  cases al <;> cases a <;> simp [Builtin.append_, run_underlying ht, sizeOf, typeInfo, hi, hn', Builtin.lenOf, Builtin.firstCells, storeCells, loadCells, loadCellsFrom]
theorem mk_append_nilA {B : Nat} {z : Value} (ht : P.underlying t = some (.slice e)) (h1 : OneC P e z B) (k bo os n cc : Nat) {α : Type} (K : α → Value) (h : Nat → α) (S : Cont) (hS : ∀ j, j < n → S.get (os + j) = some (K (h j)))
    (hb : 0 < n ∧ n * B ≤ 140737488355328 ∧ n ≤ 9223372036854775807) {A : Option Addr} (hA : A = some ⟨k, bo + os, none⟩) :
    SRuns P (appendSem t ty (.slice none 0 0) (.slice A n cc)) [⟨k, false, bo, S⟩] 2
      (fun ns => .slice (some ⟨ns.getD 0 0, 0, none⟩) n (n + ns.getD 1 0))
      (fun ns => [some ⟨k, false, bo, S⟩, some ⟨ns.getD 0 0, true, 0, spr (n + ns.getD 1 0) n (fun k => K (h k)) z⟩]) := by
  subst hA; exact mk_append_nil ht h1 k bo os n cc K h S hS hb
end
end Go.Eng
namespace Go.Eng
theorem srun_append_noneM {P : Program} {t ty e : TypeId} {sz : Nat} (ht : P.underlying t = some (.slice e)) (hs : sizeB P e = some sz) (a : Option Addr) (n c : Nat) (hn : n ≤ c) (al : Option Addr) (m cl : Nat) (hm : m = 0) :
    SRuns P (appendSem t ty (.slice a n c) (.slice al m cl)) [] 0 (fun _ => .slice a n c) (fun _ => []) := by
  subst hm; exact srun_append_none ht hs a n c hn al cl
end Go.Eng
end
section
namespace Go.Eng
set_option linter.unusedVariables false
set_option linter.unusedSimpArgs false
set_option maxRecDepth 100000
structure TmR where
  a : UInt64
  i : Int
  n : UInt64
deriving DecidableEq
structure ItR where
  a : UInt64
  i : Int
deriving DecidableEq
def tmZ : TmR := ⟨0, 0, 0⟩
def itZ : ItR := ⟨0, 0⟩
def tmC (r : TmR) : List Value := [u64 r.a, int r.i, u64 r.n]
def itC (r : ItR) : List Value := [u64 r.a, int r.i]
theorem tmC_ok (r : TmR) : (tmC r).length = 3 ∧ (tmC r).all Value.oneCell' = true := ⟨rfl, rfl⟩
theorem itC_ok (r : ItR) : (itC r).length = 2 ∧ (itC r).all Value.oneCell' = true := ⟨rfl, rfl⟩
abbrev tabT (n : Nat) (f : Nat → TmR) : Cont := .tab n 3 fun k => tmC (f k)
abbrev tabI (n : Nat) (f : Nat → ItR) : Cont := .tab n 2 fun k => itC (f k)
def itm (r : TmR) : ItR := ⟨r.a, r.i⟩
def ltT (a b : TmR) : Bool := selB (decide (a.a < b.a)) true (selB (a.a == b.a) (decide (a.n < b.n)) false)
theorem ltT_iff {a b : TmR} : ltT a b = true ↔ a.a.toNat < b.a.toNat ∨ a.a.toNat = b.a.toNat ∧ a.n.toNat < b.n.toNat := by
  have e1 : (a.a < b.a) = (a.a.toNat < b.a.toNat) := rfl
  have e2 : (a.n < b.n) = (a.n.toNat < b.n.toNat) := rfl
  have e3 : (a.a == b.a) = true ↔ a.a.toNat = b.a.toNat := by rw [beq_iff_eq]; exact UInt64.toNat_inj.symm
  unfold ltT
  by_cases h1 : a.a.toNat < b.a.toNat
  · simp [selB, e1, h1]
  · by_cases h2 : a.a.toNat = b.a.toNat
    · simp [selB, e1, h1, e3.2 h2, e2, h2]
    · have : (a.a == b.a) = false := by
        cases h : (a.a == b.a) with
        | false => rfl
        | true => exact absurd (e3.1 h) h2
      simp [selB, e1, h1, this, h2]
theorem ltT_not {a b : TmR} : ltT a b = false ↔ ¬ (a.a.toNat < b.a.toNat ∨ a.a.toNat = b.a.toNat ∧ a.n.toNat < b.n.toNat) := by
  rw [← ltT_iff]; simp
theorem ltT_swo : SWO ltT := ⟨fun a => by rw [ltT_not]; omega, fun a b c h k => by rw [ltT_iff] at *; omega, fun a b c h k => by rw [ltT_not] at *; omega⟩
def popN (F : Nat → TmR) (n : Nat) : Nat → Nat → TmR
  | 0 => F
  | k + 1 => popF ltT (popN F n k) (n - k - 1)
def itF (F : Nat → TmR) (n k : Nat) : ItR := itm (popN F n (k + 1) (n - k - 1))
structure IsDue (F : Nat → TmR) (n : Nat) (now : UInt64) (d : Nat) : Prop where
  le : d ≤ n
  due : ∀ k, k < d → decide ((popN F n k 0).a ≤ now) = true
  stop : d < n → decide ((popN F n d 0).a ≤ now) = false
theorem IsDue.lt {F : Nat → TmR} {n d k : Nat} {now : UInt64} (h : IsDue F n now d) (hk : k ≤ d) (hg : selB (decide (0 < n - k)) (decide ((popN F n k 0).a ≤ now)) false = true) : k < d := by
  have h1 := h.stop
  have := h.le
  rcases Nat.lt_or_ge k d with h2 | h2
  · exact h2
  · have e : k = d := by omega
    subst e
    by_cases h3 : 0 < n - k
    · rw [h1 (by omega)] at hg; cases hd : decide (0 < n - k) <;> rw [hd] at hg <;> cases hg
    · rw [decide_eq_false h3] at hg; cases hg
theorem IsDue.eq {F : Nat → TmR} {n d k : Nat} {now : UInt64} (h : IsDue F n now d) (hk : k ≤ d) (hg : selB (decide (0 < n - k)) (decide ((popN F n k 0).a ≤ now)) false = false) : k = d := by
  have h1 := h.due k
  have := h.le
  rcases Nat.lt_or_ge k d with h2 | h2
  · rw [h1 h2] at hg
    have h3 : 0 < n - k := by omega
    rw [decide_eq_true h3] at hg; cases hg
  · omega
theorem due_none {F : Nat → TmR} {n : Nat} {now : UInt64} (h : IsDue F n now 0) : selB (decide (0 < n)) (decide ((F 0).a ≤ now)) false = false := by
  by_cases h1 : 0 < n
  · rw [decide_eq_true h1]; exact h.stop h1
  · rw [decide_eq_false h1]; rfl
theorem due_first {F : Nat → TmR} {n d : Nat} {now : UInt64} (h : IsDue F n now d) (h0 : 0 < d) : selB (decide (0 < n)) (decide ((F 0).a ≤ now)) false = true := by
  have := h.le
  rw [decide_eq_true (show 0 < n by omega)]; exact h.due 0 h0
structure Std (F : Nat → TmR) (n : Nat) (L : List TmR) : Prop where
  hp : HpB ltT 0 F n
  en : En F n (· ∈ L)
  up : L.Pairwise fun x y => ltT x y = true
  len : L.length = n
theorem Std.none {F : Nat → TmR} : Std F 0 [] := ⟨fun k _ h => absurd h (Nat.not_lt_zero k), En.none.iff fun x => by simp, List.Pairwise.nil, rfl⟩
def insT (x : TmR) : List TmR → List TmR
  | [] => [x]
  | y :: L => if y.a.toNat ≤ x.a.toNat then y :: insT x L else x :: y :: L
theorem insT_len (x : TmR) : ∀ L, (insT x L).length = L.length + 1
  | [] => rfl
  | y :: L => by unfold insT; split <;> simp [insT_len x L]
theorem insT_mem (x z : TmR) : ∀ L, z ∈ insT x L ↔ z ∈ L ∨ z = x
  | [] => by simp [insT]
  | y :: L => by
    unfold insT; split
    · rw [List.mem_cons, insT_mem x z L, List.mem_cons]; exact or_assoc.symm
    · rw [List.mem_cons]; exact or_comm
theorem insT_up (x : TmR) : ∀ L, (L.Pairwise fun x y => ltT x y = true) → (∀ y ∈ L, y.n.toNat < x.n.toNat) → (insT x L).Pairwise fun x y => ltT x y = true
  | [], _, _ => by simp [insT]
  | y :: L, h, hn => by
    have h1 := List.pairwise_cons.1 h
    unfold insT; split
    · rename_i hy
      refine List.pairwise_cons.2 ⟨fun z hz => ?_, insT_up x L h1.2 fun w hw => hn w (List.mem_cons_of_mem _ hw)⟩
      rcases (insT_mem x z L).1 hz with hz | rfl
      · exact h1.1 z hz
      · rw [ltT_iff]; have := hn y (by simp); omega
    · rename_i hy
      refine List.pairwise_cons.2 ⟨fun z hz => ?_, h⟩
      rcases List.mem_cons.1 hz with rfl | hz
      · rw [ltT_iff]; omega
      · have := h1.1 z hz; rw [ltT_iff] at this ⊢; omega
theorem Std.push {F g : Nat → TmR} {n : Nat} {L : List TmR} {x : TmR} (h : Std F n L) (hg : ∀ k, k < n → g k = F k) (hx : g n = x) (hn : ∀ y ∈ L, y.n.toNat < x.n.toNat) : Std (upF ltT g n) (n + 1) (insT x L) := by
  obtain ⟨h1, h2, _⟩ := push_ok ltT_swo h.hp hg hx
  refine ⟨h1, (h2 _ h.en fun hm => ?_).iff fun y => insT_mem x y L, insT_up x L h.up hn, by rw [insT_len, h.len]⟩
  have := hn x hm; omega
theorem Std.pop {F : Nat → TmR} {n : Nat} {x : TmR} {L : List TmR} (h : Std F n (x :: L)) : 0 < n ∧ F 0 = x ∧ popF ltT F (n - 1) (n - 1) = x ∧ Std (popF ltT F (n - 1)) (n - 1) L := by
  have hl := h.len
  simp only [List.length_cons] at hl
  obtain ⟨m, rfl⟩ : ∃ q, n = q + 1 := ⟨n - 1, by omega⟩
  simp only [Nat.add_sub_cancel]
  obtain ⟨h1, h2, h3, h4⟩ := popF_ok ltT_swo h.hp
  have hu := List.pairwise_cons.1 h.up
  have e : F 0 = x := by
    have hm := h.en.mem 0 (by omega)
    rcases List.mem_cons.1 hm with hm | hm
    · exact hm
    · obtain ⟨k, hk, e⟩ := h.en.sur x (by simp)
      have := h4 k hk
      rw [e, hu.1 _ hm] at this; cases this
  refine ⟨by omega, e, h2.trans e, ⟨h1, (h3 _ h.en).iff fun y => ?_, hu.2, by omega⟩⟩
  rw [e]
  constructor
  · intro hy
    refine ⟨List.mem_cons_of_mem _ hy, fun e => ?_⟩
    subst e
    have := hu.1 _ hy
    rw [ltT_swo.irr] at this; cases this
  · rintro ⟨hy, hne⟩
    rcases List.mem_cons.1 hy with hy | hy
    · exact absurd hy hne
    · exact hy
theorem popN_next {F : Nat → TmR} {n : Nat} (hn : 0 < n) : ∀ k, popN F n (k + 1) = popN (popF ltT F (n - 1)) (n - 1) k
  | 0 => rfl
  | k + 1 => by
    rw [popN, popN_next hn k, popN]
    congr 1; omega
theorem Std.popN {F : Nat → TmR} : ∀ {n : Nat} {L : List TmR} (k : Nat), Std F n L → k ≤ n → Std (popN F n k) (n - k) (L.drop k) ∧ (k < n → Go.Eng.popN F n k 0 = L.getD k tmZ)
  | n, [], k, h, hk => by
    have := h.len; simp at this
    subst this
    have e : k = 0 := by omega
    subst e
    exact ⟨h, fun h => absurd h (Nat.lt_irrefl _)⟩
  | n, x :: L, 0, h, hk => ⟨h, fun _ => h.pop.2.1⟩
  | n, x :: L, k + 1, h, hk => by
    obtain ⟨h0, _, _, h1⟩ := h.pop
    obtain ⟨h2, h3⟩ := Std.popN k h1 (by omega)
    rw [popN_next h0]
    refine ⟨by rw [show n - (k + 1) = n - 1 - k by omega]; exact h2, fun hk2 => ?_⟩
    rw [h3 (by omega)]; rfl
def dueN (now : UInt64) : List TmR → Nat
  | [] => 0
  | x :: L => if decide (x.a ≤ now) = true then dueN now L + 1 else 0
theorem dueN_le (now : UInt64) : ∀ L, dueN now L ≤ L.length
  | [] => Nat.le_refl 0
  | x :: L => by unfold dueN; have := dueN_le now L; split <;> simp <;> omega
theorem dueN_lt (now : UInt64) : ∀ (L : List TmR) (k : Nat), k < dueN now L → decide ((L.getD k tmZ).a ≤ now) = true
  | [], k, h => absurd h (Nat.not_lt_zero k)
  | x :: L, k, h => by
    unfold dueN at h
    split at h
    · rename_i hx
      cases k with
      | zero => exact hx
      | succ k => exact dueN_lt now L k (by omega)
    · omega
theorem dueN_stop (now : UInt64) : ∀ (L : List TmR), dueN now L < L.length → decide ((L.getD (dueN now L) tmZ).a ≤ now) = false
  | [], h => absurd h (Nat.lt_irrefl 0)
  | x :: L, h => by
    unfold dueN at h ⊢
    split at h
    · rename_i hx
      rw [if_pos hx]
      exact dueN_stop now L (by simp at h; omega)
    · rename_i hx
      rw [if_neg hx]
      cases hb : decide (x.a ≤ now) with
      | true => exact absurd hb hx
      | false => exact hb
theorem Std.due {F : Nat → TmR} {n : Nat} {L : List TmR} (h : Std F n L) (now : UInt64) : IsDue F n now (dueN now L) := by
  have hle : dueN now L ≤ n := h.len ▸ dueN_le now L
  refine ⟨hle, fun k hk => ?_, fun hs => ?_⟩
  · rw [(h.popN k (by omega)).2 (by omega)]; exact dueN_lt now L k hk
  · rw [(h.popN _ (by omega)).2 hs]; exact dueN_stop now L (by rw [h.len]; exact hs)
theorem Std.left {F : Nat → TmR} {n : Nat} {L : List TmR} (h : Std F n L) (now : UInt64) : Std (Go.Eng.popN F n (dueN now L)) (n - dueN now L) (L.drop (dueN now L)) := (h.popN _ (h.len ▸ dueN_le now L)).1
theorem Std.popd {F : Nat → TmR} {n : Nat} {L : List TmR} (h : Std F n L) (hn : 0 < n) : popF ltT F (n - 1) (n - 1) = L.getD 0 tmZ := by
  match L, h with
  | [], h => have := h.len; simp at this; omega
  | x :: L, h => exact h.pop.2.2.1
theorem Std.item {F : Nat → TmR} {n k : Nat} {L : List TmR} (h : Std F n L) (hk : k < n) : itF F n k = itm (L.getD k tmZ) := by
  have h1 := (h.popN k (by omega)).1
  have := h1.popd (by omega)
  unfold itF
  rw [Go.Eng.popN, this]
  congr 1
  rw [List.getD_eq_getElem?_getD, List.getD_eq_getElem?_getD, List.getElem?_drop, Nat.add_zero]
end Go.Eng
end
section
namespace Go.Eng
set_option linter.unusedVariables false
set_option linter.unusedSimpArgs false
set_option maxRecDepth 100000
def clearSem (t ty : TypeId) (x : Value) : Sem Next := do pure (.value (← Builtin.clear_ #[t] ty #[x]))
def clrF {α : Type} (g : Nat → α) (i m : Nat) (z : α) : Nat → α := fun k => if i ≤ k ∧ k < i + m then z else g k
section
variable {P : Program} {t ty e : TypeId} {sz B : Nat} {zc : List Value}
theorem run_zeroValue' {i : TypeInfo} {z : Value} (hi : P.info? e = some i) (hz : i.zero = some z) (w : World) : (zeroValue e).run P w = .ok z w := by
  simp [zeroValue, typeInfo, hi, hz]
theorem mkJ_clear (ht : P.underlying t = some (.slice e)) (h1 : AggC P e zc sz B) (b c i m cc : Nat) {α : Type} (K : α → List Value) (hK : ∀ a, (K a).length = sz ∧ (K a).all Value.oneCell' = true) (g : Nat → α) (z0 : α) (hz0 : K z0 = zc) (hi : i + m ≤ c) :
    SRuns P (clearSem t ty (.slice (fromA (some ⟨b, 0, none⟩) c i sz) m cc)) [⟨b, true, 0, .tab c sz fun k => K (g k)⟩] 0 (fun _ => .tuple #[])
      (fun _ => [some ⟨b, true, 0, .tab c sz fun k => K (clrF g i m z0 k)⟩]) := by
  obtain ⟨inf, z, hin, hz, hsz, hB, hzc, hzl, hs0⟩ := h1
  intro w hall ha
  have hA : Holds ⟨b, true, 0, .tab c sz fun k => K (g k)⟩ w := hall _ (by simp)
  have hm : ∀ p c', listMem [some ⟨b, true, 0, .tab c sz fun k => K (g k)⟩] p = some c' → Holds c' w := fun p c' hc => hall c' (List.mem_of_getElem? (listMem_some (l := [⟨b, true, 0, .tab c sz fun k => K (g k)⟩]).1 hc))
  rcases Nat.eq_zero_or_pos m with h0 | h0
  · subst h0
    have hrun : (Builtin.clear_ #[t] ty #[.slice (fromA (some ⟨b, 0, none⟩) c i sz) 0 cc]).run P w = .ok (.tuple #[]) w := by
      unfold fromA
      split <;> simp [Builtin.clear_, run_underlying ht]
    have e0 : clrF g i 0 z0 = g := by funext k; unfold clrF; rw [if_neg (by omega)]
    rw [e0]
    exact ⟨[], w, rfl, .inl (run_value hrun), Post.refl hm ha⟩
  · have hfa : fromA (some ⟨b, 0, none⟩) c i sz = some ⟨b, i * sz, none⟩ := by
      unfold fromA; rw [if_neg (by omega)]; simp [add_none]
    rw [hfa]
    have hlen : (Builtin.zeroCells z.cells m).toList.length = m * sz := by
      unfold Builtin.zeroCells
      have : z.cells.size = sz := by rw [← hzl, ← hzc]; simp
      simp [this]
    have hcs : ∀ j, j < m * sz → (Builtin.zeroCells z.cells m).toList[j]? = some (zc.getD (j % sz) undef) := fun j hj => by
      rw [zeroCells_many hzc m j (by rw [hzl]; exact hj), hzl]
    have hle : (i + m) * sz ≤ c * sz := Nat.mul_le_mul_right _ hi
    have hadd : (i + m) * sz = i * sz + m * sz := Nat.add_mul _ _ _
    have hget : ∀ j, j < c * sz → ∃ u, (Cont.tab c sz fun k => K (g k)).get j = some u := fun j hj => ⟨_, tabE_in hs0 (fun k _ => (hK _).1) hj⟩
    have hone : ∀ v ∈ (Builtin.zeroCells z.cells m).toList, v.oneCell' = true := fun v hv => by
      obtain ⟨j, hj, rfl⟩ := List.getElem_of_mem hv
      have h2 := hcs j (by rw [← hlen]; exact hj)
      rw [List.getElem?_eq_getElem hj] at h2
      injection h2 with h2
      rw [h2]
      have h3 : j % sz < zc.length := by rw [hzl]; exact Nat.mod_lt _ hs0
      rw [List.getD_eq_getElem?_getD, List.getElem?_eq_getElem h3]
      have := (hK z0).2
      rw [hz0] at this
      exact List.all_eq_true.1 this _ (List.getElem_mem h3)
    have hst := run_storeCells_cells (P := P) b (i * sz) (Builtin.zeroCells z.cells m).toList 0 w (fun j hj => by
        obtain ⟨u, hu⟩ := hget (i * sz + j) (by rw [hlen] at hj; omega)
        have := hA.cell _ _ hu
        rw [Nat.zero_add] at this
        rw [Nat.add_zero, this]; rfl)
      (fun j hj => by
        obtain ⟨u, hu⟩ := hget (i * sz + j) (by rw [hlen] at hj; omega)
        have := hA.free rfl _ _ hu
        rw [Nat.zero_add] at this
        rw [Nat.add_zero]; exact this) hone
    have hrun : (Builtin.clear_ #[t] ty #[.slice (some ⟨b, i * sz, none⟩) m cc]).run P w = .ok (.tuple #[]) (w.setCells b (i * sz) (Builtin.zeroCells z.cells m).toList) := by
      obtain ⟨m', rfl⟩ : ∃ q, m = q + 1 := ⟨m - 1, by omega⟩
      simp only [Nat.add_zero] at hst
      simp [Builtin.clear_, run_underlying ht, run_zeroValue' hin hz, hst]
    refine ⟨[], _, rfl, .inl (run_value hrun), ?_⟩
    have hp := post_cells (m := listMem [some ⟨b, true, 0, .tab c sz fun k => K (g k)⟩]) (w := w) (p := 0) (b := ⟨b, true, 0, .tab c sz fun k => K (g k)⟩) (o0 := i * sz) (cs := (Builtin.zeroCells z.cells m).toList)
      (c := .tab c sz fun k => K (clrF g i m z0 k)) hm ha rfl rfl rfl (fun j hj => hget _ (by rw [hlen] at hj; omega)) (fun j => by
        rw [hlen]
        by_cases hj : j < c * sz
        · rw [tabE_in hs0 (fun k _ => (hK _).1) hj]
          have hd1 : i ≤ j / sz ↔ i * sz ≤ j := Nat.le_div_iff_mul_le hs0
          have hd2 : j / sz < i + m ↔ j < (i + m) * sz := Nat.div_lt_iff_lt_mul hs0
          by_cases h2 : i * sz ≤ j ∧ j < i * sz + m * sz
          · rw [if_pos h2, hcs (j - i * sz) (by omega)]
            have e1 : (j - i * sz) % sz = j % sz := by rw [Nat.mul_comm i sz]; exact Nat.sub_mul_mod (by rw [Nat.mul_comm]; exact h2.1)
            have e2 : clrF g i m z0 (j / sz) = z0 := by unfold clrF; rw [if_pos ⟨hd1.2 h2.1, hd2.2 (by omega)⟩]
            show some ((K (clrF g i m z0 (j / sz))).getD (j % sz) undef) = _
            rw [e1, e2, hz0]
          · rw [if_neg h2, tabE_in hs0 (fun k _ => (hK _).1) hj]
            have e2 : clrF g i m z0 (j / sz) = g (j / sz) := by
              unfold clrF; rw [if_neg]
              rintro ⟨h3, h4⟩
              exact h2 ⟨hd1.1 h3, by have := hd2.1 h4; omega⟩
            show some ((K (clrF g i m z0 (j / sz))).getD (j % sz) undef) = some ((K (g (j / sz))).getD (j % sz) undef)
            rw [e2]
        · rw [tabE_out hj, if_neg (by omega), tabE_out hj])
    have hs1 : memApply (listMem [some (⟨b, true, 0, .tab c sz fun k => K (g k)⟩ : Blk)]) [(0, some ⟨b, true, 0, .tab c sz fun k => K (clrF g i m z0 k)⟩)] = listMem [some ⟨b, true, 0, .tab c sz fun k => K (clrF g i m z0 k)⟩] := by
      funext q
      rcases q with _ | q
      · rfl
      · rfl
    simp only [Nat.zero_add] at hp
    rw [hs1] at hp
    exact hp
theorem mkJ_build0 (ht : P.underlying t = some (.slice e)) (h1 : AggC P e zc sz B) {α : Type} (K : α → List Value) (z0 : α) :
    SRuns P (buildSem t 0 #[]) [] 1 (fun ns => .slice (some ⟨ns.getD 0 0, 0, none⟩) 0 0) (fun ns => [some ⟨ns.getD 0 0, true, 0, .tab 0 sz fun _ => K z0⟩]) := by
  obtain ⟨i, z, hi, hz, hsz, hB, hzc⟩ := h1
  have h0 : SRuns P (buildSem t 0 #[]) [] 1 (fun ns => .slice (some ⟨ns.getD 0 0, 0, none⟩) 0 0) (fun ns => [some ⟨ns.getD 0 0, true, 0, .lit (#[] : Array Value).toList⟩]) := srun_made (e := e) fun w => by
    refine run_value ?_
    simp [Instr.buildSlice, run_underlying ht, sizeOf, typeInfo, hi, newRow, Instr.fill]
    exact congrArg (fun a => w.alloc (Obj.cells a e)) (Array.eq_empty_of_size_eq_zero (by simp))
  exact h0.recont (C' := fun _ => .tab 0 sz fun _ => K z0) (fun _ => rfl) fun ns o v ho => by
    rw [tabE_out (by omega)] at ho; cases ho
def clnF {α : Type} (g : Nat → α) (n : Nat) (z : α) : Nat → α := fun k => if k < n then g k else z
theorem mkJ_clone (ht : P.underlying t = some (.slice e)) (h1 : AggC P e zc sz B) (b k n c cc : Nat) {α : Type} (K : α → List Value) (hK : ∀ a, (K a).length = sz ∧ (K a).all Value.oneCell' = true) (g : Nat → α) (z0 : α) (hz0 : K z0 = zc) (hle : n ≤ c) (hb : n * B ≤ 140737488355328 ∧ n ≤ 9223372036854775807) :
    SRuns P (appendSem t ty (.slice (some ⟨b, 0, none⟩) 0 0) (.slice (some ⟨k, 0, none⟩) n cc)) [⟨b, true, 0, .tab 0 sz fun _ => K z0⟩, ⟨k, false, 0, .tab c sz fun j => K (g j)⟩] 2
      (fun ns => .slice (some ⟨ns.getD 0 0, 0, none⟩) n (n + ns.getD 1 0))
      (fun ns => [some ⟨ns.getD 0 0, true, 0, .tab (n + ns.getD 1 0) sz fun j => K (clnF g n z0 j)⟩, some ⟨k, false, 0, .tab c sz fun j => K (g j)⟩]) := by
  have hs0 : 0 < sz := by obtain ⟨i, z, _, _, _, _, _, _, hs0⟩ := h1; exact hs0
  have h2 := mkE_append (P := P) (t := t) (ty := ty) ht h1 b 0 0 k 0 0 n cc K hK (fun _ => z0) g (.tab c sz fun j => K (g j)) (fun j hj => by
    rw [Nat.zero_add]
    exact tabE_in hs0 (fun k _ => (hK _).1) (Nat.lt_of_lt_of_le hj (Nat.mul_le_mul_right _ hle))) (by rw [Nat.zero_add]; exact hb)
  have e1 : sprE sz 0 0 (fun _ : Nat => K z0) zc = .tab 0 sz fun _ => K z0 := by
    unfold sprE; congr 1; funext j; rw [if_neg (by omega), hz0]
  have e2 : ∀ q, sprE sz q n (fun k => K (catU (fun _ => z0) 0 g k)) zc = .tab q sz fun j => K (clnF g n z0 j) := fun q => by
    unfold sprE; congr 1; funext j
    unfold catU clnF
    by_cases hj : j < n
    · rw [if_pos hj, if_pos hj]
      show K (if j < 0 then z0 else g (j - 0)) = K (g j)
      rw [if_neg (by omega), Nat.sub_zero]
    · rw [if_neg hj, if_neg hj, hz0]
  simp only [Nat.zero_add, Nat.add_zero, e1, e2] at h2
  exact h2
end
def kc (f : Nat → TmR) (id : Int) : Nat → Nat
  | 0 => 0
  | k + 1 => kc f id k + if (f k).i = id then 0 else 1
def kf (f : Nat → TmR) (id : Int) : Nat → Nat → TmR
  | 0 => f
  | k + 1 => if (f k).i = id then kf f id k else upd (kf f id k) (kc f id k) (f k)
theorem kc_le (f : Nat → TmR) (id : Int) : ∀ k, kc f id k ≤ k
  | 0 => Nat.le_refl 0
  | k + 1 => by have := kc_le f id k; unfold kc; split <;> omega
theorem kf_out (f : Nat → TmR) (id : Int) : ∀ k j, k ≤ j → kf f id k j = f j
  | 0, _, _ => rfl
  | k + 1, j, h => by
    have h1 := kf_out f id k j (by omega)
    have := kc_le f id k
    unfold kf; split
    · exact h1
    · unfold upd; rw [if_neg (by omega)]; exact h1
theorem kc_all {f : Nat → TmR} {id : Int} : ∀ {k : Nat}, (∀ j, j < k → decide ((f j).i = id) = false) → kc f id k = k
  | 0, _ => rfl
  | k + 1, h => by
    have h1 := h k (by omega)
    unfold kc; rw [kc_all fun j hj => h j (by omega), if_neg (of_decide_eq_false h1)]
theorem kf_all {f : Nat → TmR} {id : Int} : ∀ {k : Nat}, (∀ j, j < k → decide ((f j).i = id) = false) → kf f id k = f
  | 0, _ => rfl
  | k + 1, h => by
    have h1 := h k (by omega)
    unfold kf
    rw [kf_all fun j hj => h j (by omega), if_neg (of_decide_eq_false h1), kc_all fun j hj => h j (by omega)]
    funext j; unfold upd; split
    · rename_i e; rw [e]
    · rfl
theorem kf_en {f : Nat → TmR} {id : Int} {n : Nat} (hi : ∀ j k, j < n → k < n → f j = f k → j = k) : ∀ k, k ≤ n → En (kf f id k) (kc f id k) fun x => x.i ≠ id ∧ ∃ j, j < k ∧ f j = x
  | 0, _ => En.none.iff fun x => ⟨fun ⟨_, j, h, _⟩ => absurd h (Nat.not_lt_zero j), fun h => h.elim⟩
  | k + 1, hk => by
    have ih := kf_en (id := id) hi k (by omega)
    by_cases h : (f k).i = id
    · have e1 : kf f id (k + 1) = kf f id k := by rw [kf, if_pos h]
      have e2 : kc f id (k + 1) = kc f id k := by rw [kc, if_pos h]; rfl
      rw [e1, e2]
      refine ih.iff fun x => ⟨?_, fun ⟨h1, j, hj, e⟩ => ⟨h1, j, by omega, e⟩⟩
      rintro ⟨h1, j, hj, rfl⟩
      refine ⟨h1, j, ?_, rfl⟩
      by_cases e : j = k
      · subst e; exact absurd h h1
      · omega
    · have e1 : kf f id (k + 1) = upd (kf f id k) (kc f id k) (f k) := by rw [kf, if_neg h]
      have e2 : kc f id (k + 1) = kc f id k + 1 := by rw [kc, if_neg h]
      rw [e1, e2]
      have hp := ih.push (x := f k) (by
        rintro ⟨_, j, hj, e⟩
        have := hi j k (by omega) (by omega) e
        omega)
      refine (hp.congr fun j hj => ?_).iff fun x => ⟨?_, ?_⟩
      · unfold upd catU
        by_cases h2 : j = kc f id k
        · rw [if_pos h2, if_neg (by omega)]
        · rw [if_neg h2, if_pos (by omega)]
      · rintro ⟨h1, j, hj, rfl⟩
        by_cases e : j = k
        · subst e; exact .inr rfl
        · exact .inl ⟨h1, j, by omega, rfl⟩
      · rintro (⟨h1, j, hj, rfl⟩ | rfl)
        · exact ⟨h1, j, by omega, rfl⟩
        · exact ⟨h, k, by omega, rfl⟩
def delF (f : Nat → TmR) (id : Int) (n : Nat) : Nat → TmR := clrF (kf f id n) (kc f id n) (n - kc f id n) tmZ
theorem delF_in {f : Nat → TmR} {id : Int} {n k : Nat} (h : k < kc f id n) : delF f id n k = kf f id n k := by unfold delF clrF; rw [if_neg (by omega)]
theorem delF_all {f : Nat → TmR} {id : Int} {n : Nat} (h : ∀ j, j < n → decide ((f j).i = id) = false) : delF f id n = f := by
  funext k; unfold delF clrF; rw [kc_all h, kf_all h, if_neg (by omega)]
theorem idx_or (f : Nat → TmR) (id : Int) : ∀ n, (∀ j, j < n → decide ((f j).i = id) = false) ∨ ∃ p, p < n ∧ decide ((f p).i = id) = true ∧ ∀ j, j < p → decide ((f j).i = id) = false
  | 0 => .inl fun j h => absurd h (Nat.not_lt_zero j)
  | n + 1 => by
    rcases idx_or f id n with h | ⟨p, h1, h2, h3⟩
    · cases hb : decide ((f n).i = id) with
      | true => exact .inr ⟨n, by omega, hb, h⟩
      | false =>
        refine .inl fun j hj => ?_
        by_cases e : j = n
        · subst e; exact hb
        · exact h j (by omega)
    · exact .inr ⟨p, by omega, h2, h3⟩
theorem del_first {f : Nat → TmR} {id : Int} {p : Nat} (h2 : decide ((f p).i = id) = true) (h3 : ∀ j, j < p → decide ((f j).i = id) = false) : p = kc f id (p + 1) ∧ f = kf f id (p + 1) := by
  have h4 := of_decide_eq_true h2
  constructor
  · rw [kc, kc_all h3, if_pos h4]; rfl
  · rw [kf, if_pos h4, kf_all h3]
theorem del_keep {f F : Nat → TmR} {id : Int} {i k : Nat} (hi : i = kc f id k) (hF : F = kf f id k) (h : (!decide ((F k).i = id)) = true) : i + 1 = kc f id (k + 1) ∧ upd F i (F k) = kf f id (k + 1) := by
  have e : F k = f k := by rw [hF]; exact kf_out f id k k (Nat.le_refl _)
  rw [e] at h ⊢
  have h1 : ¬ (f k).i = id := by simpa using h
  rw [kc, kf, if_neg h1, if_neg h1, ← hi, ← hF]
  exact ⟨rfl, rfl⟩
theorem del_drop {f F : Nat → TmR} {id : Int} {i k : Nat} (hi : i = kc f id k) (hF : F = kf f id k) (h : (!decide ((F k).i = id)) = false) : i = kc f id (k + 1) ∧ F = kf f id (k + 1) := by
  have e : F k = f k := by rw [hF]; exact kf_out f id k k (Nat.le_refl _)
  rw [e] at h
  have h1 : (f k).i = id := by simpa using h
  rw [kc, kf, if_pos h1, if_pos h1, ← hi, ← hF]
  exact ⟨rfl, rfl⟩
theorem idx_here {f : Nat → TmR} {id : Int} {p k : Nat} (h3 : ∀ j, j < p → decide ((f j).i = id) = false) (hk : k ≤ p) (h : decide ((f k).i = id) = true) : k = p := by
  rcases Nat.lt_or_ge k p with h1 | h1
  · rw [h3 k h1] at h; cases h
  · omega
theorem idx_next {f : Nat → TmR} {id : Int} {p k : Nat} (h2 : decide ((f p).i = id) = true) (hk : k ≤ p) (h : decide ((f k).i = id) = false) : k + 1 ≤ p := by
  by_cases e : k = p
  · subst e; rw [h2] at h; cases h
  · omega
section
variable {α : Type} {lt : α → α → Bool}
def iniH (lt : α → α → Bool) (n : Nat) : Nat → (Nat → α) → Nat → α
  | 0, f => f
  | k + 1, f => iniH lt n k (dnF lt n f k).1
theorem ini_step {n k m : Nat} {f F : Nat → α} (hk : 0 < k) (h : iniH lt n k F = iniH lt n m f) : iniH lt n (k - 1) (dnF lt n F (k - 1)).1 = iniH lt n m f := by
  obtain ⟨k, rfl⟩ : ∃ q, k = q + 1 := ⟨k - 1, by omega⟩
  exact h
theorem iniH_ok (h : SWO lt) {n : Nat} : ∀ (k : Nat) (f : Nat → α), HpB lt k f n → HpB lt 0 (iniH lt n k f) n ∧ ∀ S, En f n S → En (iniH lt n k f) n S
  | 0, f, hp => ⟨hp, fun S hS => hS⟩
  | k + 1, f, hp => by
    obtain ⟨h1, h2, _⟩ := dnF_ok h (b := k) (n := n) n k f (by omega) ⟨fun j h0 hj hb hne => hp j h0 hj (by omega), fun h0 hb => by omega⟩
    obtain ⟨h3, h4⟩ := iniH_ok h k _ h1
    exact ⟨h3, fun S hS => h4 S (h2 n S (Nat.le_refl _) hS)⟩
theorem ini_ok (h : SWO lt) {n : Nat} {f : Nat → α} : HpB lt 0 (iniH lt n (n / 2) f) n ∧ ∀ S, En f n S → En (iniH lt n (n / 2) f) n S :=
  iniH_ok h _ f fun k h0 hk hb => by omega
end
def canF (f : Nat → TmR) (id : Int) (n : Nat) : Nat → TmR := iniH ltT (kc f id n) (kc f id n / 2) (delF f id n)
def keepL (id : Int) (L : List TmR) : List TmR := L.filter fun x => !decide (x.i = id)
theorem keep_up {id : Int} {L : List TmR} (h : L.Pairwise fun x y => ltT x y = true) : (keepL id L).Pairwise fun x y => ltT x y = true := List.Pairwise.filter _ h
theorem en_len {F : Nat → TmR} {n : Nat} {L : List TmR} (h : En F n (· ∈ L)) (hu : L.Pairwise fun x y => ltT x y = true) : L.length = n := by
  have hnd : L.Nodup := hu.imp fun {a b} hab e => by subst e; rw [ltT_swo.irr] at hab; cases hab
  have h1 : ((List.range n).map F).Nodup := by
    unfold List.Nodup
    rw [List.pairwise_map]
    refine List.Pairwise.imp_of_mem ?_ List.pairwise_lt_range
    intro a b ha hb hab e
    have := h.inj a b (List.mem_range.1 ha) (List.mem_range.1 hb) e
    omega
  have h2 : ((List.range n).map F).Perm L := by
    rw [List.perm_ext_iff_of_nodup h1 hnd]
    intro a
    simp only [List.mem_map, List.mem_range]
    constructor
    · rintro ⟨k, hk, rfl⟩; exact h.mem k hk
    · intro ha; exact h.sur a ha
  have := h2.length_eq
  simpa using this.symm
theorem Std.cancel {F : Nat → TmR} {n : Nat} {L : List TmR} (h : Std F n L) (id : Int) : Std (canF F id n) (kc F id n) (keepL id L) := by
  have h1 := (kf_en (f := F) (id := id) h.en.inj n (Nat.le_refl _)).congr (g := delF F id n) fun k hk => delF_in hk
  obtain ⟨h2, h3⟩ := ini_ok ltT_swo (n := kc F id n) (f := delF F id n)
  have h4 : En (canF F id n) (kc F id n) (· ∈ keepL id L) := (h3 _ h1).iff fun x => by
    unfold keepL
    rw [List.mem_filter]
    constructor
    · rintro ⟨h5, h6⟩
      obtain ⟨j, hj, e⟩ := h.en.sur x h5
      exact ⟨by simpa using h6, j, hj, e⟩
    · rintro ⟨h5, j, hj, rfl⟩
      exact ⟨h.en.mem j hj, by simpa using h5⟩
  exact ⟨h2, h4, keep_up h.up, en_len h4 (keep_up h.up)⟩
theorem due_all (F : Nat → TmR) (n : Nat) : IsDue F n 18446744073709551615 n := ⟨Nat.le_refl n, fun k _ => decide_eq_true (by
  show ((popN F n k 0).a).toNat ≤ (18446744073709551615 : UInt64).toNat
  have := (popN F n k 0).a.toNat_lt
  have e : (18446744073709551615 : UInt64).toNat = 18446744073709551615 := rfl
  omega), fun h => absurd h (Nat.lt_irrefl n)⟩
theorem due_all0 (F : Nat → TmR) {n : Nat} (h : n = 0) : IsDue F n 18446744073709551615 0 := by subst h; exact due_all F 0
theorem Std.congr {F G : Nat → TmR} {n : Nat} {L : List TmR} (h : Std F n L) (hg : ∀ k, k < n → G k = F k) : Std G n L :=
  ⟨fun k h0 hk hb => by rw [hg k hk, hg _ (by omega)]; exact h.hp k h0 hk hb, h.en.congr hg, h.up, h.len⟩
theorem Std.clone {F : Nat → TmR} {n : Nat} {L : List TmR} (h : Std F n L) : Std (clnF F n tmZ) n L := h.congr fun k hk => if_pos hk
theorem Std.add0 (x : TmR) : Std (upF ltT (pshG (fun _ => tmZ) 0 x tmZ 0 0) 0) 1 (insT x []) := Std.push (F := fun _ => tmZ) (n := 0) Std.none (fun k h => absurd h (Nat.not_lt_zero k)) pshG_eq (by simp)
theorem Std.add {F : Nat → TmR} {n : Nat} {L : List TmR} {x : TmR} {b nm : Nat} (h : Std F n L) (hn : ∀ y ∈ L, y.n.toNat < x.n.toNat) : Std (upF ltT (pshG F n x tmZ b nm) (n + 1 - 1)) (n + 1) (insT x L) :=
  Std.push h (fun k hk => pshG_lt hk) pshG_eq hn
theorem Std.next {F : Nat → TmR} {n : Nat} {x : TmR} {L : List TmR} (h : Std F n (x :: L)) : Std (popF ltT F (n - 1)) (n - 1) L := h.pop.2.2.2
theorem Std.gone {F : Nat → TmR} {n : Nat} {L : List TmR} (h : Std F n L) (id : Int) : kc F id n = (keepL id L).length := (h.cancel id).len.symm
def it2 (a b : ItR) : Nat → ItR := fun k => if k = 0 then a else b
theorem lit_it2 (a b : ItR) : ∀ o v, (tabI 2 (it2 a b)).get o = some v → (Cont.lit [u64 a.a, int a.i, u64 b.a, int b.i]).get o = some v := by
  intro o v h
  rcases o with _ | _ | _ | _ | o
  · exact h
  · exact h
  · exact h
  · exact h
  · rw [tabE_out (by omega)] at h; cases h
theorem Runs.reads2 {P : Program} {f : FuncId} {args : List Value} {X : Blk} {y : Nat} {C C' : Cont} {k : Nat} {v : List Nat → Value} (h : Runs P f args [X, ⟨y, false, 0, C⟩] k v (fun _ => [none, none])) (hm : C.isMap = false)
    (hc : ∀ o v, C.get o = some v → C'.get o = some v) : Runs P f args [X, ⟨y, false, 0, C'⟩] k v (fun _ => [none, none]) :=
  h.retell (fun w hw b hb => by
    simp only [List.mem_cons, List.not_mem_nil, or_false] at hb
    rcases hb with rfl | rfl
    · exact hw _ (by simp)
    · exact (hw ⟨y, false, 0, C'⟩ (by simp)).recont hm hc) rfl (fun ns p b hp => by
    rcases p with _ | _ | p <;> cases hp)
theorem sprE_src {n r sz : Nat} {g : Nat → List Value} {zc : List Value} (hsz : 0 < sz) (hE : ∀ k, (g k).length = sz) (hz : zc.length = sz) : ∀ j, j < n * sz → (sprE sz (n + r) n g zc).get (0 + j) = some (cf sz g j) := fun j hj => by
  have h1 : j < (n + r) * sz := by rw [Nat.add_mul]; omega
  rw [Nat.zero_add]
  unfold sprE
  rw [tabE_in hsz (fun k _ => by split; exact hE k; exact hz) h1, cf_spr_lt hj]
def fstV (vs : List Value) : Value := match vs with
  | v :: _ => v
  | [] => undef
theorem is_appNil {P : Program} {t e : TypeId} {sz : Nat} {x y : Operand} (ht : P.underlying t = some (.slice e)) (hs : sizeB P e = some sz) (a : Option Addr) (n c : Nat) (hn : n ≤ c) :
    IsOp P (.call { callee := .builtin .append, args := #[x, y], argTypes := #[t, t] }) [.slice a n c, .slice none 0 0] (.slice a n c) := by
  intro ρ o ho hv
  rw [ho] at hv
  have hv' : ρ x = .slice a n c ∧ ρ y = .slice none 0 0 := by simpa [Op.operands, Call.operands] using hv
  unfold execOp
  rw [ho]
  show pureRun P ((Builtin.append_ #[t, t] o.type (#[x, y].map ρ)) >>= fun v => (pure (Next.value v) : Sem Next)) = _
  have e1 : (#[x, y].map ρ : Array Value) = #[.slice a n c, .slice none 0 0] := by simp [hv'.1, hv'.2]
  have e2 : pureRun P (Builtin.append_ #[t, t] o.type #[.slice a n c, .slice none 0 0]) = some (.slice a n c) := by
    have hpure : ∀ {α : Type} (a : α), pureRun P (pure a : Sem α) = some a := fun _ => rfl
    cases a <;> simp [Builtin.append_, pureRun_bind', pureRun_underlying ht, pureRun_sizeOf hs, hn, Builtin.lenOf, Builtin.firstCells, storeCells, hpure]
  rw [e1, pureRun_bind', e2]
  rfl
end Go.Eng
end
section
namespace Go.Eng
open Go.RowKit Go.WideShapes Go.ChangeShapes Go.ChangeAt Go.Deep
set_option linter.unusedVariables false
set_option linter.unusedSimpArgs false
set_option maxRecDepth 100000
def pairB (P : Program) (t : TypeId) (k1 k2 : IntKind) : Bool := match P.underlying t with
  | some (.struct fs) => (match fs.toList with
    | [f1, f2] => !(f1.name == "_") && (!(f2.name == "_") && (Nat.beq f1.offset 0 && (Nat.beq f2.offset 1 && ((match P.underlying f1.type with
      | some (.int k) => decide (k = k1)
      | _ => false) && ((match P.underlying f2.type with
      | some (.int k) => decide (k = k2)
      | _ => false) && (!P.stoodInHeld t && !P.eqGuardType P.depth t))))))
    | _ => false)
  | _ => false
theorem pureRun_equal_pair {P : Program} {t : TypeId} {k1 k2 : IntKind} (h : pairB P t k1 k2 = true) (a1 a2 b1 b2 : Int) :
    pureRun P (Op.equal t (.agg #[.int k1 a1, .int k2 b1]) (.agg #[.int k1 a2, .int k2 b2])) = some ((a1 == a2) && (b1 == b2)) := by
  unfold pairB at h
  split at h
  · rename_i fs ht
    split at h
    · rename_i f1 f2 hfs
      simp only [Bool.and_eq_true, Bool.not_eq_true'] at h
      obtain ⟨n1, n2, o1, o2, t1, t2, hst, hg⟩ := h
      have o1 := Nat.eq_of_beq_eq_true o1
      have o2 := Nat.eq_of_beq_eq_true o2
      have t1 : P.underlying f1.type = some (.int k1) := by
        split at t1
        · rename_i k hk; rw [hk, of_decide_eq_true t1]
        · cases t1
      have t2 : P.underlying f2.type = some (.int k2) := by
        split at t2
        · rename_i k hk; rw [hk, of_decide_eq_true t2]
        · cases t2
      have n1 : f1.name ≠ "_" := fun e => by rw [e] at n1; simp at n1
      have n2 : f2.name ≠ "_" := fun e => by rw [e] at n2; simp at n2
      have p1 : ∀ (x y : Int), pureRun P (part f1.type #[.int k1 x, .int k2 y] f1.offset) = some (.int k1 x) := fun x y => pureRun_part t1 (by rw [o1]; rfl)
      have p2 : ∀ (x y : Int), pureRun P (part f2.type #[.int k1 x, .int k2 y] f2.offset) = some (.int k2 y) := fun x y => pureRun_part t2 (by rw [o2]; rfl)
      have hprog : pureRun P program = some P := rfl
      show pureRun P (Op.equalIn (9998 + 2) t _ _) = _
      rw [Op.equalIn, pureRun_bind', pureRun_underlying ht]
      simp only
      rw [pureRun_bind', hprog]
      simp only [hst, Bool.false_eq_true, if_false]
      rw [pureRun_bind', ← Array.forIn_toList, hfs, List.forIn_cons, pureRun_bind']
      simp only [n1, n2, ne_eq, not_false_eq_true, if_true, List.forIn_cons, List.forIn_nil, pureRun_bind', p1, p2, pureRun_equalIn_int _ _ _ t1, pureRun_equalIn_int _ _ _ t2]
      have hpure : ∀ {α : Type} (a : α), pureRun P (pure a : Sem α) = some a := fun _ => rfl
      have e2 := pureRun_equalIn_int (P := P) 9998 b1 b2 t2
      cases h1 : (a1 == a2) with
      | false => rfl
      | true =>
        simp only [Bool.not_true, Bool.false_eq_true, if_false, hpure, pureRun_bind', p2, e2]
        cases h2 : (b1 == b2) <;> rfl
    · cases h
  · cases h
theorem pairB_guard {P : Program} {t : TypeId} {k1 k2 : IntKind} (h : pairB P t k1 k2 = true) : P.eqGuardType P.depth t = false := by
  unfold pairB at h
  split at h
  · split at h
    · simp only [Bool.and_eq_true, Bool.not_eq_true'] at h
      exact h.2.2.2.2.2.2.2
    · cases h
  · cases h
def eqI (x y : ItR) : Bool := (x.a == y.a) && (x.i == y.i)
theorem eqI_self (x : ItR) : eqI x x = true := by unfold eqI; simp
theorem is_neq_it {P : Program} {t t' : TypeId} {a b : Operand} (h : pairB P t .u64 .i64 = true) (x y : ItR) :
    IsOp P (.binOp .neq t a b t') [.agg #[u64 x.a, int x.i], .agg #[u64 y.a, int y.i]] (.bool (!eqI x y)) := isOp_bin (guard_arr (pairB_guard h)) (by
  show pureRun P (do pure (Value.bool (!(← Op.equal t (.agg #[u64 x.a, int x.i]) (.agg #[u64 y.a, int y.i]))))) = _
  have e := pureRun_equal_pair h x.a.toNat y.a.toNat x.i y.i
  rw [pureRun_bind', show pureRun P (Op.equal t (.agg #[u64 x.a, int x.i]) (.agg #[u64 y.a, int y.i])) = _ from e, beq64]; rfl)
theorem split_cond {x y : ItR} {b : UInt64} {r : ItR} (hx : x = r) (hy : y = r) (h : r.a ≤ b) : selB (!eqI x y) true (decide (b < x.a)) = false := by
  rw [hx, hy, eqI_self]
  have h2 : ¬ b < r.a := fun h3 => by
    have h4 : r.a.toNat ≤ b.toNat := h
    have h5 : b.toNat < r.a.toNat := h3
    omega
  simp [selB, h2]
theorem lens_cond {x y q r n : Nat} (h1 : x = y) (h2 : q = r) (h3 : x + q = n) : selB (selB (!decide (x = y)) true (!decide (q = r))) true (!decide (x + q = n)) = false := by
  rw [decide_eq_true h1, decide_eq_true h2, decide_eq_true h3]; rfl
theorem lens_cond0 {q r n : Nat} (h2 : q = r) (h3 : 0 + q = n) : selB (selB false true (!decide (q = r))) true (!decide (0 + q = n)) = false := by
  rw [decide_eq_true h2, decide_eq_true h3]; rfl
theorem ab_le {a b : UInt64} (h : decide (b < a) = false) : a.toNat ≤ b.toNat := by
  have h1 : ¬ b.toNat < a.toNat := of_decide_eq_false h
  omega
def addL (f : Nat → UInt64) : Nat → List TmR
  | 0 => []
  | k + 1 => insT (TmR.mk (f k) ((k : Nat) : Int) (UInt64.ofNat k)) (addL f k)
theorem addL_len (f : Nat → UInt64) : ∀ k, (addL f k).length = k
  | 0 => rfl
  | k + 1 => by rw [addL, insT_len, addL_len f k]
theorem ofNat_nat {k : Nat} (h : k < 1000) : (UInt64.ofNat k).toNat = k := by
  rw [UInt64.toNat_ofNat']; exact Nat.mod_eq_of_lt (by omega)
theorem addL_lt (f : Nat → UInt64) : ∀ {k : Nat}, k < 1000 → ∀ y ∈ addL f k, y.n.toNat < k
  | 0, _, y, hy => by cases hy
  | k + 1, h, y, hy => by
    rw [addL] at hy
    rcases (insT_mem _ _ _).1 hy with hy | rfl
    · have := addL_lt f (k := k) (by omega) y hy; omega
    · show (UInt64.ofNat k).toNat < k + 1
      rw [ofNat_nat (by omega)]; omega
theorem ofNat_next {k : Nat} {q : UInt64} (h : q = UInt64.ofNat k) (hk : k < 999) : q + 1 = UInt64.ofNat (k + 1) := by
  subst h
  apply UInt64.toNat_inj.1
  rw [UInt64.toNat_add, ofNat_nat (by omega), ofNat_nat (by omega)]
  show (k + 1) % 18446744073709551616 = k + 1
  exact Nat.mod_eq_of_lt (by omega)
theorem tm_first (f : Nat → UInt64) : Std (upF ltT (pshG (fun _ => tmZ) 0 (TmR.mk (f 0) 0 0) tmZ 0 0) 0) 1 (addL f 1) := Std.add0 _
theorem tm_step {f : Nat → UInt64} {F : Nat → TmR} {i b nm : Nat} {q : UInt64} (hi : i < 999) (hq : q = UInt64.ofNat i) (h : Std F i (addL f i)) :
    Std (upF ltT (pshG F i (TmR.mk (f i) ((i : Nat) : Int) q) tmZ b nm) (i + 1 - 1)) (i + 1) (addL f (i + 1)) := by
  subst hq
  exact Std.add h fun y hy => by
    show y.n.toNat < (UInt64.ofNat i).toNat
    rw [ofNat_nat (by omega)]; exact addL_lt f (by omega) y hy
theorem due_split {a b : UInt64} (hab : a.toNat ≤ b.toNat) : ∀ L : List TmR, dueN b L = dueN a L + dueN b (L.drop (dueN a L))
  | [] => rfl
  | x :: L => by
    by_cases h : decide (x.a ≤ a) = true
    · have h1 : decide (x.a ≤ b) = true := by
        have h2 : x.a.toNat ≤ a.toNat := of_decide_eq_true h
        exact decide_eq_true (show x.a.toNat ≤ b.toNat by omega)
      have e1 : dueN a (x :: L) = dueN a L + 1 := by rw [dueN, if_pos h]
      have e2 : dueN b (x :: L) = dueN b L + 1 := by rw [dueN, if_pos h1]
      rw [e1, e2, due_split hab L]
      show _ = _ + dueN b (L.drop (dueN a L))
      omega
    · have e1 : dueN a (x :: L) = 0 := by rw [dueN, if_neg h]
      rw [e1]; show _ = 0 + dueN b (x :: L); omega
section
variable {f : Nat → UInt64} {F G : Nat → TmR} {n k d1 d2 : Nat} {a b : UInt64}
theorem sp_due (h : Std F k (addL f k)) (e : k = n) (hd : dueN a (addL f n) = d1) : IsDue F n a d1 := by subst e; subst hd; exact h.due a
theorem sp_due2 (h : Std F k (addL f k)) (e : k = n) (ha : dueN a (addL f n) = d1) (hb : dueN b ((addL f n).drop d1) = d2) : IsDue (popN F n d1) (n - d1) b d2 := by
  subst e; subst ha; subst hb; exact (h.left a).due b
theorem sp_dueB (hab : a.toNat ≤ b.toNat) (h : Std F k (addL f k)) (e : k = n) (ha : dueN a (addL f n) = d1) (hb : dueN b ((addL f n).drop d1) = d2) : IsDue F n b (d1 + d2) := by
  have := sp_due h e (a := b) rfl
  rw [due_split hab, ha, hb] at this; exact this
theorem sp_le (ha : dueN a (addL f n) = d1) (hb : dueN b ((addL f n).drop d1) = d2) : d1 + d2 ≤ n := by
  have h1 := dueN_le a (addL f n)
  have h2 := dueN_le b ((addL f n).drop d1)
  rw [List.length_drop, addL_len] at h2
  rw [addL_len] at h1
  omega
theorem sp_item (h : Std F k (addL f k)) (e : k = n) {j : Nat} (hj : j < n) : itF F n j = itm ((addL f n).getD j tmZ) := by subst e; exact h.item hj
theorem sp_item2 (h : Std F k (addL f k)) (e : k = n) (ha : dueN a (addL f n) = d1) {j : Nat} (hj : j < n - d1) : itF (popN F n d1) (n - d1) j = itm ((addL f n).getD (d1 + j) tmZ) := by
  subst e; subst ha
  rw [(h.left a).item hj]
  congr 1
  rw [List.getD_eq_getElem?_getD, List.getD_eq_getElem?_getD, List.getElem?_drop]
theorem sp_cat (h : Std F k (addL f k)) (e : k = n) (ha : dueN a (addL f n) = d1) (hb : dueN b ((addL f n).drop d1) = d2) {j : Nat} (hj : j < d1 + d2) : catU (itF F n) d1 (itF (popN F n d1) (n - d1)) j = itm ((addL f n).getD j tmZ) := by
  have := sp_le ha hb
  unfold catU
  by_cases h1 : j < d1
  · rw [if_pos h1]; exact sp_item h e (by omega)
  · rw [if_neg h1, sp_item2 h e ha (by omega), show d1 + (j - d1) = j by omega]
theorem sp_at (hab : a.toNat ≤ b.toNat) (ha : dueN a (addL f n) = d1) (hb : dueN b ((addL f n).drop d1) = d2) {j : Nat} (hj : j < d1 + d2) : (itm ((addL f n).getD j tmZ)).a ≤ b := by
  have h := dueN_lt b (addL f n) j (by rw [due_split hab, ha, hb]; exact hj)
  exact of_decide_eq_true h
end
section bytesin
variable {H : Type} {enc : TypeId × Value → H} {P : Program}
theorem open_slice64 {r : Reach} {b0 : Nat} {W : World} {base : Nat} {sp : Nat → Bool} {held : Bool} {t e : TypeId} {v : Value} {d : DataW H} {ps : List MemPlace} (ht : P.underlying t = some (.slice e)) (he : P.underlying e = some (.int .u64))
    (hc : P.cellsOf e = 1) (hval : Value.okWide P W r b0 t v) (hd : DataW.Trod enc P W base sp held t v d ps) :
    (∃ ao c, v = .slice ao 0 c) ∨ ∃ (b o n c : Nat) (f : Nat → UInt64), v = .slice (some ⟨b, o, none⟩) n c ∧ 0 < n ∧ n ≤ 9223372036854775807 ∧ Holds ⟨b, false, o, tabF n fun k => u64 (f k)⟩ W := by
  obtain ⟨a1, len, cap, rfl⟩ := okWide_slice ht hval
  obtain ⟨fuel, hf⟩ := hd
  by_cases h0 : len = 0
  · subst h0; exact .inl ⟨_, _, rfl⟩
  rcases open_slice1 ht hc hf with ⟨hcs, _⟩ | ⟨a, len', cap', m, n, V, D, Pl, hcs, _, hl, hm, hmm, _, hx⟩
  · simp [Value.cells] at hcs
    exact absurd hcs.2.1 h0
  · simp [Value.cells] at hcs
    obtain ⟨rfl, rfl, rfl⟩ := hcs
    have hlm : len ≤ m := by rw [hmm]; split <;> omega
    have hspot : a.spot = none := World.cell?_spot (by
      have := (hx 0 (by omega)).1
      rwa [show a.add 0 = a from by cases a; simp [Addr.add]] at this)
    obtain ⟨ab, ao, spot⟩ := a
    simp only at hspot
    subst hspot
    have hV : ∀ i, i < len → ∃ x : UInt64, V i = u64 x := fun i hi => by
      obtain ⟨_, h2⟩ := hx i (by omega)
      obtain ⟨x0, e0, _, w0⟩ := DataW.trod_int he h2
      simp at e0
      rw [e0]
      exact u64_of w0
    obtain ⟨f, hfV⟩ := choose_lt (α := UInt64) (p := fun i x => V i = u64 x) hV
    refine .inr ⟨ab, ao, len, cap, f, rfl, by omega, by unfold maxLen at hm; omega, ⟨lt_of_cell (hx 0 (by omega)).1, fun o v ho => ?_, (fun h => by cases h), obj_not rfl⟩⟩
    by_cases hol : o < len
    · rw [tabF_in hol] at ho
      injection ho with ho
      have := (hx o (by omega)).1
      rw [add_none] at this
      rw [this, hfV o hol, ho]
    · rw [tabF_out hol] at ho; cases ho
end bytesin
end Go.Eng
end
section
namespace Go.Eng
set_option linter.unusedVariables false
set_option linter.unusedSimpArgs false
set_option maxRecDepth 100000
def adM (f : Nat → UInt64) : Nat → List TmR
  | 0 => []
  | k + 1 => insT (TmR.mk (f k) ((k % 5 : Nat) : Int) (UInt64.ofNat k)) (adM f k)
def jcnt (id : Int) : Nat → Nat
  | 0 => 0
  | k + 1 => jcnt id k + if ((k % 5 : Nat) : Int) = id then 0 else 1
def adP (f : Nat → UInt64) (id : Int) : Nat → List TmR
  | 0 => []
  | k + 1 => if ((k % 5 : Nat) : Int) = id then adP f id k else insT (TmR.mk (f k) ((k % 5 : Nat) : Int) (UInt64.ofNat (jcnt id k))) (adP f id k)
theorem jcnt_le (id : Int) : ∀ k, jcnt id k ≤ k
  | 0 => Nat.le_refl 0
  | k + 1 => by have := jcnt_le id k; unfold jcnt; split <;> omega
theorem adM_lt (f : Nat → UInt64) : ∀ {k : Nat}, k < 1000 → ∀ y ∈ adM f k, y.n.toNat < k
  | 0, _, y, hy => by cases hy
  | k + 1, h, y, hy => by
    rw [adM] at hy
    rcases (insT_mem _ _ _).1 hy with hy | rfl
    · have := adM_lt f (k := k) (by omega) y hy; omega
    · show (UInt64.ofNat k).toNat < k + 1
      rw [ofNat_nat (by omega)]; omega
theorem adP_lt (f : Nat → UInt64) (id : Int) : ∀ {k : Nat}, k < 1000 → ∀ y ∈ adP f id k, y.n.toNat < jcnt id k
  | 0, _, y, hy => by cases hy
  | k + 1, h, y, hy => by
    have ih := adP_lt f id (k := k) (by omega)
    have hj := jcnt_le id k
    unfold adP at hy
    by_cases e : ((k % 5 : Nat) : Int) = id
    · rw [if_pos e] at hy
      rw [jcnt, if_pos e]; exact ih y hy
    · rw [if_neg e] at hy
      rw [jcnt, if_neg e]
      rcases (insT_mem _ _ _).1 hy with hy | rfl
      · have := ih y hy; omega
      · show (UInt64.ofNat (jcnt id k)).toNat < _
        rw [ofNat_nat (by omega)]; omega
theorem adM_up (f : Nat → UInt64) : ∀ {k : Nat}, k < 1000 → (adM f k).Pairwise fun x y => ltT x y = true
  | 0, _ => List.Pairwise.nil
  | k + 1, h => insT_up _ _ (adM_up f (by omega)) fun y hy => by
    show y.n.toNat < (UInt64.ofNat k).toNat
    rw [ofNat_nat (by omega)]; exact adM_lt f (by omega) y hy
theorem keep_cons {id : Int} {x : TmR} {L : List TmR} : keepL id (x :: L) = if x.i = id then keepL id L else x :: keepL id L := by
  unfold keepL
  rw [List.filter_cons]
  by_cases h : x.i = id
  · rw [if_pos h, if_neg (by simp [h])]
  · rw [if_neg h, if_pos (by simp [h])]
theorem insT_first {x : TmR} : ∀ {L : List TmR}, (∀ y ∈ L, x.a.toNat < y.a.toNat) → insT x L = x :: L
  | [], _ => rfl
  | y :: L, h => by
    have := h y (by simp)
    rw [insT, if_neg (by omega)]
theorem keep_ins_same {id : Int} {x : TmR} (h : x.i = id) : ∀ L, keepL id (insT x L) = keepL id L
  | [] => by rw [insT, keep_cons, if_pos h]
  | y :: L => by
    unfold insT
    split
    · rw [keep_cons, keep_cons, keep_ins_same h L]
    · rw [keep_cons, if_pos h]
theorem keep_ins {id : Int} {x : TmR} (h : ¬ x.i = id) : ∀ {L : List TmR}, (L.Pairwise fun x y => ltT x y = true) → keepL id (insT x L) = insT x (keepL id L)
  | [], _ => by rw [insT, keep_cons, if_neg h]; rfl
  | y :: L, hu => by
    have h1 := List.pairwise_cons.1 hu
    by_cases e : y.a.toNat ≤ x.a.toNat
    · rw [insT, if_pos e, keep_cons, keep_cons, keep_ins h h1.2]
      by_cases e2 : y.i = id
      · rw [if_pos e2, if_pos e2]
      · rw [if_neg e2, if_neg e2, insT, if_pos e]
    · rw [insT, if_neg e, keep_cons, if_neg h]
      refine (insT_first fun z hz => ?_).symm
      unfold keepL at hz
      rcases List.mem_cons.1 (List.mem_filter.1 hz).1 with rfl | hz
      · omega
      · have := h1.1 z hz; rw [ltT_iff] at this; omega
def insI (x : ItR) : List ItR → List ItR
  | [] => [x]
  | y :: L => if y.a.toNat ≤ x.a.toNat then y :: insI x L else x :: y :: L
theorem map_ins (x : TmR) : ∀ L, (insT x L).map itm = insI (itm x) (L.map itm)
  | [] => rfl
  | y :: L => by
    show (if y.a.toNat ≤ x.a.toNat then y :: insT x L else x :: y :: L).map itm = if y.a.toNat ≤ x.a.toNat then itm y :: insI (itm x) (L.map itm) else itm x :: itm y :: L.map itm
    split
    · rw [List.map_cons, map_ins x L]
    · rfl
theorem keep_rel (f : Nat → UInt64) (id : Int) : ∀ {k : Nat}, k < 1000 → (keepL id (adM f k)).map itm = (adP f id k).map itm
  | 0, _ => rfl
  | k + 1, h => by
    have ih := keep_rel f id (k := k) (by omega)
    by_cases e : ((k % 5 : Nat) : Int) = id
    · rw [adM, adP, if_pos e, keep_ins_same e, ih]
    · rw [adM, adP, if_neg e, keep_ins e (adM_up f (by omega)), map_ins, map_ins, ih]
      rfl
section
variable {f : Nat → UInt64} {F G : Nat → TmR} {id : Int} {i j k n b nm x : Nat} {q u : UInt64}
theorem c_first : Std (upF ltT (pshG (fun _ => tmZ) 0 (TmR.mk (f 0) 0 0) tmZ 0 0) 0) 1 (adM f 1) := Std.add0 _
theorem c_step (hi : i < 999) (hq : q = UInt64.ofNat i) (h : Std F i (adM f i)) :
    Std (upF ltT (pshG F i (TmR.mk (f i) ((i % 5 : Nat) : Int) q) tmZ b nm) (i + 1 - 1)) (i + 1) (adM f (i + 1)) := by
  subst hq
  exact Std.add h fun y hy => by
    show y.n.toNat < (UInt64.ofNat i).toNat
    rw [ofNat_nat (by omega)]; exact adM_lt f (by omega) y hy
theorem p_first (h : ¬ (0 : Int) = id) : Std (upF ltT (pshG (fun _ => tmZ) 0 (TmR.mk (f 0) 0 0) tmZ 0 0) 0) 1 (adP f id 1) ∧ 1 = jcnt id 1 := by
  have e : adP f id 1 = insT (TmR.mk (f 0) 0 0) [] := by
    have h : ¬ ((0 % 5 : Nat) : Int) = id := h
    rw [adP, if_neg h]; rfl
  have e2 : jcnt id 1 = 1 := by
    have h : ¬ ((0 % 5 : Nat) : Int) = id := h
    rw [jcnt, if_neg h]; rfl
  rw [e, e2]
  exact ⟨Std.add0 _, rfl⟩
theorem p_first0 : Std (upF ltT (pshG (fun _ => tmZ) 0 (TmR.mk (f 1) 1 0) tmZ 0 0) 0) 1 (adP f 0 2) ∧ 1 = jcnt 0 2 := ⟨Std.add0 _, rfl⟩
theorem p_keep (hi : i < 999) (hne : (((i % 5 : Nat) : Int) == id) = false) (hj : j = jcnt id i) (hu : u = UInt64.ofNat j) (h : Std G j (adP f id i)) :
    Std (upF ltT (pshG G j (TmR.mk (f i) ((i % 5 : Nat) : Int) u) tmZ b nm) (j + 1 - 1)) (j + 1) (adP f id (i + 1)) ∧ j + 1 = jcnt id (i + 1) := by
  have e : ¬ ((i % 5 : Nat) : Int) = id := fun e => by rw [e] at hne; simp at hne
  subst hu
  subst hj
  have hle := jcnt_le id i
  rw [adP, if_neg e, jcnt, if_neg e]
  exact ⟨Std.add h fun y hy => by
    show y.n.toNat < (UInt64.ofNat (jcnt id i)).toNat
    rw [ofNat_nat (by omega)]; exact adP_lt f id (by omega) y hy, rfl⟩
theorem p_drop (heq : (((i % 5 : Nat) : Int) == id) = true) (hj : j = jcnt id i) (h : Std G j (adP f id i)) : Std G j (adP f id (i + 1)) ∧ j = jcnt id (i + 1) := by
  have e : ((i % 5 : Nat) : Int) = id := by simpa using heq
  rw [adP, if_pos e, jcnt, if_pos e]
  exact ⟨h, hj⟩
theorem can_kc (h : Std F k (adM f k)) (hG : Std G j (adP f id k)) (hk : k < 1000) (e : k = n) : kc F id n = j := by
  subst e
  have h1 := congrArg List.length (keep_rel f id hk)
  rw [List.length_map, List.length_map, hG.len] at h1
  rw [h.gone id, h1]
theorem map_getD (L : List TmR) (x : Nat) : itm (L.getD x tmZ) = (L.map itm).getD x (itm tmZ) := by
  rw [List.getD_eq_getElem?_getD, List.getD_eq_getElem?_getD, List.getElem?_map]
  cases L[x]? <;> rfl
theorem can_item (h : Std F k (adM f k)) (hG : Std G j (adP f id k)) (hk : k < 1000) (e : k = n) (hx : x < j) : itF (clnF (canF F id n) (kc F id n) tmZ) (kc F id n) x = itF (clnF G j tmZ) j x := by
  have hc := can_kc h hG hk e
  subst e
  have h1 := (h.cancel id).clone.item (k := x) (by omega)
  have h2 := hG.clone.item (k := x) hx
  rw [h1, h2, map_getD, map_getD, keep_rel f id hk]
theorem eqI_cond {x y : ItR} (h : x = y) : (!eqI x y) = false := by rw [h, eqI_self]; rfl
theorem can_one : kc (upF ltT (pshG (fun _ => tmZ) 0 (TmR.mk (f 0) 0 0) tmZ 0 0) 0) 0 1 = 0 := (c_first (f := f)).gone 0
end
theorem two_cond {a b c d : Nat} (h1 : a = b) (h2 : c = d) : selB (!decide (a = b)) true (!decide (c = d)) = false := by
  rw [decide_eq_true h1, decide_eq_true h2]; rfl
end Go.Eng
end
section
namespace Go.Eng
set_option linter.unusedVariables false
set_option linter.unusedSimpArgs false
set_option maxRecDepth 100000
def fromN (b o c : Nat) : Nat → Option Addr
  | 0 => some ⟨b, o, none⟩
  | k + 1 => fromA (fromN b o c k) (c - k) 1 2
theorem fromN_ad {b o c : Nat} : ∀ {k : Nat}, k < c → fromN b o c k = some ⟨b, o + k * 2, none⟩
  | 0, _ => by rw [fromN]; simp
  | k + 1, h => by
    rw [fromN, fromN_ad (k := k) (by omega)]
    unfold fromA
    rw [if_neg (by omega)]
    show some ((⟨b, o + k * 2, none⟩ : Addr).add (1 * 2)) = _
    rw [add_none]
    congr 2
    omega
structure DueF (f : Nat → ItR) (n : Nat) (now : UInt64) (d : Nat) : Prop where
  le : d ≤ n
  due : ∀ k, k < d → decide ((f k).a ≤ now) = true
  stop : d < n → decide ((f d).a ≤ now) = false
theorem DueF.lt {f : Nat → ItR} {n d k : Nat} {now : UInt64} (h : DueF f n now d) (hk : k ≤ d) (hg : selB (decide (0 < n - k)) (decide ((f k).a ≤ now)) false = true) : k < d := by
  have h1 := h.stop
  have := h.le
  rcases Nat.lt_or_ge k d with h2 | h2
  · exact h2
  · have e : k = d := by omega
    subst e
    by_cases h3 : 0 < n - k
    · rw [h1 (by omega)] at hg; cases hd : decide (0 < n - k) <;> rw [hd] at hg <;> cases hg
    · rw [decide_eq_false h3] at hg; cases hg
theorem DueF.eq {f : Nat → ItR} {n d k : Nat} {now : UInt64} (h : DueF f n now d) (hk : k ≤ d) (hg : selB (decide (0 < n - k)) (decide ((f k).a ≤ now)) false = false) : k = d := by
  have h1 := h.due k
  have := h.le
  rcases Nat.lt_or_ge k d with h2 | h2
  · rw [h1 h2] at hg
    have h3 : 0 < n - k := by omega
    rw [decide_eq_true h3] at hg; cases hg
  · omega
theorem DueF.none {f : Nat → ItR} {n : Nat} {now : UInt64} (h : DueF f n now 0) : selB (decide (0 < n)) (decide ((f 0).a ≤ now)) false = false := by
  by_cases h1 : 0 < n
  · rw [decide_eq_true h1]; exact h.stop h1
  · rw [decide_eq_false h1]; rfl
theorem DueF.first {f : Nat → ItR} {n d : Nat} {now : UInt64} (h : DueF f n now d) (h0 : 0 < d) : selB (decide (0 < n)) (decide ((f 0).a ≤ now)) false = true := by
  have := h.le
  rw [decide_eq_true (show 0 < n by omega)]; exact h.due 0 h0
end Go.Eng
end
section
set_option linter.unusedSimpArgs false
set_option linter.unusedVariables false
set_option maxRecDepth 100000
namespace Go.Eng
theorem Post.conv {m m' n n' : Nat → Option Blk} {w w' : World} (hp : Post m w m' w') (h0 : ∀ k, Owns m k → Owns n k) (π : Nat → Nat)
    (hπ : ∀ p q b c, n' p = some b → n' q = some c → π p = π q → p = q)
    (h2 : ∀ p b, n' p = some b → b.own = true ∧ ∃ b', m' (π p) = some b' ∧ b'.name = b.name ∧ b'.own = true ∧ ∀ w, Holds b' w → Holds b w) : Post n w n' w' where
  holds p b hb := by obtain ⟨_, b', h3, _, _, h6⟩ := h2 p b hb; exact h6 _ (hp.holds _ _ h3)
  apart p q b c hpq hb hc ho := by
    obtain ⟨_, b', h3, h4, h5, _⟩ := h2 p b hb
    obtain ⟨_, c', k3, k4, k5, _⟩ := h2 q c hc
    rw [← h4, ← k4]
    exact hp.apart _ _ b' c' (fun e => hpq (hπ p q b c hb hc e)) h3 k3 h5
  adv := ⟨hp.adv.os, hp.adv.output, hp.adv.tape, hp.adv.size, fun k hk hn => hp.adv.heap k hk fun ho => hn (h0 k ho), fun k ⟨p, b, hb, ho, hk⟩ => by
      obtain ⟨_, b', h3, h4, h5, _⟩ := h2 p b hb
      rcases hp.adv.names k ⟨π p, b', h3, h5, by rw [h4, hk]⟩ with h6 | h6
      · exact .inl (h0 k h6)
      · exact .inr h6, fun p b hb ho => by
      have := (h2 p b hb).1
      rw [ho] at this; cases this⟩
structure Suf (bs bs' : List (Option Blk)) (ρ : Nat → Nat) : Prop where
  inj : ∀ p q b c, listMem bs p = some b → listMem bs q = some c → ρ p = ρ q → p = q
  sub : ∀ p b, listMem bs p = some b → ∃ b', listMem bs' (ρ p) = some b' ∧ b'.name = b.name ∧ b'.own = b.own ∧ ∀ w, Holds b' w → Holds b w
theorem Suf.owns {bs bs' : List (Option Blk)} {ρ : Nat → Nat} (h : Suf bs bs' ρ) (k : Nat) : Owns (listMem bs) k → Owns (listMem bs') k := fun ⟨p, b, hb, ho, hk⟩ => by
  obtain ⟨b', h1, h2, h3, _⟩ := h.sub p b hb
  exact ⟨ρ p, b', h1, by rw [h3, ho], by rw [h2, hk]⟩
theorem Suf.holds {bs bs' : List (Option Blk)} {ρ : Nat → Nat} (h : Suf bs bs' ρ) {w : World} (hm : ∀ p b, listMem bs' p = some b → Holds b w) : ∀ p b, listMem bs p = some b → Holds b w := fun p b hb => by
  obtain ⟨b', h1, _, _, h4⟩ := h.sub p b hb
  exact h4 w (hm _ _ h1)
theorem Suf.apart {bs bs' : List (Option Blk)} {ρ : Nat → Nat} (h : Suf bs bs' ρ) (ha : Apart (listMem bs')) : Apart (listMem bs) := fun p q b c hpq hb hc ho => by
  obtain ⟨b', h1, h2, h3, _⟩ := h.sub p b hb
  obtain ⟨c', k1, k2, k3, _⟩ := h.sub q c hc
  rw [← h2, ← k2]
  exact ha _ _ b' c' (fun e => hpq (h.inj p q b c hb hc e)) h1 k1 (by rw [h3, ho])
theorem Suf.fam {F : Blk → Prop} {bs bs' : List (Option Blk)} {ρ : Nat → Nat} (h : Suf bs bs' ρ) {w : World} (hF : Fam F (listMem bs') w) : Fam F (listMem bs) w := fun b hb => by
  obtain ⟨h1, h2, h3⟩ := hF b hb
  exact ⟨h1, h2, fun ho => h3 (h.owns _ ho)⟩
def Leaves (out out' : List (Option Blk)) (π : Nat → Nat) : Prop :=
  (∀ p q b c, listMem out' p = some b → listMem out' q = some c → π p = π q → p = q) ∧
  ∀ p b, listMem out' p = some b → b.own = true ∧ ∃ b', listMem out (π p) = some b' ∧ b'.name = b.name ∧ b'.own = true ∧ ∀ w, Holds b' w → Holds b w
theorem RunsO.conv {F : Blk → Prop} {P : Program} {f : FuncId} {args : List Value} {bs bs' : List (Option Blk)} {k k' : Nat} {v v' : List Nat → Value} {out out' : List Nat → List (Option Blk)} (h : RunsO F P f args bs k v out)
    (ρ : Nat → Nat) (h1 : Suf bs bs' ρ) (π : Nat → Nat) (σ : List Nat → List Nat) (hσ : ∀ ns, ns.length = k → (σ ns).length = k' ∧ v' (σ ns) = v ns ∧ Leaves (out ns) (out' (σ ns)) π) : RunsO F P f args bs' k' v' out' := by
  intro w hm ha hF
  refine Calls.mono (h w (h1.holds hm) (h1.apart ha) (h1.fam hF)) ?_
  rintro e w' ⟨ns, hns, he, hp⟩
  obtain ⟨h3, h4, h5, h6⟩ := hσ ns hns
  exact ⟨σ ns, h3, by rw [h4, he], hp.conv h1.owns π h5 h6⟩
theorem SRunsO.conv {P : Program} {s : Sem Next} {bs bs' : List (Option Blk)} {k k' : Nat} {v v' : List Nat → Value} {out out' : List Nat → List (Option Blk)} (h : SRunsO P s bs k v out)
    (ρ : Nat → Nat) (h1 : Suf bs bs' ρ) (π : Nat → Nat) (σ : List Nat → List Nat) (hσ : ∀ ns, ns.length = k → (σ ns).length = k' ∧ v' (σ ns) = v ns ∧ Leaves (out ns) (out' (σ ns)) π) : SRunsO P s bs' k' v' out' := by
  intro w hm ha
  obtain ⟨ns, w', hns, he, hp⟩ := h w (h1.holds hm) (h1.apart ha)
  obtain ⟨h3, h4, h5, h6⟩ := hσ ns hns
  exact ⟨σ ns, w', h3, by rw [h4]; exact he, hp.conv h1.owns π h5 h6⟩
theorem RunsF.toO {F : Blk → Prop} {P : Program} {f : FuncId} {args : List Value} {bs : List Blk} {k : Nat} {v : List Nat → Value} {out : List Nat → List (Option Blk)} (h : RunsF F P f args bs k v out) : RunsO F P f args (bs.map some) k v out :=
  fun w hm ha hF => h w (fun b hb => by obtain ⟨i, hi⟩ := List.getElem?_of_mem hb; exact hm i b (listMem_some.2 hi)) ha hF
theorem Runs.toO {F : Blk → Prop} {P : Program} {f : FuncId} {args : List Value} {bs : List Blk} {k : Nat} {v : List Nat → Value} {out : List Nat → List (Option Blk)} (h : Runs P f args bs k v out) : RunsO F P f args (bs.map some) k v out := h.toF.toO
theorem SRuns.toO {P : Program} {s : Sem Next} {bs : List Blk} {k : Nat} {v : List Nat → Value} {out : List Nat → List (Option Blk)} (h : SRuns P s bs k v out) : SRunsO P s (bs.map some) k v out :=
  fun w hm ha => h w (fun b hb => by obtain ⟨i, hi⟩ := List.getElem?_of_mem hb; exact hm i b (listMem_some.2 hi)) ha
theorem RunsO.toF {F : Blk → Prop} {P : Program} {f : FuncId} {args : List Value} {bs : List Blk} {k : Nat} {v : List Nat → Value} {out : List Nat → List (Option Blk)} (h : RunsO F P f args (bs.map some) k v out) : RunsF F P f args bs k v out :=
  fun w hm ha hF => h w (fun i b hb => hm b (List.mem_of_getElem? (listMem_some.1 hb))) ha hF
theorem lm0 {o : Option Blk} {r : List (Option Blk)} : listMem (o :: r) 0 = o := rfl
theorem lm1 {o : Option Blk} {r : List (Option Blk)} (p : Nat) : listMem (o :: r) (p + 1) = listMem r p := by simp [listMem]
theorem lmN (p : Nat) : listMem ([] : List (Option Blk)) p = none := by simp [listMem]
inductive Sub : List (Option Blk) → List (Option Blk) → Prop where
  | zz (l : List (Option Blk)) : Sub [] l
  | dr {l l' : List (Option Blk)} (o : Option Blk) : Sub l l' → Sub (none :: l) (o :: l')
  | kp {l l' : List (Option Blk)} (b b' : Blk) (h : b'.name = b.name ∧ b'.own = b.own ∧ ∀ w, Holds b' w → Holds b w) : Sub l l' → Sub (some b :: l) (some b' :: l')
  | gp {l l' : List (Option Blk)} (o : Option Blk) : Sub l l' → Sub l (o :: l')
  | dn {l l' : List (Option Blk)} : Sub l l' → Sub (none :: l) l'
theorem Sub.at {l l' : List (Option Blk)} (h : Sub l l') : ∃ ρ, Suf l l' ρ := by
  induction h with
  | zz l => exact ⟨id, ⟨fun p q b c hb => (by rw [lmN] at hb; cases hb), fun p b hb => (by rw [lmN] at hb; cases hb)⟩⟩
  | @dr l l' o _ ih =>
    obtain ⟨ρ, h1, h2⟩ := ih
    refine ⟨fun p => match p with | 0 => 0 | p + 1 => ρ p + 1, ⟨fun p q b c hb hc e => ?_, fun p b hb => ?_⟩⟩
    · cases p with
      | zero => cases hb
      | succ p => cases q with
        | zero => cases hc
        | succ q => rw [lm1] at hb hc; simp only at e; have := h1 p q b c hb hc (by omega); omega
    · cases p with
      | zero => cases hb
      | succ p => rw [lm1] at hb; simp only [lm1]; exact h2 p b hb
  | @kp l l' b0 b0' h0 _ ih =>
    obtain ⟨ρ, h1, h2⟩ := ih
    refine ⟨fun p => match p with | 0 => 0 | p + 1 => ρ p + 1, ⟨fun p q b c hb hc e => ?_, fun p b hb => ?_⟩⟩
    · cases p with
      | zero => cases q with
        | zero => rfl
        | succ q => simp only at e; omega
      | succ p => cases q with
        | zero => simp only at e; omega
        | succ q => rw [lm1] at hb hc; simp only at e; have := h1 p q b c hb hc (by omega); omega
    · cases p with
      | zero => rw [lm0] at hb; injection hb with hb; subst hb; exact ⟨b0', rfl, h0⟩
      | succ p => rw [lm1] at hb; simp only [lm1]; exact h2 p b hb
  | dn _ ih =>
    obtain ⟨ρ, h1, h2⟩ := ih
    refine ⟨fun p => match p with | 0 => 0 | p + 1 => ρ p, ⟨fun p q b c hb hc e => ?_, fun p b hb => ?_⟩⟩
    · cases p with
      | zero => cases hb
      | succ p => cases q with
        | zero => cases hc
        | succ q => rw [lm1] at hb hc; simp only at e; have := h1 p q b c hb hc e; omega
    · cases p with
      | zero => cases hb
      | succ p => rw [lm1] at hb; simp only; exact h2 p b hb
  | gp _ _ ih =>
    obtain ⟨ρ, h1, h2⟩ := ih
    exact ⟨fun p => ρ p + 1, ⟨fun p q b c hb hc e => h1 p q b c hb hc (by omega), fun p b hb => by simp only [lm1]; exact h2 p b hb⟩⟩
def ownL : List (Option Blk) → Prop
  | [] => True
  | none :: r => ownL r
  | some b :: r => b.own = true ∧ ownL r
theorem ownL_at : ∀ {l : List (Option Blk)}, ownL l → ∀ p b, listMem l p = some b → b.own = true
  | [], _, p, b, hb => by rw [lmN] at hb; cases hb
  | none :: r, h, 0, b, hb => by cases hb
  | some c :: r, h, 0, b, hb => by rw [lm0] at hb; injection hb with hb; subst hb; exact h.1
  | none :: r, h, p + 1, b, hb => by rw [lm1] at hb; exact ownL_at (l := r) h p b hb
  | some c :: r, h, p + 1, b, hb => by rw [lm1] at hb; exact ownL_at h.2 p b hb
theorem Sub.leaves {l l' : List (Option Blk)} (h : Sub l' l) (ho : ownL l') : ∃ π, Leaves l l' π := by
  obtain ⟨ρ, h1, h2⟩ := h.at
  refine ⟨ρ, h1, fun p b hb => ?_⟩
  have hown := ownL_at ho p b hb
  obtain ⟨b', k1, k2, k3, k4⟩ := h2 p b hb
  exact ⟨hown, b', k1, k2, by rw [k3, hown], k4⟩
theorem RunsO.as {F : Blk → Prop} {P : Program} {f : FuncId} {args : List Value} {bs bs' : List (Option Blk)} {k k' : Nat} {v v' : List Nat → Value} {out out' : List Nat → List (Option Blk)} (h : RunsO F P f args bs k v out)
    (h1 : Sub bs bs') (σ : List Nat → List Nat) (hσ : ∀ ns, ns.length = k → (σ ns).length = k' ∧ v' (σ ns) = v ns ∧ Sub (out' (σ ns)) (out ns) ∧ ownL (out' (σ ns))) : RunsO F P f args bs' k' v' out' := by
  obtain ⟨ρ, hρ⟩ := h1.at
  intro w hm ha hF
  refine Calls.mono (h w (hρ.holds hm) (hρ.apart ha) (hρ.fam hF)) ?_
  rintro e w' ⟨ns, hns, he, hp⟩
  obtain ⟨h3, h4, h5, h6⟩ := hσ ns hns
  obtain ⟨π, h7, h8⟩ := h5.leaves h6
  exact ⟨σ ns, h3, by rw [h4, he], hp.conv hρ.owns π h7 h8⟩
theorem SRunsO.as {P : Program} {s : Sem Next} {bs bs' : List (Option Blk)} {k k' : Nat} {v v' : List Nat → Value} {out out' : List Nat → List (Option Blk)} (h : SRunsO P s bs k v out)
    (h1 : Sub bs bs') (σ : List Nat → List Nat) (hσ : ∀ ns, ns.length = k → (σ ns).length = k' ∧ v' (σ ns) = v ns ∧ Sub (out' (σ ns)) (out ns) ∧ ownL (out' (σ ns))) : SRunsO P s bs' k' v' out' := by
  obtain ⟨ρ, hρ⟩ := h1.at
  intro w hm ha
  obtain ⟨ns, w', hns, he, hp⟩ := h w (hρ.holds hm) (hρ.apart ha)
  obtain ⟨h3, h4, h5, h6⟩ := hσ ns hns
  obtain ⟨π, h7, h8⟩ := h5.leaves h6
  exact ⟨σ ns, w', h3, by rw [h4]; exact he, hp.conv hρ.owns π h7 h8⟩
theorem Sub.refl : ∀ (l : List (Option Blk)), Sub l l
  | [] => .zz _
  | none :: r => .dr _ (Sub.refl r)
  | some b :: r => .kp b b ⟨rfl, rfl, fun _ h => h⟩ (Sub.refl r)
theorem Sub.cons {l l' : List (Option Blk)} (o : Option Blk) (h : Sub l l') : Sub (o :: l) (o :: l') := match o with
  | none => .dr _ h
  | some b => .kp b b ⟨rfl, rfl, fun _ h => h⟩ h
theorem Holds.retab {b : Blk} {c : Cont} (hnm : c.isMap = false) (hc : ∀ o v, c.get o = some v → b.cont.get o = some v) : b.name = b.name ∧ b.own = b.own ∧ ∀ w, Holds b w → Holds { b with cont := c } w :=
  ⟨rfl, rfl, fun _ h => h.recont hnm hc⟩
theorem RunsO.mono {F F' : Blk → Prop} {P : Program} {f : FuncId} {args : List Value} {bs : List (Option Blk)} {k : Nat} {v : List Nat → Value} {out : List Nat → List (Option Blk)} (hs : ∀ b, F b → F' b) (h : RunsO F P f args bs k v out) : RunsO F' P f args bs k v out :=
  fun w hm ha hF => h w hm ha fun b hb => hF b (hs b hb)
theorem RunsO.frame {F : Blk → Prop} {P : Program} {f : FuncId} {args : List Value} {bs : List (Option Blk)} {ps : List (Nat × Bool)} {k k' : Nat} {v v' : List Nat → Value} {out out' : List Nat → List (Option Blk)}
    (h : RunsO F P f args (lendO (listMem bs) ps) k v out) (hn : nodupPs ps = true) (σ : List Nat → List Nat)
    (hσ : ∀ ns, ns.length = k → (σ ns).length = k' ∧ v' (σ ns) = v ns ∧ ps.length ≤ (out ns).length ∧ ∀ p b, listMem (out' (σ ns)) p = some b → memApply (listMem bs) (outUpd ps bs.length (out ns)) p = some b) : RunsO F P f args bs k' v' out' := by
  intro w hm ha hF
  refine Calls.mono (h w (lendO_holds hm) (lendO_apart ha hn) (fam_lendO hF)) ?_
  rintro e w' ⟨ns, hns, he, hp⟩
  obtain ⟨h1, h2, h3, h4⟩ := hσ ns hns
  exact ⟨σ ns, h1, by rw [h2, he], (post_frameO hm ha h3 hp).sub h4⟩
theorem RunsO.reads {F : Blk → Prop} {P : Program} {f : FuncId} {args : List Value} {bs : List (Option Blk)} (ps : List (Nat × Bool)) {k : Nat} {v0 : Value} {out : List Nat → List (Option Blk)}
    (h : RunsO F P f args (lendO (listMem bs) ps) 0 (fun _ => v0) out) (hn : nodupPs ps = true) (hr : ps.all (fun x => x.2) = true) : RunsO F P f args bs k (fun _ => v0) (fun _ => bs) := by
  have hout : ∀ (qs : List (Nat × Bool)) (nx : Nat) (m : Nat), qs.all (fun x => x.2) = true → outUpd qs nx (List.replicate qs.length none) = [] := by
    intro qs
    induction qs with
    | nil => intro nx m _; rfl
    | cons x r ih =>
      obtain ⟨p, ro⟩ := x
      intro nx m hx
      simp only [List.all_cons, Bool.and_eq_true] at hx
      have : ro = true := hx.1
      subst this
      simp only [List.length_cons, List.replicate_succ, outUpd]
      exact ih nx m hx.2
  have h' : RunsO F P f args (lendO (listMem bs) ps) 0 (fun _ => v0) (fun _ => List.replicate ps.length none) := fun w hm ha hF => Calls.mono (h w hm ha hF) fun e w' ⟨ns, h1, h2, h3⟩ => ⟨ns, h1, h2, h3.sub fun p b hb => by
    have : ∀ (n p : Nat), listMem (List.replicate n (none : Option Blk)) p = none := fun n p => by
      simp only [listMem, List.getElem?_replicate]
      split <;> simp_all
    rw [this] at hb; cases hb⟩
  refine h'.frame hn (fun _ => List.replicate k 0) fun ns _ => ⟨by simp, rfl, by simp, fun p b hb => ?_⟩
  rw [hout ps bs.length 0 hr]
  exact hb
theorem sub_none : ∀ (l : List (Option Blk)), Sub (l ++ [none]) l
  | [] => .dn (.zz _)
  | none :: l => .dr _ (sub_none l)
  | some b :: l => .kp b b ⟨rfl, rfl, fun _ h => h⟩ (sub_none l)
theorem ownL_none : ∀ {l : List (Option Blk)}, ownL l → ownL (l ++ [none])
  | [], _ => trivial
  | none :: l, h => ownL_none (l := l) h
  | some b :: l, h => ⟨h.1, ownL_none h.2⟩
section
variable {α : Type}
def gsA (A : Grw α) : Option Addr := match A.z with
  | true => none
  | false => some ⟨A.nm, 0, none⟩
def gsC (A : Grw α) : Nat := match A.z with
  | true => 0
  | false => A.n + A.r
def gsV (A : Grw α) : Value := .slice (gsA A) A.n (gsC A)
def gsE (C : α → List Value) (zc : List Value) (sz : Nat) (A : Grw α) : Option Blk := match A.z with
  | true => none
  | false => some ⟨A.nm, true, 0, sprE sz (A.n + A.r) A.n (fun k => C (A.f k)) zc⟩
def Grw.ok (A : Grw α) : Prop := A.z = true → A.n = 0
def Grw.psh (A : Grw α) (x : α) (nm r : Nat) : Grw α := ⟨false, nm, A.n + 1, r, catU A.f A.n fun _ => x⟩
def Grw.cat (A : Grw α) (m : Nat) (h : Nat → α) (nm r : Nat) : Grw α := ⟨decide (m = 0) && A.z, nm, A.n + m, r, catU A.f A.n h⟩
def gsOf (S : Nat) (F : Nat → α) (a r : Nat) : Grw α := ⟨decide (S = 0), a, S, r, F⟩
theorem gsOf_ok (S : Nat) (F : Nat → α) (a r : Nat) : (gsOf S F a r).ok := fun h => of_decide_eq_true h
variable {A : Grw α} {C : α → List Value} {zc : List Value} {sz : Nat} {K : α → Value} {zv : Value}
theorem gsA_nil (h : A.z = true) : gsA A = none := by unfold gsA; rw [h]
theorem gsC_nil (h : A.z = true) : gsC A = 0 := by unfold gsC; rw [h]
theorem gsE_nil (h : A.z = true) : gsE C zc sz A = none := by unfold gsE; rw [h]
theorem gsA_own (h : A.z = false) : gsA A = some ⟨A.nm, 0, none⟩ := by unfold gsA; rw [h]
theorem gsC_own (h : A.z = false) : gsC A = A.n + A.r := by unfold gsC; rw [h]
theorem gsE_own (h : A.z = false) : gsE C zc sz A = some ⟨A.nm, true, 0, sprE sz (A.n + A.r) A.n (fun k => C (A.f k)) zc⟩ := by unfold gsE; rw [h]
theorem gsV_nil (h : A.z = true) (hk : A.ok) : gsV A = .slice none 0 0 := by unfold gsV; rw [gsA_nil h, gsC_nil h, hk h]
theorem gsV_own (h : A.z = false) : gsV A = .slice (some ⟨A.nm, 0, none⟩) A.n (A.n + A.r) := by unfold gsV; rw [gsA_own h, gsC_own h]
theorem Grw.ok.pos (hk : A.ok) (h : 0 < A.n) : A.z = false := by
  cases hz : A.z with
  | false => rfl
  | true => have := hk hz; omega
theorem Grw.psh_ok (x : α) (nm r : Nat) : (A.psh x nm r).ok := fun h => by cases h
theorem Grw.cat_ok (hk : A.ok) (m : Nat) (h : Nat → α) (nm r : Nat) : (A.cat m h nm r).ok := fun hz => by
  simp only [Grw.cat, Bool.and_eq_true, decide_eq_true_eq] at hz
  show A.n + m = 0
  have := hk hz.2; omega
theorem sprE_row {c n : Nat} {f g : Nat → α} (hg : ∀ k, k < n → f k = g k) : sprE sz c n (fun k => C (f k)) zc = sprE sz c n (fun k => C (g k)) zc := by
  unfold sprE
  congr 1; funext k
  by_cases h : k < n
  · rw [if_pos h, if_pos h]; show C (f k) = C (g k); rw [hg k h]
  · rw [if_neg h, if_neg h]
theorem gsE_row {A' : Grw α} (h1 : A'.z = A.z) (h2 : A'.nm = A.nm) (h3 : A'.n = A.n) (h4 : A'.r = A.r) (h5 : ∀ k, k < A.n → A'.f k = A.f k) : gsE C zc sz A' = gsE C zc sz A := by
  obtain ⟨z, nm, n, r, f⟩ := A; obtain ⟨z', nm', n', r', f'⟩ := A'
  simp only at h1 h2 h3 h4 h5; subst h1; subst h2; subst h3; subst h4
  unfold gsE
  cases z' <;> simp only [sprE_row h5]
theorem gs_tell {S : Nat} {F : Nat → α} (h1 : A.n = S) (h2 : A.z = decide (S = 0)) (h3 : ∀ j, j < S → A.f j = F j) :
    gsV A = gsV (gsOf S F A.nm A.r) ∧ gsE C zc sz A = gsE C zc sz (gsOf S F A.nm A.r) := by
  subst h1
  refine ⟨?_, gsE_row h2 rfl rfl rfl h3⟩
  unfold gsV gsA gsC gsOf
  simp only [h2]
def Src (C : α → List Value) (sz : Nat) (ob : Option Blk) (wa : Option Addr) (n : Nat) (f : Nat → α) : Prop :=
  0 < n → ∃ b o S, wa = some ⟨b, o, none⟩ ∧ ob = some ⟨b, false, o, S⟩ ∧ S.isMap = false ∧ ∀ j v, (Cont.tab n sz fun k => C (f k)).get j = some v → S.get j = some v
theorem src_gs (hA : A.ok) : Src C sz (roO (gsE C zc sz A)) (gsA A) A.n A.f := fun h => by
  have hz := hA.pos h
  rw [gsE_own hz, gsA_own hz]
  exact ⟨_, _, _, rfl, rfl, rfl, fun j v hv => to_noroomE (by omega) (fun _ _ => rfl) j v hv⟩
theorem src_row {ob : Option Blk} {wa : Option Addr} {n m : Nat} {f g : Nat → α} (h : Src C sz ob wa n f) (hn : n = m) (hg : ∀ k, k < m → f k = g k) : Src C sz ob wa m g := by
  subst hn
  intro h0
  obtain ⟨b, o, S, h1, h2, h3, h4⟩ := h h0
  refine ⟨b, o, S, h1, h2, h3, fun j v hv => h4 j v ?_⟩
  rw [← hv]
  simp only [Cont.get]
  by_cases hj : j < n * sz
  · rw [if_pos hj, if_pos hj, hg _ (div_lt_row hj)]
  · rw [if_neg hj, if_neg hj]
structure Prt (α : Type) where
  wa : Option Addr
  n : Nat
  c : Nat
  nm : Nat
  o : Nat
  f : Nat → α
def ptV (D : Prt α) : Value := .slice D.wa D.n D.c
def ptB (C : α → List Value) (sz : Nat) (D : Prt α) : Option Blk := match D.n with
  | 0 => none
  | k + 1 => some ⟨D.nm, true, D.o, .tab (k + 1) sz fun k => C (D.f k)⟩
def Prt.ok (D : Prt α) : Prop := (0 < D.n → D.wa = some ⟨D.nm, D.o, none⟩) ∧ D.n ≤ D.c
theorem ptB_nil {D : Prt α} (h : D.n = 0) : ptB C sz D = none := by unfold ptB; rw [h]
theorem ptB_own {D : Prt α} (h : 0 < D.n) : ptB C sz D = some ⟨D.nm, true, D.o, .tab D.n sz fun k => C (D.f k)⟩ := by
  unfold ptB
  cases hn : D.n with
  | zero => omega
  | succ k => rfl
theorem src_pt {D : Prt α} (hD : D.ok) : Src C sz (roO (ptB C sz D)) D.wa D.n D.f := fun h => by
  rw [ptB_own h, hD.1 h]
  exact ⟨_, _, _, rfl, rfl, rfl, fun j v hv => hv⟩
theorem ptB_ownL {D : Prt α} {r : List (Option Blk)} (h : ownL r) : ownL (ptB C sz D :: r) := by
  unfold ptB
  cases D.n with
  | zero => exact h
  | succ k => exact ⟨rfl, h⟩
theorem ptB_row {D D' : Prt α} (h1 : D'.n = D.n) (h2 : D'.nm = D.nm) (h3 : D'.o = D.o) (h5 : ∀ k, k < D.n → D'.f k = D.f k) : Sub [ptB C sz D'] [ptB C sz D] := by
  rcases Nat.eq_zero_or_pos D.n with h0 | h0
  · rw [ptB_nil (by omega : D'.n = 0)]; exact .dn (.zz _)
  · rw [ptB_own h0, ptB_own (by omega : 0 < D'.n), h1, h2, h3]
    refine .kp _ _ ⟨rfl, rfl, fun w hw => hw.recont (b := ⟨D.nm, true, D.o, .tab D.n sz fun k => C (D.f k)⟩) rfl fun o v hv => ?_⟩ (.zz _)
    rw [← hv]
    simp only [Cont.get]
    by_cases hj : o < D.n * sz
    · rw [if_pos hj, if_pos hj, h5 _ (div_lt_row hj)]
    · rw [if_neg hj, if_neg hj]
theorem holds_drop {b o n d sz : Nat} {own : Bool} {f : Nat → List Value} {w : World} (hs0 : 0 < sz) (hd : d ≤ n) (h : Holds ⟨b, own, o, .tab n sz f⟩ w) : Holds ⟨b, own, o + d * sz, .tab (n - d) sz fun k => f (d + k)⟩ w := by
  have hg : ∀ j v, (Cont.tab (n - d) sz fun k => f (d + k)).get j = some v → (Cont.tab n sz f).get (d * sz + j) = some v := fun j v hv => by
    by_cases hj : j < (n - d) * sz
    · simp only [Cont.get, if_pos hj] at hv
      have h1 : d * sz + j < n * sz := by
        have : (n - d) * sz = n * sz - d * sz := Nat.sub_mul _ _ _
        have : d * sz ≤ n * sz := Nat.mul_le_mul_right _ hd
        omega
      simp only [Cont.get, if_pos h1]
      have e1 : (d * sz + j) / sz = d + j / sz := by rw [Nat.add_comm, Nat.add_mul_div_right _ _ hs0, Nat.add_comm]
      have e2 : (d * sz + j) % sz = j % sz := by rw [Nat.add_comm, Nat.add_mul_mod_self_right]
      rw [e1, e2]; exact hv
    · simp only [Cont.get, if_neg hj] at hv; cases hv
  refine ⟨h.lt, fun j v hv => ?_, fun ho j v hv => ?_, fun es c hc => by cases hc⟩
  · have := h.cell _ v (hg j v hv)
    rw [← this]; simp only [Nat.add_assoc]
  · have := h.free ho _ v (hg j v hv)
    rw [← this]; simp only [Nat.add_assoc]
theorem gsE_ownL {r : List (Option Blk)} (h : ownL r) : ownL (gsE C zc sz A :: r) := by
  unfold gsE
  cases A.z with
  | true => exact h
  | false => exact ⟨rfl, h⟩
section
variable {P : Program} {t ty e : TypeId} {B : Nat}
theorem sizeB_agg (h1 : AggC P e zc sz B) : sizeB P e = some sz := by
  obtain ⟨i, z, hi, _, hsz, _⟩ := h1
  simp [sizeB, hi, hsz]
theorem mkG_catE (ht : P.underlying t = some (.slice e)) (h1 : AggC P e zc sz B) (A : Grw α) (hA : A.ok) (hC : ∀ a, (C a).length = sz ∧ (C a).all Value.oneCell' = true) (h : Nat → α) (m : Nat) (adr : Option Addr) (cc : Nat) (ob : Option Blk)
    (hs : 0 < m → ∃ k bo os S, adr = some ⟨k, bo + os, none⟩ ∧ ob = some ⟨k, false, bo, S⟩ ∧ ∀ j, j < m * sz → S.get (os + j) = some (cf sz (fun k => C (h k)) j))
    (hb : (A.n + m) * B ≤ 140737488355328 ∧ A.n + m ≤ 9223372036854775807) :
    SRunsO P (appendSem t ty (gsV A) (.slice adr m cc)) [gsE C zc sz A, ob] 2 (fun ns => gsV (A.cat m h (ns.getD 0 0) (ns.getD 1 0))) (fun ns => [gsE C zc sz (A.cat m h (ns.getD 0 0) (ns.getD 1 0)), none]) := by
  rcases Nat.eq_zero_or_pos m with hm | hm
  · subst hm
    have hcap : A.n ≤ gsC A := by
      unfold gsC; cases hz : A.z with
      | true => rw [hA hz]; exact Nat.zero_le _
      | false => simp only; omega
    have key := (srun_append_noneM (P := P) (t := t) (ty := ty) ht (sizeB_agg h1) (gsA A) A.n (gsC A) hcap adr 0 cc rfl).toO
    intro w hm ha
    obtain ⟨ns, w', hns, he, hp⟩ := key w (fun p b hb => by cases p <;> cases hb) (fun p q b c _ hb => by cases p <;> cases hb)
    refine ⟨[A.nm, A.r], w', rfl, ?_, ?_⟩
    · have ec : A.cat 0 h A.nm A.r = ⟨A.z, A.nm, A.n, A.r, catU A.f A.n h⟩ := by
        unfold Grw.cat; rw [show (decide (0 = 0) && A.z) = A.z from by simp]; rfl
      have e : gsV (A.cat 0 h A.nm A.r) = .slice (gsA A) A.n (gsC A) := by rw [ec]; rfl
      show _ ∨ _
      simp only [List.getD_cons_zero, List.getD_cons_succ, e]
      exact he
    · have e : gsE C zc sz (A.cat 0 h A.nm A.r) = gsE C zc sz A := gsE_row (by simp [Grw.cat]) rfl rfl rfl fun k hk => by simp [Grw.cat, catU, hk]
      simp only [List.getD_cons_zero, List.getD_cons_succ, e]
      have hnil : ∀ p : Nat, listMem (List.map some ([] : List Blk)) p = none := fun p => by simp [listMem]
      have hadv := hp.adv
      have hw : ∀ k, k < w.heap.size → w'.heap[k]? = w.heap[k]? := fun k hk => hadv.heap k hk fun ⟨p, b, hb, _⟩ => by rw [hnil] at hb; cases hb
      have hsub : ∀ p b, listMem [gsE C zc sz A, none] p = some b → p = 0 ∧ gsE C zc sz A = some b := fun p b hb => by
        rcases p with _ | _ | p
        · exact ⟨rfl, hb⟩
        · cases hb
        · simp [listMem] at hb
      refine ⟨fun p b hb => ?_, fun p q b c hpq hb hc ho => ?_, ⟨hadv.os, hadv.output, hadv.tape, hadv.size, fun k hk _ => hw k hk, fun k ⟨p, b, hb, ho, hk⟩ => ?_, fun p b hb ho => ?_⟩⟩
      · obtain ⟨rfl, h2⟩ := hsub p b hb
        have := hm 0 b h2
        exact this.of_heap hadv.size (hw _ this.lt)
      · obtain ⟨rfl, _⟩ := hsub p b hb
        obtain ⟨rfl, _⟩ := hsub q c hc
        exact absurd rfl hpq
      · obtain ⟨rfl, h2⟩ := hsub p b hb
        exact .inl ⟨0, b, h2, ho, hk⟩
      · obtain ⟨rfl, h2⟩ := hsub p b hb
        cases hz : A.z with
        | true => rw [gsE_nil hz] at h2; cases h2
        | false => rw [gsE_own hz] at h2; exact absurd (by injection h2 with h2; rw [← h2]) (show ¬ b.own = true from by rw [ho]; decide)
  · obtain ⟨k, bo, os, S, rfl, rfl, hS⟩ := hs hm
    have hmz : decide (m = 0) = false := decide_eq_false (by omega)
    cases hz : A.z with
    | true =>
      have hn := hA hz
      rw [gsV_nil hz hA, gsE_nil hz]
      have key := (mkE_append_nil (P := P) (t := t) (ty := ty) ht h1 k bo os m cc C hC h S hS ⟨hm, by rw [hn, Nat.zero_add] at hb; exact hb.1, by omega⟩).toO
      have e1 : ∀ ns : List Nat, gsV (A.cat m h (ns.getD 0 0) (ns.getD 1 0)) = .slice (some ⟨ns.getD 0 0, 0, none⟩) m (m + ns.getD 1 0) := fun ns => by
        rw [gsV_own (by simp [Grw.cat, hmz])]; simp only [Grw.cat, hn, Nat.zero_add]
      have e2 : ∀ ns : List Nat, gsE C zc sz (A.cat m h (ns.getD 0 0) (ns.getD 1 0)) = some ⟨ns.getD 0 0, true, 0, sprE sz (m + ns.getD 1 0) m (fun k => C (h k)) zc⟩ := fun ns => by
        rw [gsE_own (by simp [Grw.cat, hmz])]; simp only [Grw.cat, hn, Nat.zero_add]
        rw [sprE_row (g := h) fun k _ => by simp [catU]]
      refine key.conv (fun p => p + 1) ⟨fun p q b c _ _ e => Nat.succ.inj e, fun p b hb => ⟨b, by rw [lm1]; exact hb, rfl, rfl, fun _ h => h⟩⟩ (fun p => p + 1) id fun ns hns => ⟨hns, e1 ns, fun p q b c _ _ e => Nat.succ.inj e, fun p b hb => ?_⟩
      rcases p with _ | _ | p
      · rw [lm0] at hb; simp only [id, e2] at hb; injection hb with hb; subst hb
        exact ⟨rfl, _, rfl, rfl, rfl, fun _ h => h⟩
      · cases hb
      · simp [listMem] at hb
    | false =>
      rw [gsV_own hz, gsE_own hz]
      have key := (mkE_append (P := P) (t := t) (ty := ty) ht h1 A.nm A.n A.r k bo os m cc C hC A.f h S hS hb).toO
      refine key.as (.refl _) id fun ns _ => ⟨by assumption, ?_, ?_, ?_⟩
      · show gsV _ = _
        rw [gsV_own (by simp [Grw.cat, hmz])]; simp only [Grw.cat, id]
      · rw [gsE_own (by simp [Grw.cat, hmz])]
        simp only [Grw.cat, id]
        exact .kp _ _ ⟨rfl, rfl, fun w hw => hw⟩ (.dr _ (.zz _))
      · rw [gsE_own (by simp [Grw.cat, hmz])]; exact ⟨rfl, trivial⟩
end
theorem fromA_at {b o c k sz : Nat} (h : k < c) : fromA (some ⟨b, o, none⟩) c k sz = some ⟨b, o + k * sz, none⟩ := by
  unfold fromA
  rw [if_neg (by omega)]
  show some ((⟨b, o, none⟩ : Addr).add (k * sz)) = _
  rw [add_none]
theorem cf_off {sz k j : Nat} (hs0 : 0 < sz) (E : Nat → List Value) : cf sz E (k * sz + j) = cf sz (fun i => E (k + i)) j := by
  unfold cf
  have e1 : (k * sz + j) / sz = k + j / sz := by rw [Nat.add_comm, Nat.add_mul_div_right _ _ hs0, Nat.add_comm]
  have e2 : (k * sz + j) % sz = j % sz := by rw [Nat.add_comm, Nat.add_mul_mod_self_right]
  rw [e1, e2]
theorem tab_off {sz n k m : Nat} {E : Nat → List Value} (hs0 : 0 < sz) (hE : ∀ i, (E i).length = sz) (h : k + m ≤ n) : ∀ j, j < m * sz → (Cont.tab n sz E).get (k * sz + j) = some (cf sz (fun i => E (k + i)) j) := fun j hj => by
  rw [tabE_in hs0 (fun i _ => hE i) (by
    have : (k + m) * sz ≤ n * sz := Nat.mul_le_mul_right _ h
    rw [Nat.add_mul] at this; omega), cf_off hs0]
theorem cat_part {b o n c k m : Nat} {f : Nat → α} (hC : ∀ a, (C a).length = sz ∧ (C a).all Value.oneCell' = true) (h : 0 < m → k + m ≤ n ∧ n ≤ c) : 0 < m → ∃ kk bo os S, fromA (some ⟨b, o, none⟩) c k sz = some ⟨kk, bo + os, none⟩ ∧
    some (Blk.mk b false o (.tab n sz fun i => C (f i))) = some ⟨kk, false, bo, S⟩ ∧ ∀ j, j < m * sz → S.get (os + j) = some (cf sz (fun i => C (f (k + i))) j) := fun h0 => by
  have := h h0
  refine ⟨b, o, k * sz, _, fromA_at (by omega), rfl, fun j hj => ?_⟩
  have hs0 : 0 < sz := by
    rcases Nat.eq_zero_or_pos sz with e | e
    · subst e; simp at hj
    · exact e
  exact tab_off hs0 (fun i => (hC (f i)).1) this.1 j hj
theorem cat_head {b o n m : Nat} {f : Nat → α} (hC : ∀ a, (C a).length = sz ∧ (C a).all Value.oneCell' = true) (h : m ≤ n) : 0 < m → ∃ kk bo os S, (some ⟨b, o, none⟩ : Option Addr) = some ⟨kk, bo + os, none⟩ ∧
    some (Blk.mk b false o (.tab n sz fun i => C (f i))) = some ⟨kk, false, bo, S⟩ ∧ ∀ j, j < m * sz → S.get (os + j) = some (cf sz (fun i => C (f i)) j) := fun h0 => by
  refine ⟨b, o, 0, _, rfl, rfl, fun j hj => ?_⟩
  have hs0 : 0 < sz := by
    rcases Nat.eq_zero_or_pos sz with e | e
    · subst e; simp at hj
    · exact e
  have := tab_off (k := 0) hs0 (fun i => (hC (f i)).1) (show 0 + m ≤ n by omega) j hj
  simpa using this
theorem gs_le (hA : A.ok) : A.n ≤ gsC A := by
  unfold gsC; cases hz : A.z with
  | true => rw [hA hz]; exact Nat.zero_le _
  | false => simp only; omega
end
section
variable {P : Program} {t ty e : TypeId}
theorem mkE_build0 {sz B : Nat} {zc : List Value} (ht : P.underlying t = some (.slice e)) (h1 : AggC P e zc sz B) {α : Type} (K : α → List Value) (g : Nat → α) :
    SRuns P (buildSem t 0 #[]) [] 1 (fun ns => .slice (some ⟨ns.getD 0 0, 0, none⟩) 0 0) (fun ns => [some ⟨ns.getD 0 0, true, 0, sprE sz (0 + 0) 0 (fun k => K (g k)) zc⟩]) := by
  obtain ⟨i, z, hi, hz, hsz, hB, hzc, hzl, hs0⟩ := h1
  have h0 : SRuns P (buildSem t 0 #[]) [] 1 (fun ns => .slice (some ⟨ns.getD 0 0, 0, none⟩) 0 0) (fun ns => [some ⟨ns.getD 0 0, true, 0, .lit (#[] : Array Value).toList⟩]) := srun_made (e := e) fun w => by
    refine run_value ?_
    simp [Instr.buildSlice, run_underlying ht, sizeOf, typeInfo, hi, newRow, Instr.fill]
    exact congrArg (fun a => w.alloc (Obj.cells a e)) (Array.eq_empty_of_size_eq_zero (by simp))
  exact h0.recont (C' := fun _ => sprE sz (0 + 0) 0 (fun k => K (g k)) zc) (fun _ => rfl) fun ns o v ho => by
    rw [sprE_out (by omega)] at ho; cases ho
end
def fstW (vs : List Value) : Value := match vs with
  | v :: _ => v
  | [] => undef
section
theorem is_appZ {P : Program} {t e : TypeId} {sz : Nat} {x y : Operand} (ht : P.underlying t = some (.slice e)) (hs : sizeB P e = some sz) (a : Option Addr) (n c : Nat) (hn : n ≤ c) (al : Option Addr) (cl : Nat) :
    IsOp P (.call { callee := .builtin .append, args := #[x, y], argTypes := #[t, t] }) [.slice a n c, .slice al 0 cl] (.slice a n c) := by
  intro ρ o ho hv
  rw [ho] at hv
  have hv' : ρ x = .slice a n c ∧ ρ y = .slice al 0 cl := by simpa [Op.operands, Call.operands] using hv
  unfold execOp
  rw [ho]
  show pureRun P ((Builtin.append_ #[t, t] o.type (#[x, y].map ρ)) >>= fun v => (pure (Next.value v) : Sem Next)) = _
  have e1 : (#[x, y].map ρ : Array Value) = #[.slice a n c, .slice al 0 cl] := by simp [hv'.1, hv'.2]
  have e2 : pureRun P (Builtin.append_ #[t, t] o.type #[.slice a n c, .slice al 0 cl]) = some (.slice a n c) := by
    have hpure : ∀ {α : Type} (a : α), pureRun P (pure a : Sem α) = some a := fun _ => rfl
    have hn' : ¬ c < n := by omega
    cases al <;> cases a <;> simp [Builtin.append_, pureRun_bind', pureRun_underlying ht, pureRun_sizeOf hs, hn, hn', Builtin.lenOf, Builtin.firstCells, storeCells, loadCells, loadCellsFrom, hpure]
  rw [e1, pureRun_bind', e2]
  rfl
end
end Go.Eng
end
section
namespace Go.Eng
set_option linter.unusedVariables false
set_option linter.unusedSimpArgs false
set_option maxRecDepth 100000
def kcI (f : Nat → ItR) (id : Int) : Nat → Nat
  | 0 => 0
  | k + 1 => if (f k).i != id then kcI f id k + 1 else kcI f id k
def kfI (f : Nat → ItR) (id : Int) : Nat → Nat → ItR
  | 0 => fun _ => itZ
  | k + 1 => if (f k).i != id then catU (kfI f id k) (kcI f id k) (fun _ => f k) else kfI f id k
structure KeepI (f : Nat → ItR) (id : Int) (k : Nat) (A : Grw ItR) : Prop where
  n : A.n = kcI f id k
  z : A.z = decide (kcI f id k = 0)
  f : ∀ j, j < kcI f id k → A.f j = kfI f id k j
theorem KeepI.at {f : Nat → ItR} {id : Int} {k n : Nat} {A : Grw ItR} (h : KeepI f id k A) (e : k = n) : KeepI f id n A := by subst e; exact h
theorem KeepI.none {f : Nat → ItR} {id : Int} : KeepI f id 0 (Grw.mk true 0 0 0 (fun _ => itZ)) := ⟨rfl, rfl, fun j h => rfl⟩
theorem KeepI.keep {f : Nat → ItR} {id : Int} {k : Nat} {A : Grw ItR} {nm r : Nat} (h : KeepI f id k A) (hc : ((f k).i != id) = true) : KeepI f id (k + 1) (Grw.psh A (f k) nm r) := by
  have e : kcI f id (k + 1) = kcI f id k + 1 := by simp only [kcI, hc, if_true]
  have e2 : kfI f id (k + 1) = catU (kfI f id k) (kcI f id k) (fun _ => f k) := by simp only [kfI, hc, if_true]
  refine ⟨by rw [e, ← h.n]; rfl, by rw [e]; rfl, fun j hj => ?_⟩
  rw [e2]
  show catU A.f A.n (fun _ => f k) j = _
  rw [h.n]
  unfold catU
  by_cases h1 : j < kcI f id k
  · rw [if_pos h1, if_pos h1, h.f j h1]
  · rw [if_neg h1, if_neg h1]
theorem KeepI.drop {f : Nat → ItR} {id : Int} {k : Nat} {A : Grw ItR} (h : KeepI f id k A) (hc : ((f k).i != id) = false) : KeepI f id (k + 1) A := by
  have e : kcI f id (k + 1) = kcI f id k := by simp [kcI, hc]
  have e2 : kfI f id (k + 1) = kfI f id k := by simp [kfI, hc]
  exact ⟨by rw [e]; exact h.n, by rw [e]; exact h.z, by rw [e, e2]; exact h.f⟩
theorem DueF.lt'' {f : Nat → ItR} {n d k : Nat} {now : UInt64} (h : DueF f n now d) (hk : k ≤ d) (hg : selB (decide (k < n)) (decide ((f k).a ≤ now)) false = true) : k < d := by
  refine h.lt hk ?_
  rw [show decide (0 < n - k) = decide (k < n) from by congr 1; exact propext (by omega)]
  exact hg
theorem DueF.eq'' {f : Nat → ItR} {n d k : Nat} {now : UInt64} (h : DueF f n now d) (hk : k ≤ d) (hg : selB (decide (k < n)) (decide ((f k).a ≤ now)) false = false) : k = d := by
  refine h.eq hk ?_
  rw [show decide (0 < n - k) = decide (k < n) from by congr 1; exact propext (by omega)]
  exact hg
def insR (f : Nat → ItR) (p : Nat) (x : ItR) : Nat → ItR := fun j => if j < p then f j else if j = p then x else f (j - 1)
theorem insR_eq {f : Nat → ItR} {p n j : Nat} {x : ItR} {g : Nat → ItR} (hp : p ≤ n) (hj : j < n + 1) : catU (catU (catU g 0 f) (0 + p) fun _ => x) (0 + p + 1) (fun i => f (p + i)) j = insR f p x j := by
  simp only [catU, insR]
  by_cases h1 : j < p
  · rw [if_pos (show j < 0 + p + 1 by omega), if_pos (show j < 0 + p by omega), if_neg (show ¬ j < 0 by omega), if_pos h1, Nat.sub_zero]
  · by_cases h2 : j = p
    · rw [if_pos (show j < 0 + p + 1 by omega), if_neg (show ¬ j < 0 + p by omega), if_neg h1, if_pos h2]
    · rw [if_neg (show ¬ j < 0 + p + 1 by omega), if_neg h1, if_neg h2]
      congr 1; omega
def fromW (wa : Option Addr) (c : Nat) : Nat → Option Addr
  | 0 => wa
  | k + 1 => fromA (fromW wa c k) (c - k) 1 2
theorem fromW_some {b o c : Nat} : ∀ k, fromW (some ⟨b, o, none⟩) c k = fromN b o c k
  | 0 => rfl
  | k + 1 => by rw [fromW, fromN, fromW_some k]
structure QR where
  z : Bool
  m : Nat
  n : Nat
  c : Nat
  F : Nat → TmR
  q : UInt64
def QR.ok (X : QR) : Prop := (X.z = true → X.n = 0) ∧ X.n ≤ X.c ∧ X.n ≤ 100
def qaddX (X : QR) (a : UInt64) (i : Int) (nm r : Nat) : QR := match X.z with
  | true => ⟨false, nm, 1, 1 + r, upF ltT (pshG (fun _ => tmZ) 0 (TmR.mk a i X.q) tmZ 0 0) 0, X.q + 1⟩
  | false => if X.n = 100 then X else ⟨false, nm, X.n + 1, X.n + 1 + r, upF ltT (pshG X.F X.n (TmR.mk a i X.q) tmZ X.m nm) (X.n + 1 - 1), X.q + 1⟩
def fullE (n : Nat) : Int := if n = 100 then 52 else 0
def qnx (X : QR) : QR := if X.n = 0 then X else ⟨X.z, X.m, X.n - 1, X.c, popF ltT X.F (X.n - 1), X.q⟩
def qnxI (X : QR) : ItR := if X.n = 0 then itZ else itm (popF ltT X.F (X.n - 1) (X.n - 1))
def noneE (n : Nat) : Int := if n = 0 then 51 else 0
def qdu (X : QR) (d : Nat) : QR := ⟨X.z, X.m, X.n - d, X.c, popN X.F X.n d, X.q⟩
def qca (X : QR) (i : Int) : QR := ⟨X.z, X.m, kc X.F i X.n, X.c, canF X.F i X.n, X.q⟩
def rdr (D : Prt ItR) (d : Nat) : Prt ItR := ⟨fromW D.wa D.c d, D.n - d, D.c - d, D.nm, D.o + d * 2, fun k => D.f (d + k)⟩
def rof (n : Nat) (f : Nat → ItR) (a r : Nat) : Prt ItR := ⟨gsA (gsOf n f a r), n, gsC (gsOf n f a r), a, 0, f⟩
def raddX (D : Prt ItR) (p : Nat) (x : ItR) (a r : Nat) : Prt ItR := if D.n = 100 then D else rof (D.n + 1) (insR D.f p x) a r
def rnx (D : Prt ItR) : Prt ItR := if D.n = 0 then D else rdr D 1
def rnxI (D : Prt ItR) : ItR := if D.n = 0 then itZ else D.f 0
end Go.Eng
end
section
namespace Go.Eng
set_option linter.unusedVariables false
set_option linter.unusedSimpArgs false
set_option maxRecDepth 100000
structure OpR where
  d : Int
  i : Int
  a : UInt64
instance : Inhabited OpR := ⟨⟨0, 0, 0⟩⟩
def opC (x : OpR) : List Value := [int x.d, int x.i, u64 x.a]
theorem opC_ok (x : OpR) : (opC x).length = 3 ∧ (opC x).all Value.oneCell' = true := ⟨rfl, rfl⟩
structure QOk (X : QR) (L : List TmR) (s k : Nat) : Prop where
  std : Std X.F X.n L
  z0 : X.z = true → X.n = 0
  cap : X.n ≤ X.c
  le : X.n ≤ 100
  num : X.q = UInt64.ofNat s
  bd : s ≤ k
  lt : ∀ y ∈ L, y.n.toNat < s
theorem QOk.ok {X : QR} {L : List TmR} {s k : Nat} (h : QOk X L s k) : X.ok := ⟨h.z0, h.cap, h.le⟩
theorem QOk.none : QOk ⟨true, 0, 0, 0, fun _ => tmZ, 0⟩ [] 0 0 := ⟨Std.none, fun _ => rfl, Nat.le_refl _, by show 0 ≤ 100; omega, rfl, Nat.le_refl _, fun y h => by cases h⟩
theorem QOk.len {X : QR} {L : List TmR} {s k : Nat} (h : QOk X L s k) : L.length = X.n := h.std.len
theorem QOk.more {X : QR} {L : List TmR} {s k : Nat} (h : QOk X L s k) : QOk X L s (k + 1) := ⟨h.std, h.z0, h.cap, h.le, h.num, by have := h.bd; omega, h.lt⟩
def addQ (L : List TmR) (s : Nat) (a : UInt64) (i : Int) : List TmR := if L.length = 100 then L else insT ⟨a, i, UInt64.ofNat s⟩ L
def addK (L : List TmR) (s : Nat) : Nat := if L.length = 100 then s else s + 1
theorem QOk.add {X : QR} {L : List TmR} {s k : Nat} (h : QOk X L s k) (hk : k < 900) (a : UInt64) (i : Int) (nm r : Nat) : QOk (qaddX X a i nm r) (addQ L s a i) (addK L s) (k + 1) := by
  have hb := h.bd
  have hs : (UInt64.ofNat s).toNat = s := ofNat_nat (by omega)
  have hnum := h.num
  have hl := h.len
  have hmem : ∀ y ∈ insT ⟨a, i, UInt64.ofNat s⟩ L, y.n.toNat < s + 1 := fun y hy => by
    rw [insT_mem] at hy
    rcases hy with h1 | h1
    · have := h.lt y h1; omega
    · subst h1; show (UInt64.ofNat s).toNat < s + 1; rw [hs]; omega
  have hq : X.q + 1 = UInt64.ofNat (s + 1) := ofNat_next hnum (by omega)
  by_cases h1 : L.length = 100
  · have hz : X.z = false := by
      cases hz : X.z with
      | true => have := h.z0 hz; omega
      | false => rfl
    have e : qaddX X a i nm r = X := by unfold qaddX; rw [hz]; simp only; rw [if_pos (by omega)]
    rw [e, show addQ L s a i = L from if_pos h1, show addK L s = s from if_pos h1]
    exact h.more
  · rw [show addQ L s a i = insT ⟨a, i, UInt64.ofNat s⟩ L from if_neg h1, show addK L s = s + 1 from if_neg h1]
    cases hz : X.z with
    | true =>
      have hn := h.z0 hz
      have hL : L = [] := List.eq_nil_of_length_eq_zero (by omega)
      subst hL
      have e : qaddX X a i nm r = ⟨false, nm, 1, 1 + r, upF ltT (pshG (fun _ => tmZ) 0 (TmR.mk a i X.q) tmZ 0 0) 0, X.q + 1⟩ := by unfold qaddX; rw [hz]
      rw [e, hnum]
      refine ⟨Std.add0 _, fun h => (by cases h), by show 1 ≤ 1 + r; omega, by show 1 ≤ 100; omega, by rw [← hnum]; exact hq, by omega, hmem⟩
    | false =>
      have e : qaddX X a i nm r = ⟨false, nm, X.n + 1, X.n + 1 + r, upF ltT (pshG X.F X.n (TmR.mk a i X.q) tmZ X.m nm) (X.n + 1 - 1), X.q + 1⟩ := by unfold qaddX; rw [hz]; simp only; rw [if_neg (by omega)]
      rw [e, hnum]
      refine ⟨h.std.add fun y hy => ?_, fun hz' => (by cases hz'), by show X.n + 1 ≤ X.n + 1 + r; omega, by show X.n + 1 ≤ 100; have := h.le; omega, by rw [← hnum]; exact hq, by omega, hmem⟩
      show _ < (UInt64.ofNat s).toNat
      rw [hs]; exact h.lt y hy
theorem QOk.next {X : QR} {L : List TmR} {s k : Nat} (h : QOk X L s k) : QOk (qnx X) L.tail s (k + 1) := by
  have hl := h.len
  by_cases h1 : X.n = 0
  · have hL : L = [] := List.eq_nil_of_length_eq_zero (by omega)
    subst hL
    rw [show qnx X = X from if_pos h1]; exact h.more
  · rw [show qnx X = _ from if_neg h1]
    cases L with
    | nil => simp at hl; omega
    | cons x L =>
      refine ⟨h.std.next, fun hz => absurd (h.z0 hz) h1, by have := h.cap; show X.n - 1 ≤ X.c; omega, by have := h.le; show X.n - 1 ≤ 100; omega, h.num, by have := h.bd; omega, fun y hy => h.lt y (by simp; exact .inr hy)⟩
theorem QOk.nextI {X : QR} {L : List TmR} {s k : Nat} (h : QOk X L s k) : qnxI X = (L.map itm).getD 0 itZ := by
  have hl := h.len
  unfold qnxI
  by_cases h1 : X.n = 0
  · have hL : L = [] := List.eq_nil_of_length_eq_zero (by omega)
    subst hL; rw [if_pos h1]; rfl
  · rw [if_neg h1, h.std.popd (by omega)]
    cases L with
    | nil => simp at hl; omega
    | cons x L => rfl
theorem QOk.due {X : QR} {L : List TmR} {s k : Nat} (h : QOk X L s k) (now : UInt64) : QOk (qdu X (dueN now L)) (L.drop (dueN now L)) s (k + 1) :=
  ⟨h.std.left now, fun hz => by have := h.z0 hz; show X.n - _ = 0; omega, by have := h.cap; show X.n - _ ≤ X.c; omega, by have := h.le; show X.n - _ ≤ 100; omega, h.num, by have := h.bd; omega, fun y hy => h.lt y (List.mem_of_mem_drop hy)⟩
theorem QOk.can {X : QR} {L : List TmR} {s k : Nat} (h : QOk X L s k) (i : Int) : QOk (qca X i) (keepL i L) s (k + 1) :=
  ⟨h.std.cancel i, fun hz => by have := h.z0 hz; have := kc_le X.F i X.n; show kc X.F i X.n = 0; omega, by have := h.cap; have := kc_le X.F i X.n; show kc X.F i X.n ≤ X.c; omega,
    by have := h.le; have := kc_le X.F i X.n; show kc X.F i X.n ≤ 100; omega, h.num, by have := h.bd; omega, fun y hy => h.lt y ((List.mem_filter.1 hy).1)⟩
theorem QOk.all {X : QR} {L : List TmR} {s k : Nat} (h : QOk X L s k) {j : Nat} (hj : j < X.n) : itF (clnF X.F X.n tmZ) X.n j = (L.map itm).getD j itZ := by
  rw [(h.std.clone).item hj]
  exact map_getD L j
structure DOk (D : Prt ItR) (l : List ItR) : Prop where
  ok : D.ok
  n : D.n = l.length
  f : ∀ j, j < D.n → D.f j = l.getD j itZ
theorem DOk.none : DOk ⟨none, 0, 0, 0, 0, fun _ => itZ⟩ [] := ⟨⟨fun h => absurd h (Nat.lt_irrefl 0), Nat.le_refl _⟩, rfl, fun j h => absurd h (Nat.not_lt_zero j)⟩
def dueI (now : UInt64) (l : List ItR) : Nat := (l.takeWhile fun x => decide (x.a ≤ now)).length
theorem dueI_map (now : UInt64) : ∀ L : List TmR, dueI now (L.map itm) = dueN now L
  | [] => rfl
  | x :: L => by
    unfold dueI dueN
    simp only [List.map_cons, List.takeWhile_cons]
    by_cases h : x.a ≤ now
    · have : (itm x).a ≤ now := h
      simp only [this, decide_true, if_true, List.length_cons, h]
      have := dueI_map now L
      unfold dueI at this
      rw [this]
    · have : ¬ (itm x).a ≤ now := h
      simp [this, h]
theorem dueI_at {now : UInt64} : ∀ (l : List ItR), dueI now l ≤ l.length ∧ (∀ k, k < dueI now l → decide ((l.getD k itZ).a ≤ now) = true) ∧ (dueI now l < l.length → decide ((l.getD (dueI now l) itZ).a ≤ now) = false)
  | [] => ⟨Nat.le_refl _, fun k h => absurd h (Nat.not_lt_zero k), fun h => absurd h (Nat.lt_irrefl 0)⟩
  | x :: l => by
    obtain ⟨h1, h2, h3⟩ := dueI_at (now := now) l
    by_cases h : x.a ≤ now
    · have e : dueI now (x :: l) = dueI now l + 1 := by unfold dueI; simp [h]
      rw [e]
      refine ⟨by simp; omega, fun k hk => ?_, fun hk => ?_⟩
      · cases k with
        | zero => simpa using h
        | succ k => simpa using h2 k (by omega)
      · simpa using h3 (by simpa using hk)
    · have e : dueI now (x :: l) = 0 := by unfold dueI; simp [h]
      rw [e]
      exact ⟨Nat.zero_le _, fun k hk => absurd hk (Nat.not_lt_zero k), fun _ => by simpa using h⟩
theorem DOk.dueF {D : Prt ItR} {l : List ItR} (h : DOk D l) (now : UInt64) : DueF D.f D.n now (dueI now l) := by
  obtain ⟨h1, h2, h3⟩ := dueI_at (now := now) l
  have hn := h.n
  refine ⟨by omega, fun k hk => ?_, fun hk => ?_⟩
  · rw [h.f k (by omega)]; exact h2 k hk
  · rw [h.f _ hk]; exact h3 (by omega)
theorem DOk.drop {D : Prt ItR} {l : List ItR} (h : DOk D l) {d : Nat} (hd : d ≤ l.length) : DOk (rdr D d) (l.drop d) := by
  have hn := h.n
  refine ⟨⟨fun h0 => ?_, by have := h.ok.2; show D.n - d ≤ D.c - d; omega⟩, by show D.n - d = _; rw [List.length_drop]; omega, fun j hj => ?_⟩
  · have h1 : 0 < D.n - d := h0
    show fromW D.wa D.c d = some ⟨D.nm, D.o + d * 2, Option.none⟩
    rw [h.ok.1 (by omega), fromW_some]
    exact fromN_ad (by have := h.ok.2; omega)
  · have h1 : j < D.n - d := hj
    show D.f (d + j) = _
    rw [h.f (d + j) (by omega)]
    simp [List.getD_eq_getElem?_getD, List.getElem?_drop]
theorem DOk.rof {l : List ItR} {n : Nat} {f : Nat → ItR} (hn : n = l.length) (hf : ∀ j, j < n → f j = l.getD j itZ) (a r : Nat) : DOk (rof n f a r) l := by
  refine ⟨⟨fun h0 => ?_, gs_le (gsOf_ok n f a r)⟩, hn, hf⟩
  have h1 : 0 < n := h0
  exact gsA_own (A := gsOf n f a r) (decide_eq_false (by omega))
theorem ins_at (x : ItR) : ∀ l : List ItR, insI x l = l.take (dueI x.a l) ++ x :: l.drop (dueI x.a l)
  | [] => rfl
  | y :: l => by
    unfold insI
    by_cases h : y.a ≤ x.a
    · have e : dueI x.a (y :: l) = dueI x.a l + 1 := by unfold dueI; simp [h]
      rw [if_pos (UInt64.le_iff_toNat_le.1 h), e, ins_at x l]; simp
    · have e : dueI x.a (y :: l) = 0 := by unfold dueI; simp [h]
      have h' : ¬ y.a.toNat ≤ x.a.toNat := by rw [UInt64.le_iff_toNat_le] at h; exact h
      rw [if_neg h', e]; simp
theorem DOk.add {D : Prt ItR} {l : List ItR} (h : DOk D l) (x : ItR) (a r : Nat) : DOk (raddX D (dueI x.a l) x a r) (if l.length = 100 then l else insI x l) := by
  have hn := h.n
  by_cases h1 : l.length = 100
  · rw [if_pos h1, show raddX D (dueI x.a l) x a r = D from if_pos (by omega)]; exact h
  · rw [if_neg h1, show raddX D (dueI x.a l) x a r = _ from if_neg (by omega), ins_at]
    have hp := (dueI_at (now := x.a) l).1
    refine .rof (by simp; omega) (fun j hj => ?_) a r
    unfold insR
    by_cases h2 : j < dueI x.a l
    · rw [if_pos h2, h.f j (by omega)]
      simp only [List.getD_eq_getElem?_getD]
      rw [List.getElem?_append_left (by simp; omega), List.getElem?_take_of_lt h2]
    · rw [if_neg h2]
      simp only [List.getD_eq_getElem?_getD]
      rw [List.getElem?_append_right (by simp; omega)]
      simp only [List.length_take, Nat.min_eq_left hp]
      by_cases h3 : j = dueI x.a l
      · subst h3; simp
      · rw [if_neg h3, h.f _ (by omega)]
        obtain ⟨m, rfl⟩ : ∃ m, j = dueI x.a l + (m + 1) := ⟨j - dueI x.a l - 1, by omega⟩
        simp [List.getElem?_drop, List.getD_eq_getElem?_getD]
theorem keepI_at {f : Nat → ItR} {i : Int} {l : List ItR} : ∀ n, n ≤ l.length → (∀ j, j < n → f j = l.getD j itZ) → kcI f i n = ((l.take n).filter fun x => x.i != i).length ∧ ∀ j, j < kcI f i n → kfI f i n j = ((l.take n).filter fun x => x.i != i).getD j itZ
  | 0, _, _ => ⟨by simp [kcI], fun j h => absurd h (Nat.not_lt_zero j)⟩
  | n + 1, hn, hf => by
    obtain ⟨h1, h2⟩ := keepI_at (i := i) n (by omega) fun j hj => hf j (by omega)
    have e : l.take (n + 1) = l.take n ++ [f n] := by
      have hlt : n < l.length := by omega
      rw [List.take_add_one, hf n (by omega), List.getD_eq_getElem?_getD, List.getElem?_eq_getElem hlt]; rfl
    rw [e, List.filter_append]
    by_cases hc : ((f n).i != i) = true
    · have e1 : kcI f i (n + 1) = kcI f i n + 1 := by simp only [kcI, hc, if_true]
      have e2 : kfI f i (n + 1) = catU (kfI f i n) (kcI f i n) (fun _ => f n) := by simp only [kfI, hc, if_true]
      have e3 : [f n].filter (fun x => x.i != i) = [f n] := by simp [List.filter_cons, hc]
      rw [e1, e2, e3]
      refine ⟨by simp; omega, fun j hj => ?_⟩
      unfold catU
      simp only [List.getD_eq_getElem?_getD]
      by_cases h3 : j < kcI f i n
      · rw [if_pos h3, h2 j h3, List.getElem?_append_left (by omega)]; simp [List.getD_eq_getElem?_getD]
      · rw [if_neg h3, List.getElem?_append_right (by omega)]
        rw [show j - ((l.take n).filter fun x => x.i != i).length = 0 by omega]; rfl
    · have hc' : ((f n).i != i) = false := by simpa using hc
      have e1 : kcI f i (n + 1) = kcI f i n := by simp [kcI, hc']
      have e2 : kfI f i (n + 1) = kfI f i n := by simp [kfI, hc']
      have e3 : [f n].filter (fun x => x.i != i) = [] := by simp [List.filter_cons, hc']
      rw [e1, e2, e3, List.append_nil]
      exact ⟨h1, h2⟩
theorem DOk.can {D : Prt ItR} {l : List ItR} (h : DOk D l) (i : Int) (a r : Nat) : DOk (Go.Eng.rof (kcI D.f i D.n) (kfI D.f i D.n) a r) (l.filter fun x => x.i != i) ∧ kcI D.f i D.n = (l.filter fun x => x.i != i).length := by
  obtain ⟨h1, h2⟩ := keepI_at (f := D.f) (i := i) (l := l) D.n (by have := h.n; omega) h.f
  rw [show l.take D.n = l by rw [h.n]; exact List.take_length] at h1 h2
  exact ⟨.rof h1 h2 a r, h1⟩
theorem keep_map (i : Int) : ∀ L : List TmR, (keepL i L).map itm = (L.map itm).filter fun x => x.i != i
  | [] => rfl
  | x :: L => by
    rw [keep_cons, List.map_cons, List.filter_cons]
    by_cases h : x.i = i
    · have : ((itm x).i != i) = false := by simp [itm, h]
      rw [if_pos h, this, keep_map i L]; simp
    · have : ((itm x).i != i) = true := by simp [itm, h]
      rw [if_neg h, this, List.map_cons, keep_map i L]; simp
theorem DOk.next {D : Prt ItR} {l : List ItR} (h : DOk D l) : DOk (rnx D) l.tail ∧ rnxI D = l.getD 0 itZ := by
  have hn := h.n
  by_cases h1 : D.n = 0
  · have hl : l = [] := List.eq_nil_of_length_eq_zero (by omega)
    subst hl
    rw [show rnx D = D from if_pos h1, show rnxI D = itZ from if_pos h1]
    exact ⟨h, rfl⟩
  · rw [show rnx D = rdr D 1 from if_neg h1, show rnxI D = D.f 0 from if_neg h1]
    have := h.drop (d := 1) (by omega)
    rw [List.drop_one] at this
    exact ⟨this, h.f 0 (by omega)⟩
def opL (o : OpR) (L : List TmR) (s : Nat) : List TmR :=
  if o.d = 1 then addQ L s o.a o.i else if o.d = 2 then L.tail else if o.d = 3 then L.drop (dueN o.a L) else if o.d = 4 then keepL o.i L else L
def opN (o : OpR) (L : List TmR) (s : Nat) : Nat := if o.d = 1 then addK L s else s
def qL (G : Nat → OpR) : Nat → List TmR × Nat
  | 0 => ([], 0)
  | k + 1 => (opL (G k) (qL G k).1 (qL G k).2, opN (G k) (qL G k).1 (qL G k).2)
structure Both (X : QR) (D : Prt ItR) (L : List TmR) (s k : Nat) : Prop where
  q : QOk X L s k
  d : DOk D (L.map itm)
theorem Both.len {X : QR} {D : Prt ItR} {L : List TmR} {s k : Nat} (h : Both X D L s k) : X.n = D.n := by rw [h.d.n, List.length_map]; exact h.q.len.symm
theorem Both.all {X : QR} {D : Prt ItR} {L : List TmR} {s k : Nat} (h : Both X D L s k) : ∀ j, j < X.n → itF (clnF X.F X.n tmZ) X.n j = D.f j := fun j hj => by rw [h.q.all hj, h.d.f j (by have := h.len; omega)]
theorem Both.add {X : QR} {D : Prt ItR} {G : Nat → OpR} {k : Nat} (h : Both X D (qL G k).1 (qL G k).2 k) (hk : k < 900) (ho : (G k).d = 1) (nm r nm' r' : Nat) :
    Both (qaddX X (G k).a (G k).i nm r) (raddX D (dueI (G k).a ((qL G k).1.map itm)) (ItR.mk (G k).a (G k).i) nm' r') (qL G (k + 1)).1 (qL G (k + 1)).2 (k + 1) := by
  have e1 : (qL G (k + 1)).1 = addQ (qL G k).1 (qL G k).2 (G k).a (G k).i := if_pos ho
  have e2 : (qL G (k + 1)).2 = addK (qL G k).1 (qL G k).2 := if_pos ho
  rw [e1, e2]
  refine ⟨h.q.add hk _ _ _ _, ?_⟩
  have := h.d.add (ItR.mk (G k).a (G k).i) nm' r'
  unfold addQ
  by_cases hl : (qL G k).1.length = 100
  · rw [if_pos hl]; rw [if_pos (by rw [List.length_map]; exact hl)] at this; exact this
  · rw [if_neg hl, map_ins]; rw [if_neg (by rw [List.length_map]; exact hl)] at this; exact this
theorem Both.next {X : QR} {D : Prt ItR} {G : Nat → OpR} {k : Nat} (h : Both X D (qL G k).1 (qL G k).2 k) (ho : (G k).d = 2) : Both (qnx X) (rnx D) (qL G (k + 1)).1 (qL G (k + 1)).2 (k + 1) ∧ qnxI X = rnxI D := by
  have e1 : (qL G (k + 1)).1 = (qL G k).1.tail := by show opL _ _ _ = _; unfold opL; rw [if_neg (by omega), if_pos ho]
  have e2 : (qL G (k + 1)).2 = (qL G k).2 := if_neg (by omega)
  rw [e1, e2]
  refine ⟨⟨h.q.next, ?_⟩, by rw [h.q.nextI, h.d.next.2]⟩
  have := h.d.next.1
  rw [← List.map_tail] at this; exact this
theorem Both.due {X : QR} {D : Prt ItR} {G : Nat → OpR} {k : Nat} (h : Both X D (qL G k).1 (qL G k).2 k) (ho : (G k).d = 3) : Both (qdu X (dueN (G k).a (qL G k).1)) (rdr D (dueI (G k).a ((qL G k).1.map itm))) (qL G (k + 1)).1 (qL G (k + 1)).2 (k + 1) := by
  have e1 : (qL G (k + 1)).1 = (qL G k).1.drop (dueN (G k).a (qL G k).1) := by show opL _ _ _ = _; unfold opL; rw [if_neg (by omega), if_neg (by omega), if_pos ho]
  have e2 : (qL G (k + 1)).2 = (qL G k).2 := if_neg (by omega)
  rw [e1, e2]
  refine ⟨h.q.due _, ?_⟩
  rw [List.map_drop, ← dueI_map]
  exact h.d.drop (dueI_at _).1
theorem Both.dueI {X : QR} {D : Prt ItR} {L : List TmR} {s k : Nat} (h : Both X D L s k) (now : UInt64) : dueN now L = Go.Eng.dueI now (L.map itm) ∧ dueN now L ≤ X.n ∧ ∀ j, j < dueN now L → itF X.F X.n j = D.f j := by
  have h1 : dueN now L ≤ X.n := by rw [← h.q.len]; exact dueN_le now L
  refine ⟨(dueI_map now L).symm, h1, fun j hj => ?_⟩
  rw [h.q.std.item (by omega), map_getD, h.d.f j (by have := h.len; omega)]
  rfl
theorem Both.can {X : QR} {D : Prt ItR} {G : Nat → OpR} {k : Nat} (h : Both X D (qL G k).1 (qL G k).2 k) (ho : (G k).d = 4) (a r : Nat) : Both (qca X (G k).i) (rof (kcI D.f (G k).i D.n) (kfI D.f (G k).i D.n) a r) (qL G (k + 1)).1 (qL G (k + 1)).2 (k + 1) ∧ X.n - kc X.F (G k).i X.n = D.n - kcI D.f (G k).i D.n := by
  have e1 : (qL G (k + 1)).1 = keepL (G k).i (qL G k).1 := by show opL _ _ _ = _; unfold opL; rw [if_neg (by omega), if_neg (by omega), if_neg (by omega), if_pos ho]
  have e2 : (qL G (k + 1)).2 = (qL G k).2 := if_neg (by omega)
  rw [e1, e2]
  refine ⟨⟨h.q.can _, ?_⟩, ?_⟩
  · rw [keep_map]; exact (h.d.can (G k).i a r).1
  · rw [h.q.std.gone, (h.d.can (G k).i 0 0).2, ← keep_map, List.length_map, h.len]
theorem Both.same {X : QR} {D : Prt ItR} {G : Nat → OpR} {k : Nat} (h : Both X D (qL G k).1 (qL G k).2 k) (h1 : ¬ (G k).d = 1) (h2 : ¬ (G k).d = 2) (h3 : ¬ (G k).d = 3) (h4 : ¬ (G k).d = 4) : Both X D (qL G (k + 1)).1 (qL G (k + 1)).2 (k + 1) := by
  have e1 : (qL G (k + 1)).1 = (qL G k).1 := by show opL _ _ _ = _; unfold opL; rw [if_neg h1, if_neg h2, if_neg h3, if_neg h4]
  have e2 : (qL G (k + 1)).2 = (qL G k).2 := if_neg h1
  rw [e1, e2]
  exact ⟨h.q.more, h.d⟩
def tabQ (n : Nat) (f : Nat → OpR) : Cont := .tab n 3 fun k => opC (f k)
section
open Go.RowKit Go.WideShapes Go.ChangeShapes Go.ChangeAt Go.Deep
variable {H : Type} {enc : TypeId × Value → H} {P : Program}
def iiuB (P : Program) (e i u : TypeId) : Bool := match P.underlying e with
  | some (.struct fs) => match fs.toList with
    | [f0, f1, f2] => (Nat.beq f0.type i && Nat.beq f0.offset 0) && ((Nat.beq f1.type i && Nat.beq f1.offset 1) && (Nat.beq f2.type u && Nat.beq f2.offset 2))
    | _ => false
  | _ => false
theorem iiuB_get {P : Program} {e i u : TypeId} (h : iiuB P e i u = true) : ∃ f0 f1 f2 : Field, P.underlying e = some (.struct #[f0, f1, f2]) ∧ (f0.type = i ∧ f0.offset = 0) ∧ (f1.type = i ∧ f1.offset = 1) ∧ (f2.type = u ∧ f2.offset = 2) := by
  unfold iiuB at h
  split at h
  · rename_i fs hf
    split at h
    · rename_i f0 f1 f2 hl
      simp only [Bool.and_eq_true] at h
      obtain ⟨⟨a0, b0⟩, ⟨a1, b1⟩, ⟨a2, b2⟩⟩ := h
      refine ⟨f0, f1, f2, ?_, ⟨Nat.eq_of_beq_eq_true a0, Nat.eq_of_beq_eq_true b0⟩, ⟨Nat.eq_of_beq_eq_true a1, Nat.eq_of_beq_eq_true b1⟩, ⟨Nat.eq_of_beq_eq_true a2, Nat.eq_of_beq_eq_true b2⟩⟩
      rw [hf]
      have : fs = #[f0, f1, f2] := by cases fs; simp_all
      rw [this]
    · cases h
  · cases h
theorem int_cellT {W : World} {base : Nat} {sp : Nat → Bool} {held : Bool} {i : TypeId} (hi : P.underlying i = some (.int .i64)) {c : Value} {fuel : Nat} {z : DataW H × List MemPlace} (h : DataW.trod enc P W base sp held fuel i [c] = some z) :
    ∃ x : Int, c = int x ∧ -9223372036854775808 ≤ x ∧ x ≤ 9223372036854775807 := by
  obtain ⟨x0, e0, _, w0⟩ := DataW.trod_int hi h
  simp at e0
  have hx : -9223372036854775808 ≤ x0 ∧ x0 ≤ 9223372036854775807 := by simpa [Lit.wf, IntKind.min, IntKind.max, IntKind.signed, IntKind.bits] using w0
  exact ⟨x0, e0, hx.1, hx.2⟩
theorem u64_cellT {W : World} {base : Nat} {sp : Nat → Bool} {held : Bool} {i : TypeId} (hi : P.underlying i = some (.int .u64)) {c : Value} {fuel : Nat} {z : DataW H × List MemPlace} (h : DataW.trod enc P W base sp held fuel i [c] = some z) :
    ∃ x : UInt64, c = u64 x := by
  obtain ⟨x0, e0, _, w0⟩ := DataW.trod_int hi h
  simp at e0
  obtain ⟨x, hx⟩ := u64_of w0
  exact ⟨x, e0.trans hx⟩
theorem open_iiu {r : Reach} {b0 : Nat} {W : World} {base : Nat} {sp : Nat → Bool} {held : Bool} {t e i u : TypeId} {v : Value} {d : DataW H} {ps : List MemPlace} (ht : P.underlying t = some (.slice e)) (he : iiuB P e i u = true)
    (hi : P.underlying i = some (.int .i64)) (hu : P.underlying u = some (.int .u64)) (ci : P.cellsOf i = 1) (cu : P.cellsOf u = 1) (ce : P.cellsOf e = 3)
    (hval : Value.okWide P W r b0 t v) (hd : DataW.Trod enc P W base sp held t v d ps) :
    (∃ ao c, v = .slice ao 0 c) ∨ ∃ (b o n c : Nat) (f : Nat → OpR), v = .slice (some ⟨b, o, none⟩) n c ∧ 0 < n ∧ n ≤ 9223372036854775807 ∧ Holds ⟨b, false, o, tabQ n f⟩ W := by
  obtain ⟨f0, f1, f2, hst, g0, g1, g2⟩ := iiuB_get he
  exact open_sliceE opC (sz := 3) (fun a => (opC_ok a).1) (by decide) ht ce (fun n cs x hl h => by
    obtain ⟨xs, m, _, _, _, hlen, hf⟩ := DataW.trod_struct hst h
    obtain ⟨c0, c1, c2, rfl⟩ : ∃ c0 c1 c2, cs = [c0, c1, c2] := by
      match cs, hl with
      | [c0, c1, c2], _ => exact ⟨c0, c1, c2, rfl⟩
    obtain ⟨y0, y1, y2, rfl⟩ : ∃ y0 y1 y2, xs = [y0, y1, y2] := by
      match xs, hlen with
      | [y0, y1, y2], _ => exact ⟨y0, y1, y2, rfl⟩
    have k0 := hf 0 f0 rfl
    have k1 := hf 1 f1 rfl
    have k2 := hf 2 f2 rfl
    rw [g0.1, g0.2, ci] at k0
    rw [g1.1, g1.2, ci] at k1
    rw [g2.1, g2.2, cu] at k2
    obtain ⟨x0, rfl, l0, h0⟩ := int_cellT hi (c := c0) k0
    obtain ⟨x1, rfl, l1, h1⟩ := int_cellT hi (c := c1) k1
    obtain ⟨x2, rfl⟩ := u64_cellT hu (c := c2) k2
    exact ⟨⟨x0, x1, x2⟩, rfl⟩) hval hd
end
end Go.Eng
end
