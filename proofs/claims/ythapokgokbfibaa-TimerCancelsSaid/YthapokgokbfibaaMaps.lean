/-
  Maps: what is made, looked up, and put; their contents by the keys in the order in which they came.
-/
import Derived.Test.YthapokgokbfibaaEngS
import Derived.MapKept
import Derived.WideKeyRuns
namespace Go.Eng
open Go.WideShapes
set_option linter.unusedSimpArgs false
set_option linter.unusedVariables false

theorem run_gm {P : Program} {w : World} {r : Nat} {es : Array MapEntry} {clock : Nat} (hb : w.heap[r]? = some (.map es clock)) : (getObj r).run P w = .ok (.map es clock) w := by
  simp [getObj, Sem.run, hb]
theorem run_sm {P : Program} {w : World} {r : Nat} {es : Array MapEntry} {clock : Nat} (o : Obj) (hb : w.heap[r]? = some (.map es clock)) : (setObj r o).run P w = .ok () { w with heap := w.heap.setIfInBounds r o } := by
  simp [setObj, Sem.run, hb]

theorem heap_set' {w : World} {r : Nat} {o o' : Obj} (hb : w.heap[r]? = some o) : (w.heap.setIfInBounds r o')[r]? = some o' ∧ ∀ r', r' ≠ r → (w.heap.setIfInBounds r o')[r']? = w.heap[r']? := by
  have hlt : r < w.heap.size := (Array.getElem?_eq_some_iff.1 hb).1
  exact ⟨by simp [hlt], fun r' hne => by simp [Ne.symm hne]⟩
theorem heap_alloc' (w : World) (o : Obj) : (w.alloc o).heap[w.heap.size]? = some o ∧ ∀ r', r' < w.heap.size → (w.alloc o).heap[r']? = w.heap[r']? := by
  have e : (w.alloc o).heap = w.heap.push o := rfl
  rw [e]
  exact ⟨by simp, fun r' h => by simp [Array.getElem?_push, Nat.ne_of_lt h]⟩
def entsL {α β : Type} (kv : α → Value) (ev : β → Value) : List (α × β) → Nat → List MapEntry
  | [], _ => []
  | (k, x) :: r, i => ⟨kv k, ev x, i⟩ :: entsL kv ev r (i + 1)
def mapC {α β : Type} (kv : α → Value) (ev : β → Value) (l : List (α × β)) : Cont := .map (entsL kv ev l 0).toArray l.length
def findE {α β : Type} (eqb : α → α → Bool) (k : α) : List (α × β) → Option β
  | [] => none
  | (h, x) :: r => if eqb k h = true then some x else findE eqb k r
def putE {α β : Type} (eqb : α → α → Bool) (k : α) (x : β) : List (α × β) → List (α × β)
  | [] => [(k, x)]
  | (h, y) :: r => if eqb k h = true then (k, x) :: r else (h, y) :: putE eqb k x r

/-- A type of maps, of which keys are told by 'kv' and elements by 'ev'. -/
structure MapT {α β : Type} (P : Program) (mt kt et : TypeId) (kv : α → Value) (ev : β → Value) (z : β) (eqb : α → α → Bool) : Prop where
  hm : P.underlying mt = some (.map kt et)
  chk : ∀ em k w, (Instr.checkKey em 10000 kt (kv k)).run P w = .ok () w
  fnd : ∀ k l i w, ∀ r : Option (Nat × Value), (Instr.findAsking kt (kv k) l i).run P w = .ok r w → (Instr.findKey kt (kv k) l).run P w = (Instr.findAsking kt (kv k) l 0).run P w
  eqr : ∀ k h w, (Op.equal kt (kv k) (kv h)).run P w = .ok (eqb k h) w
  eqv : ∀ k h, eqb k h = true → Instr.sameBits 10000 (kv h) (kv k) = true
  zer : ∀ w, (zeroValue et).run P w = .ok (ev z) w

def findI {α β : Type} (eqb : α → α → Bool) (k : α) : List (α × β) → Nat → Option (Nat × β)
  | [], _ => none
  | (h, x) :: r, i => if eqb k h = true then some (i, x) else findI eqb k r (i + 1)

section
variable {α β : Type} {P : Program} {mt kt et : TypeId} {kv : α → Value} {ev : β → Value} {z : β} {eqb : α → α → Bool}
theorem run_asking (M : MapT P mt kt et kv ev z eqb) (k : α) (w : World) : ∀ (l : List (α × β)) (n i : Nat), (Instr.findAsking kt (kv k) (entsL kv ev l n) i).run P w = .ok ((findI eqb k l i).map fun p => (p.1, ev p.2)) w
  | [], _, _ => rfl
  | (h, x) :: r, n, i => by
    simp only [entsL, Instr.findAsking, Sem.run_bind, M.eqr, Result.andThen_ok, findI]
    by_cases e : eqb k h = true
    · rw [if_pos e, if_pos e]; rfl
    · rw [if_neg e, if_neg e]; exact run_asking M k w r (n + 1) (i + 1)
theorem run_findKeyM (M : MapT P mt kt et kv ev z eqb) (k : α) (w : World) (l : List (α × β)) : (Instr.findKey kt (kv k) (entsL kv ev l 0)).run P w = .ok ((findI eqb k l 0).map fun p => (p.1, ev p.2)) w := by
  rw [M.fnd k _ 0 w _ (run_asking M k w l 0 0)]; exact run_asking M k w l 0 0
theorem findI_E (k : α) : ∀ (l : List (α × β)) (i : Nat), (findI eqb k l i).map (·.2) = findE eqb k l
  | [], _ => rfl
  | (h, x) :: r, i => by
    simp only [findI, findE]
    split
    · rfl
    · exact findI_E k r (i + 1)
theorem findI_spec (k : α) : ∀ (l : List (α × β)) (i j : Nat) (x : β), findI eqb k l i = some (j, x) → ∃ h, i ≤ j ∧ l[j - i]? = some (h, x) ∧ eqb k h = true
  | [], _, _, _, e => by cases e
  | (h, y) :: r, i, j, x, e => by
    simp only [findI] at e
    split at e
    · rename_i he
      injection e with e; injection e with e1 e2; subst e1; subst e2
      exact ⟨h, Nat.le_refl _, by simp, he⟩
    · obtain ⟨h', h1, h2, h3⟩ := findI_spec k r (i + 1) j x e
      exact ⟨h', by omega, by rw [show j - i = (j - (i + 1)) + 1 by omega]; simpa using h2, h3⟩
theorem entsL_get : ∀ (l : List (α × β)) (n j : Nat) (h : α) (x : β), l[j]? = some (h, x) → (entsL kv ev l n)[j]? = some ⟨kv h, ev x, n + j⟩
  | [], _, _, _, _, e => by simp at e
  | (h0, x0) :: r, n, 0, h, x, e => by
    simp at e; obtain ⟨rfl, rfl⟩ := e; simp [entsL]
  | (h0, x0) :: r, n, j + 1, h, x, e => by
    simp only [List.getElem?_cons_succ] at e
    simp only [entsL, List.getElem?_cons_succ]
    rw [entsL_get r (n + 1) j h x e, show n + 1 + j = n + (j + 1) by omega]
theorem entsL_len : ∀ (l : List (α × β)) (n : Nat), (entsL kv ev l n).length = l.length
  | [], _ => rfl
  | _ :: r, n => by simp [entsL, entsL_len r]
theorem entsL_put (k : α) (x : β) : ∀ (l : List (α × β)) (n i : Nat) (j : Nat) (y : β), findI eqb k l i = some (j, y) →
    (entsL kv ev l n).modify (j - i) (fun e => { e with key := kv k, val := ev x }) = entsL kv ev (putE eqb k x l) n ∧ (putE eqb k x l).length = l.length
  | [], _, _, _, _, e => by cases e
  | (h, y0) :: r, n, i, j, y, e => by
    simp only [findI] at e
    split at e
    · rename_i he
      injection e with e; injection e with e1 e2; subst e1
      simp [putE, he, entsL]
    · rename_i he
      obtain ⟨_, h1, _, _⟩ := findI_spec k r (i + 1) j y e
      obtain ⟨i1, i2⟩ := entsL_put k x r (n + 1) (i + 1) j y e
      rw [show j - i = (j - (i + 1)) + 1 by omega]
      simp only [putE, he, entsL]
      simp [i1, i2, entsL]
theorem entsL_new (k : α) (x : β) : ∀ (l : List (α × β)) (n i : Nat), findI eqb k l i = none →
    entsL kv ev l n ++ [⟨kv k, ev x, n + l.length⟩] = entsL kv ev (putE eqb k x l) n ∧ (putE eqb k x l).length = l.length + 1
  | [], n, i, e => by simp [putE, entsL]
  | (h, y0) :: r, n, i, e => by
    simp only [findI] at e
    split at e
    · cases e
    · rename_i he
      obtain ⟨i1, i2⟩ := entsL_new k x r (n + 1) (i + 1) e
      simp only [putE, he, entsL]
      simp only [Bool.false_eq_true, if_false, entsL, List.cons_append, List.length_cons]
      refine ⟨?_, by simp [i2]⟩
      rw [← i1, show n + (r.length + 1) = n + 1 + r.length by omega]

def lookSem (t : TypeId) (x k : Value) (ok : Bool) : Sem Next := do pure (.value (← Instr.lookup t x k ok))
theorem srun_look (M : MapT P mt kt et kv ev z eqb) (b : Nat) (own : Bool) (l : List (α × β)) (k : α) :
    SRuns P (lookSem mt (.map (some b)) (kv k) true) [⟨b, own, 0, mapC kv ev l⟩] 0 (fun _ => .tuple #[ev ((findE eqb k l).getD z), .bool (findE eqb k l).isSome]) (fun _ => [none]) := by
  intro w hall ha
  have hb := (hall _ (List.mem_singleton.2 rfl)).obj _ _ rfl
  refine ⟨[], w, rfl, .inl (run_value ?_), ⟨fun p c hpc => ?_, fun p p' c d hpp hc hd ho => ?_, ⟨rfl, rfl, rfl, Nat.le_refl _, fun _ _ _ => rfl, fun j hj => ?_, fun p c hpc ho => ?_⟩⟩⟩
  · simp only at hb
    unfold Instr.lookup
    simp only [Sem.run_bind, run_underlying M.hm, Result.andThen_ok, run_gm hb, Sem.run_pure, M.chk, run_findKeyM M]
    have hE := findI_E (eqb := eqb) k l 0
    cases hf : findI eqb k l 0 with
    | none =>
      rw [hf] at hE; simp only [Option.map_none] at hE
      rw [← hE]
      simp [M.zer]
    | some q =>
      rw [hf] at hE; simp only [Option.map_some] at hE
      rw [← hE]
      simp
  · rcases p with _ | p <;> simp [listMem] at hpc
  · rcases p with _ | p <;> simp [listMem] at hc
  · obtain ⟨p, c, hpc, _, _⟩ := hj
    rcases p with _ | p <;> simp [listMem] at hpc
  · rcases p with _ | p <;> simp [listMem] at hpc
def updSem (t : TypeId) (x k v : Value) : Sem Next := do Instr.mapUpdate t x k v; pure .skip
theorem post_map {b : Nat} {es es' : Array MapEntry} {c c' : Nat} {w : World} (h : Holds ⟨b, true, 0, .map es c⟩ w) :
    Post (listMem ([⟨b, true, 0, .map es c⟩].map some)) w (listMem [some ⟨b, true, 0, .map es' c'⟩]) { w with heap := w.heap.setIfInBounds b (.map es' c') } := by
  have hb := h.obj _ _ rfl
  obtain ⟨h1, h2⟩ := heap_set' (o' := .map es' c') hb
  refine ⟨fun p q hpq => ?_, fun p p' q d hpp hc hd ho => ?_, ⟨rfl, rfl, rfl, by simp, fun j hj hn => h2 j fun e => ?_, fun j hj => ?_, fun p q hpq ho => ?_⟩⟩
  · rcases p with _ | p
    · injection hpq with hpq; subst hpq
      exact ⟨by simpa using h.lt, (fun o v ho => by cases ho), (fun _ o v ho => by cases ho), fun es2 c2 e2 => by injection e2 with e2 e3; subst e2; subst e3; exact h1⟩
    · simp [listMem] at hpq
  · rcases p with _ | p
    · rcases p' with _ | p'
      · exact absurd rfl hpp
      · simp [listMem] at hd
    · simp [listMem] at hc
  · subst e
    exact hn ⟨0, _, rfl, rfl, rfl⟩
  · obtain ⟨p, q, hpq, ho, rfl⟩ := hj
    rcases p with _ | p
    · injection hpq with hpq; subst hpq; exact .inl ⟨0, _, rfl, rfl, rfl⟩
    · simp [listMem] at hpq
  · rcases p with _ | p
    · injection hpq with hpq; subst hpq; cases ho
    · simp [listMem] at hpq
theorem srun_upd (M : MapT P mt kt et kv ev z eqb) (b : Nat) (l : List (α × β)) (k : α) (x : β) :
    SRuns P (updSem mt (.map (some b)) (kv k) (ev x)) [⟨b, true, 0, mapC kv ev l⟩] 0 (fun _ => undef) (fun _ => [some ⟨b, true, 0, mapC kv ev (putE eqb k x l)⟩]) := by
  intro w hall ha
  have hH := hall _ (List.mem_singleton.2 rfl)
  have hb := hH.obj _ _ rfl
  simp only at hb
  refine ⟨[], _, rfl, .inr ⟨?_, rfl⟩, post_map hH⟩
  unfold updSem Instr.mapUpdate
  simp only [Sem.run_bind, run_underlying M.hm, Result.andThen_ok, run_gm hb, M.chk, run_findKeyM M]
  cases hf : findI eqb k l 0 with
  | none =>
    obtain ⟨i1, i2⟩ := entsL_new (kv := kv) (ev := ev) k x l 0 0 hf
    simp only [Option.map_none, run_sm _ hb, Sem.run_pure, Result.andThen_ok]
    congr 4
    · rw [← i1]; simp
    · exact i2.symm
  | some q =>
    obtain ⟨j, y⟩ := q
    obtain ⟨h, _, h2, h3⟩ := findI_spec k l 0 j y hf
    obtain ⟨i1, i2⟩ := entsL_put (kv := kv) (ev := ev) k x l 0 0 j y hf
    have hj := entsL_get (kv := kv) (ev := ev) l 0 j h y (by simpa using h2)
    have hs := M.eqv k h h3
    simp only [Option.map_some, List.getElem?_toArray, hj, Option.getD_some, Instr.keyThatStays, hs, if_true, Sem.run_pure, Result.andThen_ok, run_sm _ hb]
    rw [i2, ← i1]
    simp [run_sm _ hb]
def mkmSem (t : TypeId) : Sem Next := do pure (.value (← Instr.makeMap t none))
theorem srun_mkm (t : TypeId) : SRuns P (mkmSem t) [] 1 (fun ns => .map (some (ns.getD 0 0))) (fun ns => [some ⟨ns.getD 0 0, true, 0, mapC kv ev []⟩]) := by
  intro w hall ha
  obtain ⟨h1, h2⟩ := heap_alloc' w (.map #[] 0)
  refine ⟨[w.heap.size], w.alloc (.map #[] 0), rfl, .inl (run_value rfl), ⟨fun p c hpc => ?_, fun p p' c d hpp hc hd ho => ?_, ⟨rfl, rfl, rfl, by simp, fun j hj _ => h2 j hj, fun j hj => ?_, fun p c hpc ho => ?_⟩⟩⟩
  · rcases p with _ | p
    · injection hpc with hpc; subst hpc
      exact ⟨by simp, (fun o v ho => by cases ho), (fun _ o v ho => by cases ho), fun es2 c2 e2 => by injection e2 with e2 e3; subst e2; subst e3; exact h1⟩
    · simp [listMem] at hpc
  · rcases p with _ | p
    · rcases p' with _ | p'
      · exact absurd rfl hpp
      · simp [listMem] at hd
    · simp [listMem] at hc
  · obtain ⟨p, c, hpc, ho, rfl⟩ := hj
    rcases p with _ | p
    · injection hpc with hpc; subst hpc; exact .inr (Nat.le_refl _)
    · simp [listMem] at hpc
  · rcases p with _ | p
    · injection hpc with hpc; subst hpc; cases ho
    · simp [listMem] at hpc
end

/-! ### keys of four words, and nothing behind them -/
def ev0 (_ : Unit) : Value := .agg #[]
theorem eq4_eq {x y : N4} (h : eq4 x y = true) : x = y := by
  simp only [eq4, Bool.and_eq_true, beq_iff_eq] at h
  obtain ⟨a, b, c, d⟩ := x
  obtain ⟨a', b', c', d'⟩ := y
  simp_all
theorem run_part_int {P : Program} {e : TypeId} {k : IntKind} {cs : Array Value} {i : Nat} {v : Value} (w : World) (he : P.underlying e = some (.int k)) (hv : cs[i]? = some v) : (part e cs i).run P w = .ok v w := pureRun_run (pureRun_part he hv) w
theorem chk_arr4 {P : Program} {t e : TypeId} (ht : P.underlying t = some (.array 4 e)) (he : P.underlying e = some (.int .u64)) (hs : sizeB P e = some 1) (em : Bool) (x : N4) (w : World) : (Instr.checkKey em 10000 t (nat4 x)).run P w = .ok () w := by
  have hsz : (sizeOf e).run P w = .ok 1 w := pureRun_run (pureRun_sizeOf hs) w
  have hc : ∀ k a, (Instr.checkKey em 9999 e (.int k a)).run P w = .ok () w := fun k a => by
    unfold Instr.checkKey; simp [run_underlying he]
  have hp : ∀ i v, (#[u64 x.a, u64 x.b, u64 x.c, u64 x.d] : Array Value)[i]? = some v → (part e #[u64 x.a, u64 x.b, u64 x.c, u64 x.d] i).run P w = .ok v w := fun i v h => run_part_int w he h
  unfold Instr.checkKey
  simp [Std.Legacy.Range.forIn_eq_forIn_range', Std.Legacy.Range.size, List.range', run_underlying ht, nat4, hsz, hc]
  have h0 := hp 0 (u64 x.a) rfl; have h1 := hp 1 (u64 x.b) rfl; have h2 := hp 2 (u64 x.c) rfl; have h3 := hp 3 (u64 x.d) rfl
  simp only [u64] at h0 h1 h2 h3 ⊢
  simp only [h0, Result.andThen_ok, hc, hsz, h1, Nat.mul_one, h2, h3]
theorem nat4_keys {P : Program} {mt kt et u : TypeId} (hm : P.underlying mt = some (.map kt et)) (ht : P.underlying kt = some (.array 4 u)) (hu : P.underlying u = some (.int .u64)) (hs : sizeB P u = some 1) {β : Type} {ev : β → Value} {z : β}
    (hz : ∀ w, (zeroValue et).run P w = .ok (ev z) w) : MapT P mt kt et nat4 ev z eq4 where
  hm := hm
  chk em k w := chk_arr4 ht hu hs em k w
  fnd k l i w r h := run_findKey_eq w (by rw [ht]) _ _
  eqr k h w := pureRun_run (equal_nat4 ht hu hs k h) w
  eqv k h e := by
    have := eq4_eq e
    subst this
    simp [Instr.sameBits, nat4, u64]
  zer := hz
end Go.Eng
