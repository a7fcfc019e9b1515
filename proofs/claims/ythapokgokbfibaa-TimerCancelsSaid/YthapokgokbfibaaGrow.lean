/-
  Slices that grow from nothing: one's own block, or none yet.
-/
import Derived.Test.YthapokgokbfibaaByt
set_option linter.unusedSimpArgs false
set_option linter.unusedVariables false
set_option maxRecDepth 100000
namespace Go.Eng
/-- A slice that grows: nothing yet; or a block of one's own, with room. -/
structure Grw (α : Type) where
  z : Bool
  nm : Nat
  n : Nat
  r : Nat
  f : Nat → α
def grO {α : Type} (K : α → Value) (zv : Value) (A : Grw α) : Option Blk := match A.z with
  | true => none
  | false => some ⟨A.nm, true, 0, spr (A.n + A.r) A.n (fun k => K (A.f k)) zv⟩
def grV {α : Type} (A : Grw α) : Value := match A.z with
  | true => .slice none 0 0
  | false => .slice (some ⟨A.nm, 0, none⟩) A.n (A.n + A.r)
section
variable {α : Type} {K : α → Value} {zv : Value} {A : Grw α}
theorem grO_nil (h : A.z = true) : grO K zv A = none := by unfold grO; rw [h]
theorem grV_nil (h : A.z = true) : grV A = .slice none 0 0 := by unfold grV; rw [h]
theorem grO_own (h : A.z = false) : grO K zv A = some ⟨A.nm, true, 0, spr (A.n + A.r) A.n (fun k => K (A.f k)) zv⟩ := by unfold grO; rw [h]
theorem grV_own (h : A.z = false) : grV A = .slice (some ⟨A.nm, 0, none⟩) A.n (A.n + A.r) := by unfold grV; rw [h]
end
section
variable {P : Program} {t ty e : TypeId}
theorem srun_append_none {sz : Nat} (ht : P.underlying t = some (.slice e)) (hs : sizeB P e = some sz) (a : Option Addr) (n c : Nat) (hn : n ≤ c) (al : Option Addr) (cl : Nat) :
    SRuns P (appendSem t ty (.slice a n c) (.slice al 0 cl)) [] 0 (fun _ => .slice a n c) (fun _ => []) := by
  intro w hall ha
  obtain ⟨i, hi, hi2⟩ : ∃ i, P.info? e = some i ∧ i.size = sz := by
    unfold sizeB at hs
    cases h : P.info? e with
    | none => simp [h] at hs
    | some i => simp [h] at hs; exact ⟨i, rfl, hs⟩
  refine ⟨[], w, rfl, .inl (run_value ?_), Post.refl (fun p c h => by cases h) ha⟩
  have hn' : ¬ c < n := by omega
  cases al <;> cases a <;> simp [Builtin.append_, run_underlying ht, sizeOf, typeInfo, hi, hn', Builtin.lenOf, Builtin.firstCells, storeCells, loadCells, loadCellsFrom]
theorem mk_append_nilA {B : Nat} {z : Value} (ht : P.underlying t = some (.slice e)) (h1 : OneC P e z B) (k bo os n cc : Nat) {α : Type} (K : α → Value) (h : Nat → α) (S : Cont) (hS : ∀ j, j < n → S.get (os + j) = some (K (h j)))
    (hb : 0 < n ∧ n * B ≤ 140737488355328 ∧ n ≤ 9223372036854775807) {A : Option Addr} (hA : A = some ⟨k, bo + os, none⟩) :
    SRuns P (appendSem t ty (.slice none 0 0) (.slice A n cc)) [⟨k, false, bo, S⟩] 2
      (fun ns => .slice (some ⟨ns.getD 0 0, 0, none⟩) n (n + ns.getD 1 0))
      (fun ns => [some ⟨k, false, bo, S⟩, some ⟨ns.getD 0 0, true, 0, spr (n + ns.getD 1 0) n (fun k => K (h k)) z⟩]) := by
  subst hA; exact mk_append_nil ht h1 k bo os n cc K h S hS hb
end
end Go.Eng
namespace Go.Eng
theorem srun_append_noneM {P : Program} {t ty e : TypeId} {sz : Nat} (ht : P.underlying t = some (.slice e)) (hs : sizeB P e = some sz) (a : Option Addr) (n c : Nat) (hn : n ≤ c) (al : Option Addr) (m cl : Nat) (hm : m = 0) :
    SRuns P (appendSem t ty (.slice a n c) (.slice al m cl)) [] 0 (fun _ => .slice a n c) (fun _ => []) := by
  subst hm; exact srun_append_none ht hs a n c hn al cl
end Go.Eng
