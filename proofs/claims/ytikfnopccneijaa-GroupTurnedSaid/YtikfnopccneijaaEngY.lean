/-
  An engine for walks: rows that are cut off; rows of pairs of numbers; what is put behind, told as a whole.
-/
import Derived.Test.YtikfnopccneijaaEngV
import Derived.ChangeSame
namespace Go.Eng
set_option linter.unusedVariables false
section
variable {P : Program} {t ty e : TypeId}
theorem sprE_as {sz c len : Nat} {g g' : Nat → List Value} {zc : List Value} (h : ∀ k, k < len → g' k = g k) : sprE sz c len g zc = sprE sz c len g' zc := by
  unfold sprE
  congr 1
  funext k
  split
  · rename_i hk; exact (h k hk).symm
  · rfl
/-- What is put behind: the whole told by a row of its own. -/
theorem mkE_append_as {sz B : Nat} {zc : List Value} (ht : P.underlying t = some (.slice e)) (h1 : AggC P e zc sz B) (b len r k bo os n cc : Nat) {α : Type} (K : α → List Value) (hK : ∀ a, (K a).length = sz ∧ (K a).all Value.oneCell' = true) (g h : Nat → α) (S : Cont)
    (hS : ∀ j, j < n * sz → S.get (os + j) = some (cf sz (fun k => K (h k)) j)) (hb : (len + n) * B ≤ 140737488355328 ∧ len + n ≤ 9223372036854775807) (g' : Nat → α) (hg : ∀ k, k < len + n → g' k = catU g len h k) :
    SRuns P (appendSem t ty (.slice (some ⟨b, 0, none⟩) len (len + r)) (.slice (some ⟨k, bo + os, none⟩) n cc)) [⟨b, true, 0, sprE sz (len + r) len (fun k => K (g k)) zc⟩, ⟨k, false, bo, S⟩] 2
      (fun ns => .slice (some ⟨ns.getD 0 0, 0, none⟩) (len + n) (len + n + ns.getD 1 0))
      (fun ns => [some ⟨ns.getD 0 0, true, 0, sprE sz (len + n + ns.getD 1 0) (len + n) (fun k => K (g' k)) zc⟩, some ⟨k, false, bo, S⟩]) := by
  have h2 := mkE_append (P := P) (t := t) (ty := ty) (e := e) ht h1 b len r k bo os n cc K hK g h S hS hb
  have e2 : ∀ c, sprE sz c (len + n) (fun k => K (catU g len h k)) zc = sprE sz c (len + n) (fun k => K (g' k)) zc := fun c => sprE_as fun k hk => by rw [hg k hk]
  simp only [e2] at h2
  exact h2
theorem mkE_append_nil_as {sz B : Nat} {zc : List Value} (ht : P.underlying t = some (.slice e)) (h1 : AggC P e zc sz B) (k bo os n cc : Nat) {α : Type} (K : α → List Value) (hK : ∀ a, (K a).length = sz ∧ (K a).all Value.oneCell' = true) (h : Nat → α) (S : Cont)
    (hS : ∀ j, j < n * sz → S.get (os + j) = some (cf sz (fun k => K (h k)) j)) (hb : 0 < n ∧ n * B ≤ 140737488355328 ∧ n ≤ 9223372036854775807) (g' : Nat → α) (hg : ∀ k, k < n → g' k = h k) :
    SRuns P (appendSem t ty (.slice none 0 0) (.slice (some ⟨k, bo + os, none⟩) n cc)) [⟨k, false, bo, S⟩] 2
      (fun ns => .slice (some ⟨ns.getD 0 0, 0, none⟩) n (n + ns.getD 1 0))
      (fun ns => [some ⟨k, false, bo, S⟩, some ⟨ns.getD 0 0, true, 0, sprE sz (n + ns.getD 1 0) n (fun k => K (g' k)) zc⟩]) := by
  have h2 := mkE_append_nil (P := P) (t := t) (ty := ty) (e := e) ht h1 k bo os n cc K hK h S hS hb
  have e2 : ∀ c, sprE sz c n (fun k => K (h k)) zc = sprE sz c n (fun k => K (g' k)) zc := fun c => sprE_as fun k hk => by rw [hg k hk]
  simp only [e2] at h2
  exact h2
theorem cat_one {α : Type} {g g' : Nat → α} {len : Nat} {x : α} (h1 : ∀ k, k < len → g' k = g k) (h2 : g' len = x) : ∀ k, k < len + 1 → g' k = catU g len (fun _ => x) k := fun k hk => by
  unfold catU
  by_cases h : k < len
  · rw [if_pos h]; exact h1 k h
  · rw [if_neg h, show k = len by omega]; exact h2
end

section
open Go.ChangeShapes Go.WideShapes Go.ChangeAt Go.RowKit Go.Deep
variable {H : Type} {enc : TypeId × Value → H} {P : Program}
end
end Go.Eng
