/-
  An engine for walks, twenty-first part: rows of numbers; what is told of memory, told otherwise.
-/
import Derived.Test.YtikfnopccneijaaEngT
namespace Go.Eng
abbrev tabN (n : Nat) (f : Nat → N4) : Cont := .tab n 4 fun k => cellsN (f k)
def nrow1 (a : N4) : Nat → N4 := fun _ => a
def nrow2 (a b : N4) : Nat → N4 := fun k => match k with
  | 0 => a
  | _ => b
theorem to_row1 (a : N4) : ∀ o v, (tabN 1 (nrow1 a)).get o = some v → (Cont.lit [u64 a.a, u64 a.b, u64 a.c, u64 a.d]).get o = some v := fun o v h => by
  rcases o with _ | _ | _ | _ | o <;> first | exact h | (rw [tabE_out (by omega)] at h; cases h)
theorem to_row2 (a b : N4) : ∀ o v, (tabN 2 (nrow2 a b)).get o = some v → (Cont.lit [u64 a.a, u64 a.b, u64 a.c, u64 a.d, u64 b.a, u64 b.b, u64 b.c, u64 b.d]).get o = some v := fun o v h => by
  rcases o with _ | _ | _ | _ | _ | _ | _ | _ | o <;> first | exact h | (rw [tabE_out (by omega)] at h; cases h)
end Go.Eng
