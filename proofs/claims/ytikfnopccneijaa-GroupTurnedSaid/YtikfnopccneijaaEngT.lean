/-
  An engine for walks, twentieth part: slices that are handed in, of elements of many cells.
-/
import Derived.Test.YtikfnopccneijaaEngS
import Derived.Test.YtikfnopccneijaaLimbByt
namespace Go.Eng
section
open Go.ChangeShapes Go.WideShapes Go.ChangeAt Go.RowKit Go.Deep
variable {H : Type} {enc : TypeId × Value → H} {P : Program}
/-- A number's cells. -/
def cellsN (a : N4) : List Value := [u64 a.a, u64 a.b, u64 a.c, u64 a.d]
theorem cellsN_ok (a : N4) : (cellsN a).length = 4 ∧ (cellsN a).all Value.oneCell' = true := ⟨rfl, rfl⟩
instance : Inhabited N4 := ⟨⟨0, 0, 0, 0⟩⟩
end
end Go.Eng
