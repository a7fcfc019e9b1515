/-
  Limb: numbers as bytes, the highest one first.
-/
import Derived.Test.YtikfnopccneijaaLimbRef2
import Derived.Test.YtikfnopccneijaaEngR
import Derived.Deep.Slices
namespace Go.Eng
set_option exponentiation.threshold 600

/-! ### a number's bytes -/
/-! ### the document's -/
/-! ### alike -/
section
variable {P : Program} {t t' : TypeId} {x y : Operand} (a b : UInt8)
end
end Go.Eng
namespace Go.Eng
section bytesin
open Go.ChangeShapes Go.WideShapes Go.ChangeAt Go.RowKit Go.Deep
variable {H : Type} {enc : TypeId × Value → H} {P : Program}
theorem lt_of_cell {W : World} {a : Addr} {v : Value} (h : W.cell? a = some v) : a.block < W.heap.size := by
  by_cases hlt : a.block < W.heap.size
  · exact hlt
  · have : W.heap[a.block]? = none := by simp; omega
    simp [World.cell?, this] at h
end bytesin
end Go.Eng
