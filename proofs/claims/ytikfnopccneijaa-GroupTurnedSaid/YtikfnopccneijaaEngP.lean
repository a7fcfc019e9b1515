/-
  An engine for walks, sixteenth part: numbers told anew; rows told anew.
-/
import Derived.Test.YtikfnopccneijaaEngO
namespace Go.Eng

theorem is_move_nat {P : Program} {x : Operand} (e : Int) (m : Nat) (he : e = (m : Int)) : IsOp P (.move x) [int e] (nat m) := by
  subst he
  intro ρ o ho hv
  rw [ho] at hv
  simp only [Op.operands, List.map_cons, List.map_nil, List.cons.injEq, and_true] at hv
  unfold execOp
  rw [ho]
  simp only [hv]
  rfl
section wides
open Go.ChangeShapes Go.WideShapes Go.ChangeAt Go.RowKit
variable {H : Type} {enc : TypeId × Value → H} {P : Program}
end wides
end Go.Eng
