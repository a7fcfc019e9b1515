/-
  Many in one: ShaLaw.
-/
import Derived.Test.YtnailbicmhkmbaaZPoolBack15
import Derived.ChangeSame
import Derived.LaidLaws
import Derived.LaidMore
import Derived.Stop.Joined
set_option linter.unusedVariables false
set_option linter.unusedSimpArgs false
set_option maxRecDepth 100000
set_option maxHeartbeats 1000000
section
namespace Go.Eng
open Go.RowKit Go.WideShapes Go.ChangeShapes Go.ChangeAt
section
variable {P : Program} {t e t' : TypeId} {x y : Operand} {n : Nat}
end
def bysO (nm n c : Nat) (f : Nat → BytL) : BytS := ⟨some ⟨nm, 0, none⟩, n, c, nm, 0, f⟩
def brow (l : List BytL) : Nat → BytL := fun k => l.getD k (bytZ none 0)
theorem oks_own {nm n c : Nat} {f : Nat → BytL} (h1 : n ≤ c) (h2 : n ≤ 9223372036854775807) (h3 : ∀ k, k < n → OkB (f k)) : OkS (bysO nm n c f) := ⟨h1, fun _ => rfl, h2, h3⟩
end Go.Eng
namespace Go.Eng
open Go.RowKit Go.WideShapes Go.ChangeShapes Go.ChangeAt
end Go.Eng
namespace Go.Eng
open Go.RowKit Go.WideShapes Go.ChangeShapes Go.ChangeAt Go.Deep
end Go.Eng
namespace Go.Eng
section
variable {P : Program} {t e : TypeId} {x y z : Operand}
end
end Go.Eng
namespace Go.Eng
end Go.Eng
namespace Go.Eng
section
variable {f : Nat → BytL} {i : Nat} {G Z : HS} {A : Grw UInt8}
end
end Go.Eng
end
