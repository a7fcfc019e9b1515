/-
  Many in one: EngY.
-/
import Derived.Test.YtelpmalmknpogaaZCodecBack7
import Derived.ChangeSame
section
namespace Go.Eng
set_option linter.unusedVariables false
section
variable {P : Program} {t ty e : TypeId}
end
section
open Go.ChangeShapes Go.WideShapes Go.ChangeAt Go.RowKit Go.Deep
variable {H : Type} {enc : TypeId × Value → H} {P : Program}
end
end Go.Eng
end
