/-
  An engine for walks: rows that are cut off; rows of pairs of numbers; what is put behind, told as a whole.
-/
import Derived.Test.YtikfnopccneijaaEngV
import Derived.ChangeSame
namespace Go.Eng
set_option linter.unusedVariables false
section
variable {P : Program} {t ty e : TypeId}
end

section
open Go.ChangeShapes Go.WideShapes Go.ChangeAt Go.RowKit Go.Deep
variable {H : Type} {enc : TypeId × Value → H} {P : Program}
end
end Go.Eng
