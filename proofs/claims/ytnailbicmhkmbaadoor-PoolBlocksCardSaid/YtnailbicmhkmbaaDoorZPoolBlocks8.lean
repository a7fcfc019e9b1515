/-
  Many in one: EngY.
-/
import Derived.Test.YtnailbicmhkmbaaDoorZPoolBlocks7
import Derived.ChangeSame
set_option linter.unusedVariables false
set_option linter.unusedSimpArgs false
set_option maxRecDepth 100000
set_option maxHeartbeats 1000000
section
namespace Go.Eng
section
variable {P:Program} {t ty e:TypeId}
end
section
open Go.ChangeShapes Go.WideShapes Go.ChangeAt Go.RowKit Go.Deep
variable {H:Type} {enc:TypeId × Value→H} {P:Program}
end
end Go.Eng
end
