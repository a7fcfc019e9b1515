/-
  Many in one: EngW.
-/
import Derived.Test.YtnailbicmhkmbaaZPoolBack13
import Derived.OrdersIn
import Derived.RangeFuncNested
set_option linter.unusedVariables false
set_option linter.unusedSimpArgs false
set_option maxRecDepth 100000
set_option maxHeartbeats 1000000
section
namespace Go.Eng
end Go.Eng
end
