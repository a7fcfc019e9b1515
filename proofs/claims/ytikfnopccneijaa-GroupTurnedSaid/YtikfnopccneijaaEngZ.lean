/-
  An engine for walks: a law whose arguments lie in memory.
-/
import Derived.Test.YtikfnopccneijaaLimbByt
namespace Go.Eng
open Go.RowKit
end Go.Eng
