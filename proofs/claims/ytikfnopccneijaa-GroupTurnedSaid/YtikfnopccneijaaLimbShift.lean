/-
  Limb: bits moved, as numbers.
-/
import Derived.Test.YtikfnopccneijaaLimbDiv
namespace Go.Eng

/-! ### by whole words -/
end Go.Eng
