/-
  Mont: the document's answers, as numbers.
-/
import Derived.Test.YtikfnopccneijaaMontLaws
namespace Go.Eng
set_option exponentiation.threshold 600

/-! ### halves -/
end Go.Eng
