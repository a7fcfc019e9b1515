/-
  The document's answers of layer 2, lifted.
-/
import Derived.Test.YtikfnopccneijaaMontFnsB
import Derived.Test.YtikfnopccneijaaMontRef
namespace Go.Proofs.Ytikfnopccneijaa
open Go Go.Eng
set_option linter.unusedVariables false
set_option linter.unusedSimpArgs false
set_option exponentiation.threshold 600
set_option maxRecDepth 100000

end Go.Proofs.Ytikfnopccneijaa
