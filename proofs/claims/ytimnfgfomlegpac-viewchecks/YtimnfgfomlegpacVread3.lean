/-
  The document's ReadOf where it refuses; the helpers of the view laws: plain, entries, sameTexts.
-/
import Derived.Test.YtimnfgfomlegpacVread2
import Derived.Test.YtimnfgfomlegpacVsame
namespace Go.Proofs.Ytimnfgfomlegpac
open Go.RowKit
set_option linter.unusedVariables false
set_option linter.unusedSimpArgs false

end Go.Proofs.Ytimnfgfomlegpac
