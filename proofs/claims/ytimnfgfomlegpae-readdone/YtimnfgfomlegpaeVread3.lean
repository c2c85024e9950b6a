/-
  The document's ReadOf where it refuses; the helpers of the view laws: plain, entries, sameTexts.
-/
import Derived.Test.YtimnfgfomlegpaeVread2
import Derived.Test.YtimnfgfomlegpaeVsame
namespace Go.Proofs.Ytimnfgfomlegpae
open Go.RowKit
set_option linter.unusedVariables false
set_option linter.unusedSimpArgs false

end Go.Proofs.Ytimnfgfomlegpae
