/-
  The walks of the law's own helpers: octets (a copy), sameEntries (of one list twice).
-/
import Derived.Test.YtkakagjffafdiaaRents
import Derived.Test.YtkakagjffafdiaaKeq
import Derived.Test.YtkakagjffafdiaaKmath
namespace Go.Proofs.Ytkakagjffafdiaa
open Go.RowKit
set_option linter.unusedVariables false
set_option linter.unusedSimpArgs false

end Go.Proofs.Ytkakagjffafdiaa
