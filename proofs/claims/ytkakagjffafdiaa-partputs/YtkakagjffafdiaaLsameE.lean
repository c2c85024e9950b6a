/-
  The walk of the law's sameEntries (of one list twice), for seats without package wire.
-/
import Derived.Test.YtkakagjffafdiaaAdec
import Derived.Deep.QuietTactic
import Derived.BigQuiet
namespace Go.Proofs.Ytkakagjffafdiaa
open Go.RowKit
set_option linter.unusedVariables false
set_option linter.unusedSimpArgs false

end Go.Proofs.Ytkakagjffafdiaa
