/-
  The walk of the law's sameEntries (of one list twice), for seats without package wire.
-/
import Derived.Test.YtkolelpdedmkeaaAdec
import Derived.Deep.QuietTactic
import Derived.BigQuiet
namespace Go.Proofs.Ytkolelpdedmkeaa
open Go.RowKit
set_option linter.unusedVariables false
set_option linter.unusedSimpArgs false

end Go.Proofs.Ytkolelpdedmkeaa
