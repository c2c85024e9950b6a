/-
  What view.Check answers.
-/
import Derived.Test.YtkolelpdedmkeaaAlaw
import Derived.Test.YtkolelpdedmkeaaAdev
namespace Go.Proofs.Ytkolelpdedmkeaa
open Go.RowKit

theorem check_c : CheckC := fun es v x w hl hp hx hr => vcheck_any es v x w hl hp hx hr

end Go.Proofs.Ytkolelpdedmkeaa
