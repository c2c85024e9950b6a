/-
  What view.Check answers.
-/
import Derived.Test.YtkakagjffafdiaaVlaw2
import Derived.Test.YtkakagjffafdiaaVdev4
namespace Go.Proofs.Ytkakagjffafdiaa
open Go.RowKit

theorem check_c : CheckC := fun es v x w hl hp hx hr => vcheck_any es v x w hl hp hx hr

end Go.Proofs.Ytkakagjffafdiaa
