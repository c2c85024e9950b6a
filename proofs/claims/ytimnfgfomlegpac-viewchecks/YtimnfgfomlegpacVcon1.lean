/-
  What view.Check answers.
-/
import Derived.Test.YtimnfgfomlegpacVlaw2
import Derived.Test.YtimnfgfomlegpacVdev4
namespace Go.Proofs.Ytimnfgfomlegpac
open Go.RowKit

theorem check_c : CheckC := fun es v x w hl hp hx hr => vcheck_any es v x w hl hp hx hr

end Go.Proofs.Ytimnfgfomlegpac
