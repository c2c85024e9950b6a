/-
  What view.Check answers.
-/
import Derived.Test.YtimnfgfomlegpadVlaw2
import Derived.Test.YtimnfgfomlegpadVdev4
namespace Go.Proofs.Ytimnfgfomlegpad
open Go.RowKit

theorem check_c : CheckC := fun es v x w hl hp hx hr => vcheck_any es v x w hl hp hx hr

end Go.Proofs.Ytimnfgfomlegpad
