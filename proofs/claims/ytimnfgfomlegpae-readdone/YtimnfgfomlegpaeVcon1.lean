/-
  What view.Check answers.
-/
import Derived.Test.YtimnfgfomlegpaeVlaw2
import Derived.Test.YtimnfgfomlegpaeVdev4
namespace Go.Proofs.Ytimnfgfomlegpae
open Go.RowKit

theorem check_c : CheckC := fun es v x w hl hp hx hr => vcheck_any es v x w hl hp hx hr

end Go.Proofs.Ytimnfgfomlegpae
