/-
  What view.Check answers.
-/
import Derived.Test.YtkhldbjoephceaaAlaw
import Derived.Test.YtkhldbjoephceaaAdev
namespace Go.Proofs.Ytkhldbjoephceaa
open Go.RowKit

theorem check_c : CheckC := fun es v x w hl hp hx hr => vcheck_any es v x w hl hp hx hr

end Go.Proofs.Ytkhldbjoephceaa
