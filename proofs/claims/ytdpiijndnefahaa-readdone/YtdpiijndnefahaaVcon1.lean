/-
  What view.Check answers.
-/
import Derived.Test.YtdpiijndnefahaaAlaw
import Derived.Test.YtdpiijndnefahaaAdev
namespace Go.Proofs.Ytdpiijndnefahaa
open Go.RowKit

theorem check_c : CheckC := fun es v x w hl hp hx hr => vcheck_any es v x w hl hp hx hr

end Go.Proofs.Ytdpiijndnefahaa
