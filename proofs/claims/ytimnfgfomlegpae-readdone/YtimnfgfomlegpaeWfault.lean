/-
  The walk of the document's EntryFault: it returns what flt says of the entry's fields, and turns nothing that was there.
-/
import Derived.Test.YtimnfgfomlegpaeWcheck
namespace Go.Proofs.Ytimnfgfomlegpae
open Go.RowKit

end Go.Proofs.Ytimnfgfomlegpae
