/-
  A closed fact of the seat's program: it may be entered.
-/
import Derived.Test.YtkolelpdedmkeaaRows
import Derived.JoinedOf
import Derived.KernelRfl
namespace Go.Proofs.Ytkolelpdedmkeaa
open Go
set_option maxRecDepth 100000

theorem joint_enter : Try.prog.mayEnter = true := by kernel_rfl

end Go.Proofs.Ytkolelpdedmkeaa
