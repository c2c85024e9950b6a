/-
  A closed fact of the seat's program: what it lifts.
-/
import Derived.Test.YtkolelpdedmkeaaRows
import Derived.JoinedOf
import Derived.KernelRfl
namespace Go.Proofs.Ytkolelpdedmkeaa
open Go
set_option maxRecDepth 100000

theorem joint_lift : (Rows.partNewRow.lifted == Try.prog.liftsFinal) = true := by kernel_rfl

end Go.Proofs.Ytkolelpdedmkeaa
