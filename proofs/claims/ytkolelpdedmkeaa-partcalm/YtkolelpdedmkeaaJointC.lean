/-
  A closed fact of the seat's program: its make.
-/
import Derived.Test.YtkolelpdedmkeaaRows
import Derived.JoinedOf
import Derived.KernelRfl
namespace Go.Proofs.Ytkolelpdedmkeaa
open Go
set_option maxRecDepth 100000

theorem joint_make : (Try.prog.make == some Rows.partNewRow.make) = true := by kernel_rfl

end Go.Proofs.Ytkolelpdedmkeaa
