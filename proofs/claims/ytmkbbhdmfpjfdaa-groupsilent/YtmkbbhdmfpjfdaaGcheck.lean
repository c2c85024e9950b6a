/-
  group.Check: the tests of numbers, members and offsets, walked.
-/
import Derived.Test.YtmkbbhdmfpjfdaaGpure
import Derived.Test.YtmkbbhdmfpjfdaaCleaf
namespace Go.Proofs.Ytmkbbhdmfpjfdaa
open Go.RowKit
set_option linter.unusedVariables false
set_option linter.unusedSimpArgs false

set_option maxRecDepth 100000 in
set_option maxHeartbeats 1000000 in
theorem gfitsNumbers_any (g : Grp) (vm vo : Value) (w : World) :
    Calls Try.prog 52 #[.agg #[.int .i64 g.ck, .int .i64 g.wt, .int .i64 g.gn, vm, vo]] w fun e w' => e = .returned (.bool g.numB) ∧ Below w.heap.size w w' := by
  have HE : Hid (g.numB = (inR g.ck 0 1073741824 && inR g.gn 0 1073741824 && inR g.wt 1 1000)) := show _ = _ by unfold Grp.numB; rw [Bool.and_assoc, Bool.and_assoc, Bool.and_comm (inR g.wt 1 1000)]
  go_enter Try.func52, Try.ntmps52
  go_wp2_with (go_at_call 47; refine (cwithin_any _ _ _ _).mono ?_; rintro e w' ⟨rfl, rfl⟩)
  all_goals
    go_ret
    exact ⟨by rw [HE.out]; simp [*], bbox _ _⟩

end Go.Proofs.Ytmkbbhdmfpjfdaa
