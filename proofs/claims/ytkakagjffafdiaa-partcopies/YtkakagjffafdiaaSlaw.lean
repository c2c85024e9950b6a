/-
  The walks of the law's own helpers for logs (logs: a copy; sameLog: of one log twice), and of SegChecks, SegEntries, SegSyncs.
-/
import Derived.Test.YtkakagjffafdiaaSref4
import Derived.Test.YtkakagjffafdiaaLsame
namespace Go.Proofs.Ytkakagjffafdiaa
open Go.RowKit
set_option linter.unusedVariables false
set_option linter.unusedSimpArgs false

set_option maxRecDepth 100000 in
set_option maxHeartbeats 1000000 in
theorem sameLog_true (l : List Int) (u v : Value) (y : Int) (w : World) (h1 : Rd w u l) (h2 : Rd w v l) :
    Calls Try.prog 61 #[.agg #[u, .int .i64 y], .agg #[v, .int .i64 y]] w fun e w' => e = .returned (.bool true) ∧ Below w.heap.size w w' := by
  obtain ⟨a1, c1, rfl⟩ : ∃ au cu, u = .slice au l.length cu := by obtain ⟨_, au, cu, e, _⟩ := h1; exact ⟨au, cu, e⟩
  obtain ⟨a2, c2, rfl⟩ : ∃ au cu, v = .slice au l.length cu := by obtain ⟨_, au, cu, e, _⟩ := h2; exact ⟨au, cu, e⟩
  have k1 := conv_str ((h1.below (Nat.le_refl _) (bstep (bbox _ (.cells #[.slice a1 l.length c1, .int .i64 y] 61)) (bbox _ (.cells #[.slice a2 l.length c2, .int .i64 y] 61)))))
  have k2 := conv_str ((h2.below (Nat.le_refl _) (bstep (bbox _ (.cells #[.slice a1 l.length c1, .int .i64 y] 61)) (bbox _ (.cells #[.slice a2 l.length c2, .int .i64 y] 61)))))
  have hyy : (y == y) = true := by simp
  clear h1 h2
  go_enter Try.func61, Try.ntmps61
  go_wp2
  go_ret
  exact ⟨rfl, bstep (bbox _ _) (bbox _ _)⟩

end Go.Proofs.Ytkakagjffafdiaa
