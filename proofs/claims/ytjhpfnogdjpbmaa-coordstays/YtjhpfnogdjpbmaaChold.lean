/-
  A coordinator in a box, and its rows: what the laws carry from call to call.
-/
import Derived.Test.YtjhpfnogdjpbmaaClaw1
namespace Go.Proofs.Ytjhpfnogdjpbmaa
open Go.RowKit
set_option linter.unusedVariables false
set_option linter.unusedSimpArgs false

def Hold (W : World) (b : Nat) (c : Crd) (v : Value) (us : Nat → Value) : Prop := CB W b c v ∧ RdC W c v us
theorem Hold.below {W W' : World} {b : Nat} {c : Crd} {v : Value} {us : Nat → Value} (h : Hold W b c v us) (hb : Below W.heap.size W W') : Hold W' b c v us := ⟨h.1.below h.1.1 hb, h.2.below (Nat.le_refl _) hb⟩
theorem hold_new {w : World} {c : Crd} {v : Value} {us : Nat → Value} (h : RdC w c v us) : Hold (w.alloc (.cells #[.int .i64 c.ck, .int .i64 c.nx, .int .i64 c.wt, v] 24)) w.heap.size c v us := ⟨cb_new _ _ _ _ _ rfl, h.below (Nat.le_refl _) (bbox _ _)⟩

end Go.Proofs.Ytjhpfnogdjpbmaa
