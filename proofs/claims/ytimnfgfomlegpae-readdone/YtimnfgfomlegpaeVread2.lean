/-
  The walk of the document's ReadOf.
-/
import Derived.Test.YtimnfgfomlegpaeVread
namespace Go.Proofs.Ytimnfgfomlegpae
open Go.RowKit
set_option linter.unusedVariables false
set_option linter.unusedSimpArgs false

theorem stb_le (es : List Ent) (h : Nat) : stb es h ≤ h := by
  unfold stb
  rcases scan_cases (P := begins es h) h 0 with e | ⟨k, _, k2, _, _, e⟩
  · rw [e, if_pos (by omega)]; exact Nat.le_refl _
  · rw [e, if_neg (by omega)]; simp; omega

end Go.Proofs.Ytimnfgfomlegpae
