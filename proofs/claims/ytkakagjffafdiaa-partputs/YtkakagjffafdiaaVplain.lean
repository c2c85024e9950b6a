/-
  The walk of the law's own test 'plain'.
-/
import Derived.Test.YtkakagjffafdiaaVapp
namespace Go.Proofs.Ytkakagjffafdiaa
open Go.RowKit
set_option linter.unusedVariables false
set_option linter.unusedSimpArgs false

abbrev plainE (e : Ent) : Prop := 1 ≤ e.k ∧ e.k ≤ 3 ∧ 0 ≤ e.b ∧ e.b ≤ 1073741824 ∧ 0 ≤ e.c ∧ e.c ≤ 1073741824 ∧ 0 ≤ e.d ∧ e.d ≤ 1073741824
theorem plain_iff (es : List Ent) : Plain es ↔ ∀ i, i < es.length → plainE (Ent.at es i) := by
  constructor
  · intro h i hi
    rw [at_get hi]
    exact h _ (List.getElem_mem hi)
  · intro h e he
    obtain ⟨i, hi, rfl⟩ := List.getElem_of_mem he
    have := h i hi
    rw [at_get hi] at this
    exact this

end Go.Proofs.Ytkakagjffafdiaa
