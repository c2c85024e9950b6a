/-
  The walk of the document's CheckedOf.
-/
import Derived.Test.YtimnfgfomlegpaeVref
import Derived.Deep.QuietTactic
import Derived.BigQuiet
namespace Go.Proofs.Ytimnfgfomlegpae
open Go.RowKit
set_option linter.unusedVariables false
set_option linter.unusedSimpArgs false

theorem RdX.drewN {w : World} {v : Value} {es : List Ent} (h : RdX w v es) (n : Nat) : RdX (w.drewN n) v es := h

/-- Entries whose numbers are within the bounds (P3.1). -/
def Plain (es : List Ent) : Prop := ∀ e ∈ es, 1 ≤ e.k ∧ e.k ≤ 3 ∧ 0 ≤ e.b ∧ e.b ≤ 1073741824 ∧ 0 ≤ e.c ∧ e.c ≤ 1073741824 ∧ 0 ≤ e.d ∧ e.d ≤ 1073741824
theorem seqK_bd {es : List Ent} (h : Plain es) (p : Int) (k : Nat) (hk : k ≤ es.length) : -1 ≤ (seqK es p k).1 ∧ (seqK es p k).1 ≤ 1073741824 := by
  induction k with
  | zero => simp [seqK]
  | succ k ih =>
    have hlt : k < es.length := by omega
    have hx := h es[k] (List.getElem_mem hlt)
    have ih := ih (by omega)
    simp only [seqK, at_get hlt]
    split
    · simp only
      split
      · omega
      · split <;> omega
    · exact ih
theorem verK_bd {es : List Ent} (h : Plain es) (p : Int) (k : Nat) (hk : k ≤ es.length) : -1 ≤ verK es p k ∧ verK es p k ≤ 1073741824 := by
  induction k with
  | zero => simp [verK]
  | succ k ih =>
    have hlt : k < es.length := by omega
    have hx := h es[k] (List.getElem_mem hlt)
    have ih := ih (by omega)
    simp only [verK, at_get hlt]
    split <;> omega

end Go.Proofs.Ytimnfgfomlegpae
