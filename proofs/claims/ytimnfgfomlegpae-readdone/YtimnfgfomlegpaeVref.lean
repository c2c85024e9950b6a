/-
  The walks of the document's verOf, seqOf, markOf, openOf.
-/
import Derived.Test.YtimnfgfomlegpaeVmath
namespace Go.Proofs.Ytimnfgfomlegpae
open Go.RowKit
set_option linter.unusedVariables false
set_option linter.unusedSimpArgs false

/-- A slice of entries, wherever it begins, that reads as es. -/
def RdX (w : World) (v : Value) (es : List Ent) : Prop :=
  ∃ ao cap, v = .slice ao es.length cap ∧ es.length ≤ cap ∧ cap ≤ maxLen ∧ (ao = none → cap = 0) ∧ (0 < es.length → ∃ g off, ao = some ⟨g, off, none⟩ ∧ ∀ i, (h : i < es.length) → ∀ j, j < 7 → w.cell? ⟨g, off + i * 7 + j, none⟩ = (es[i]'h).cells[j]?)
theorem RdX.below {C : Nat} {v : Value} {es : List Ent} {w w' : World} (h : RdX w v es) (hC : w.heap.size ≤ C) (hb : Below C w w') : RdX w' v es := by
  obtain ⟨ao, cap, rfl, h1, h2, h4, h3⟩ := h
  refine ⟨ao, cap, rfl, h1, h2, h4, fun h0 => ?_⟩
  obtain ⟨g, off, rfl, hg⟩ := h3 h0
  have hlt : g < w.heap.size := by
    have := hg 0 h0 0 (by omega)
    exact cell_lt (v := .int .i64 (es[0]'h0).a) (by simpa [Ent.cells] using this)
  exact ⟨g, off, rfl, fun i hi j hj => by rw [hb.cell (p := ⟨g, off + i * 7 + j, none⟩) (by show g < C; omega)]; exact hg i hi j hj⟩
theorem RdX.cells {w : World} {g off : Nat} {es : List Ent} (hg : ∀ i, (h : i < es.length) → ∀ j, j < 7 → w.cell? ⟨g, off + i * 7 + j, none⟩ = (es[i]'h).cells[j]?) (i : Nat) (h : i < es.length) :
    w.cell? ⟨g, off + i * 7, none⟩ = some (.int .i64 (Ent.at es i).a) ∧ w.cell? ⟨g, off + i * 7 + 1, none⟩ = some (.int .i64 (Ent.at es i).b) ∧ w.cell? ⟨g, off + i * 7 + 2, none⟩ = some (.int .i64 (Ent.at es i).c) ∧ w.cell? ⟨g, off + i * 7 + 3, none⟩ = some (.int .i64 (Ent.at es i).d) ∧ w.cell? ⟨g, off + i * 7 + 4, none⟩ = some (.int .i64 (Ent.at es i).k) ∧ w.cell? ⟨g, off + i * 7 + 5, none⟩ = some (.bool (Ent.at es i).t) ∧ w.cell? ⟨g, off + i * 7 + 6, none⟩ = some (.string (Ent.at es i).s) := by
  rw [at_get h]
  exact seven (hg i h)

end Go.Proofs.Ytimnfgfomlegpae
