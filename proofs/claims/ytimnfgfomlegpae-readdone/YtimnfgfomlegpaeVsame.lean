/-
  The helpers of the view laws: plain, entries (a copy), sameTexts (of one list twice).
-/
import Derived.Test.YtimnfgfomlegpaeVread
namespace Go.Proofs.Ytimnfgfomlegpae
open Go.RowKit
set_option linter.unusedVariables false
set_option linter.unusedSimpArgs false

/-- A slice of texts that reads as ts. -/
def RdS (w : World) (v : Value) (ts : List ByteArray) : Prop :=
  ∃ ao cap, v = .slice ao ts.length cap ∧ (0 < ts.length → ∃ g, ao = some ⟨g, 0, none⟩ ∧ ∀ i, (h : i < ts.length) → w.cell? ⟨g, i, none⟩ = some (.string (ts[i]'h)))
theorem OwnS.rd {B : Nat} {v : Value} {ts : List ByteArray} {w : World} (h : OwnS B v ts w) : RdS w v ts := by
  obtain ⟨h1, h4⟩ := h
  rcases h1.2 with ⟨rfl, h0⟩ | ⟨g, cap, cur, rfl, r2, r3, r4, r5, r6⟩
  · exact ⟨none, 0, by rw [h0], fun h => by omega⟩
  · refine ⟨_, _, rfl, fun _ => ⟨g, rfl, fun i hi => ?_⟩⟩
    have := h1.cellAt i (by omega)
    rw [this]
    simp [hi]

/-- Within the bounds, as the law's own test says it. -/
def plainB (e : Ent) : Bool := decide (1 ≤ e.k ∧ e.k ≤ 3 ∧ 0 ≤ e.b ∧ e.b ≤ 1073741824 ∧ 0 ≤ e.c ∧ e.c ≤ 1073741824 ∧ 0 ≤ e.d ∧ e.d ≤ 1073741824)

end Go.Proofs.Ytimnfgfomlegpae
