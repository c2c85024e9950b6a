/-
  Boxes that hold a part; how its rows are read.
-/
import Derived.Test.YtkakagjffafdiaaPread
namespace Go.Proofs.Ytkakagjffafdiaa
open Go.RowKit
set_option linter.unusedVariables false
set_option linter.unusedSimpArgs false

/-- Seven cells that hold a part. -/
def PBox (w : World) (b : Nat) (p : Prt) (vi vk vr : Value) : Prop := w.cell? ⟨b, 0, none⟩ = some (.int .i64 p.ep) ∧ w.cell? ⟨b, 1, none⟩ = some (.int .i64 p.ld) ∧ w.cell? ⟨b, 2, none⟩ = some vi ∧ w.cell? ⟨b, 3, none⟩ = some vk ∧ w.cell? ⟨b, 4, none⟩ = some vr ∧ w.cell? ⟨b, 5, none⟩ = some (.int .i64 p.fw) ∧ w.cell? ⟨b, 6, none⟩ = some (.int .i64 p.bs)
theorem PBox.below {w w' : World} {b C : Nat} {p : Prt} {vi vk vr : Value} (h : PBox w b p vi vk vr) (hg : b < C) (hb : Below C w w') : PBox w' b p vi vk vr := by
  obtain ⟨a0, a1, a2, a3, a4, a5, a6⟩ := h
  exact ⟨(hb.cell (p := ⟨b, 0, none⟩) hg).trans a0, (hb.cell (p := ⟨b, 1, none⟩) hg).trans a1, (hb.cell (p := ⟨b, 2, none⟩) hg).trans a2, (hb.cell (p := ⟨b, 3, none⟩) hg).trans a3, (hb.cell (p := ⟨b, 4, none⟩) hg).trans a4, (hb.cell (p := ⟨b, 5, none⟩) hg).trans a5, (hb.cell (p := ⟨b, 6, none⟩) hg).trans a6⟩
theorem pbox_new (w : World) (p : Prt) (vi vk vr : Value) (T : TypeId) : PBox (w.alloc (.cells #[.int .i64 p.ep, .int .i64 p.ld, vi, vk, vr, .int .i64 p.fw, .int .i64 p.bs] T)) w.heap.size p vi vk vr := ⟨by simp, by simp, by simp, by simp, by simp, by simp, by simp⟩

theorem RdV.cellAt {w : World} {ao : Option Addr} {n cap : Nat} {xs : List Value} (h : RdV w (.slice ao n cap) xs) (i : Nat) (hi : i < xs.length) : ∃ g off, ao = some ⟨g, off, none⟩ ∧ n = xs.length ∧ w.cell? ⟨g, off + i, none⟩ = some (xs[i]'hi) := by
  obtain ⟨ao', cap', e, _, _, _, h3⟩ := h
  simp only [Value.slice.injEq] at e
  obtain ⟨rfl, rfl, rfl⟩ := e
  obtain ⟨g, off, rfl, hg⟩ := h3 (by omega)
  exact ⟨g, off, rfl, rfl, hg i hi⟩
theorem RdP.isrAt {w : World} {ao : Option Addr} {n cap : Nat} {p : Prt} (h : RdV w (.slice ao n cap) (p.isr.map Value.bool)) (i : Nat) (hi : i < p.isr.length) : ∃ g off, ao = some ⟨g, off, none⟩ ∧ w.cell? ⟨g, off + i, none⟩ = some (.bool (p.isr.getD i false)) := by
  obtain ⟨g, off, e, _, hc⟩ := h.cellAt i (by simpa using hi)
  refine ⟨g, off, e, ?_⟩
  rw [hc]
  simp [List.getD, hi]
theorem RdP.knAt {w : World} {ao : Option Addr} {n cap : Nat} {p : Prt} (h : RdV w (.slice ao n cap) (p.kn.map (Value.int .i64))) (i : Nat) (hi : i < p.kn.length) : ∃ g off, ao = some ⟨g, off, none⟩ ∧ w.cell? ⟨g, off + i, none⟩ = some (.int .i64 (p.kn.getD i 0)) := by
  obtain ⟨g, off, e, _, hc⟩ := h.cellAt i (by simpa using hi)
  refine ⟨g, off, e, ?_⟩
  rw [hc]
  simp [List.getD, hi]
/-- The lengths are within Go's. -/
theorem RdP.lens {w : World} {p : Prt} {vi vk vr : Value} {us : Nat → Value} (h : RdP w p vi vk vr us) : ∃ ai ci ak ck ar cr, vi = .slice ai p.isr.length ci ∧ vk = .slice ak p.kn.length ck ∧ vr = .slice ar p.rs.length cr ∧ (p.isr.length : Int) ≤ 9223372036854775807 ∧ (p.kn.length : Int) ≤ 9223372036854775807 ∧ (p.rs.length : Int) ≤ 9223372036854775807 := by
  obtain ⟨⟨ai, ci, e1, a1, a2, _⟩, ⟨ak, ck, e2, b1, b2, _⟩, ⟨ar, cr, e3, c1, c2, _⟩⟩ := h
  rw [List.length_map] at e1 a1 e2 b1
  unfold maxLen at a2 b2 c2
  exact ⟨ai, ci, ak, ck, ar, cr, e1, e2, e3, by omega, by omega, by omega⟩

end Go.Proofs.Ytkakagjffafdiaa
