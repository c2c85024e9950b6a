/-
  Parts in memory, as they are read.
-/
import Derived.Test.YtkakagjffafdiaaPmath
import Derived.Test.YtkakagjffafdiaaKeq
namespace Go.Proofs.Ytkakagjffafdiaa
open Go.RowKit
set_option linter.unusedVariables false
set_option linter.unusedSimpArgs false

/-- A slice of one cell an element that reads as these values. -/
def RdV (w : World) (v : Value) (xs : List Value) : Prop :=
  ∃ ao cap, v = .slice ao xs.length cap ∧ xs.length ≤ cap ∧ cap ≤ maxLen ∧ (ao = none → cap = 0) ∧ (0 < xs.length → ∃ g off, ao = some ⟨g, off, none⟩ ∧ ∀ i, (h : i < xs.length) → w.cell? ⟨g, off + i, none⟩ = some (xs[i]'h))
theorem RdV.below {C : Nat} {v : Value} {xs : List Value} {w w' : World} (h : RdV w v xs) (hC : w.heap.size ≤ C) (hb : Below C w w') : RdV w' v xs := by
  obtain ⟨ao, cap, rfl, h1, h2, h4, h3⟩ := h
  refine ⟨ao, cap, rfl, h1, h2, h4, fun h0 => ?_⟩
  obtain ⟨g, off, rfl, hg⟩ := h3 h0
  have hlt : g < w.heap.size := cell_lt (hg 0 h0)
  exact ⟨g, off, rfl, fun i hi => (hb.cell (p := ⟨g, off + i, none⟩) (by show g < C; omega)).trans (hg i hi)⟩
theorem RdV.drewN {v : Value} {xs : List Value} {w : World} (h : RdV w v xs) (q : Nat) : RdV (w.drewN q) v xs := h
theorem RdV.shape {v : Value} {xs : List Value} {w : World} (h : RdV w v xs) : ∃ ao cap, v = .slice ao xs.length cap := by
  obtain ⟨ao, cap, e, _⟩ := h
  exact ⟨ao, cap, e⟩

/-- A slice of replicas that reads as these; us: their bytes' slices. -/
def RdRs (w : World) (v : Value) (rs : List Rep) (us : Nat → Value) : Prop :=
  ∃ ao cap, v = .slice ao rs.length cap ∧ rs.length ≤ cap ∧ cap ≤ maxLen ∧ (ao = none → cap = 0) ∧ (0 < rs.length → ∃ g off, ao = some ⟨g, off, none⟩ ∧
    ∀ i, (h : i < rs.length) → Rd w (us i) (rs[i]'h).l ∧ w.cell? ⟨g, off + i * 4, none⟩ = some (.bool (rs[i]'h).up) ∧ w.cell? ⟨g, off + i * 4 + 1, none⟩ = some (us i) ∧ w.cell? ⟨g, off + i * 4 + 2, none⟩ = some (.int .i64 (rs[i]'h).y) ∧ w.cell? ⟨g, off + i * 4 + 3, none⟩ = some (.int .i64 (rs[i]'h).h))
theorem RdRs.below {C : Nat} {v : Value} {rs : List Rep} {us : Nat → Value} {w w' : World} (h : RdRs w v rs us) (hC : w.heap.size ≤ C) (hb : Below C w w') : RdRs w' v rs us := by
  obtain ⟨ao, cap, rfl, h1, h2, h4, h3⟩ := h
  refine ⟨ao, cap, rfl, h1, h2, h4, fun h0 => ?_⟩
  obtain ⟨g, off, rfl, hg⟩ := h3 h0
  have hlt : g < w.heap.size := cell_lt (hg 0 h0).2.1
  have hgC : g < C := by omega
  refine ⟨g, off, rfl, fun i hi => ?_⟩
  obtain ⟨r0, r1, r2, r3, r4⟩ := hg i hi
  exact ⟨r0.below hC hb, (hb.cell (p := ⟨g, _, none⟩) hgC).trans r1, (hb.cell (p := ⟨g, _, none⟩) hgC).trans r2, (hb.cell (p := ⟨g, _, none⟩) hgC).trans r3, (hb.cell (p := ⟨g, _, none⟩) hgC).trans r4⟩
theorem RdRs.drewN {v : Value} {rs : List Rep} {us : Nat → Value} {w : World} (h : RdRs w v rs us) (q : Nat) : RdRs (w.drewN q) v rs us := h
theorem RdRs.shape {v : Value} {rs : List Rep} {us : Nat → Value} {w : World} (h : RdRs w v rs us) : ∃ ao cap, v = .slice ao rs.length cap := by
  obtain ⟨ao, cap, e, _⟩ := h
  exact ⟨ao, cap, e⟩

/-- A part as a value. -/
def Prt.val (p : Prt) (vi vk vr : Value) : Value := .agg #[.int .i64 p.ep, .int .i64 p.ld, vi, vk, vr, .int .i64 p.fw, .int .i64 p.bs]
/-- Its three slices read as it says. -/
def RdP (w : World) (p : Prt) (vi vk vr : Value) (us : Nat → Value) : Prop := RdV w vi (p.isr.map Value.bool) ∧ RdV w vk (p.kn.map (Value.int .i64)) ∧ RdRs w vr p.rs us
theorem RdP.below {C : Nat} {p : Prt} {vi vk vr : Value} {us : Nat → Value} {w w' : World} (h : RdP w p vi vk vr us) (hC : w.heap.size ≤ C) (hb : Below C w w') : RdP w' p vi vk vr us :=
  ⟨h.1.below hC hb, h.2.1.below hC hb, h.2.2.below hC hb⟩
theorem RdP.drewN {p : Prt} {vi vk vr : Value} {us : Nat → Value} {w : World} (h : RdP w p vi vk vr us) (q : Nat) : RdP (w.drewN q) p vi vk vr us := h
/-- All logs are within bounds. -/
def Prt.small (p : Prt) : Prop := ∀ r ∈ p.rs, r.l.length ≤ 140737488355328
theorem at_rep {p : Prt} {i : Nat} (h : i < p.rs.length) : p.at i = p.rs[i]'h := by simp [Prt.at, List.getD, h]
theorem Prt.small.at {p : Prt} (h : p.small) (i : Nat) : (p.at i).l.length ≤ 140737488355328 := by
  by_cases hi : i < p.rs.length
  · rw [at_rep hi]
    exact h _ (List.getElem_mem hi)
  · have : p.at i = Rep.zero := by simp [Prt.at, List.getD, List.getElem?_eq_none (by omega : p.rs.length ≤ i)]
    rw [this]
    simp [Rep.zero]

end Go.Proofs.Ytkakagjffafdiaa
