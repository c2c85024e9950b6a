/-
  The helpers of the view laws: plain, entries (a copy), sameTexts (of one list twice).
-/
import Derived.Test.YtkakagjffafdiaaVread
namespace Go.Proofs.Ytkakagjffafdiaa
open Go.RowKit
set_option linter.unusedVariables false
set_option linter.unusedSimpArgs false

/-- A slice of texts that reads as ts. -/
def RdS (w : World) (v : Value) (ts : List ByteArray) : Prop :=
  ∃ ao cap, v = .slice ao ts.length cap ∧ (0 < ts.length → ∃ g, ao = some ⟨g, 0, none⟩ ∧ ∀ i, (h : i < ts.length) → w.cell? ⟨g, i, none⟩ = some (.string (ts[i]'h)))
theorem OwnS.rd {B : Nat} {v : Value} {ts : List ByteArray} {w : World} (h : OwnS B v ts w) : RdS w v ts := by
  obtain ⟨h1, h4⟩ := h
  rcases h1.2 with ⟨rfl, h0⟩ | ⟨g, cap, cur, rfl, r2, r3, r4, r5, r6⟩
  · exact ⟨none, 0, by rw [h0], fun h => by omega⟩
  · refine ⟨_, _, rfl, fun _ => ⟨g, rfl, fun i hi => ?_⟩⟩
    have := h1.cellAt i (by omega)
    rw [this]
    simp [hi]

set_option maxRecDepth 100000 in
set_option maxHeartbeats 1000000 in
theorem sameTexts_some (ts : List ByteArray) (g1 c1 g2 c2 : Nat) (w : World) (hl : (ts.length : Int) ≤ 1099511627776)
    (h1 : ∀ i, (h : i < ts.length) → w.cell? ⟨g1, i, none⟩ = some (.string (ts[i]'h))) (h2 : ∀ i, (h : i < ts.length) → w.cell? ⟨g2, i, none⟩ = some (.string (ts[i]'h))) :
    Calls Try.prog 51 #[.slice (some ⟨g1, 0, none⟩) ts.length c1, .slice (some ⟨g2, 0, none⟩) ts.length c2] w fun e w' => e = .returned (.bool true) ∧ Below w.heap.size w w' := by
  have hne : ((ts.length : Int) != ts.length) = false := by simp
  go_enter Try.func51, Try.ntmps51
  go_wp2
  go_loopw [5] (fun i wr => ∃ k : Nat, k ≤ ts.length ∧ i = .int .i64 k ∧ ∃ q, wr = w.drewN q) (fun i _ => ts.length - (intOf i).toNat)
  case atStart => exact ⟨0, by omega, rfl, 0, rfl⟩
  case round =>
    obtain ⟨k, hk, rfl, q, rfl⟩ := hrel
    by_cases hlt : k < ts.length
    · have A := h1 k hlt
      have B := h2 k hlt
      clear h1 h2
      generalize ts[k] = t at *
      go_wp2
      go_quiet (fail)
      go_wp2
      go_roundw
      case rel => exact ⟨k + 1, by omega, by go_num, q + nq, rfl⟩
      case measure => simp [intOf]; omega
    · clear h1 h2
      go_wp2
      go_ret
      exact ⟨rfl, below_drewN (Below.refl _ _) _⟩

set_option maxRecDepth 100000 in
set_option maxHeartbeats 400000 in
theorem sameTexts_none (a1 a2 : Option Addr) (c1 c2 : Nat) (w : World) :
    Calls Try.prog 51 #[.slice a1 0 c1, .slice a2 0 c2] w fun e w' => e = .returned (.bool true) ∧ Below w.heap.size w w' := by
  go_enter Try.func51, Try.ntmps51
  go_wp2
  refine wp_loop_rounds 1 ?_
  rw [rounds_succ]
  go_wp2
  go_ret
  exact ⟨rfl, Below.refl _ _⟩

theorem sameTexts_any (ts : List ByteArray) (v u : Value) (w : World) (hl : (ts.length : Int) ≤ 1099511627776) (h1 : RdS w v ts) (h2 : RdS w u ts) :
    Calls Try.prog 51 #[v, u] w fun e w' => e = .returned (.bool true) ∧ Below w.heap.size w w' := by
  obtain ⟨a1, c1, rfl, h1⟩ := h1
  obtain ⟨a2, c2, rfl, h2⟩ := h2
  by_cases h0 : 0 < ts.length
  · obtain ⟨g1, rfl, h1'⟩ := h1 h0
    obtain ⟨g2, rfl, h2'⟩ := h2 h0
    exact sameTexts_some ts g1 c1 g2 c2 w hl h1' h2'
  · have hl : ts = [] := List.eq_nil_of_length_eq_zero (by omega)
    subst hl
    exact sameTexts_none a1 a2 c1 c2 w

/-- Within the bounds, as the law's own test says it. -/
def plainB (e : Ent) : Bool := decide (1 ≤ e.k ∧ e.k ≤ 3 ∧ 0 ≤ e.b ∧ e.b ≤ 1073741824 ∧ 0 ≤ e.c ∧ e.c ≤ 1073741824 ∧ 0 ≤ e.d ∧ e.d ≤ 1073741824)

end Go.Proofs.Ytkakagjffafdiaa
