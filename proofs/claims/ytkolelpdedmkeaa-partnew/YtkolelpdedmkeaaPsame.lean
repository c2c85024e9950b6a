/-
  The law's sameInts of two rows that are alike; the document's othersFault.
-/
import Derived.Test.YtkolelpdedmkeaaPfault
namespace Go.Proofs.Ytkolelpdedmkeaa
open Go.RowKit
set_option linter.unusedVariables false
set_option linter.unusedSimpArgs false

theorem RdV.intAt {w : World} {ao : Option Addr} {n cap : Nat} {xs : List Int} (h : RdV w (.slice ao n cap) (xs.map (Value.int .i64))) (i : Nat) (hi : i < xs.length) : ∃ g off, ao = some ⟨g, off, none⟩ ∧ w.cell? ⟨g, off + i, none⟩ = some (.int .i64 (xs.getD i 0)) := by
  obtain ⟨g, off, e, _, hc⟩ := h.cellAt i (by simpa using hi)
  refine ⟨g, off, e, ?_⟩
  rw [hc]
  simp [List.getD, hi]
theorem RdV.len {w : World} {v : Value} {xs : List Value} (h : RdV w v xs) : ∃ ao cap, v = .slice ao xs.length cap ∧ (xs.length : Int) ≤ 9223372036854775807 := by
  obtain ⟨ao, cap, e, a1, a2, _⟩ := h
  unfold maxLen at a2
  exact ⟨ao, cap, e, by omega⟩

set_option maxRecDepth 100000 in
set_option maxHeartbeats 1000000 in
theorem sameInts_same (xs : List Int) (v u : Value) (w : World) (hv : RdV w v (xs.map (Value.int .i64))) (hu : RdV w u (xs.map (Value.int .i64))) :
    Calls Try.prog 60 #[v, u] w fun e w' => e = .returned (.bool true) ∧ Below w.heap.size w w' := by
  obtain ⟨a1, c1, rfl, l1⟩ := hv.len
  obtain ⟨a2, c2, rfl, _⟩ := hu.len
  rw [List.length_map] at *
  have hne : ((xs.length : Int) != xs.length) = false := by simp
  have HV : Hid _ := hv
  have HU : Hid _ := hu
  clear hv hu
  go_enter Try.func60, Try.ntmps60
  go_wp2
  go_loopw [5] (fun i wr => ∃ k : Nat, k ≤ xs.length ∧ i = .int .i64 k ∧ ∃ q, wr = w.drewN q) (fun i _ => xs.length - (intOf i).toNat)
  case atStart => exact ⟨0, by omega, rfl, 0, rfl⟩
  case round =>
    obtain ⟨k, hk, rfl, q, rfl⟩ := hrel
    by_cases hlt : k < xs.length
    · obtain ⟨g1, o1, rfl, m1⟩ := RdV.intAt HV.out k hlt
      obtain ⟨g2, o2, rfl, m2⟩ := RdV.intAt HU.out k hlt
      have hlt' : (k : Int) < xs.length := by omega
      generalize xs.getD k 0 = x at *
      have hx : (x != x) = false := by simp
      go_wp2
      go_quiet (fail)
      go_wp2
      go_roundw
      case rel => exact ⟨k + 1, by omega, by go_num, q + nq, rfl⟩
      case measure => simp [intOf]; omega
    · go_wp2
      go_ret
      exact ⟨rfl, below_drewN (Below.refl _ _) _⟩

end Go.Proofs.Ytkolelpdedmkeaa
