/-
  The walks of the two sums over a slice of bytes.
-/
import Derived.Test.YtkakagjffafdiaaWcheck
import Derived.Test.YtkakagjffafdiaaWmath
namespace Go.Proofs.Ytkakagjffafdiaa
open Go.RowKit

/-- A slice of bytes that reads as l. -/
def Rd (w : World) (v : Value) (l : List Int) : Prop :=
  Bytes l ∧ ∃ ao cap, v = .slice ao l.length cap ∧ l.length ≤ cap ∧ cap ≤ maxLen ∧ (ao = none → cap = 0) ∧ (0 < l.length → ∃ b off, ao = some ⟨b, off, none⟩ ∧ ∀ i, i < l.length → w.cell? ⟨b, off + i, none⟩ = some (.int .u8 (l.getD i 0)))

theorem ret_int {k : IntKind} {a b : Int} (h : a = b) : Ending.returned (.int k a) = .returned (.int k b) := by rw [h]

theorem sum_step (l : List Int) (k : Nat) (hb : Bytes l) (hl : l.length ≤ 300) (hlt : k < l.length) :
    wrap64 (sumFrom 0 (l.take k) + wrap64 (((k : Int) + 1) * wrap64 (l[k]'hlt))) = sumFrom 0 (l.take (k + 1)) := by
  have h1 := sum_small (l.take k) (bytes_take hb k) (by simp; omega)
  have h2 := sum_small (l.take (k + 1)) (bytes_take hb (k + 1)) (by simp; omega)
  have h3 := sum_snoc l k hlt
  have e : l.getD k 0 = l[k] := by simp [List.getD, hlt]
  have hx := bytes_getD hb k
  rw [e] at h3 hx
  rw [w64 (l[k]'hlt) (by omega)]
  generalize ((k : Int) + 1) * l[k] = m at *
  rw [w64 m (by omega), w64 _ (by omega)]
  omega

set_option maxRecDepth 100000 in
set_option maxHeartbeats 400000 in
theorem sum_some (l : List Int) (b off cap : Nat) (w : World) (hl : l.length ≤ 300) (hb : Bytes l) (hc : ∀ i, i < l.length → w.cell? ⟨b, off + i, none⟩ = some (.int .u8 (l.getD i 0))) :
    Calls Try.prog 130 #[.slice (some ⟨b, off, none⟩) l.length cap] w fun e w' => e = .returned (.int .i64 (sumL l)) ∧ w' = w := by
  go_enter Try.func130, Try.ntmps130
  go_wp2
  go_loop [3, 8] (fun s i => ∃ k : Nat, k ≤ l.length ∧ i = .int .i64 k ∧ s = .int .i64 (sumFrom 0 (l.take k))) (fun _ i => l.length - (intOf i).toNat)
  case atStart => exact ⟨0, Nat.zero_le _, rfl, rfl⟩
  case round =>
    obtain ⟨k, hk, rfl, rfl⟩ := hrel
    have hs := sum_small (l.take k) (bytes_take hb k) (by simp; omega)
    by_cases hlt : k < l.length
    · have hcx := hc k hlt
      have hx := bytes_getD hb k
      clear hc
      go_wp2
      go_round
      case rel => exact ⟨k + 1, by omega, by go_num, by rw [sum_step l k hb hl hlt]⟩
      case measure => simp [intOf]; omega
    · go_wp2
      go_ret
      exact ⟨by rw [List.take_of_length_le (by omega)]; rfl, rfl⟩

set_option maxRecDepth 100000 in
set_option maxHeartbeats 400000 in
theorem sum_none (ao : Option Addr) (cap : Nat) (w : World) :
    Calls Try.prog 130 #[.slice ao 0 cap] w fun e w' => e = .returned (.int .i64 0) ∧ w' = w := by
  go_enter Try.func130, Try.ntmps130
  go_wp2
  refine wp_loop_rounds 1 ?_
  rw [rounds_succ]
  go_wp2
  go_ret
  exact ⟨rfl, rfl⟩

theorem sum_any (l : List Int) (v : Value) (w : World) (hl : l.length ≤ 300) (h : Rd w v l) :
    Calls Try.prog 130 #[v] w fun e w' => e = .returned (.int .i64 (sumL l)) ∧ w' = w := by
  obtain ⟨hb, ao, cap, rfl, _, _, _, hc⟩ := h
  by_cases h0 : 0 < l.length
  · obtain ⟨b, off, rfl, hc'⟩ := hc h0
    exact sum_some l b off cap w hl hb hc'
  · have : l = [] := List.eq_nil_of_length_eq_zero (by omega)
    subst this
    exact sum_none ao cap w

set_option maxRecDepth 100000 in
set_option maxHeartbeats 400000 in
theorem sumOf_some (l : List Int) (b off cap : Nat) (w : World) (hl : l.length ≤ 300) (hb : Bytes l) (hc : ∀ i, i < l.length → w.cell? ⟨b, off + i, none⟩ = some (.int .u8 (l.getD i 0))) :
    Calls Try.prog 127 #[.slice (some ⟨b, off, none⟩) l.length cap] w fun e w' => e = .returned (.int .i64 (sumL l)) ∧ w' = w := by
  go_enter Try.func127, Try.ntmps127
  go_wp2
  go_loop [3, 4] (fun s i => ∃ k : Nat, k ≤ l.length ∧ i = .int .i64 k ∧ s = .int .i64 (sumFrom 0 (l.take k))) (fun _ i => l.length - (intOf i).toNat)
  case atStart => exact ⟨0, Nat.zero_le _, rfl, rfl⟩
  case round =>
    obtain ⟨k, hk, rfl, rfl⟩ := hrel
    have hs := sum_small (l.take k) (bytes_take hb k) (by simp; omega)
    by_cases hlt : k < l.length
    · have hcx := hc k hlt
      have hx := bytes_getD hb k
      clear hc
      go_wp2
      go_round
      case rel => exact ⟨k + 1, by omega, by go_num, by rw [sum_step l k hb hl hlt]⟩
      case measure => simp [intOf]; omega
    · go_wp2
      go_ret
      exact ⟨by rw [List.take_of_length_le (by omega)]; rfl, rfl⟩

set_option maxRecDepth 100000 in
set_option maxHeartbeats 400000 in
theorem sumOf_none (ao : Option Addr) (cap : Nat) (w : World) :
    Calls Try.prog 127 #[.slice ao 0 cap] w fun e w' => e = .returned (.int .i64 0) ∧ w' = w := by
  go_enter Try.func127, Try.ntmps127
  go_wp2
  refine wp_loop_rounds 1 ?_
  rw [rounds_succ]
  go_wp2
  go_ret
  exact ⟨rfl, rfl⟩

theorem sumOf_any (l : List Int) (v : Value) (w : World) (hl : l.length ≤ 300) (h : Rd w v l) :
    Calls Try.prog 127 #[v] w fun e w' => e = .returned (.int .i64 (sumL l)) ∧ w' = w := by
  obtain ⟨hb, ao, cap, rfl, _, _, _, hc⟩ := h
  by_cases h0 : 0 < l.length
  · obtain ⟨b, off, rfl, hc'⟩ := hc h0
    exact sumOf_some l b off cap w hl hb hc'
  · have : l = [] := List.eq_nil_of_length_eq_zero (by omega)
    subst this
    exact sumOf_none ao cap w

end Go.Proofs.Ytkakagjffafdiaa
