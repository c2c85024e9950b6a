/-
  The walk of the document's numberAt: a number in as few bytes as may be.
-/
import Derived.Test.YtkakagjffafdiaaDnum
namespace Go.Proofs.Ytkakagjffafdiaa
open Go.RowKit
set_option linter.unusedVariables false

/-- What numberAt answers. -/
def numR (l : List Int) (k : Nat) : Int × Int :=
  match minF 5 true (l.drop k) with
  | none => (0, -1)
  | some (n, r) => (n, (l.length : Int) - r.length)

def MinSt (l : List Int) (k : Nat) (acc : Int) : Prop :=
  k ≤ 5 ∧ k ≤ l.length ∧ 0 ≤ acc ∧ acc < 128 ^ k ∧ minF 5 true l = match minF (5 - k) (k == 0) (l.drop k) with
    | none => none
    | some (n, r) => some (acc + 128 ^ k * n, r)

theorem minSt_0 (l : List Int) : MinSt l 0 0 := by
  refine ⟨by omega, by omega, by omega, by simp, ?_⟩
  simp only [Nat.sub_zero, List.drop_zero, Int.pow_zero, Int.zero_add, Int.one_mul, beq_self_eq_true]
  cases minF 5 true l <;> simp
theorem minSt_end (l : List Int) (k : Nat) (acc : Int) (h : MinSt l k acc) (hk : k < 5) (hl : k < l.length) (hc : l.getD k 0 < 128) :
    minF 5 true l = if l.getD k 0 = 0 ∧ (k == 0) = false then none else some (acc + 128 ^ k * l.getD k 0, l.drop (k + 1)) := by
  obtain ⟨h1, h2, h3, h4, h5⟩ := h
  rw [h5, drop_cons_getD l k hl, show 5 - k = (4 - k) + 1 by omega]
  simp only [minF]
  rw [if_pos hc]
  by_cases hz : l.getD k 0 = 0 ∧ (k == 0) = false
  · rw [if_pos hz, if_pos hz]
  · rw [if_neg hz, if_neg hz]
theorem minSt_next (l : List Int) (k : Nat) (acc : Int) (h : MinSt l k acc) (hk : k < 5) (hl : k < l.length) (hb : Bytes l) (hc : ¬ l.getD k 0 < 128) : MinSt l (k + 1) (acc + 128 ^ k * (l.getD k 0 - 128)) := by
  obtain ⟨h1, h2, h3, h4, h5⟩ := h
  have hx := bytes_getD hb k
  have hp : (0 : Int) < 128 ^ k := Int.pow_pos (by omega)
  have e1 : (0 : Int) ≤ 128 ^ k * (l.getD k 0 - 128) := Int.mul_nonneg (by omega) (by omega)
  have e2 : (128 : Int) ^ k * (l.getD k 0 - 128) ≤ 128 ^ k * 127 := Int.mul_le_mul_of_nonneg_left (by omega) (by omega)
  refine ⟨by omega, by omega, by omega, by rw [Int.pow_succ]; omega, ?_⟩
  rw [h5, drop_cons_getD l k hl, show 5 - k = (4 - k) + 1 by omega, show 5 - (k + 1) = 4 - k by omega]
  simp only [minF]
  rw [if_neg hc, show (k + 1 == 0) = false from by simp]
  cases minF (4 - k) false (l.drop (k + 1)) with
  | none => rfl
  | some p =>
    obtain ⟨n, r⟩ := p
    simp only [Option.some.injEq, Prod.mk.injEq, and_true]
    rw [Int.pow_succ, Int.mul_add, Int.mul_assoc]
    omega
theorem minSt_none (l : List Int) (k : Nat) (acc : Int) (h : MinSt l k acc) (hk : k = 5 ∨ k = l.length) : minF 5 true l = none := by
  obtain ⟨h1, h2, h3, h4, h5⟩ := h
  rw [h5]
  rcases hk with rfl | rfl
  · simp [minF]
  · rw [List.drop_length]
    cases 5 - l.length <;> simp [minF]
theorem numR_some {l : List Int} {k : Nat} {n : Int} {r : List Int} (h : minF 5 true (l.drop k) = some (n, r)) : numR l k = (n, (l.length : Int) - r.length) := by simp [numR, h]
theorem numR_none {l : List Int} {k : Nat} (h : minF 5 true (l.drop k) = none) : numR l k = (0, -1) := by simp [numR, h]

theorem val_eq {k : IntKind} {a b : Int} (h : a = b) : Value.int k a = Value.int k b := by rw [h]
theorem min_next {l : List Int} {k : Nat} {acc c : Int} (H : MinSt l k acc) (hk : k < 5) (hl : k < l.length) (hb : Bytes l) (hc : l.getD k 0 = c) (h : ¬ c < 128) : Hid (MinSt l (k + 1) (acc + 128 ^ k * (c % 128))) := by
  have hx := bytes_getD hb k
  have e : c % 128 = l.getD k 0 - 128 := by omega
  rw [e]
  exact minSt_next l k acc H hk hl hb (by omega)

set_option maxRecDepth 100000 in
set_option maxHeartbeats 2000000 in
theorem numberAt_some (l : List Int) (at_ : Nat) (b off cap : Nat) (w : World) (h0 : at_ < l.length) (hl : l.length ≤ 140737488355328) (hb : Bytes l) (hc : ∀ i, i < l.length → w.cell? ⟨b, off + i, none⟩ = some (.int .u8 (l.getD i 0))) :
    Calls Try.prog 135 #[.slice (some ⟨b, off, none⟩) l.length cap, .int .i64 at_] w fun e w' => e = .returned (.tuple #[.int .i64 (numR l at_).1, .int .i64 (numR l at_).2]) ∧ w' = w := by
  go_enter Try.func135, Try.ntmps135
  go_wp2
  go_loop [6, 7, 8] (fun n u i => ∃ (k : Nat) (acc : Int), k ≤ 5 ∧ at_ + k ≤ l.length ∧ i = .int .i64 k ∧ n = .int .i64 acc ∧ u = .int .i64 (128 ^ k) ∧ Hid (MinSt (l.drop at_) k acc)) (fun _ _ i => 5 - (intOf i).toNat)
  case atStart => exact ⟨0, 0, Nat.zero_le _, by omega, rfl, rfl, rfl, minSt_0 _⟩
  case round =>
    obtain ⟨k, acc, hk, hk2, rfl, rfl, rfl, H⟩ := hrel
    have ha := H.out.2.2.1
    have ha2 : Hid (acc < 128 ^ k) := H.out.2.2.2.1
    have hla : Hid ((l.drop at_).length = l.length - at_) := show (l.drop at_).length = l.length - at_ by simp
    by_cases hlt : k < 5 ∧ at_ + k < l.length
    · obtain ⟨hk5, hkl⟩ := hlt
      rcases (show k = 0 ∨ k = 1 ∨ k = 2 ∨ k = 3 ∨ k = 4 from by omega) with rfl | rfl | rfl | rfl | rfl
      · have hcx := hc (at_ + 0) (by omega)
        have hx := bytes_getD hb (at_ + 0)
        generalize hcd : l.getD (at_ + 0) 0 = c at hcx hx
        have HC : Hid ((l.drop at_).getD 0 0 = c) := by (show (l.drop at_).getD 0 0 = c; rw [← hcd]; simp [List.getD])
        have hlt' : Hid (0 < (l.drop at_).length) := show 0 < (l.drop at_).length by (simp; omega)
        have ha3 : acc < 1 := by (have := ha2.out; simpa using this)
        clear hc hcd
        simp only [Nat.add_zero] at hcx
        by_cases h128 : c < 128
        · by_cases hz : c = 0
          · subst hz
            go_wp2
            go_ret2
            have e := minSt_end _ 0 acc H.out (by omega) hlt'.out (by rw [HC.out]; omega)
            rw [HC.out] at e
            rw [if_neg (by simp)] at e
            rw [numR_some e]
            exact ⟨num_ret (by simp) (by simp; omega), rfl⟩
          · have hz' : (c == 0) = false := by simp [hz]
            go_wp2
            go_ret2
            have e := minSt_end _ 0 acc H.out (by omega) hlt'.out (by rw [HC.out]; omega)
            rw [HC.out] at e
            rw [if_neg (by simp [hz])] at e
            rw [numR_some e]
            exact ⟨num_ret (by simp; omega) (by simp; omega), rfl⟩
        · go_wp2
          go_round
          case rel => exact ⟨1, acc + 128 ^ 0 * (c % 128), by omega, by omega, rfl, val_eq (by simp <;> omega), val_eq (by simp), min_next H.out (by omega) hlt'.out (bytes_drop hb _) HC.out (by omega)⟩
          case measure => simp [intOf]
      · have hcx := hc (at_ + 1) (by omega)
        have hx := bytes_getD hb (at_ + 1)
        generalize hcd : l.getD (at_ + 1) 0 = c at hcx hx
        have HC : Hid ((l.drop at_).getD 1 0 = c) := by (show (l.drop at_).getD 1 0 = c; rw [← hcd]; simp [List.getD])
        have hlt' : Hid (1 < (l.drop at_).length) := show 1 < (l.drop at_).length by (simp; omega)
        have ha3 : acc < 128 := by (have := ha2.out; simpa using this)
        clear hc hcd
        skip
        by_cases h128 : c < 128
        · by_cases hz : c = 0
          · subst hz
            go_wp2
            go_ret2
            have e := minSt_end _ 1 acc H.out (by omega) hlt'.out (by rw [HC.out]; omega)
            rw [HC.out] at e
            rw [if_pos (by simp)] at e
            rw [numR_none e]
            exact ⟨rfl, rfl⟩
          · have hz' : (c == 0) = false := by simp [hz]
            go_wp2
            go_ret2
            have e := minSt_end _ 1 acc H.out (by omega) hlt'.out (by rw [HC.out]; omega)
            rw [HC.out] at e
            rw [if_neg (by simp [hz])] at e
            rw [numR_some e]
            exact ⟨num_ret (by simp; omega) (by simp; omega), rfl⟩
        · go_wp2
          go_round
          case rel => exact ⟨2, acc + 128 ^ 1 * (c % 128), by omega, by omega, rfl, val_eq (by simp <;> omega), val_eq (by simp), min_next H.out (by omega) hlt'.out (bytes_drop hb _) HC.out (by omega)⟩
          case measure => simp [intOf]
      · have hcx := hc (at_ + 2) (by omega)
        have hx := bytes_getD hb (at_ + 2)
        generalize hcd : l.getD (at_ + 2) 0 = c at hcx hx
        have HC : Hid ((l.drop at_).getD 2 0 = c) := by (show (l.drop at_).getD 2 0 = c; rw [← hcd]; simp [List.getD])
        have hlt' : Hid (2 < (l.drop at_).length) := show 2 < (l.drop at_).length by (simp; omega)
        have ha3 : acc < 16384 := by (have := ha2.out; simpa using this)
        clear hc hcd
        skip
        by_cases h128 : c < 128
        · by_cases hz : c = 0
          · subst hz
            go_wp2
            go_ret2
            have e := minSt_end _ 2 acc H.out (by omega) hlt'.out (by rw [HC.out]; omega)
            rw [HC.out] at e
            rw [if_pos (by simp)] at e
            rw [numR_none e]
            exact ⟨rfl, rfl⟩
          · have hz' : (c == 0) = false := by simp [hz]
            go_wp2
            go_ret2
            have e := minSt_end _ 2 acc H.out (by omega) hlt'.out (by rw [HC.out]; omega)
            rw [HC.out] at e
            rw [if_neg (by simp [hz])] at e
            rw [numR_some e]
            exact ⟨num_ret (by simp; omega) (by simp; omega), rfl⟩
        · go_wp2
          go_round
          case rel => exact ⟨3, acc + 128 ^ 2 * (c % 128), by omega, by omega, rfl, val_eq (by simp <;> omega), val_eq (by simp), min_next H.out (by omega) hlt'.out (bytes_drop hb _) HC.out (by omega)⟩
          case measure => simp [intOf]
      · have hcx := hc (at_ + 3) (by omega)
        have hx := bytes_getD hb (at_ + 3)
        generalize hcd : l.getD (at_ + 3) 0 = c at hcx hx
        have HC : Hid ((l.drop at_).getD 3 0 = c) := by (show (l.drop at_).getD 3 0 = c; rw [← hcd]; simp [List.getD])
        have hlt' : Hid (3 < (l.drop at_).length) := show 3 < (l.drop at_).length by (simp; omega)
        have ha3 : acc < 2097152 := by (have := ha2.out; simpa using this)
        clear hc hcd
        skip
        by_cases h128 : c < 128
        · by_cases hz : c = 0
          · subst hz
            go_wp2
            go_ret2
            have e := minSt_end _ 3 acc H.out (by omega) hlt'.out (by rw [HC.out]; omega)
            rw [HC.out] at e
            rw [if_pos (by simp)] at e
            rw [numR_none e]
            exact ⟨rfl, rfl⟩
          · have hz' : (c == 0) = false := by simp [hz]
            go_wp2
            go_ret2
            have e := minSt_end _ 3 acc H.out (by omega) hlt'.out (by rw [HC.out]; omega)
            rw [HC.out] at e
            rw [if_neg (by simp [hz])] at e
            rw [numR_some e]
            exact ⟨num_ret (by simp; omega) (by simp; omega), rfl⟩
        · go_wp2
          go_round
          case rel => exact ⟨4, acc + 128 ^ 3 * (c % 128), by omega, by omega, rfl, val_eq (by simp <;> omega), val_eq (by simp), min_next H.out (by omega) hlt'.out (bytes_drop hb _) HC.out (by omega)⟩
          case measure => simp [intOf]
      · have hcx := hc (at_ + 4) (by omega)
        have hx := bytes_getD hb (at_ + 4)
        generalize hcd : l.getD (at_ + 4) 0 = c at hcx hx
        have HC : Hid ((l.drop at_).getD 4 0 = c) := by (show (l.drop at_).getD 4 0 = c; rw [← hcd]; simp [List.getD])
        have hlt' : Hid (4 < (l.drop at_).length) := show 4 < (l.drop at_).length by (simp; omega)
        have ha3 : acc < 268435456 := by (have := ha2.out; simpa using this)
        clear hc hcd
        skip
        by_cases h128 : c < 128
        · by_cases hz : c = 0
          · subst hz
            go_wp2
            go_ret2
            have e := minSt_end _ 4 acc H.out (by omega) hlt'.out (by rw [HC.out]; omega)
            rw [HC.out] at e
            rw [if_pos (by simp)] at e
            rw [numR_none e]
            exact ⟨rfl, rfl⟩
          · have hz' : (c == 0) = false := by simp [hz]
            go_wp2
            go_ret2
            have e := minSt_end _ 4 acc H.out (by omega) hlt'.out (by rw [HC.out]; omega)
            rw [HC.out] at e
            rw [if_neg (by simp [hz])] at e
            rw [numR_some e]
            exact ⟨num_ret (by simp; omega) (by simp; omega), rfl⟩
        · go_wp2
          go_round
          case rel => exact ⟨5, acc + 128 ^ 4 * (c % 128), by omega, by omega, rfl, val_eq (by simp <;> omega), val_eq (by simp), min_next H.out (by omega) hlt'.out (bytes_drop hb _) HC.out (by omega)⟩
          case measure => simp [intOf]
    · have e : Hid (numR l at_ = (0, -1)) := numR_none (minSt_none _ k acc H.out (by rw [hla.out]; omega))
      by_cases hk5 : k < 5
      all_goals
        clear hc
        go_wp2
        go_ret2
        rw [e.out]
        exact ⟨rfl, rfl⟩

set_option maxRecDepth 100000 in
set_option maxHeartbeats 400000 in
theorem numberAt_end (n : Nat) (ao : Option Addr) (cap : Nat) (w : World) (hl : n ≤ 140737488355328) :
    Calls Try.prog 135 #[.slice ao n cap, .int .i64 n] w fun e w' => e = .returned (.tuple #[.int .i64 0, .int .i64 (-1)]) ∧ w' = w := by
  go_enter Try.func135, Try.ntmps135
  go_wp2
  refine wp_loop_rounds 1 ?_
  rw [rounds_succ]
  go_wp2
  go_ret2
  exact ⟨rfl, rfl⟩

theorem numberAt_any (l : List Int) (at_ : Nat) (v : Value) (w : World) (h0 : at_ ≤ l.length) (hl : l.length ≤ 140737488355328) (h : Rd w v l) :
    Calls Try.prog 135 #[v, .int .i64 at_] w fun e w' => e = .returned (.tuple #[.int .i64 (numR l at_).1, .int .i64 (numR l at_).2]) ∧ w' = w := by
  obtain ⟨hb, ao, cap, rfl, h1, h2, h3, hc⟩ := h
  by_cases hlt : at_ < l.length
  · obtain ⟨b, off, rfl, hc'⟩ := hc (by omega)
    exact numberAt_some l at_ b off cap w hlt hl hb hc'
  · have e : at_ = l.length := by omega
    subst e
    rw [numR_none (by simp [minF])]
    exact numberAt_end l.length ao cap w hl

end Go.Proofs.Ytkakagjffafdiaa
