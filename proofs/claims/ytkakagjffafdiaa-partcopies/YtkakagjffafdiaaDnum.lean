/-
  The walks of the two ways to read a number.
-/
import Derived.Test.YtkakagjffafdiaaDmath
import Derived.Laws.BitsAllLaws
namespace Go.Proofs.Ytkakagjffafdiaa
open Go.RowKit
set_option linter.unusedVariables false

/-- What decodeNumber answers. -/
def numW (l : List Int) : Int × Nat :=
  match rawF 5 l with
  | none => (0, 0)
  | some (n, r) => (n, l.length - r.length)

/-- How far one has come: so many bytes that say that another one follows, and what they hold. -/
def NumSt (l : List Int) (k : Nat) (acc : Int) : Prop :=
  k ≤ 5 ∧ k ≤ l.length ∧ 0 ≤ acc ∧ acc < 128 ^ k ∧ rawF 5 l = match rawF (5 - k) (l.drop k) with
    | none => none
    | some (n, r) => some (acc + 128 ^ k * n, r)

theorem numSt_0 (l : List Int) : NumSt l 0 0 := by
  refine ⟨by omega, by omega, by omega, by simp, ?_⟩
  simp only [Nat.sub_zero, List.drop_zero, Int.pow_zero, Int.zero_add, Int.one_mul]
  cases rawF 5 l <;> simp

theorem drop_cons_getD (l : List Int) (k : Nat) (h : k < l.length) : l.drop k = l.getD k 0 :: l.drop (k + 1) := by
  rw [List.drop_eq_getElem_cons h]
  simp [List.getD, h]

theorem numSt_end (l : List Int) (k : Nat) (acc : Int) (h : NumSt l k acc) (hk : k < 5) (hl : k < l.length) (hc : l.getD k 0 < 128) : rawF 5 l = some (acc + 128 ^ k * l.getD k 0, l.drop (k + 1)) := by
  obtain ⟨h1, h2, h3, h4, h5⟩ := h
  rw [h5, drop_cons_getD l k hl, show 5 - k = (4 - k) + 1 by omega]
  simp only [rawF]
  rw [if_pos hc]
theorem numSt_next (l : List Int) (k : Nat) (acc : Int) (h : NumSt l k acc) (hk : k < 5) (hl : k < l.length) (hb : Bytes l) (hc : ¬ l.getD k 0 < 128) : NumSt l (k + 1) (acc + 128 ^ k * (l.getD k 0 - 128)) := by
  obtain ⟨h1, h2, h3, h4, h5⟩ := h
  have hx := bytes_getD hb k
  have hp : (0 : Int) < 128 ^ k := Int.pow_pos (by omega)
  have e1 : (0 : Int) ≤ 128 ^ k * (l.getD k 0 - 128) := Int.mul_nonneg (by omega) (by omega)
  have e2 : (128 : Int) ^ k * (l.getD k 0 - 128) ≤ 128 ^ k * 127 := Int.mul_le_mul_of_nonneg_left (by omega) (by omega)
  refine ⟨by omega, by omega, by omega, by rw [Int.pow_succ]; omega, ?_⟩
  rw [h5, drop_cons_getD l k hl, show 5 - k = (4 - k) + 1 by omega, show 5 - (k + 1) = 4 - k by omega]
  simp only [rawF]
  rw [if_neg hc]
  cases rawF (4 - k) (l.drop (k + 1)) with
  | none => rfl
  | some p =>
    obtain ⟨n, r⟩ := p
    simp only [Option.some.injEq, Prod.mk.injEq, and_true]
    rw [Int.pow_succ, Int.mul_add, Int.mul_assoc]
    omega
theorem numSt_none (l : List Int) (k : Nat) (acc : Int) (h : NumSt l k acc) (hk : k = 5 ∨ k = l.length) : rawF 5 l = none := by
  obtain ⟨h1, h2, h3, h4, h5⟩ := h
  rw [h5]
  rcases hk with rfl | rfl
  · simp [rawF]
  · rw [List.drop_length]
    cases 5 - l.length <;> simp [rawF]

theorem i64_or_nat (a b : Nat) (ha : a < 4611686018427387904) (hb : b < 4611686018427387904) : bits .or .i64 (a : Int) (b : Int) = ((a ||| b : Nat) : Int) := by
  have hx : a ||| b < 2 ^ 62 := Nat.or_lt_two_pow (by omega) (by omega)
  show IntKind.i64.wrap ((BitVec.ofInt 64 (a : Int) ||| BitVec.ofInt 64 (b : Int)).toNat : Int) = _
  rw [BitVec.toNat_or, ofInt_u64 a (by omega), ofInt_u64 b (by omega)]
  simp only [IntKind.wrap, IntKind.bits, IntKind.signed]
  simp
  omega
theorem u8_low7 (c : Int) (h : 0 ≤ c ∧ c ≤ 255) : bits .andNot .u8 c 128 = c % 128 := by
  rw [u8_andNot c 128 (by omega) (by omega) (by omega) (by omega)]
  have : c.toNat &&& (255 - (128 : Int).toNat) = c.toNat % 128 := nat_mask7 c.toNat
  rw [this]
  omega
theorem or_step (k : Nat) (hk : k ≤ 4) (acc c : Int) (h0 : 0 ≤ acc) (h1 : acc < 128 ^ k) (hc : 0 ≤ c ∧ c ≤ 255) :
    bits .or .i64 acc (wrap64 (wrap64 (bits .andNot .u8 c 128) * 128 ^ k)) = acc + 128 ^ k * (c % 128) := by
  rw [u8_low7 c hc, w64 (c % 128) (by omega)]
  have hp : (128 : Int) ^ k ≤ 268435456 := by
    rcases (show k = 0 ∨ k = 1 ∨ k = 2 ∨ k = 3 ∨ k = 4 from by omega) with rfl | rfl | rfl | rfl | rfl <;> simp
  have hp0 : (0 : Int) < 128 ^ k := Int.pow_pos (by omega)
  have e1 : (0 : Int) ≤ c % 128 * 128 ^ k := Int.mul_nonneg (by omega) (by omega)
  have e2 : c % 128 * (128 : Int) ^ k ≤ 127 * 128 ^ k := Int.mul_le_mul_of_nonneg_right (by omega) (by omega)
  rw [w64 _ (by omega)]
  have e3 := i64_or_nat acc.toNat (c % 128 * 128 ^ k).toNat (by omega) (by omega)
  rw [show ((acc.toNat : Nat) : Int) = acc by omega, show (((c % 128 * 128 ^ k).toNat : Nat) : Int) = c % 128 * 128 ^ k by omega] at e3
  rw [e3, Nat.or_comm]
  have e4 : (c % 128 * 128 ^ k).toNat = (c % 128).toNat * 2 ^ (7 * k) := by
    rw [Nat.pow_mul]
    rw [Int.toNat_mul (by omega) (by omega)]
    congr 1
  have e5 : acc.toNat < 2 ^ (7 * k) := by
    have h7 : (2 : Nat) ^ (7 * k) = 128 ^ k := by simp [Nat.pow_mul]
    have : ((128 ^ k : Nat) : Int) = (128 : Int) ^ k := by simp
    rw [h7]
    omega
  rw [nat_join (7 * k) _ _ (by rw [e4]; exact Nat.mul_mod_left _ _) e5, Int.mul_comm (128 ^ k) (c % 128)]
  omega

theorem numW_some {l : List Int} {n : Int} {r : List Int} (h : rawF 5 l = some (n, r)) : numW l = (n, l.length - r.length) := by simp [numW, h]
theorem numW_none {l : List Int} (h : rawF 5 l = none) : numW l = (0, 0) := by simp [numW, h]

theorem num_ret {a b : Int} {m n : Int} (h : a = b) (h2 : m = n) : Ending.returned (.tuple #[.int .i64 a, .int .i64 m]) = .returned (.tuple #[.int .i64 b, .int .i64 n]) := by rw [h, h2]
theorem num_next {l : List Int} {k : Nat} {acc c : Int} (H : NumSt l k acc) (hk : k < 5) (hl : k < l.length) (hb : Bytes l) (hc : l.getD k 0 = c) (h : ¬ c < 128) : Hid (NumSt l (k + 1) (acc + 128 ^ k * (c % 128))) := by
  have hx := bytes_getD hb k
  have e : c % 128 = l.getD k 0 - 128 := by omega
  rw [e]
  exact numSt_next l k acc H hk hl hb (by omega)

set_option maxRecDepth 100000 in
set_option maxHeartbeats 2000000 in
theorem decodeNumber_some (l : List Int) (b off cap : Nat) (w : World) (h0 : 0 < l.length) (hcap : l.length ≤ cap) (hm : cap ≤ maxLen) (hb : Bytes l) (hc : ∀ i, i < l.length → w.cell? ⟨b, off + i, none⟩ = some (.int .u8 (l.getD i 0))) :
    Calls Try.prog 138 #[.slice (some ⟨b, off, none⟩) l.length cap] w fun e w' => e = .returned (.tuple #[.int .i64 (numW l).1, .int .i64 (numW l).2]) ∧ w' = w := by
  unfold maxLen at hm
  by_cases h5 : l.length < 5
  · go_enter Try.func138, Try.ntmps138
    go_wp2
    go_loop [4, 13] (fun n i => ∃ (k : Nat) (acc : Int), k ≤ l.length ∧ i = .int .i64 k ∧ n = .int .i64 acc ∧ Hid (NumSt l k acc)) (fun _ i => 5 - (intOf i).toNat)
    case atStart => exact ⟨0, 0, Nat.zero_le _, rfl, rfl, numSt_0 l⟩
    case round =>
      obtain ⟨k, acc, hk, rfl, rfl, H⟩ := hrel
      have ha := H.out.2.2.1
      have ha2 : Hid (acc < 128 ^ k) := H.out.2.2.2.1
      by_cases hlt : k < l.length
      · skip
        rcases (show k = 0 ∨ k = 1 ∨ k = 2 ∨ k = 3 from by omega) with rfl | rfl | rfl | rfl
        · have hcx := hc 0 hlt
          have hx := bytes_getD hb 0
          generalize hcd : l.getD 0 0 = c at hcx hx
          have HC : Hid (l.getD 0 0 = c) := hcd
          clear hc hcd
          simp only [Nat.add_zero] at hcx
          have E : Hid (bits .or .i64 acc (wrap64 (wrap64 (bits .andNot .u8 c 128))) = acc + 128 ^ 0 * (c % 128)) := show bits .or .i64 acc (wrap64 (wrap64 (bits .andNot .u8 c 128))) = acc + 128 ^ 0 * (c % 128) by (have := or_step 0 (by omega) acc c ha ha2.out hx; simpa using this)
          by_cases h128 : c < 128
          · go_wp2
            go_ret2
            have e := numW_some (numSt_end l 0 acc H.out (by omega) hlt (by rw [HC.out]; exact h128))
            rw [e, E.out, HC.out]
            exact ⟨num_ret (by omega) (by simp; omega), rfl⟩
          · go_wp2
            go_round
            case rel => exact ⟨1, acc + 128 ^ 0 * (c % 128), by omega, rfl, by rw [E.out], num_next H.out (by omega) hlt hb HC.out (by omega)⟩
            case measure => simp [intOf]
        · have hcx := hc 1 hlt
          have hx := bytes_getD hb 1
          generalize hcd : l.getD 1 0 = c at hcx hx
          have HC : Hid (l.getD 1 0 = c) := hcd
          clear hc hcd
          skip
          have E : Hid (bits .or .i64 acc (wrap64 (wrap64 (bits .andNot .u8 c 128) * 128)) = acc + 128 ^ 1 * (c % 128)) := show bits .or .i64 acc (wrap64 (wrap64 (bits .andNot .u8 c 128) * 128)) = acc + 128 ^ 1 * (c % 128) by (have := or_step 1 (by omega) acc c ha ha2.out hx; simpa using this)
          by_cases h128 : c < 128
          · go_wp2
            go_ret2
            have e := numW_some (numSt_end l 1 acc H.out (by omega) hlt (by rw [HC.out]; exact h128))
            rw [e, E.out, HC.out]
            exact ⟨num_ret (by omega) (by simp; omega), rfl⟩
          · go_wp2
            go_round
            case rel => exact ⟨2, acc + 128 ^ 1 * (c % 128), by omega, rfl, by rw [E.out], num_next H.out (by omega) hlt hb HC.out (by omega)⟩
            case measure => simp [intOf]
        · have hcx := hc 2 hlt
          have hx := bytes_getD hb 2
          generalize hcd : l.getD 2 0 = c at hcx hx
          have HC : Hid (l.getD 2 0 = c) := hcd
          clear hc hcd
          skip
          have E : Hid (bits .or .i64 acc (wrap64 (wrap64 (bits .andNot .u8 c 128) * 16384)) = acc + 128 ^ 2 * (c % 128)) := show bits .or .i64 acc (wrap64 (wrap64 (bits .andNot .u8 c 128) * 16384)) = acc + 128 ^ 2 * (c % 128) by (have := or_step 2 (by omega) acc c ha ha2.out hx; simpa using this)
          by_cases h128 : c < 128
          · go_wp2
            go_ret2
            have e := numW_some (numSt_end l 2 acc H.out (by omega) hlt (by rw [HC.out]; exact h128))
            rw [e, E.out, HC.out]
            exact ⟨num_ret (by omega) (by simp; omega), rfl⟩
          · go_wp2
            go_round
            case rel => exact ⟨3, acc + 128 ^ 2 * (c % 128), by omega, rfl, by rw [E.out], num_next H.out (by omega) hlt hb HC.out (by omega)⟩
            case measure => simp [intOf]
        · have hcx := hc 3 hlt
          have hx := bytes_getD hb 3
          generalize hcd : l.getD 3 0 = c at hcx hx
          have HC : Hid (l.getD 3 0 = c) := hcd
          clear hc hcd
          skip
          have E : Hid (bits .or .i64 acc (wrap64 (wrap64 (bits .andNot .u8 c 128) * 2097152)) = acc + 128 ^ 3 * (c % 128)) := show bits .or .i64 acc (wrap64 (wrap64 (bits .andNot .u8 c 128) * 2097152)) = acc + 128 ^ 3 * (c % 128) by (have := or_step 3 (by omega) acc c ha ha2.out hx; simpa using this)
          by_cases h128 : c < 128
          · go_wp2
            go_ret2
            have e := numW_some (numSt_end l 3 acc H.out (by omega) hlt (by rw [HC.out]; exact h128))
            rw [e, E.out, HC.out]
            exact ⟨num_ret (by omega) (by simp; omega), rfl⟩
          · go_wp2
            go_round
            case rel => exact ⟨4, acc + 128 ^ 3 * (c % 128), by omega, rfl, by rw [E.out], num_next H.out (by omega) hlt hb HC.out (by omega)⟩
            case measure => simp [intOf]
      · have hkk : k = l.length := by omega
        have e : Hid (numW l = (0, 0)) := numW_none (numSt_none l k acc H.out (.inr hkk))
        clear hc
        clear hkk
        go_wp2
        go_ret2
        rw [e.out]
        exact ⟨rfl, rfl⟩
  · go_enter Try.func138, Try.ntmps138
    go_wp2
    all_goals
      go_loop [4, 13] (fun n i => ∃ (k : Nat) (acc : Int), k ≤ 5 ∧ i = .int .i64 k ∧ n = .int .i64 acc ∧ Hid (NumSt l k acc)) (fun _ i => 5 - (intOf i).toNat)
      case atStart => exact ⟨0, 0, Nat.zero_le _, rfl, rfl, numSt_0 l⟩
      case round =>
        obtain ⟨k, acc, hk, rfl, rfl, H⟩ := hrel
        have ha := H.out.2.2.1
        have ha2 : Hid (acc < 128 ^ k) := H.out.2.2.2.1
        by_cases hlt : k < 5
        · have hlt : k < l.length := by omega
          rcases (show k = 0 ∨ k = 1 ∨ k = 2 ∨ k = 3 ∨ k = 4 from by omega) with rfl | rfl | rfl | rfl | rfl
          · have hcx := hc 0 hlt
            have hx := bytes_getD hb 0
            generalize hcd : l.getD 0 0 = c at hcx hx
            have HC : Hid (l.getD 0 0 = c) := hcd
            clear hc hcd
            simp only [Nat.add_zero] at hcx
            have E : Hid (bits .or .i64 acc (wrap64 (wrap64 (bits .andNot .u8 c 128))) = acc + 128 ^ 0 * (c % 128)) := show bits .or .i64 acc (wrap64 (wrap64 (bits .andNot .u8 c 128))) = acc + 128 ^ 0 * (c % 128) by (have := or_step 0 (by omega) acc c ha ha2.out hx; simpa using this)
            by_cases h128 : c < 128
            · go_wp2
              go_ret2
              have e := numW_some (numSt_end l 0 acc H.out (by omega) hlt (by rw [HC.out]; exact h128))
              rw [e, E.out, HC.out]
              exact ⟨num_ret (by omega) (by simp; omega), rfl⟩
            · go_wp2
              go_round
              case rel => exact ⟨1, acc + 128 ^ 0 * (c % 128), by omega, rfl, by rw [E.out], num_next H.out (by omega) hlt hb HC.out (by omega)⟩
              case measure => simp [intOf]
          · have hcx := hc 1 hlt
            have hx := bytes_getD hb 1
            generalize hcd : l.getD 1 0 = c at hcx hx
            have HC : Hid (l.getD 1 0 = c) := hcd
            clear hc hcd
            skip
            have E : Hid (bits .or .i64 acc (wrap64 (wrap64 (bits .andNot .u8 c 128) * 128)) = acc + 128 ^ 1 * (c % 128)) := show bits .or .i64 acc (wrap64 (wrap64 (bits .andNot .u8 c 128) * 128)) = acc + 128 ^ 1 * (c % 128) by (have := or_step 1 (by omega) acc c ha ha2.out hx; simpa using this)
            by_cases h128 : c < 128
            · go_wp2
              go_ret2
              have e := numW_some (numSt_end l 1 acc H.out (by omega) hlt (by rw [HC.out]; exact h128))
              rw [e, E.out, HC.out]
              exact ⟨num_ret (by omega) (by simp; omega), rfl⟩
            · go_wp2
              go_round
              case rel => exact ⟨2, acc + 128 ^ 1 * (c % 128), by omega, rfl, by rw [E.out], num_next H.out (by omega) hlt hb HC.out (by omega)⟩
              case measure => simp [intOf]
          · have hcx := hc 2 hlt
            have hx := bytes_getD hb 2
            generalize hcd : l.getD 2 0 = c at hcx hx
            have HC : Hid (l.getD 2 0 = c) := hcd
            clear hc hcd
            skip
            have E : Hid (bits .or .i64 acc (wrap64 (wrap64 (bits .andNot .u8 c 128) * 16384)) = acc + 128 ^ 2 * (c % 128)) := show bits .or .i64 acc (wrap64 (wrap64 (bits .andNot .u8 c 128) * 16384)) = acc + 128 ^ 2 * (c % 128) by (have := or_step 2 (by omega) acc c ha ha2.out hx; simpa using this)
            by_cases h128 : c < 128
            · go_wp2
              go_ret2
              have e := numW_some (numSt_end l 2 acc H.out (by omega) hlt (by rw [HC.out]; exact h128))
              rw [e, E.out, HC.out]
              exact ⟨num_ret (by omega) (by simp; omega), rfl⟩
            · go_wp2
              go_round
              case rel => exact ⟨3, acc + 128 ^ 2 * (c % 128), by omega, rfl, by rw [E.out], num_next H.out (by omega) hlt hb HC.out (by omega)⟩
              case measure => simp [intOf]
          · have hcx := hc 3 hlt
            have hx := bytes_getD hb 3
            generalize hcd : l.getD 3 0 = c at hcx hx
            have HC : Hid (l.getD 3 0 = c) := hcd
            clear hc hcd
            skip
            have E : Hid (bits .or .i64 acc (wrap64 (wrap64 (bits .andNot .u8 c 128) * 2097152)) = acc + 128 ^ 3 * (c % 128)) := show bits .or .i64 acc (wrap64 (wrap64 (bits .andNot .u8 c 128) * 2097152)) = acc + 128 ^ 3 * (c % 128) by (have := or_step 3 (by omega) acc c ha ha2.out hx; simpa using this)
            by_cases h128 : c < 128
            · go_wp2
              go_ret2
              have e := numW_some (numSt_end l 3 acc H.out (by omega) hlt (by rw [HC.out]; exact h128))
              rw [e, E.out, HC.out]
              exact ⟨num_ret (by omega) (by simp; omega), rfl⟩
            · go_wp2
              go_round
              case rel => exact ⟨4, acc + 128 ^ 3 * (c % 128), by omega, rfl, by rw [E.out], num_next H.out (by omega) hlt hb HC.out (by omega)⟩
              case measure => simp [intOf]
          · have hcx := hc 4 hlt
            have hx := bytes_getD hb 4
            generalize hcd : l.getD 4 0 = c at hcx hx
            have HC : Hid (l.getD 4 0 = c) := hcd
            clear hc hcd
            skip
            have E : Hid (bits .or .i64 acc (wrap64 (wrap64 (bits .andNot .u8 c 128) * 268435456)) = acc + 128 ^ 4 * (c % 128)) := show bits .or .i64 acc (wrap64 (wrap64 (bits .andNot .u8 c 128) * 268435456)) = acc + 128 ^ 4 * (c % 128) by (have := or_step 4 (by omega) acc c ha ha2.out hx; simpa using this)
            by_cases h128 : c < 128
            · go_wp2
              go_ret2
              have e := numW_some (numSt_end l 4 acc H.out (by omega) hlt (by rw [HC.out]; exact h128))
              rw [e, E.out, HC.out]
              exact ⟨num_ret (by omega) (by simp; omega), rfl⟩
            · go_wp2
              go_round
              case rel => exact ⟨5, acc + 128 ^ 4 * (c % 128), by omega, rfl, by rw [E.out], num_next H.out (by omega) hlt hb HC.out (by omega)⟩
              case measure => simp [intOf]
        · have hkk : k = 5 := by omega
          have e : Hid (numW l = (0, 0)) := numW_none (numSt_none l k acc H.out (.inl hkk))
          clear hc
          subst hkk
          go_wp2
          go_ret2
          rw [e.out]
          exact ⟨rfl, rfl⟩

set_option maxRecDepth 100000 in
set_option maxHeartbeats 400000 in
theorem decodeNumber_none (ao : Option Addr) (cap : Nat) (w : World) (hm : cap ≤ maxLen) (hz : ao = none → cap = 0) :
    Calls Try.prog 138 #[.slice ao 0 cap] w fun e w' => e = .returned (.tuple #[.int .i64 0, .int .i64 0]) ∧ w' = w := by
  unfold maxLen at hm
  cases ao with
  | none =>
    obtain rfl := hz rfl
    go_enter Try.func138, Try.ntmps138
    go_wp2
    refine wp_loop_rounds 1 ?_
    rw [rounds_succ]
    go_wp2
    go_ret2
    exact ⟨rfl, rfl⟩
  | some ad =>
    clear hz
    go_enter Try.func138, Try.ntmps138
    go_wp2
    all_goals
      refine wp_loop_rounds 1 ?_
      rw [rounds_succ]
      go_wp2
      go_ret2
      exact ⟨rfl, rfl⟩

theorem decodeNumber_any (l : List Int) (v : Value) (w : World) (h : Rd w v l) :
    Calls Try.prog 138 #[v] w fun e w' => e = .returned (.tuple #[.int .i64 (numW l).1, .int .i64 (numW l).2]) ∧ w' = w := by
  obtain ⟨hb, ao, cap, rfl, h1, h2, h3, hc⟩ := h
  by_cases h0 : 0 < l.length
  · obtain ⟨b, off, rfl, hc'⟩ := hc h0
    exact decodeNumber_some l b off cap w h0 h1 h2 hb hc'
  · have hl : l = [] := List.eq_nil_of_length_eq_zero (by omega)
    subst hl
    exact decodeNumber_none ao cap w h2 h3

end Go.Proofs.Ytkakagjffafdiaa
