/-
  The walks of the two ways to read a number.
-/
import Derived.Test.YtimnfgfomlegpaeDmath
import Derived.Laws.BitsAllLaws
namespace Go.Proofs.Ytimnfgfomlegpae
open Go.RowKit
set_option linter.unusedVariables false

/-- What decodeNumber answers. -/
def numW (l : List Int) : Int × Nat :=
  match rawF 5 l with
  | none => (0, 0)
  | some (n, r) => (n, l.length - r.length)

/-- How far one has come: so many bytes that say that another one follows, and what they hold. -/
def NumSt (l : List Int) (k : Nat) (acc : Int) : Prop :=
  k ≤ 5 ∧ k ≤ l.length ∧ 0 ≤ acc ∧ acc < 128 ^ k ∧ rawF 5 l = match rawF (5 - k) (l.drop k) with
    | none => none
    | some (n, r) => some (acc + 128 ^ k * n, r)

theorem numSt_0 (l : List Int) : NumSt l 0 0 := by
  refine ⟨by omega, by omega, by omega, by simp, ?_⟩
  simp only [Nat.sub_zero, List.drop_zero, Int.pow_zero, Int.zero_add, Int.one_mul]
  cases rawF 5 l <;> simp

theorem drop_cons_getD (l : List Int) (k : Nat) (h : k < l.length) : l.drop k = l.getD k 0 :: l.drop (k + 1) := by
  rw [List.drop_eq_getElem_cons h]
  simp [List.getD, h]

theorem numSt_end (l : List Int) (k : Nat) (acc : Int) (h : NumSt l k acc) (hk : k < 5) (hl : k < l.length) (hc : l.getD k 0 < 128) : rawF 5 l = some (acc + 128 ^ k * l.getD k 0, l.drop (k + 1)) := by
  obtain ⟨h1, h2, h3, h4, h5⟩ := h
  rw [h5, drop_cons_getD l k hl, show 5 - k = (4 - k) + 1 by omega]
  simp only [rawF]
  rw [if_pos hc]
theorem numSt_next (l : List Int) (k : Nat) (acc : Int) (h : NumSt l k acc) (hk : k < 5) (hl : k < l.length) (hb : Bytes l) (hc : ¬ l.getD k 0 < 128) : NumSt l (k + 1) (acc + 128 ^ k * (l.getD k 0 - 128)) := by
  obtain ⟨h1, h2, h3, h4, h5⟩ := h
  have hx := bytes_getD hb k
  have hp : (0 : Int) < 128 ^ k := Int.pow_pos (by omega)
  have e1 : (0 : Int) ≤ 128 ^ k * (l.getD k 0 - 128) := Int.mul_nonneg (by omega) (by omega)
  have e2 : (128 : Int) ^ k * (l.getD k 0 - 128) ≤ 128 ^ k * 127 := Int.mul_le_mul_of_nonneg_left (by omega) (by omega)
  refine ⟨by omega, by omega, by omega, by rw [Int.pow_succ]; omega, ?_⟩
  rw [h5, drop_cons_getD l k hl, show 5 - k = (4 - k) + 1 by omega, show 5 - (k + 1) = 4 - k by omega]
  simp only [rawF]
  rw [if_neg hc]
  cases rawF (4 - k) (l.drop (k + 1)) with
  | none => rfl
  | some p =>
    obtain ⟨n, r⟩ := p
    simp only [Option.some.injEq, Prod.mk.injEq, and_true]
    rw [Int.pow_succ, Int.mul_add, Int.mul_assoc]
    omega
theorem numSt_none (l : List Int) (k : Nat) (acc : Int) (h : NumSt l k acc) (hk : k = 5 ∨ k = l.length) : rawF 5 l = none := by
  obtain ⟨h1, h2, h3, h4, h5⟩ := h
  rw [h5]
  rcases hk with rfl | rfl
  · simp [rawF]
  · rw [List.drop_length]
    cases 5 - l.length <;> simp [rawF]

theorem i64_or_nat (a b : Nat) (ha : a < 4611686018427387904) (hb : b < 4611686018427387904) : bits .or .i64 (a : Int) (b : Int) = ((a ||| b : Nat) : Int) := by
  have hx : a ||| b < 2 ^ 62 := Nat.or_lt_two_pow (by omega) (by omega)
  show IntKind.i64.wrap ((BitVec.ofInt 64 (a : Int) ||| BitVec.ofInt 64 (b : Int)).toNat : Int) = _
  rw [BitVec.toNat_or, ofInt_u64 a (by omega), ofInt_u64 b (by omega)]
  simp only [IntKind.wrap, IntKind.bits, IntKind.signed]
  simp
  omega
theorem u8_low7 (c : Int) (h : 0 ≤ c ∧ c ≤ 255) : bits .andNot .u8 c 128 = c % 128 := by
  rw [u8_andNot c 128 (by omega) (by omega) (by omega) (by omega)]
  have : c.toNat &&& (255 - (128 : Int).toNat) = c.toNat % 128 := nat_mask7 c.toNat
  rw [this]
  omega
theorem or_step (k : Nat) (hk : k ≤ 4) (acc c : Int) (h0 : 0 ≤ acc) (h1 : acc < 128 ^ k) (hc : 0 ≤ c ∧ c ≤ 255) :
    bits .or .i64 acc (wrap64 (wrap64 (bits .andNot .u8 c 128) * 128 ^ k)) = acc + 128 ^ k * (c % 128) := by
  rw [u8_low7 c hc, w64 (c % 128) (by omega)]
  have hp : (128 : Int) ^ k ≤ 268435456 := by
    rcases (show k = 0 ∨ k = 1 ∨ k = 2 ∨ k = 3 ∨ k = 4 from by omega) with rfl | rfl | rfl | rfl | rfl <;> simp
  have hp0 : (0 : Int) < 128 ^ k := Int.pow_pos (by omega)
  have e1 : (0 : Int) ≤ c % 128 * 128 ^ k := Int.mul_nonneg (by omega) (by omega)
  have e2 : c % 128 * (128 : Int) ^ k ≤ 127 * 128 ^ k := Int.mul_le_mul_of_nonneg_right (by omega) (by omega)
  rw [w64 _ (by omega)]
  have e3 := i64_or_nat acc.toNat (c % 128 * 128 ^ k).toNat (by omega) (by omega)
  rw [show ((acc.toNat : Nat) : Int) = acc by omega, show (((c % 128 * 128 ^ k).toNat : Nat) : Int) = c % 128 * 128 ^ k by omega] at e3
  rw [e3, Nat.or_comm]
  have e4 : (c % 128 * 128 ^ k).toNat = (c % 128).toNat * 2 ^ (7 * k) := by
    rw [Nat.pow_mul]
    rw [Int.toNat_mul (by omega) (by omega)]
    congr 1
  have e5 : acc.toNat < 2 ^ (7 * k) := by
    have h7 : (2 : Nat) ^ (7 * k) = 128 ^ k := by simp [Nat.pow_mul]
    have : ((128 ^ k : Nat) : Int) = (128 : Int) ^ k := by simp
    rw [h7]
    omega
  rw [nat_join (7 * k) _ _ (by rw [e4]; exact Nat.mul_mod_left _ _) e5, Int.mul_comm (128 ^ k) (c % 128)]
  omega

theorem numW_some {l : List Int} {n : Int} {r : List Int} (h : rawF 5 l = some (n, r)) : numW l = (n, l.length - r.length) := by simp [numW, h]
theorem numW_none {l : List Int} (h : rawF 5 l = none) : numW l = (0, 0) := by simp [numW, h]

theorem num_ret {a b : Int} {m n : Int} (h : a = b) (h2 : m = n) : Ending.returned (.tuple #[.int .i64 a, .int .i64 m]) = .returned (.tuple #[.int .i64 b, .int .i64 n]) := by rw [h, h2]
theorem num_next {l : List Int} {k : Nat} {acc c : Int} (H : NumSt l k acc) (hk : k < 5) (hl : k < l.length) (hb : Bytes l) (hc : l.getD k 0 = c) (h : ¬ c < 128) : Hid (NumSt l (k + 1) (acc + 128 ^ k * (c % 128))) := by
  have hx := bytes_getD hb k
  have e : c % 128 = l.getD k 0 - 128 := by omega
  rw [e]
  exact numSt_next l k acc H hk hl hb (by omega)

end Go.Proofs.Ytimnfgfomlegpae
