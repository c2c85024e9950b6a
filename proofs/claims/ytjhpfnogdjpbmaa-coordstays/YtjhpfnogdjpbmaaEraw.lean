/-
  Raw numbers: picked, and slices of them.
-/
import Derived.Test.YtjhpfnogdjpbmaaEbase
namespace Go.Proofs.Ytjhpfnogdjpbmaa
open Go.RowKit
set_option linter.unusedVariables false
set_option linter.unusedSimpArgs false

def pick (n m : Int) : Int := (if n < 0 then -(n + 1) else n) % m
theorem pick_bd (n m : Int) (h : 0 < m) : 0 ≤ pick n m ∧ pick n m < m := by
  unfold pick
  exact ⟨Int.emod_nonneg _ (by omega), Int.emod_lt_of_pos _ h⟩

theorem i64_bd {n : Int} (h : (Lit.int .i64 n).wf = true) : -9223372036854775808 ≤ n ∧ n ≤ 9223372036854775807 := by
  simp [Lit.wf, IntKind.min, IntKind.max, IntKind.signed, IntKind.bits] at h
  omega

set_option maxRecDepth 100000 in
set_option maxHeartbeats 400000 in
theorem picked_any (n m : Int) (w : World) (hn : -9223372036854775808 ≤ n ∧ n ≤ 9223372036854775807) (hm : 0 < m ∧ m ≤ 1000000000) :
    Calls Try.prog 37 #[.int .i64 n, .int .i64 m] w fun e w' => e = .returned (.int .i64 (pick n m)) ∧ w' = w := by
  by_cases h : n < 0
  · have e : pick n m = (-(n + 1)) % m := by simp [pick, h]
    have hz : (m == 0) = false := by rw [beq_eq_false_iff_ne]; omega
    rw [e]
    go_enter Try.func37, Try.ntmps37
    go_wp2
    go_ret
    exact ⟨ret_int (by rw [← Int.neg_tmod, Int.tmod_eq_emod_of_nonneg (by omega)]), rfl⟩
  · have e : pick n m = n % m := by simp [pick, h]
    have hz : (m == 0) = false := by rw [beq_eq_false_iff_ne]; omega
    rw [e]
    go_enter Try.func37, Try.ntmps37
    go_wp2
    go_ret
    exact ⟨rfl, rfl⟩

/-- Raw numbers. -/
structure Raw4 where
  k : Int
  a : Int
  b : Int
  c : Int
def I64 (n : Int) : Prop := -9223372036854775808 ≤ n ∧ n ≤ 9223372036854775807
def Raw4.ok (r : Raw4) : Prop := I64 r.k ∧ I64 r.a ∧ I64 r.b ∧ I64 r.c

/-- A slice of raw numbers that reads as rs. -/
def RdR (w : World) (v : Value) (rs : List Raw4) : Prop :=
  (∀ r ∈ rs, r.ok) ∧ ∃ ao cap, v = .slice ao rs.length cap ∧ (0 < rs.length → ∃ b off, ao = some ⟨b, off, none⟩ ∧ ∀ i, (h : i < rs.length) →
    w.cell? ⟨b, off + i * 4, none⟩ = some (.int .i64 (rs[i]'h).k) ∧ w.cell? ⟨b, off + i * 4 + 1, none⟩ = some (.int .i64 (rs[i]'h).a) ∧ w.cell? ⟨b, off + i * 4 + 2, none⟩ = some (.int .i64 (rs[i]'h).b) ∧ w.cell? ⟨b, off + i * 4 + 3, none⟩ = some (.int .i64 (rs[i]'h).c))

def nameS (n : Int) : ByteArray := if pick n 3 = 0 then ⟨#[97, 110, 110]⟩ else if pick n 3 = 1 then ⟨#[98, 111, 98]⟩ else ⟨#[99, 121]⟩
def isName3 (s : ByteArray) : Prop := s = ⟨#[97, 110, 110]⟩ ∨ s = ⟨#[98, 111, 98]⟩ ∨ s = ⟨#[99, 121]⟩
theorem nameS_3 (n : Int) : isName3 (nameS n) := by
  unfold nameS isName3
  split
  · exact .inl rfl
  · split
    · exact .inr (.inl rfl)
    · exact .inr (.inr rfl)
theorem name3_size {s : ByteArray} (h : isName3 s) : s.size ≤ maxLen := by
  unfold maxLen
  rcases h with rfl | rfl | rfl <;> decide

set_option maxRecDepth 100000 in
set_option maxHeartbeats 1000000 in
theorem name_any (n : Int) (w : World) (hn : -9223372036854775808 ≤ n ∧ n ≤ 9223372036854775807) :
    Calls Try.prog 69 #[.int .i64 n] w fun e w' => e = .returned (.string (nameS n)) ∧ Below w.heap.size w w' := by
  have hp := pick_bd n 3 (by omega)
  have HP : Hid (0 ≤ pick n 3 ∧ pick n 3 < 3) := hp
  rcases (show pick n 3 = 0 ∨ pick n 3 = 1 ∨ pick n 3 = 2 by omega) with e | e | e
  all_goals
    have HE : Hid (pick n 3 = _) := e
    clear e hp
    go_enter Try.func69, Try.ntmps69
    go_wp2_with fail
    refine (picked_any n 3 _ hn (by omega)).mono ?_
    rintro e w' ⟨rfl, rfl⟩
    rw [HE.out]
    go_wp2
    all_goals
      go_ret
      exact ⟨by unfold nameS; rw [HE.out]; first | rfl | simp, by repeat (first | exact bbox _ _ | exact Below.refl _ _ | refine Below.drew ?_)⟩

end Go.Proofs.Ytjhpfnogdjpbmaa
