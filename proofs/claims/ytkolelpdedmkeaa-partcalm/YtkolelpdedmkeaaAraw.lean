/-
  The walks of the keepers' own makers of inputs: picked, word, Entry: each entry that is made may be.
  The walk of many: the first so many entries of raw numbers; each may be.
-/
import Derived.Test.YtkolelpdedmkeaaAdec
import Derived.Deep.RegionHeld3
namespace Go.Proofs.Ytkolelpdedmkeaa

section
open Go.RowKit
set_option linter.unusedVariables false
set_option linter.unusedSimpArgs false

def pick (n m : Int) : Int := (if n < 0 then -(n + 1) else n) % m
theorem pick_bd (n m : Int) (h : 0 < m) : 0 ≤ pick n m ∧ pick n m < m := by
  unfold pick
  exact ⟨Int.emod_nonneg _ (by omega), Int.emod_lt_of_pos _ h⟩

theorem i64_bd {n : Int} (h : (Lit.int .i64 n).wf = true) : -9223372036854775808 ≤ n ∧ n ≤ 9223372036854775807 := by
  simp [Lit.wf, IntKind.min, IntKind.max, IntKind.signed, IntKind.bits] at h
  omega

set_option maxRecDepth 100000 in
set_option maxHeartbeats 400000 in
theorem picked_any (n m : Int) (w : World) (hn : -9223372036854775808 ≤ n ∧ n ≤ 9223372036854775807) (hm : 0 < m ∧ m ≤ 1000000000) :
    Calls Try.prog 52 #[.int .i64 n, .int .i64 m] w fun e w' => e = .returned (.int .i64 (pick n m)) ∧ w' = w := by
  by_cases h : n < 0
  · have e : pick n m = (-(n + 1)) % m := by simp [pick, h]
    have hz : (m == 0) = false := by rw [beq_eq_false_iff_ne]; omega
    rw [e]
    go_enter Try.func52, Try.ntmps52
    go_wp2
    go_ret
    exact ⟨ret_int (by rw [← Int.neg_tmod, Int.tmod_eq_emod_of_nonneg (by omega)]), rfl⟩
  · have e : pick n m = n % m := by simp [pick, h]
    have hz : (m == 0) = false := by rw [beq_eq_false_iff_ne]; omega
    rw [e]
    go_enter Try.func52, Try.ntmps52
    go_wp2
    go_ret
    exact ⟨rfl, rfl⟩

theorem letter (d : Int) (h : 0 ≤ d ∧ d < 10) : (Utf8.encode (97 + d)).size = 1 := by
  rcases (show d = 0 ∨ d = 1 ∨ d = 2 ∨ d = 3 ∨ d = 4 ∨ d = 5 ∨ d = 6 ∨ d = 7 ∨ d = 8 ∨ d = 9 from by omega) with rfl | rfl | rfl | rfl | rfl | rfl | rfl | rfl | rfl | rfl <;> decide +kernel
theorem word_lt {j : Nat} {m : Int} (h0 : 0 < m) (h : m < 10 ^ (4 - j)) : j < 4 := by
  rcases Nat.lt_or_ge j 4 with hj | hj
  · exact hj
  · rw [show 4 - j = 0 by omega] at h; simp at h; omega
theorem word_step {j : Nat} {m : Int} (hj : j < 4) (h : m < 10 ^ (4 - j)) : m / 10 < 10 ^ (4 - (j + 1)) := by
  rw [show 4 - j = (4 - (j + 1)) + 1 by omega, Int.pow_succ] at h
  omega

/-- The letters of a raw number. -/
def wordF : Nat → Int → ByteArray → ByteArray
  | 0, _, t => t
  | f + 1, m, t => if 0 < m then wordF f (m / 10) (t ++ Utf8.encode (97 + m % 10)) else t
def wordS (n : Int) : ByteArray := wordF 4 (pick n 10000) ⟨#[]⟩
theorem wordF_size (f : Nat) (m : Int) (t : ByteArray) : (wordF f m t).size ≤ t.size + f := by
  induction f generalizing m t with
  | zero => simp [wordF]
  | succ f ih =>
    unfold wordF
    split
    · have := ih (m / 10) (t ++ Utf8.encode (97 + m % 10))
      rw [ByteArray.size_append, letter (m % 10) (by omega)] at this
      omega
    · omega
theorem wordS_size (n : Int) : (wordS n).size ≤ 4 := by
  have := wordF_size 4 (pick n 10000) ⟨#[]⟩
  have e : (⟨#[]⟩ : ByteArray).size = 0 := rfl
  unfold wordS
  omega
theorem wordF_zero (f : Nat) (m : Int) (t : ByteArray) (h : ¬ 0 < m) : wordF f m t = t := by
  cases f with
  | zero => rfl
  | succ f => unfold wordF; rw [if_neg h]

set_option maxRecDepth 100000 in
set_option maxHeartbeats 400000 in
theorem word_any (n : Int) (w : World) (hn : -9223372036854775808 ≤ n ∧ n ≤ 9223372036854775807) :
    Calls Try.prog 58 #[.int .i64 n] w fun e w' => e = .returned (.string (wordS n)) ∧ w' = w := by
  have hp := pick_bd n 10000 (by omega)
  have HW : Hid (wordF 4 (pick n 10000) ⟨#[]⟩ = wordS n) := rfl
  go_enter Try.func58, Try.ntmps58
  go_wp2_with fail
  refine (picked_any n 10000 _ hn (by omega)).mono ?_
  rintro e w' ⟨rfl, rfl⟩
  generalize pick n 10000 = p at hp HW
  go_wp2
  go_loop [0, 3] (fun v s => ∃ (j : Nat) (m : Int) (t : ByteArray), j ≤ 4 ∧ v = .int .i64 m ∧ s = .string t ∧ Hid (t.size = j) ∧ 0 ≤ m ∧ Hid (m < 10 ^ (4 - j)) ∧ Hid (wordF (4 - j) m t = wordS n)) (fun v _ => (intOf v).toNat)
  case atStart => exact ⟨0, p, ⟨#[]⟩, by omega, rfl, rfl, rfl, by omega, show p < 10 ^ (4 - 0) by simp; omega, HW⟩
  case round =>
    obtain ⟨j, m, t, hj, rfl, rfl, HT, hm0, HM, HF⟩ := hrel
    clear HW
    have hsz : t.size ≤ 4 := by rw [HT.out]; omega
    by_cases hp : 0 < m
    · have hu := letter (m % 10) (by omega)
      have hj4 : j < 4 := word_lt (by omega) HM.out
      have HN : Hid (m / 10 < 10 ^ (4 - (j + 1))) := word_step hj4 HM.out
      have hmm : m ≤ 10000 := by
        rcases (show j = 0 ∨ j = 1 ∨ j = 2 ∨ j = 3 from by omega) with rfl | rfl | rfl | rfl <;> (have := HM.out; simp at this; omega)
      have HS : Hid ((t ++ Utf8.encode (97 + m % 10)).size = j + 1) := show _ = _ by rw [ByteArray.size_append, hu, HT.out]
      have HG : Hid (wordF (4 - (j + 1)) (m / 10) (t ++ Utf8.encode (97 + m % 10)) = wordS n) := by
        have h := HF.out
        rw [show 4 - j = (4 - (j + 1)) + 1 by omega] at h
        unfold wordF at h
        rw [if_pos hp] at h
        exact h
      go_wp2
      go_round
      case rel => exact ⟨j + 1, m / 10, _, by omega, rfl, rfl, HS, by omega, HN, HG⟩
      case measure => simp [intOf]; omega
    · have HG : Hid (t = wordS n) := show t = wordS n by (rw [← HF.out, wordF_zero _ _ _ hp])
      go_wp2
      go_ret
      rw [← HG.out]
      exact ⟨rfl, rfl⟩

/-- The entry of raw numbers. -/
def rawE (kd a b c : Int) : Ent :=
  if pick b 4 = 0 then ⟨pick a 4, 0, 0, 0, 1, false, wordS c⟩
  else if pick kd 6 = 0 ∨ pick kd 6 = 1 then ⟨pick a 4, pick b 4, pick a 3, 0, 2 + pick c 2, true, ⟨#[]⟩⟩
  else ⟨pick a 4, pick b 4, pick a 3, pick c 5, 1, pick c 2 == 0, wordS c⟩

theorem rawE_ok (kd a b c : Int) : (rawE kd a b c).flt = 0 := by
  have h1 := pick_bd a 4 (by omega)
  have h2 := pick_bd b 4 (by omega)
  have h3 := pick_bd a 3 (by omega)
  have h4 := pick_bd c 2 (by omega)
  have h5 := pick_bd c 5 (by omega)
  have hs := wordS_size c
  have hin : ∀ n : Int, 0 ≤ n → n < 6 → inB n = true := fun n h0 h6 => by simp [inB]; omega
  unfold rawE
  split
  · rename_i hb
    simp [Ent.flt, flt, hin (pick a 4) (by omega) (by omega), hin 0 (by omega) (by omega), fnB, mkB]
    omega
  · rename_i hb
    split
    · have e0 : (⟨#[]⟩ : ByteArray).size = 0 := rfl
      have hm : mkB (2 + pick c 2) = true := by simp [mkB]; omega
      simp [Ent.flt, flt, hin (pick a 4) (by omega) (by omega), hin (pick b 4) (by omega) (by omega), hin (pick a 3) (by omega) (by omega), hin 0 (by omega) (by omega), hm, fmB, e0, hb]
    · simp [Ent.flt, flt, hin (pick a 4) (by omega) (by omega), hin (pick b 4) (by omega) (by omega), hin (pick a 3) (by omega) (by omega), hin (pick c 5) (by omega) (by omega), mkB, hb]
      omega

end

section
open Go.RowKit
set_option linter.unusedVariables false
set_option linter.unusedSimpArgs false

/-- Raw numbers. -/
structure Raw4 where
  k : Int
  a : Int
  b : Int
  c : Int
def I64 (n : Int) : Prop := -9223372036854775808 ≤ n ∧ n ≤ 9223372036854775807
def Raw4.ok (r : Raw4) : Prop := I64 r.k ∧ I64 r.a ∧ I64 r.b ∧ I64 r.c
def Raw4.ent (r : Raw4) : Ent := rawE r.k r.a r.b r.c
theorem Raw4.ent_ok (r : Raw4) : r.ent.flt = 0 := rawE_ok r.k r.a r.b r.c

/-- A slice of raw numbers that reads as rs. -/
def RdR (w : World) (v : Value) (rs : List Raw4) : Prop :=
  (∀ r ∈ rs, r.ok) ∧ ∃ ao cap, v = .slice ao rs.length cap ∧ (0 < rs.length → ∃ b off, ao = some ⟨b, off, none⟩ ∧ ∀ i, (h : i < rs.length) →
    w.cell? ⟨b, off + i * 4, none⟩ = some (.int .i64 (rs[i]'h).k) ∧ w.cell? ⟨b, off + i * 4 + 1, none⟩ = some (.int .i64 (rs[i]'h).a) ∧ w.cell? ⟨b, off + i * 4 + 2, none⟩ = some (.int .i64 (rs[i]'h).b) ∧ w.cell? ⟨b, off + i * 4 + 3, none⟩ = some (.int .i64 (rs[i]'h).c))

theorem RdR.below {v : Value} {rs : List Raw4} {w w' : World} (h : RdR w v rs) (hb : Below w.heap.size w w') : RdR w' v rs := by
  obtain ⟨hok, ao, cap, rfl, h3⟩ := h
  refine ⟨hok, ao, cap, rfl, fun h0 => ?_⟩
  obtain ⟨b, off, rfl, hg⟩ := h3 h0
  have hlt : b < w.heap.size := cell_lt (hg 0 h0).1
  refine ⟨b, off, rfl, fun i hi => ?_⟩
  obtain ⟨q0, q1, q2, q3⟩ := hg i hi
  exact ⟨(hb.cell (p := ⟨b, off + i * 4, none⟩) hlt).trans q0, (hb.cell (p := ⟨b, off + i * 4 + 1, none⟩) hlt).trans q1, (hb.cell (p := ⟨b, off + i * 4 + 2, none⟩) hlt).trans q2, (hb.cell (p := ⟨b, off + i * 4 + 3, none⟩) hlt).trans q3⟩
end

end Go.Proofs.Ytkolelpdedmkeaa
