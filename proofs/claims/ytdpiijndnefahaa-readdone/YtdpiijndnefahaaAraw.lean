/-
  The walks of the keepers' own makers of inputs: picked, word, Entry: each entry that is made may be.
  The walk of many: the first so many entries of raw numbers; each may be.
-/
import Derived.Test.YtdpiijndnefahaaAdec
import Derived.Deep.RegionHeld3
namespace Go.Proofs.Ytdpiijndnefahaa

section
open Go.RowKit
set_option linter.unusedVariables false
set_option linter.unusedSimpArgs false

def pick (n m : Int) : Int := (if n < 0 then -(n + 1) else n) % m
theorem pick_bd (n m : Int) (h : 0 < m) : 0 ≤ pick n m ∧ pick n m < m := by
  unfold pick
  exact ⟨Int.emod_nonneg _ (by omega), Int.emod_lt_of_pos _ h⟩

theorem i64_bd {n : Int} (h : (Lit.int .i64 n).wf = true) : -9223372036854775808 ≤ n ∧ n ≤ 9223372036854775807 := by
  simp [Lit.wf, IntKind.min, IntKind.max, IntKind.signed, IntKind.bits] at h
  omega

set_option maxRecDepth 100000 in
set_option maxHeartbeats 400000 in
theorem picked_any (n m : Int) (w : World) (hn : -9223372036854775808 ≤ n ∧ n ≤ 9223372036854775807) (hm : 0 < m ∧ m ≤ 1000000000) :
    Calls Try.prog 24 #[.int .i64 n, .int .i64 m] w fun e w' => e = .returned (.int .i64 (pick n m)) ∧ w' = w := by
  by_cases h : n < 0
  · have e : pick n m = (-(n + 1)) % m := by simp [pick, h]
    have hz : (m == 0) = false := by rw [beq_eq_false_iff_ne]; omega
    rw [e]
    go_enter Try.func24, Try.ntmps24
    go_wp2
    go_ret
    exact ⟨ret_int (by rw [← Int.neg_tmod, Int.tmod_eq_emod_of_nonneg (by omega)]), rfl⟩
  · have e : pick n m = n % m := by simp [pick, h]
    have hz : (m == 0) = false := by rw [beq_eq_false_iff_ne]; omega
    rw [e]
    go_enter Try.func24, Try.ntmps24
    go_wp2
    go_ret
    exact ⟨rfl, rfl⟩

theorem letter (d : Int) (h : 0 ≤ d ∧ d < 10) : (Utf8.encode (97 + d)).size = 1 := by
  rcases (show d = 0 ∨ d = 1 ∨ d = 2 ∨ d = 3 ∨ d = 4 ∨ d = 5 ∨ d = 6 ∨ d = 7 ∨ d = 8 ∨ d = 9 from by omega) with rfl | rfl | rfl | rfl | rfl | rfl | rfl | rfl | rfl | rfl <;> decide +kernel
theorem word_lt {j : Nat} {m : Int} (h0 : 0 < m) (h : m < 10 ^ (4 - j)) : j < 4 := by
  rcases Nat.lt_or_ge j 4 with hj | hj
  · exact hj
  · rw [show 4 - j = 0 by omega] at h; simp at h; omega
theorem word_step {j : Nat} {m : Int} (hj : j < 4) (h : m < 10 ^ (4 - j)) : m / 10 < 10 ^ (4 - (j + 1)) := by
  rw [show 4 - j = (4 - (j + 1)) + 1 by omega, Int.pow_succ] at h
  omega

/-- The letters of a raw number. -/
def wordF : Nat → Int → ByteArray → ByteArray
  | 0, _, t => t
  | f + 1, m, t => if 0 < m then wordF f (m / 10) (t ++ Utf8.encode (97 + m % 10)) else t
def wordS (n : Int) : ByteArray := wordF 4 (pick n 10000) ⟨#[]⟩
theorem wordF_size (f : Nat) (m : Int) (t : ByteArray) : (wordF f m t).size ≤ t.size + f := by
  induction f generalizing m t with
  | zero => simp [wordF]
  | succ f ih =>
    unfold wordF
    split
    · have := ih (m / 10) (t ++ Utf8.encode (97 + m % 10))
      rw [ByteArray.size_append, letter (m % 10) (by omega)] at this
      omega
    · omega
theorem wordS_size (n : Int) : (wordS n).size ≤ 4 := by
  have := wordF_size 4 (pick n 10000) ⟨#[]⟩
  have e : (⟨#[]⟩ : ByteArray).size = 0 := rfl
  unfold wordS
  omega
theorem wordF_zero (f : Nat) (m : Int) (t : ByteArray) (h : ¬ 0 < m) : wordF f m t = t := by
  cases f with
  | zero => rfl
  | succ f => unfold wordF; rw [if_neg h]

set_option maxRecDepth 100000 in
set_option maxHeartbeats 400000 in
theorem word_any (n : Int) (w : World) (hn : -9223372036854775808 ≤ n ∧ n ≤ 9223372036854775807) :
    Calls Try.prog 44 #[.int .i64 n] w fun e w' => e = .returned (.string (wordS n)) ∧ w' = w := by
  have hp := pick_bd n 10000 (by omega)
  have HW : Hid (wordF 4 (pick n 10000) ⟨#[]⟩ = wordS n) := rfl
  go_enter Try.func44, Try.ntmps44
  go_wp2_with fail
  refine (picked_any n 10000 _ hn (by omega)).mono ?_
  rintro e w' ⟨rfl, rfl⟩
  generalize pick n 10000 = p at hp HW
  go_wp2
  go_loop [0, 3] (fun v s => ∃ (j : Nat) (m : Int) (t : ByteArray), j ≤ 4 ∧ v = .int .i64 m ∧ s = .string t ∧ Hid (t.size = j) ∧ 0 ≤ m ∧ Hid (m < 10 ^ (4 - j)) ∧ Hid (wordF (4 - j) m t = wordS n)) (fun v _ => (intOf v).toNat)
  case atStart => exact ⟨0, p, ⟨#[]⟩, by omega, rfl, rfl, rfl, by omega, show p < 10 ^ (4 - 0) by simp; omega, HW⟩
  case round =>
    obtain ⟨j, m, t, hj, rfl, rfl, HT, hm0, HM, HF⟩ := hrel
    clear HW
    have hsz : t.size ≤ 4 := by rw [HT.out]; omega
    by_cases hp : 0 < m
    · have hu := letter (m % 10) (by omega)
      have hj4 : j < 4 := word_lt (by omega) HM.out
      have HN : Hid (m / 10 < 10 ^ (4 - (j + 1))) := word_step hj4 HM.out
      have hmm : m ≤ 10000 := by
        rcases (show j = 0 ∨ j = 1 ∨ j = 2 ∨ j = 3 from by omega) with rfl | rfl | rfl | rfl <;> (have := HM.out; simp at this; omega)
      have HS : Hid ((t ++ Utf8.encode (97 + m % 10)).size = j + 1) := show _ = _ by rw [ByteArray.size_append, hu, HT.out]
      have HG : Hid (wordF (4 - (j + 1)) (m / 10) (t ++ Utf8.encode (97 + m % 10)) = wordS n) := by
        have h := HF.out
        rw [show 4 - j = (4 - (j + 1)) + 1 by omega] at h
        unfold wordF at h
        rw [if_pos hp] at h
        exact h
      go_wp2
      go_round
      case rel => exact ⟨j + 1, m / 10, _, by omega, rfl, rfl, HS, by omega, HN, HG⟩
      case measure => simp [intOf]; omega
    · have HG : Hid (t = wordS n) := show t = wordS n by (rw [← HF.out, wordF_zero _ _ _ hp])
      go_wp2
      go_ret
      rw [← HG.out]
      exact ⟨rfl, rfl⟩

/-- The entry of raw numbers. -/
def rawE (kd a b c : Int) : Ent :=
  if pick b 4 = 0 then ⟨pick a 4, 0, 0, 0, 1, false, wordS c⟩
  else if pick kd 6 = 0 ∨ pick kd 6 = 1 then ⟨pick a 4, pick b 4, pick a 3, 0, 2 + pick c 2, true, ⟨#[]⟩⟩
  else ⟨pick a 4, pick b 4, pick a 3, pick c 5, 1, pick c 2 == 0, wordS c⟩

theorem rawE_ok (kd a b c : Int) : (rawE kd a b c).flt = 0 := by
  have h1 := pick_bd a 4 (by omega)
  have h2 := pick_bd b 4 (by omega)
  have h3 := pick_bd a 3 (by omega)
  have h4 := pick_bd c 2 (by omega)
  have h5 := pick_bd c 5 (by omega)
  have hs := wordS_size c
  have hin : ∀ n : Int, 0 ≤ n → n < 6 → inB n = true := fun n h0 h6 => by simp [inB]; omega
  unfold rawE
  split
  · rename_i hb
    simp [Ent.flt, flt, hin (pick a 4) (by omega) (by omega), hin 0 (by omega) (by omega), fnB, mkB]
    omega
  · rename_i hb
    split
    · have e0 : (⟨#[]⟩ : ByteArray).size = 0 := rfl
      have hm : mkB (2 + pick c 2) = true := by simp [mkB]; omega
      simp [Ent.flt, flt, hin (pick a 4) (by omega) (by omega), hin (pick b 4) (by omega) (by omega), hin (pick a 3) (by omega) (by omega), hin 0 (by omega) (by omega), hm, fmB, e0, hb]
    · simp [Ent.flt, flt, hin (pick a 4) (by omega) (by omega), hin (pick b 4) (by omega) (by omega), hin (pick a 3) (by omega) (by omega), hin (pick c 5) (by omega) (by omega), mkB, hb]
      omega

set_option maxRecDepth 100000 in
set_option maxHeartbeats 4000000 in
theorem entry_any (kd a b c : Int) (w : World) (hk : -9223372036854775808 ≤ kd ∧ kd ≤ 9223372036854775807) (ha : -9223372036854775808 ≤ a ∧ a ≤ 9223372036854775807) (hb : -9223372036854775808 ≤ b ∧ b ≤ 9223372036854775807) (hc : -9223372036854775808 ≤ c ∧ c ≤ 9223372036854775807) :
    Calls Try.prog 42 #[.agg #[.int .i64 kd, .int .i64 a, .int .i64 b, .int .i64 c]] w fun e w' => e = .returned (rawE kd a b c).val ∧ Below w.heap.size w w' := by
  have P1 : Hid (∀ w, _) := fun w => picked_any a 4 w ha (by omega)
  have P2 : Hid (∀ w, _) := fun w => picked_any b 4 w hb (by omega)
  have W1 : Hid (∀ w, _) := fun w => word_any c w hc
  have h1 := pick_bd a 4 (by omega)
  have h2 := pick_bd b 4 (by omega)
  by_cases hb0 : pick b 4 = 0
  · have E : Hid (rawE kd a b c = ⟨pick a 4, 0, 0, 0, 1, false, wordS c⟩) := show _ = _ by (unfold rawE; rw [if_pos hb0])
    go_enter Try.func42, Try.ntmps42
    go_wp2
    go_region_held3 (fun w' => w'.cell? ⟨w.heap.size, 1, none⟩ = some (.int .i64 a) ∧ w'.cell? ⟨w.heap.size, 2, none⟩ = some (.int .i64 b) ∧ w'.cell? ⟨w.heap.size, 3, none⟩ = some (.int .i64 c)) (go_keep) (first | (go_at_call_of 24 a; refine (P1.out _).mono ?_; rintro e w' ⟨rfl, rfl⟩) | (go_at_call_of 24 b; refine (P2.out _).mono ?_; rintro e w' ⟨rfl, rfl⟩) | (go_at_call 44; refine (W1.out _).mono ?_; rintro e w' ⟨rfl, rfl⟩))
    all_goals
      go_wp2
      refine bodyPost_ret (v := (Ent.mk (pick a 4) 0 0 0 1 false (wordS c)).val) (by simp [results, Try.results42, go_sem, Ent.val]) rfl ⟨by rw [E.out], ?_⟩
      repeat (first | exact Below.refl _ _ | refine Below.drew ?_ | refine Below.setCell ?_ (by first | (simp; done) | (simp; omega)) _ | refine Below.alloc ?_ (by first | (simp; done) | (simp; omega)) _)
  · have hb1 : (pick b 4 == 0) = false := by rw [beq_eq_false_iff_ne]; exact hb0
    have h3 := pick_bd a 3 (by omega)
    have h4 := pick_bd c 2 (by omega)
    have h5 := pick_bd c 5 (by omega)
    have h6 := pick_bd kd 6 (by omega)
    have P4 : Hid (∀ w, _) := fun w => picked_any c 2 w hc (by omega)
    have HW2 : Hid (IntKind.i64.wrap (2 + pick c 2) = 2 + pick c 2) := show IntKind.i64.wrap (2 + pick c 2) = 2 + pick c 2 by (simp [IntKind.wrap, IntKind.bits, IntKind.signed]; omega)
    by_cases hmk : pick kd 6 = 0 ∨ pick kd 6 = 1
    · have E : Hid (rawE kd a b c = ⟨pick a 4, pick b 4, pick a 3, 0, 2 + pick c 2, true, ⟨#[]⟩⟩) := show _ = _ by (unfold rawE; rw [if_neg hb0, if_pos hmk])
      clear hb0
      go_enter Try.func42, Try.ntmps42
      go_wp2
      go_region_held3 (fun w' => w'.cell? ⟨w.heap.size, 1, none⟩ = some (.int .i64 a) ∧ w'.cell? ⟨w.heap.size, 2, none⟩ = some (.int .i64 b) ∧ w'.cell? ⟨w.heap.size, 3, none⟩ = some (.int .i64 c)) (go_keep) (first | (go_at_call_of 24 a; refine (P1.out _).mono ?_; rintro e w' ⟨rfl, rfl⟩) | (go_at_call_of 24 b; refine (P2.out _).mono ?_; rintro e w' ⟨rfl, rfl⟩) | (go_at_call 44; refine (W1.out _).mono ?_; rintro e w' ⟨rfl, rfl⟩))
      all_goals
        clear P1 P2 W1
        go_wp2_with fail
        refine (picked_any a 3 _ ha (by omega)).mono ?_
        rintro e w' ⟨rfl, rfl⟩
        go_wp2_with fail
        refine (picked_any c 2 _ hc (by omega)).mono ?_
        rintro e w' ⟨rfl, rfl⟩
        go_wp2_with fail
        refine (picked_any kd 6 _ hk (by omega)).mono ?_
        rintro e w' ⟨rfl, rfl⟩
        rcases hmk with hmk | hmk
      all_goals
        rw [hmk]
        clear hmk h6
        go_wp2_with fail
      all_goals
        go_region_held3 (fun w' => w'.cell? ⟨w.heap.size + 1 + 1, 0, none⟩ = some (.int .i64 (pick a 4)) ∧ w'.cell? ⟨w.heap.size + 1 + 1, 1, none⟩ = some (.int .i64 (pick b 4)) ∧ w'.cell? ⟨w.heap.size + 1 + 1, 2, none⟩ = some (.int .i64 (pick a 3)) ∧ w'.cell? ⟨w.heap.size, 3, none⟩ = some (.int .i64 c)) (first | (refine ⟨?_, ?_, ?_, ?_⟩ <;> (simp [go_sem]; done)) | go_keep) (first | (go_at_call 24; refine (P4.out _).mono ?_; rintro e w' ⟨rfl, rfl⟩))
      all_goals
        go_wp2
        refine bodyPost_ret (v := (Ent.mk (pick a 4) (pick b 4) (pick a 3) 0 (2 + pick c 2) true ⟨#[]⟩).val) (by simp [results, Try.results42, go_sem, Ent.val, HW2.out]) rfl ⟨by rw [E.out], ?_⟩
        repeat (first | exact Below.refl _ _ | refine Below.drew ?_ | refine Below.setCell ?_ (by first | (simp; done) | (simp; omega)) _ | refine Below.alloc ?_ (by first | (simp; done) | (simp; omega)) _)
    · have E : Hid (rawE kd a b c = ⟨pick a 4, pick b 4, pick a 3, pick c 5, 1, pick c 2 == 0, wordS c⟩) := show _ = _ by (unfold rawE; rw [if_neg hb0, if_neg hmk])
      have hm0 : (pick kd 6 == 0) = false := by rw [beq_eq_false_iff_ne]; exact fun h => hmk (.inl h)
      have hm1 : (pick kd 6 == 1) = false := by rw [beq_eq_false_iff_ne]; exact fun h => hmk (.inr h)
      clear hb0 hmk
      go_enter Try.func42, Try.ntmps42
      go_wp2
      go_region_held3 (fun w' => w'.cell? ⟨w.heap.size, 1, none⟩ = some (.int .i64 a) ∧ w'.cell? ⟨w.heap.size, 2, none⟩ = some (.int .i64 b) ∧ w'.cell? ⟨w.heap.size, 3, none⟩ = some (.int .i64 c)) (go_keep) (first | (go_at_call_of 24 a; refine (P1.out _).mono ?_; rintro e w' ⟨rfl, rfl⟩) | (go_at_call_of 24 b; refine (P2.out _).mono ?_; rintro e w' ⟨rfl, rfl⟩) | (go_at_call 44; refine (W1.out _).mono ?_; rintro e w' ⟨rfl, rfl⟩))
      all_goals
        clear P1 P2 W1
        go_wp2_with fail
        refine (picked_any a 3 _ ha (by omega)).mono ?_
        rintro e w' ⟨rfl, rfl⟩
        go_wp2_with fail
        refine (picked_any c 2 _ hc (by omega)).mono ?_
        rintro e w' ⟨rfl, rfl⟩
        go_wp2_with fail
        refine (picked_any kd 6 _ hk (by omega)).mono ?_
        rintro e w' ⟨rfl, rfl⟩
        go_wp2_with fail
        refine (picked_any c 5 _ hc (by omega)).mono ?_
        rintro e w' ⟨rfl, rfl⟩
        go_wp2
        refine bodyPost_ret (v := (Ent.mk (pick a 4) (pick b 4) (pick a 3) (pick c 5) 1 (pick c 2 == 0) (wordS c)).val) (by simp [results, Try.results42, go_sem, Ent.val]) rfl ⟨by rw [E.out], ?_⟩
        repeat (first | exact Below.refl _ _ | refine Below.drew ?_ | refine Below.setCell ?_ (by first | (simp; done) | (simp; omega)) _ | refine Below.alloc ?_ (by first | (simp; done) | (simp; omega)) _)
end

section
open Go.RowKit
set_option linter.unusedVariables false
set_option linter.unusedSimpArgs false

/-- Raw numbers. -/
structure Raw4 where
  k : Int
  a : Int
  b : Int
  c : Int
def I64 (n : Int) : Prop := -9223372036854775808 ≤ n ∧ n ≤ 9223372036854775807
def Raw4.ok (r : Raw4) : Prop := I64 r.k ∧ I64 r.a ∧ I64 r.b ∧ I64 r.c
def Raw4.ent (r : Raw4) : Ent := rawE r.k r.a r.b r.c
theorem Raw4.ent_ok (r : Raw4) : r.ent.flt = 0 := rawE_ok r.k r.a r.b r.c

/-- A slice of raw numbers that reads as rs. -/
def RdR (w : World) (v : Value) (rs : List Raw4) : Prop :=
  (∀ r ∈ rs, r.ok) ∧ ∃ ao cap, v = .slice ao rs.length cap ∧ (0 < rs.length → ∃ b off, ao = some ⟨b, off, none⟩ ∧ ∀ i, (h : i < rs.length) →
    w.cell? ⟨b, off + i * 4, none⟩ = some (.int .i64 (rs[i]'h).k) ∧ w.cell? ⟨b, off + i * 4 + 1, none⟩ = some (.int .i64 (rs[i]'h).a) ∧ w.cell? ⟨b, off + i * 4 + 2, none⟩ = some (.int .i64 (rs[i]'h).b) ∧ w.cell? ⟨b, off + i * 4 + 3, none⟩ = some (.int .i64 (rs[i]'h).c))

set_option maxRecDepth 100000 in
set_option maxHeartbeats 1000000 in
theorem many_some (rs : List Raw4) (b off cap : Nat) (m : Nat) (w : World) (hm : (m : Int) ≤ 1000) (hl : (rs.length : Int) ≤ 9223372036854775807) (hok : ∀ r ∈ rs, r.ok)
    (hc : ∀ i, (h : i < rs.length) → w.cell? ⟨b, off + i * 4, none⟩ = some (.int .i64 (rs[i]'h).k) ∧ w.cell? ⟨b, off + i * 4 + 1, none⟩ = some (.int .i64 (rs[i]'h).a) ∧ w.cell? ⟨b, off + i * 4 + 2, none⟩ = some (.int .i64 (rs[i]'h).b) ∧ w.cell? ⟨b, off + i * 4 + 3, none⟩ = some (.int .i64 (rs[i]'h).c)) :
    Calls Try.prog 23 #[.slice (some ⟨b, off, none⟩) rs.length cap, .int .i64 m] w fun e w' => ∃ v, e = .returned v ∧ OwnE w.heap.size v ((rs.map Raw4.ent).take m) w' ∧ Below w.heap.size w w' := by
  have HC : Hid _ := hc
  have HO : Hid _ := hok
  clear hc hok
  go_enter Try.func23, Try.ntmps23
  go_wp2
  go_loopw [5, 6] (fun v i wr => ∃ k : Nat, k ≤ rs.length ∧ k ≤ m ∧ i = .int .i64 k ∧ OwnE w.heap.size v ((rs.map Raw4.ent).take k) wr ∧ Below w.heap.size w wr) (fun _ i _ => rs.length - (intOf i).toNat)
  case atStart => exact ⟨0, by omega, by omega, rfl, ownE_nil _ _ (Nat.le_refl _), Below.refl _ _⟩
  case round =>
    obtain ⟨k, hk, hkm, rfl, hown, hbel⟩ := hrel
    by_cases hlt : k < rs.length
    · by_cases hlm : k < m
      · obtain ⟨a0, a1, a2, a3⟩ := HC.out k hlt
        have hb := cell_lt a0
        have q0 := (hbel.cell (p := ⟨b, off + k * 4, none⟩) hb).trans a0
        have q1 := (hbel.cell (p := ⟨b, off + k * 4 + 1, none⟩) hb).trans a1
        have q2 := (hbel.cell (p := ⟨b, off + k * 4 + 2, none⟩) hb).trans a2
        have q3 := (hbel.cell (p := ⟨b, off + k * 4 + 3, none⟩) hb).trans a3
        have hr := HO.out rs[k] (List.getElem_mem hlt)
        have HE : Hid (∀ w, _) := fun w => entry_any rs[k].k rs[k].a rs[k].b rs[k].c w hr.1 hr.2.1 hr.2.2.1 hr.2.2.2
        have HF : Hid (rawE rs[k].k rs[k].a rs[k].b rs[k].c = rs[k].ent) := rfl
        have HS : Hid ((rs.map Raw4.ent).take (k + 1) = (rs.map Raw4.ent).take k ++ [rs[k].ent]) := show _ = _ by (rw [List.take_succ_eq_append_getElem (by simpa using hlt), List.getElem_map])
        have hll : ((rs.map Raw4.ent).take k).length ≤ k := by simp; omega
        rw [HF.out] at HE
        generalize rs[k].ent = e at *
        clear a0 a1 a2 a3 hr
        go_wp2_with fail
        refine (HE.out _).mono ?_
        rintro e' w1 ⟨rfl, hb1⟩
        have hown1 := hown.below (Nat.le_refl _) hb1
        have hbel1 := bstep hbel hb1
        clear hb1 HE hown hbel q0 q1 q2 q3
        simp only [Ent.val]
        go_wp2_with (at_builtin; refine wp_appE rfl _ _ rfl _ _ _ rfl e hown1 _ rfl (by simp) (by omega) ?_)
        intro v2 w2 hown2 hb2
        have hbel2 := hbel1.trans hb2
        rw [← HS.out] at hown2
        clear hb2 hown1 hbel1
        go_wp2
        go_roundw
        case rel => exact ⟨k + 1, by omega, by omega, by go_num, hown2, hbel2⟩
        case measure => simp [intOf]; omega
      · have E : Hid ((rs.map Raw4.ent).take m = (rs.map Raw4.ent).take k) := show _ = _ by rw [show k = m by omega]
        go_wp2
        go_ret
        rw [E.out]
        exact ⟨_, rfl, hown, hbel⟩
    · have E : Hid ((rs.map Raw4.ent).take m = (rs.map Raw4.ent).take k) := show _ = _ by rw [List.take_of_length_le (by simp; omega), List.take_of_length_le (by simp; omega)]
      go_wp2
      go_ret
      rw [E.out]
      exact ⟨_, rfl, hown, hbel⟩

set_option maxRecDepth 100000 in
set_option maxHeartbeats 400000 in
theorem many_none (ao : Option Addr) (cap : Nat) (m : Int) (w : World) :
    Calls Try.prog 23 #[.slice ao 0 cap, .int .i64 m] w fun e w' => ∃ v, e = .returned v ∧ OwnE w.heap.size v [] w' ∧ Below w.heap.size w w' := by
  go_enter Try.func23, Try.ntmps23
  go_wp2
  refine wp_loop_rounds 1 ?_
  rw [rounds_succ]
  go_wp2
  go_ret
  exact ⟨_, rfl, ownE_nil _ _ (Nat.le_refl _), Below.refl _ _⟩

theorem many_any (rs : List Raw4) (v : Value) (m : Nat) (w : World) (hm : (m : Int) ≤ 1000) (hl : (rs.length : Int) ≤ 9223372036854775807) (h : RdR w v rs) :
    Calls Try.prog 23 #[v, .int .i64 m] w fun e w' => ∃ v, e = .returned v ∧ OwnE w.heap.size v ((rs.map Raw4.ent).take m) w' ∧ Below w.heap.size w w' := by
  obtain ⟨hok, ao, cap, rfl, hc⟩ := h
  by_cases h0 : 0 < rs.length
  · obtain ⟨b, off, rfl, hc'⟩ := hc h0
    exact many_some rs b off cap m w hm hl hok hc'
  · have hl : rs = [] := List.eq_nil_of_length_eq_zero (by omega)
    subst hl
    simpa using many_none ao cap m w

theorem RdR.below {v : Value} {rs : List Raw4} {w w' : World} (h : RdR w v rs) (hb : Below w.heap.size w w') : RdR w' v rs := by
  obtain ⟨hok, ao, cap, rfl, h3⟩ := h
  refine ⟨hok, ao, cap, rfl, fun h0 => ?_⟩
  obtain ⟨b, off, rfl, hg⟩ := h3 h0
  have hlt : b < w.heap.size := cell_lt (hg 0 h0).1
  refine ⟨b, off, rfl, fun i hi => ?_⟩
  obtain ⟨q0, q1, q2, q3⟩ := hg i hi
  exact ⟨(hb.cell (p := ⟨b, off + i * 4, none⟩) hlt).trans q0, (hb.cell (p := ⟨b, off + i * 4 + 1, none⟩) hlt).trans q1, (hb.cell (p := ⟨b, off + i * 4 + 2, none⟩) hlt).trans q2, (hb.cell (p := ⟨b, off + i * 4 + 3, none⟩) hlt).trans q3⟩
end

end Go.Proofs.Ytdpiijndnefahaa
