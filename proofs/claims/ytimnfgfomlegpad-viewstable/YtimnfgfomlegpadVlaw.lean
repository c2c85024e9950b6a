/-
  The walks of the laws ViewStable, ViewChecks and ViewReads, given what package view answers.
-/
import Derived.Test.YtimnfgfomlegpadVplain
import Derived.Test.YtimnfgfomlegpadVread3
import Derived.Test.YtimnfgfomlegpadLsameE
import Derived.Test.YtimnfgfomlegpadVapp
namespace Go.Proofs.Ytimnfgfomlegpad
open Go.RowKit
set_option linter.unusedVariables false
set_option linter.unusedSimpArgs false

/-- view.Stable answers what P3.4 says. -/
def StableC : Prop := ∀ (es : List Ent) (v : Value) (h : Int) (w : World), (es.length : Int) ≤ 2199023255552 → Plain es → RdX w v es →
    Calls Try.prog 10 #[v, .int .i64 h] w fun e w' => e = .returned (.tuple #[.int .i64 (stf es h).1, .int .i64 (stf es h).2]) ∧ Below w.heap.size w w'
/-- view.Check answers what P3.3 says. -/
def CheckC : Prop := ∀ (es : List Ent) (v : Value) (x : Ent) (w : World), (es.length : Int) ≤ 2199023255552 → Plain es → Plain [x] → RdX w v es →
    Calls Try.prog 19 #[v, .agg #[.int .i64 x.a, .int .i64 x.b, .int .i64 x.c, .int .i64 x.d, .int .i64 x.k, .bool x.t, .string x.s]] w fun e w' => e = .returned (.tuple #[.int .i64 (chk es x).1, .int .i64 (chk es x).2]) ∧ Below w.heap.size w w'
/-- view.Read answers what P3.5 says. -/
def ReadC : Prop := ∀ (es : List Ent) (v : Value) (h fr ms : Int) (w : World), (es.length : Int) ≤ 2199023255552 → Plain es → RdX w v es →
    Calls Try.prog 13 #[v, .int .i64 h, .int .i64 fr, .int .i64 ms] w fun e w' => ∃ u, e = .returned (.tuple #[u, .int .i64 (rdA es h fr ms).2.1, .int .i64 (rdA es h fr ms).2.2]) ∧ OwnS w.heap.size u (rdA es h fr ms).1 w' ∧ Below w.heap.size w w'

set_option maxHeartbeats 1000000 in
theorem viewStable_core (HV : StableC) (es : List Ent) (v : Value) (h : Int) (w : World) (hl : (es.length : Int) ≤ 2199023255552) (hr : RdX w v es) :
    Calls Try.prog 3 #[v, .int .i64 h] w fun e w' => e = .returned (.bool true) ∧ Below w.heap.size w w' := by
  have HR : Hid (RdX w v es) := hr
  have HVV : Hid StableC := HV
  clear hr HV
  go_enter Try.func3, Try.ntmps3
  go_wp2_with fail
  refine (plain_any es _ _ hl HR.out).mono ?_
  rintro e w1 ⟨⟨hp, rfl⟩ | ⟨hp, rfl⟩, rfl⟩
  · have HPL : Hid (Plain es) := hp
    clear hp
    go_wp2_with fail
    refine (entriesCopy_any es _ _ (by omega) HR.out).mono ?_
    rintro e w2 ⟨u, rfl, hu, hb2⟩
    go_wp2_with fail
    refine (HVV.out es _ h _ hl HPL.out hu.rdX).mono ?_
    rintro e w3 ⟨rfl, hb3⟩
    have B3 := bstep hb2 hb3
    have hR3 := RdX.below HR.out (Nat.le_refl _) B3
    clear hb2 hb3 hu HVV
    go_wp2_with fail
    refine (stableOf_any es _ h _ hl hR3).mono ?_
    rintro e w4 ⟨rfl, hb4⟩
    have B4 := bstep B3 hb4
    have e1 : ((stf es h).1 == (stf es h).1) = true := by simp
    have e2 : ((stf es h).2 == (stf es h).2) = true := by simp
    clear hb4 B3 hR3 HR
    go_wp2
    go_ret
    exact ⟨rfl, B4⟩
  · go_wp2
    go_ret
    exact ⟨rfl, Below.refl _ _⟩

theorem readOf_any (es : List Ent) (v : Value) (h fr ms : Int) (w : World) (hl : (es.length : Int) ≤ 2199023255552) (hr : RdX w v es) :
    Calls Try.prog 14 #[v, .int .i64 h, .int .i64 fr, .int .i64 ms] w fun e w' => ∃ u, e = .returned (.tuple #[u, .int .i64 (rdA es h fr ms).2.1, .int .i64 (rdA es h fr ms).2.2]) ∧ OwnS w.heap.size u (rdA es h fr ms).1 w' ∧ Below w.heap.size w w' := by
  obtain ⟨ao, cap, rfl⟩ : ∃ ao cap, v = .slice ao es.length cap := by obtain ⟨ao, cap, e, _⟩ := hr; exact ⟨ao, cap, e⟩
  by_cases hh : h < 0 ∨ (es.length : Int) < h
  · have hs : stf es h = (0, 2) := by unfold stf; rw [if_pos hh]
    have E : rdA es h fr ms = ([], 0, 2) := by unfold rdA; rw [hs, if_pos (by simp)]
    rw [E]
    refine (readOf_high es ao cap h fr ms w hl hr hh).mono ?_
    rintro e w' ⟨e1, hb⟩
    exact ⟨_, e1, ownS_nil _ _ hb.size, hb⟩
  · have hs : stf es h = ((stb es h.toNat : Int), 0) := by unfold stf; rw [if_neg hh]
    by_cases hb : fr < 0 ∨ (es.length : Int) < fr ∨ ms < 1 ∨ 20 < ms
    · have E : rdA es h fr ms = ([], 0, 2) := by unfold rdA; rw [hs, if_neg (by simp), if_pos hb]
      rw [E]
      refine (readOf_range es ao cap h fr ms w hl hr hh hb).mono ?_
      rintro e w' ⟨e1, hb⟩
      exact ⟨_, e1, ownS_nil _ _ hb.size, hb⟩
    · obtain ⟨n, rfl⟩ := Int.eq_ofNat_of_zero_le (show 0 ≤ h by omega)
      obtain ⟨f, rfl⟩ := Int.eq_ofNat_of_zero_le (show 0 ≤ fr by omega)
      obtain ⟨m, rfl⟩ := Int.eq_ofNat_of_zero_le (show 0 ≤ ms by omega)
      have E : rdA es n f m = ((rdF es n (stb es n) es.length f m).1, ((rdF es n (stb es n) es.length f m).2 : Int), 0) := by
        unfold rdA
        rw [hs, if_neg (by simp), if_neg hb]
        simp
      rw [E]
      exact readOf_ok es ao cap n f m w hl hr (by omega) (by omega) (by omega)

theorem rdF_len (es : List Ent) (h fin f i m : Nat) : (rdF es h fin f i m).1.length ≤ m := by
  induction f generalizing i m with
  | zero => simp [rdF]
  | succ f ih =>
    simp only [rdF]
    split
    · simp
    · split
      · have := ih (i + 1) (m - 1)
        simp only [List.length_cons]
        omega
      · exact ih (i + 1) m
theorem rdA_len (es : List Ent) (h fr ms : Int) : (rdA es h fr ms).1.length ≤ 20 := by
  unfold rdA
  split
  · simp
  · split
    · simp
    · have := rdF_len es h.toNat (stb es h.toNat) es.length fr.toNat ms.toNat
      simp only
      omega

set_option maxHeartbeats 1000000 in
theorem viewReads_core (HV : ReadC) (es : List Ent) (v : Value) (h fr ms : Int) (w : World) (hl : (es.length : Int) ≤ 2199023255552) (hr : RdX w v es) :
    Calls Try.prog 4 #[v, .int .i64 h, .int .i64 fr, .int .i64 ms] w fun e w' => e = .returned (.bool true) ∧ Below w.heap.size w w' := by
  have HR : Hid (RdX w v es) := hr
  have HVV : Hid ReadC := HV
  have hll := rdA_len es h fr ms
  clear hr HV
  go_enter Try.func4, Try.ntmps4
  go_wp2_with fail
  refine (plain_any es _ _ hl HR.out).mono ?_
  rintro e w1 ⟨⟨hp, rfl⟩ | ⟨hp, rfl⟩, rfl⟩
  · have HPL : Hid (Plain es) := hp
    clear hp
    go_wp2_with fail
    refine (entriesCopy_any es _ _ (by omega) HR.out).mono ?_
    rintro e w2 ⟨u, rfl, hu, hb2⟩
    go_wp2_with fail
    refine (HVV.out es _ h fr ms _ hl HPL.out hu.rdX).mono ?_
    rintro e w3 ⟨va, rfl, hva, hb3⟩
    have B3 := bstep hb2 hb3
    have hR3 := RdX.below HR.out (Nat.le_refl _) B3
    clear hb2 hb3 hu HVV
    go_wp2_with fail
    refine (readOf_any es _ h fr ms _ hl hR3).mono ?_
    rintro e w4 ⟨vb, rfl, hvb, hb4⟩
    have B4 := bstep B3 hb4
    have hva4 := hva.below (Nat.le_refl _) hb4
    have e1 : ((rdA es h fr ms).2.1 == (rdA es h fr ms).2.1) = true := by simp
    have e2 : ((rdA es h fr ms).2.2 == (rdA es h fr ms).2.2) = true := by simp
    clear hb4 B3 hR3 HR hva
    generalize (rdA es h fr ms).1 = ts at *
    generalize (rdA es h fr ms).2.1 = pl at *
    generalize (rdA es h fr ms).2.2 = er at *
    go_wp2_with fail
    refine (sameTexts_any ts _ _ _ (by omega) hva4.rd hvb.rd).mono ?_
    rintro e w5 ⟨rfl, hb5⟩
    have B5 := bstep B4 hb5
    clear hb5 B4 hva4 hvb
    go_wp2_with fail
    go_ret
    exact ⟨rfl, B5⟩
  · go_wp2
    go_ret
    exact ⟨rfl, Below.refl _ _⟩

end Go.Proofs.Ytimnfgfomlegpad
