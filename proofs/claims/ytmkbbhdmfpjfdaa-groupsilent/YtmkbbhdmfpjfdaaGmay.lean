/-
  The document's rises and GroupMay, walked.
-/
import Derived.Test.YtmkbbhdmfpjfdaaGmem
import Derived.BigQuiet
namespace Go.Proofs.Ytmkbbhdmfpjfdaa
open Go.RowKit
set_option linter.unusedVariables false
set_option linter.unusedSimpArgs false

/-- The least that the k-th part may be. -/
def loOf (l : List Int) (k : Nat) : Int := if k = 0 then 0 else l.getD (k - 1) 0 + 1
theorem okAt_eq (l : List Int) (k : Nat) : okAt l k = inR (l.getD k 0) (loOf l k) 3 := rfl
theorem okAt_parts {l : List Int} {k : Nat} (h : allN (okAt l) k = true) : okAt l k = (inR (l.getD k 0) 0 3 && !(decide (0 < k) && decide (l.getD k 0 ≤ l.getD (k - 1) 0))) := by
  rw [okAt_eq]
  unfold loOf
  by_cases h0 : k = 0
  · subst h0
    simp
  · rw [if_neg h0]
    have := allN_iff.1 h (k - 1) (by omega)
    rw [okAt_eq, inR_iff] at this
    have h1 : 0 ≤ l.getD (k - 1) 0 := by
      have h2 : 0 ≤ loOf l (k - 1) := by
        unfold loOf
        by_cases h3 : k - 1 = 0
        · rw [if_pos h3]; omega
        · rw [if_neg h3]
          have := allN_iff.1 h (k - 1 - 1) (by omega)
          rw [okAt_eq, inR_iff] at this
          have h4 : ∀ j, j ≤ k → 0 ≤ loOf l j := by
            intro j
            induction j with
            | zero => intro _; unfold loOf; rw [if_pos rfl]; omega
            | succ j ih =>
              intro hj
              have h5 := ih (by omega)
              have h6 := allN_iff.1 h j (by omega)
              rw [okAt_eq, inR_iff] at h6
              unfold loOf
              rw [if_neg (by omega), Nat.add_sub_cancel]
              omega
          have := h4 (k - 1) (by omega)
          unfold loOf at this
          rw [if_neg h3] at this
          exact this
      omega
    rw [Bool.eq_iff_iff]
    simp only [inR_iff, Bool.and_eq_true, Bool.not_eq_true', Bool.and_eq_false_iff, decide_eq_false_iff_not, decide_eq_true_eq]
    omega
theorem rd_at {w : World} {ao : Option Addr} {n cap : Nat} {l : List Int} (h : RdV w (.slice ao n cap) (ints l)) (i : Nat) (hi : i < l.length) : ∃ g off p, ao = some ⟨g, off, none⟩ ∧ Hid (l.getD i 0 = p) ∧ w.cell? ⟨g, off + i, none⟩ = some (.int .i64 p) := by
  obtain ⟨g, off, e, hc⟩ := h.intCell i hi
  exact ⟨g, off, _, e, (show l.getD i 0 = _ by simp [List.getD, hi]), hc⟩

set_option maxRecDepth 100000 in
set_option maxHeartbeats 2000000 in
theorem rises_any (l : List Int) (v : Value) (w : World) (h : RdV w v (ints l)) :
    Calls Try.prog 56 #[v] w fun e w' => e = .returned (.bool (riseB l)) ∧ Below w.heap.size w w' := by
  obtain ⟨ao, cap, rfl, hll⟩ := h.intShape
  have H : Hid _ := h
  have HE : Hid (riseB l = allN (okAt l) l.length) := show _ = _ from rfl
  clear h
  go_enter Try.func56, Try.ntmps56
  go_wp2
  go_loopw [3] (fun i wr => ∃ k : Nat, k ≤ l.length ∧ i = .int .i64 k ∧ Hid (allN (okAt l) k = true) ∧ Hid (Below w.heap.size w wr)) (fun i _ => l.length - (intOf i).toNat)
  case atStart => exact ⟨0, by omega, rfl, rfl, Below.refl _ _⟩
  case round =>
    obtain ⟨k, hk, rfl, HA, HB⟩ := hrel
    by_cases hlt : k < l.length
    · have hltv : (k : Int) < l.length := by omega
      have HO : Hid _ := okAt_parts HA.out
      obtain ⟨g, off, p, rfl, HP, c0⟩ := rd_at (RdV.below H.out (Nat.le_refl _) HB.out) k hlt
      cases hin : inR p 0 3 with
      | false =>
        have HIN : Hid (∀ W, Calls Try.prog 48 #[.int .i64 p, .int .i64 0, .int .i64 3] W fun e w' => e = .returned (.bool false) ∧ w' = W) := fun W => by have := In_any p 0 3 W; rwa [hin] at this
        have HF : Hid (riseB l = false) := show _ = _ from by rw [HE.out]; exact allN_no hlt (by rw [HO.out, HP.out, hin]; rfl)
        go_wp2
        go_quiet ((go_at_call 48; exact Calls.quiet_of_same (HIN.out _)))
        go_wp2
        go_ret
        exact ⟨by rw [HF.out]; rfl, below_drewN HB.out _⟩
      | true =>
        have HIN : Hid (∀ W, Calls Try.prog 48 #[.int .i64 p, .int .i64 0, .int .i64 3] W fun e w' => e = .returned (.bool true) ∧ w' = W) := fun W => by have := In_any p 0 3 W; rwa [hin] at this
        by_cases h0 : 0 < k
        · have d0 : decide (0 < (k : Int)) = true := by simp; omega
          have hk1 : k - 1 < l.length := by omega
          obtain ⟨g2, off2, p2, e2, HP2, c2⟩ := rd_at (RdV.below H.out (Nat.le_refl _) HB.out) (k - 1) hk1
          simp only [Option.some.injEq, Addr.mk.injEq, and_true] at e2
          obtain ⟨rfl, rfl⟩ := e2
          have hkv : (0 : Int) ≤ (k : Int) - 1 := by omega
          have hkl : (k : Int) - 1 < l.length := by omega
          have hkn : ((k : Int) - 1).toNat = k - 1 := by omega
          have hw1 : IntKind.i64.wrap ((k : Int) - 1) = (k : Int) - 1 := by rw [IntKind.wrap_i64]; omega
          cases hle : decide (p ≤ p2) with
          | true =>
            have HF : Hid (riseB l = false) := show _ = _ from by rw [HE.out]; exact allN_no hlt (by rw [HO.out, HP.out, HP2.out, hin, hle, decide_eq_true h0]; rfl)
            go_wp2
            go_quiet ((go_at_call 48; exact Calls.quiet_of_same (HIN.out _)))
            go_wp2
            go_ret
            exact ⟨by rw [HF.out]; rfl, below_drewN HB.out _⟩
          | false =>
            have HN : Hid (allN (okAt l) (k + 1) = true) := show _ = _ by
              simp only [allN, HA.out, Bool.true_and]
              rw [HO.out, HP.out, HP2.out, hin, hle]; simp
            go_wp2
            go_quiet ((go_at_call 48; exact Calls.quiet_of_same (HIN.out _)))
            go_wp2
            go_roundw
            case rel => exact ⟨k + 1, by omega, by go_num, HN, below_drewN HB.out _⟩
            case measure => simp [intOf]; omega
        · have d0 : decide (0 < (k : Int)) = false := by simp; omega
          have HN : Hid (allN (okAt l) (k + 1) = true) := show _ = _ by
            simp only [allN, HA.out, Bool.true_and]
            rw [HO.out, HP.out, hin, decide_eq_false h0]; simp
          go_wp2
          go_quiet ((go_at_call 48; exact Calls.quiet_of_same (HIN.out _)))
          go_wp2
          go_roundw
          case rel => exact ⟨k + 1, by omega, by go_num, HN, below_drewN HB.out _⟩
          case measure => simp [intOf]; omega
    · have hke : k = l.length := by omega
      have HF : Hid (riseB l = true) := show _ = _ by rw [HE.out, ← hke]; exact HA.out
      clear hke
      go_wp2
      go_ret
      exact ⟨by rw [HF.out]; rfl, HB.out⟩

end Go.Proofs.Ytmkbbhdmfpjfdaa
