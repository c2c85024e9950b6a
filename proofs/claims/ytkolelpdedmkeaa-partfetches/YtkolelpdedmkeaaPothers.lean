/-
  The document's othersFault.
-/
import Derived.Test.YtkolelpdedmkeaaPfault
namespace Go.Proofs.Ytkolelpdedmkeaa
open Go.RowKit
set_option linter.unusedVariables false
set_option linter.unusedSimpArgs false

set_option maxRecDepth 100000 in
set_option maxHeartbeats 2000000 in
theorem othersFault_any (p : Prt) (r : Int) (vi vk vr : Value) (us : Nat → Value) (w : World) (h : RdP w p vi vk vr us) (hs : p.small) :
    Calls Try.prog 95 #[.agg #[.int .i64 p.ep, .int .i64 p.ld, vi, vk, vr, .int .i64 p.fw, .int .i64 p.bs], .int .i64 r] w fun e w' => e = .returned (.int .i64 (p.ofl r)) ∧ Below w.heap.size w w' := by
  have hB := bbox w (.cells #[.int .i64 p.ep, .int .i64 p.ld, vi, vk, vr, .int .i64 p.fw, .int .i64 p.bs] 26)
  have HB : Hid (Below w.heap.size w _) := hB
  have HP : Hid (PBox _ w.heap.size p _ _ _) := pbox_new w p vi vk vr 26
  have HR : Hid (RdP _ p _ _ _ us) := h.below (Nat.le_refl _) hB
  have HS : Hid p.small := hs
  have HSZ : Hid (w.heap.size < _) := show w.heap.size < (w.alloc (.cells #[.int .i64 p.ep, .int .i64 p.ld, vi, vk, vr, .int .i64 p.fw, .int .i64 p.bs] 26)).heap.size by simp
  have HF : Hid (p.ofl r = if p.flt r = 0 ∧ (p.ld < 0 ∨ p.ld = r) then 8 else p.flt r) := show _ = _ by unfold Prt.ofl; split <;> split <;> simp_all
  clear h hB hs
  go_enter Try.func95, Try.ntmps95
  go_wp2_with fail
  refine (partFault_any p r _ _ _ us _ HR.out HS.out).mono ?_
  rintro e w1 ⟨rfl, hb⟩
  have HB1 : Hid (Below w.heap.size w w1) := HB.out.trans (hb.mono HB.out.size)
  obtain ⟨b0, b1, b2, b3, b4, b5, b6⟩ := PBox.below HP.out HSZ.out hb
  clear hb
  generalize p.flt r = f at *
  by_cases c0 : f = 0
  · subst c0
    by_cases c1 : p.ld < 0
    · go_wp2
      go_ret
      exact ⟨by rw [HF.out]; simp [c1], HB1.out⟩
    · by_cases c2 : p.ld = r
      · have d2 : (p.ld == r) = true := by simp [c2]
        go_wp2
        go_ret
        exact ⟨by rw [HF.out]; simp [c2], HB1.out⟩
      · have d2 : (p.ld == r) = false := by simp [c2]
        go_wp2
        go_ret
        exact ⟨by rw [HF.out]; simp [c1, c2], HB1.out⟩
  · have d0 : (f == 0) = false := by simp [c0]
    go_wp2
    go_ret
    exact ⟨by rw [HF.out]; simp [c0], HB1.out⟩

end Go.Proofs.Ytkolelpdedmkeaa
