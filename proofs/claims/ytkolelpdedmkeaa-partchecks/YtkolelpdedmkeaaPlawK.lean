/-
  The walk of the law PartChecks.
-/
import Derived.Test.YtkolelpdedmkeaaApch
import Derived.Test.YtkolelpdedmkeaaPmay2
namespace Go.Proofs.Ytkolelpdedmkeaa
open Go.RowKit
set_option linter.unusedVariables false
set_option linter.unusedSimpArgs false

set_option maxRecDepth 100000 in
set_option maxHeartbeats 2000000 in
theorem partChecks_core (p : Prt) (vi vk vr : Value) (us : Nat → Value) (w : World) (h : RdP w p vi vk vr us) (hf : p.small) :
    Calls Try.prog 4 #[.agg #[.int .i64 p.ep, .int .i64 p.ld, vi, vk, vr, .int .i64 p.fw, .int .i64 p.bs]] w fun e w' => e = .returned (.bool true) ∧ Below w.heap.size w w' := by
  obtain ⟨ai, ci, ak, ck, ar, cr, rfl, rfl, rfl, l1, l2, l3⟩ := h.lens
  have hB := bbox w (.cells #[.int .i64 p.ep, .int .i64 p.ld, .slice ai p.isr.length ci, .slice ak p.kn.length ck, .slice ar p.rs.length cr, .int .i64 p.fw, .int .i64 p.bs] 26)
  have HB : Hid (Below w.heap.size w _) := hB
  have HP : Hid (PBox _ w.heap.size p _ _ _) := pbox_new w p (.slice ai p.isr.length ci) (.slice ak p.kn.length ck) (.slice ar p.rs.length cr) 26
  have HR : Hid (RdP _ p _ _ _ us) := h.below (Nat.le_refl _) hB
  have HSZ : Hid (w.heap.size < _) := show w.heap.size < (w.alloc (.cells #[.int .i64 p.ep, .int .i64 p.ld, .slice ai p.isr.length ci, .slice ak p.kn.length ck, .slice ar p.rs.length cr, .int .i64 p.fw, .int .i64 p.bs] 26)).heap.size by simp
  have HF : Hid p.small := hf
  clear h hB hf
  go_enter Try.func4, Try.ntmps4
  go_wp2_with fail
  refine (partCheck_any p _ _ _ us _ HR.out HF.out).mono ?_
  rintro e w1 ⟨rfl, hb⟩
  have HB1 : Hid (Below w.heap.size w w1) := HB.out.trans (hb.mono HB.out.size)
  have HR1 : Hid (RdP w1 p _ _ _ us) := RdP.below HR.out (Nat.le_refl _) hb
  obtain ⟨b0, b1, b2, b3, b4, b5, b6⟩ := PBox.below HP.out HSZ.out hb
  clear hb
  go_wp2_with fail
  refine (partMay_any p _ _ _ us _ HR1.out HF.out).mono ?_
  rintro e w2 ⟨rfl, hb2⟩
  have HB2 : Hid (Below w.heap.size w w2) := HB1.out.trans (hb2.mono HB1.out.size)
  clear hb2 b0 b1 b2 b3 b4 b5 b6
  cases hm : p.mayB with
  | true =>
    rw [cfl_yes hm]
    go_wp2
    go_ret
    exact ⟨rfl, HB2.out⟩
  | false =>
    rw [cfl_no hm]
    go_wp2
    go_ret
    exact ⟨rfl, HB2.out⟩

end Go.Proofs.Ytkolelpdedmkeaa
