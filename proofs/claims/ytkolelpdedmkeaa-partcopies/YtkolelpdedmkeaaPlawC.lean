/-
  The walk of the law PartCopies.
-/
import Derived.Test.YtkolelpdedmkeaaAown
import Derived.Test.YtkolelpdedmkeaaPsame2
namespace Go.Proofs.Ytkolelpdedmkeaa
open Go.RowKit
set_option linter.unusedVariables false
set_option linter.unusedSimpArgs false

set_option maxRecDepth 100000 in
set_option maxHeartbeats 2000000 in
theorem partCopies_core (p : Prt) (vi vk vr : Value) (us : Nat → Value) (w : World) (h : RdP w p vi vk vr us) (hf : p.fits) :
    Calls Try.prog 5 #[.agg #[.int .i64 p.ep, .int .i64 p.ld, vi, vk, vr, .int .i64 p.fw, .int .i64 p.bs]] w fun e w' => e = .returned (.bool true) ∧ Below w.heap.size w w' := by
  obtain ⟨ai, ci, ak, ck, ar, cr, rfl, rfl, rfl, l1, l2, l3⟩ := h.lens
  have hB := bbox w (.cells #[.int .i64 p.ep, .int .i64 p.ld, .slice ai p.isr.length ci, .slice ak p.kn.length ck, .slice ar p.rs.length cr, .int .i64 p.fw, .int .i64 p.bs] 26)
  have HB : Hid (Below w.heap.size w _) := hB
  have HP : Hid (PBox _ w.heap.size p _ _ _) := pbox_new w p (.slice ai p.isr.length ci) (.slice ak p.kn.length ck) (.slice ar p.rs.length cr) 26
  have HR : Hid (RdP _ p _ _ _ us) := h.below (Nat.le_refl _) hB
  have HSZ : Hid (w.heap.size < _) := show w.heap.size < (w.alloc (.cells #[.int .i64 p.ep, .int .i64 p.ld, .slice ai p.isr.length ci, .slice ak p.kn.length ck, .slice ar p.rs.length cr, .int .i64 p.fw, .int .i64 p.bs] 26)).heap.size by simp
  have HF : Hid p.fits := hf
  clear h hB hf
  go_enter Try.func5, Try.ntmps5
  go_wp2_with fail
  refine (copy_any p _ _ _ us _ HR.out HF.out).mono ?_
  rintro e w1 ⟨xi, xk, xr, us', rfl, hfr, hb⟩
  have HB1 : Hid (Below w.heap.size w w1) := HB.out.trans (hb.mono HB.out.size)
  have HR1 : Hid (RdP w1 p _ _ _ us) := RdP.below HR.out (Nat.le_refl _) hb
  have HR2 : Hid (RdP w1 p _ _ _ us') := hfr.rdp
  obtain ⟨b0, b1, b2, b3, b4, b5, b6⟩ := PBox.below HP.out HSZ.out hb
  have hwr : w.heap.size < w1.heap.size := Nat.lt_of_lt_of_le HSZ.out hb.size
  obtain ⟨di, ei, rfl⟩ := hfr.oi.shape
  obtain ⟨dk, ek, rfl⟩ := hfr.ok.shape
  obtain ⟨dr, er, rfl⟩ := hfr.or.shape
  clear hb hfr
  go_wp2_with fail
  refine (samePart_same p _ _ _ _ _ _ us' us _ (RdP.below HR2.out (Nat.le_refl _) (by repeat (first | exact Below.refl _ _ | refine Below.setCell ?_ (Nat.le_refl _) _ | refine Below.drew ?_ | refine Below.alloc ?_ (Nat.le_refl _) _))) (RdP.below HR1.out (Nat.le_refl _) (by repeat (first | exact Below.refl _ _ | refine Below.setCell ?_ (Nat.le_refl _) _ | refine Below.drew ?_ | refine Below.alloc ?_ (Nat.le_refl _) _)))).mono ?_
  rintro e w2 ⟨rfl, hb2⟩
  have HB2 : Hid (Below w.heap.size w w2) := HB1.out.trans (((show Below w1.heap.size w1 _ from (by repeat (first | exact Below.refl _ _ | refine Below.setCell ?_ (Nat.le_refl _) _ | refine Below.drew ?_ | refine Below.alloc ?_ (Nat.le_refl _) _))).trans (hb2.mono (by simp))).mono HB1.out.size)
  clear hb2 b0 b1 b2 b3 b4 b5 b6
  go_wp2
  go_ret
  exact ⟨rfl, HB2.out⟩

end Go.Proofs.Ytkolelpdedmkeaa
