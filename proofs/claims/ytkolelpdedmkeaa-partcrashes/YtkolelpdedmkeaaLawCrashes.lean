/-
  The walk of the law PartCrashes.
-/
import Derived.Test.YtkolelpdedmkeaaApopC
import Derived.Test.YtkolelpdedmkeaaDopC
import Derived.Test.YtkolelpdedmkeaaPsame2
namespace Go.Proofs.Ytkolelpdedmkeaa
open Go.RowKit
set_option linter.unusedVariables false
set_option linter.unusedSimpArgs false

set_option maxRecDepth 100000 in
set_option maxHeartbeats 2000000 in
theorem partCrashes_core (p : Prt) (r k : Int) (vi vk vr : Value) (us : Nat → Value) (w : World) (h : RdP w p vi vk vr us) (hf : p.fits) :
    Calls Try.prog 9 #[.agg #[.int .i64 p.ep, .int .i64 p.ld, vi, vk, vr, .int .i64 p.fw, .int .i64 p.bs], .int .i64 r, .int .i64 k] w fun e w' => e = .returned (.bool true) ∧ Below w.heap.size w w' := by
  obtain ⟨ai, ci, ak, ck, ar, cr, rfl, rfl, rfl, l1, l2, l3⟩ := h.lens
  have hB := bbox w (.cells #[.int .i64 p.ep, .int .i64 p.ld, .slice ai p.isr.length ci, .slice ak p.kn.length ck, .slice ar p.rs.length cr, .int .i64 p.fw, .int .i64 p.bs] 26)
  have HB : Hid (Below w.heap.size w _) := hB
  have HP : Hid (PBox _ w.heap.size p _ _ _) := pbox_new w p (.slice ai p.isr.length ci) (.slice ak p.kn.length ck) (.slice ar p.rs.length cr) 26
  have HR : Hid (RdP _ p _ _ _ us) := h.below (Nat.le_refl _) hB
  have HSZ : Hid (w.heap.size < _) := show w.heap.size < (w.alloc (.cells #[.int .i64 p.ep, .int .i64 p.ld, .slice ai p.isr.length ci, .slice ak p.kn.length ck, .slice ar p.rs.length cr, .int .i64 p.fw, .int .i64 p.bs] 26)).heap.size by simp
  have HF : Hid p.fits := hf
  clear h hB hf
  go_enter Try.func9, Try.ntmps9
  go_wp2_with fail
  refine (partCopy_any p _ _ _ us _ HR.out HF.out).mono ?_
  rintro e w1 ⟨yi, yk, yr, us', rfl, hfr, hb⟩
  have HB1 : Hid (Below w.heap.size w w1) := HB.out.trans (hb.mono HB.out.size)
  have HR1 : Hid (RdP w1 p _ _ _ us) := RdP.below HR.out (Nat.le_refl _) hb
  have HK1 : Hid (RdP w1 p _ _ _ us') := hfr.rdp
  have HP1 : Hid (PBox w1 w.heap.size p _ _ _) := PBox.below HP.out HSZ.out hb
  have hw1 : w.heap.size < w1.heap.size := Nat.lt_of_lt_of_le HSZ.out hb.size
  obtain ⟨di, ei, rfl⟩ := hfr.oi.shape
  obtain ⟨dk, ek, rfl⟩ := hfr.ok.shape
  obtain ⟨dr, er, rfl⟩ := hfr.or.shape
  clear hb hfr
  go_wp2_with fail
  have HKB : Hid (PBox (w1.alloc (.cells #[.int .i64 p.ep, .int .i64 p.ld, .slice di p.isr.length ei, .slice dk p.kn.length ek, .slice dr p.rs.length er, .int .i64 p.fw, .int .i64 p.bs] 26)) w1.heap.size p (.slice di p.isr.length ei) (.slice dk p.kn.length ek) (.slice dr p.rs.length er)) := pbox_new w1 p _ _ _ 26
  have HBA : Hid (Below w1.heap.size w1 (w1.alloc (.cells #[.int .i64 p.ep, .int .i64 p.ld, .slice di p.isr.length ei, .slice dk p.kn.length ek, .slice dr p.rs.length er, .int .i64 p.fw, .int .i64 p.bs] 26))) := bbox _ _
  have hsz1 : w1.heap.size < (w1.alloc (.cells #[.int .i64 p.ep, .int .i64 p.ld, .slice di p.isr.length ei, .slice dk p.kn.length ek, .slice dr p.rs.length er, .int .i64 p.fw, .int .i64 p.bs] 26)).heap.size := by simp
  generalize w1.alloc (.cells #[.int .i64 p.ep, .int .i64 p.ld, .slice di p.isr.length ei, .slice dk p.kn.length ek, .slice dr p.rs.length er, .int .i64 p.fw, .int .i64 p.bs] 26) = w1' at *
  refine (crash_any p r k _ _ _ us' _ (RdP.below HK1.out (Nat.le_refl _) HBA.out) HF.out.s).mono ?_
  rintro e w2 ⟨vi', vk', vr', us2, rfl, hrd2, hb2⟩
  generalize hPP : p.crashP r k = PP at *
  have HPP : Hid (p.crashP r k = PP) := hPP
  clear hPP
  obtain ⟨A, ee⟩ := PP
  simp only at hrd2
  have HB2 : Hid (Below w1.heap.size w1 w2) := bstep HBA.out hb2
  have HA2 : Hid (RdP w2 A _ _ _ us2) := hrd2
  have HKB2 : Hid (PBox w2 w1.heap.size p _ _ _) := PBox.below HKB.out hsz1 hb2
  have hw2 : w1.heap.size < w2.heap.size := Nat.lt_of_lt_of_le hsz1 hb2.size
  obtain ⟨ui, xi, uk, xk, ur, xr, rfl, rfl, rfl, -, -, -⟩ := hrd2.lens
  obtain ⟨b0, b1, b2, b3, b4, b5, b6⟩ := PBox.below HP1.out hw1 HB2.out
  have hw02 : w.heap.size < w2.heap.size := by omega
  clear hb2 hrd2 hsz1 HKB HBA
  go_wp2_with fail
  have HAB : Hid (PBox (w2.alloc (.cells #[.int .i64 A.ep, .int .i64 A.ld, .slice ui A.isr.length xi, .slice uk A.kn.length xk, .slice ur A.rs.length xr, .int .i64 A.fw, .int .i64 A.bs] 26)) w2.heap.size A (.slice ui A.isr.length xi) (.slice uk A.kn.length xk) (.slice ur A.rs.length xr)) := pbox_new w2 A _ _ _ 26
  have HBC : Hid (Below w2.heap.size w2 (w2.alloc (.cells #[.int .i64 A.ep, .int .i64 A.ld, .slice ui A.isr.length xi, .slice uk A.kn.length xk, .slice ur A.rs.length xr, .int .i64 A.fw, .int .i64 A.bs] 26))) := bbox _ _
  have hsz2 : w2.heap.size < (w2.alloc (.cells #[.int .i64 A.ep, .int .i64 A.ld, .slice ui A.isr.length xi, .slice uk A.kn.length xk, .slice ur A.rs.length xr, .int .i64 A.fw, .int .i64 A.bs] 26)).heap.size := by simp
  clear b0 b1 b2 b3 b4 b5 b6
  generalize w2.alloc (.cells #[.int .i64 A.ep, .int .i64 A.ld, .slice ui A.isr.length xi, .slice uk A.kn.length xk, .slice ur A.rs.length xr, .int .i64 A.fw, .int .i64 A.bs] 26) = w2' at *
  have HB3 : Hid (Below w1.heap.size w1 w2') := bstep HB2.out HBC.out
  refine (crashOf_any p r k _ _ _ us _ (RdP.below HR1.out (Nat.le_refl _) HB3.out) HF.out.s).mono ?_
  rintro e w3 ⟨zi, zk, zr, us3, rfl, hrd3, hb3⟩
  rw [HPP.out] at hrd3 ⊢
  simp only at hrd3 ⊢
  have HB4 : Hid (Below w1.heap.size w1 w3) := bstep HB3.out hb3
  have HA3 : Hid (RdP w3 A _ _ _ us2) := RdP.below HA2.out (Nat.le_refl _) (bstep HBC.out hb3)
  have HD3 : Hid (RdP w3 A _ _ _ us3) := hrd3
  have HK3 : Hid (RdP w3 p _ _ _ us') := RdP.below HK1.out (Nat.le_refl _) HB4.out
  have HR3 : Hid (RdP w3 p _ _ _ us) := RdP.below HR1.out (Nat.le_refl _) HB4.out
  have hw3 : w2.heap.size < w3.heap.size := Nat.lt_of_lt_of_le hsz2 hb3.size
  have HKB3 : Hid (PBox w3 w1.heap.size p _ _ _) := PBox.below HKB2.out hw2 (bstep HBC.out hb3)
  have HPB3 : Hid (PBox w3 w.heap.size p _ _ _) := PBox.below HP1.out hw1 HB4.out
  have HAB3 : Hid (PBox w3 w2.heap.size A _ _ _) := PBox.below HAB.out hsz2 hb3
  obtain ⟨gi, ri, gk, rk, gr, rr, rfl, rfl, rfl, -, -, -⟩ := hrd3.lens
  obtain ⟨b0, b1, b2, b3, b4, b5, b6⟩ := HPB3.out
  obtain ⟨c0, c1, c2, c3, c4, c5, c6⟩ := HKB3.out
  obtain ⟨d0, d1, d2, d3, d4, d5, d6⟩ := HAB3.out
  have hw03 : w.heap.size < w3.heap.size := by omega
  have hw13 : w1.heap.size < w3.heap.size := by omega
  clear hb3 hrd3 hsz2 HAB HBC HPP
  go_wp2_with fail
  refine (samePart_same A _ _ _ _ _ _ us2 us3 _ (RdP.below HA3.out (Nat.le_refl _) (by repeat (first | exact Below.refl _ _ | refine Below.setCell ?_ (Nat.le_refl _) _ | refine Below.drew ?_ | refine Below.alloc ?_ (Nat.le_refl _) _))) (RdP.below HD3.out (Nat.le_refl _) (by repeat (first | exact Below.refl _ _ | refine Below.setCell ?_ (Nat.le_refl _) _ | refine Below.drew ?_ | refine Below.alloc ?_ (Nat.le_refl _) _)))).mono ?_
  rintro e w4 ⟨rfl, hb4⟩
  have HB5 : Hid (Below w3.heap.size w3 w4) := bstep (by repeat (first | exact Below.refl _ _ | refine Below.setCell ?_ (Nat.le_refl _) _ | refine Below.drew ?_ | refine Below.alloc ?_ (Nat.le_refl _) _)) hb4
  clear hb4 b0 b1 b2 b3 b4 b5 b6 c0 c1 c2 c3 c4 c5 c6 d0 d1 d2 d3 d4 d5 d6
  obtain ⟨b0, b1, b2, b3, b4, b5, b6⟩ := PBox.below HPB3.out (show w.heap.size < w3.heap.size by omega) HB5.out
  obtain ⟨c0, c1, c2, c3, c4, c5, c6⟩ := PBox.below HKB3.out (show w1.heap.size < w3.heap.size by omega) HB5.out
  go_wp2_with fail
  refine (samePart_same p _ _ _ _ _ _ us' us _ (RdP.below HK3.out (Nat.le_refl _) HB5.out) (RdP.below HR3.out (Nat.le_refl _) HB5.out)).mono ?_
  rintro e w5 ⟨rfl, hb5⟩
  have HB6 : Hid (Below w.heap.size w w5) := HB1.out.trans (((bstep (bstep HB4.out HB5.out) hb5)).mono HB1.out.size)
  clear hb5 b0 b1 b2 b3 b4 b5 b6 c0 c1 c2 c3 c4 c5 c6
  go_wp2
  go_ret
  exact ⟨rfl, HB6.out⟩

end Go.Proofs.Ytkolelpdedmkeaa
