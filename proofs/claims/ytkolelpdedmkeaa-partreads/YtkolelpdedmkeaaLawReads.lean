/-
  The walk of the law PartReads.
-/
import Derived.Test.YtkolelpdedmkeaaPopD
import Derived.Test.YtkolelpdedmkeaaDopD
namespace Go.Proofs.Ytkolelpdedmkeaa
open Go.RowKit
set_option linter.unusedVariables false
set_option linter.unusedSimpArgs false

theorem readP_len (p : Prt) (fr ms : Int) : (p.readP fr ms).1.length ≤ 20 := by
  unfold Prt.readP
  split
  · simp
  · split
    · simp
    · exact rdA_len _ _ _ _

set_option maxRecDepth 100000 in
set_option maxHeartbeats 2000000 in
theorem partReads_core (p : Prt) (fr ms : Int) (vi vk vr : Value) (us : Nat → Value) (w : World) (h : RdP w p vi vk vr us) (hf : p.fits) :
    Calls Try.prog 15 #[.agg #[.int .i64 p.ep, .int .i64 p.ld, vi, vk, vr, .int .i64 p.fw, .int .i64 p.bs], .int .i64 fr, .int .i64 ms] w fun e w' => e = .returned (.bool true) ∧ Below w.heap.size w w' := by
  obtain ⟨ai, ci, ak, ck, ar, cr, rfl, rfl, rfl, l1, l2, l3⟩ := h.lens
  have hB := bbox w (.cells #[.int .i64 p.ep, .int .i64 p.ld, .slice ai p.isr.length ci, .slice ak p.kn.length ck, .slice ar p.rs.length cr, .int .i64 p.fw, .int .i64 p.bs] 26)
  have HB : Hid (Below w.heap.size w _) := hB
  have HP : Hid (PBox _ w.heap.size p _ _ _) := pbox_new w p (.slice ai p.isr.length ci) (.slice ak p.kn.length ck) (.slice ar p.rs.length cr) 26
  have HR : Hid (RdP _ p _ _ _ us) := h.below (Nat.le_refl _) hB
  have HSZ : Hid (w.heap.size < _) := show w.heap.size < (w.alloc (.cells #[.int .i64 p.ep, .int .i64 p.ld, .slice ai p.isr.length ci, .slice ak p.kn.length ck, .slice ar p.rs.length cr, .int .i64 p.fw, .int .i64 p.bs] 26)).heap.size by simp
  have HF : Hid p.fits := hf
  have hll := readP_len p fr ms
  clear h hB hf
  go_enter Try.func15, Try.ntmps15
  go_wp2_with fail
  refine (partRead_any p fr ms _ _ _ us _ HR.out HF.out.s).mono ?_
  rintro e w1 ⟨va, rfl, hva, hb⟩
  have HB1 : Hid (Below w.heap.size w w1) := HB.out.trans (hb.mono HB.out.size)
  have HR1 : Hid (RdP w1 p _ _ _ us) := RdP.below HR.out (Nat.le_refl _) hb
  obtain ⟨b0, b1, b2, b3, b4, b5, b6⟩ := PBox.below HP.out HSZ.out hb
  obtain ⟨aa, ca, rfl⟩ := hva.shape
  have HVA : Hid _ := hva
  clear hb hva
  go_wp2_with fail
  refine (partReadOf_any p fr ms _ _ _ us _ HR1.out HF.out.s).mono ?_
  rintro e w2 ⟨vb, rfl, hvb, hb2⟩
  have HB2 : Hid (Below w.heap.size w w2) := HB1.out.trans (hb2.mono HB1.out.size)
  have HVA2 : Hid _ := OwnS.below HVA.out (Nat.le_refl _) hb2
  obtain ⟨ab, cb, rfl⟩ := hvb.shape
  have HVB : Hid _ := hvb
  clear hb2 hvb b0 b1 b2 b3 b4 b5 b6
  generalize p.readP fr ms = RR at *
  obtain ⟨ts, pl, er⟩ := RR
  simp only at HVA2 HVB hll ⊢
  go_wp2_with fail
  refine (sameTexts_any ts _ _ _ (by omega) (OwnS.rd HVA2.out) (OwnS.rd HVB.out)).mono ?_
  rintro e w3 ⟨rfl, hb3⟩
  have HB3 : Hid (Below w.heap.size w w3) := HB2.out.trans (hb3.mono HB2.out.size)
  clear hb3
  go_wp2
  go_ret
  exact ⟨rfl, HB3.out⟩

end Go.Proofs.Ytkolelpdedmkeaa
