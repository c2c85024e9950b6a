/-
  The law's samePart of two parts that are alike.
-/
import Derived.Test.YtkolelpdedmkeaaPsame
import Derived.Test.YtkolelpdedmkeaaAdoc
namespace Go.Proofs.Ytkolelpdedmkeaa
open Go.RowKit
set_option linter.unusedVariables false
set_option linter.unusedSimpArgs false

set_option maxRecDepth 100000 in
set_option maxHeartbeats 4000000 in
theorem samePart_same (p : Prt) (vi vk vr ui uk ur : Value) (us ut : Nat → Value) (w : World) (h1 : RdP w p vi vk vr us) (h2 : RdP w p ui uk ur ut) :
    Calls Try.prog 26 #[.agg #[.int .i64 p.ep, .int .i64 p.ld, vi, vk, vr, .int .i64 p.fw, .int .i64 p.bs], .agg #[.int .i64 p.ep, .int .i64 p.ld, ui, uk, ur, .int .i64 p.fw, .int .i64 p.bs]] w fun e w' => e = .returned (.bool true) ∧ Below w.heap.size w w' := by
  obtain ⟨ai, ci, ak, ck, ar, cr, rfl, rfl, rfl, l1, l2, l3⟩ := h1.lens
  obtain ⟨bi, di, bk, dk, br, dr, rfl, rfl, rfl, _, _, _⟩ := h2.lens
  have hB1 := bbox w (.cells #[.int .i64 p.ep, .int .i64 p.ld, .slice ai p.isr.length ci, .slice ak p.kn.length ck, .slice ar p.rs.length cr, .int .i64 p.fw, .int .i64 p.bs] 26)
  have hB2 := bbox (w.alloc (.cells #[.int .i64 p.ep, .int .i64 p.ld, .slice ai p.isr.length ci, .slice ak p.kn.length ck, .slice ar p.rs.length cr, .int .i64 p.fw, .int .i64 p.bs] 26)) (.cells #[.int .i64 p.ep, .int .i64 p.ld, .slice bi p.isr.length di, .slice bk p.kn.length dk, .slice br p.rs.length dr, .int .i64 p.fw, .int .i64 p.bs] 26)
  have hBB := hB1.trans (hB2.mono hB1.size)
  have HP1 : Hid (PBox _ w.heap.size p _ _ _) := PBox.below (pbox_new w p (.slice ai p.isr.length ci) (.slice ak p.kn.length ck) (.slice ar p.rs.length cr) 26) (by simp) hB2
  have HP2 : Hid (PBox _ (w.heap.size + 1) p _ _ _) := show PBox _ _ _ _ _ _ by
    have := pbox_new (w.alloc (.cells #[.int .i64 p.ep, .int .i64 p.ld, .slice ai p.isr.length ci, .slice ak p.kn.length ck, .slice ar p.rs.length cr, .int .i64 p.fw, .int .i64 p.bs] 26)) p (.slice bi p.isr.length di) (.slice bk p.kn.length dk) (.slice br p.rs.length dr) 26
    simpa using this
  have HR1 : Hid (RdP _ p _ _ _ us) := h1.below (Nat.le_refl _) hBB
  have HR2 : Hid (RdP _ p _ _ _ ut) := h2.below (Nat.le_refl _) hBB
  have HB : Hid (Below w.heap.size w _) := hBB
  have HSZ : Hid (w.heap.size + 1 < _) := show w.heap.size + 1 < ((w.alloc (.cells #[.int .i64 p.ep, .int .i64 p.ld, .slice ai p.isr.length ci, .slice ak p.kn.length ck, .slice ar p.rs.length cr, .int .i64 p.fw, .int .i64 p.bs] 26)).alloc (.cells #[.int .i64 p.ep, .int .i64 p.ld, .slice bi p.isr.length di, .slice bk p.kn.length dk, .slice br p.rs.length dr, .int .i64 p.fw, .int .i64 p.bs] 26)).heap.size by simp
  have e0 : (p.ep != p.ep) = false := by simp
  have e1 : (p.ld != p.ld) = false := by simp
  have e2 : (p.fw != p.fw) = false := by simp
  have e3 : (p.bs != p.bs) = false := by simp
  have e4 : ((p.isr.length : Int) != p.isr.length) = false := by simp
  have e5 : ((p.rs.length : Int) != p.rs.length) = false := by simp
  clear h1 h2 hB1 hB2 hBB
  go_enter Try.func26, Try.ntmps26
  go_wp2_with fail
  refine (sameInts_same p.kn _ _ _ HR1.out.2.1 HR2.out.2.1).mono ?_
  rintro e W0 ⟨rfl, hb⟩
  have HB0 : Hid (Below w.heap.size w W0) := HB.out.trans (hb.mono HB.out.size)
  have HP10 : Hid (PBox W0 w.heap.size p _ _ _) := PBox.below HP1.out (by have := HSZ.out; omega) hb
  have HP20 : Hid (PBox W0 (w.heap.size + 1) p _ _ _) := PBox.below HP2.out HSZ.out hb
  have HR10 : Hid (RdP W0 p _ _ _ us) := RdP.below HR1.out (Nat.le_refl _) hb
  have HR20 : Hid (RdP W0 p _ _ _ ut) := RdP.below HR2.out (Nat.le_refl _) hb
  have HSZ0 : Hid (w.heap.size + 1 < W0.heap.size) := Nat.lt_of_lt_of_le HSZ.out hb.size
  clear hb HB HP1 HP2 HR1 HR2 HSZ
  go_wp2
  go_loopw [5] (fun i wr => ∃ k : Nat, k ≤ p.isr.length ∧ i = .int .i64 k ∧ ∃ q, wr = W0.drewN q) (fun i _ => p.isr.length - (intOf i).toNat)
  case atStart => exact ⟨0, by omega, rfl, 0, rfl⟩
  case round =>
    obtain ⟨k, hk, rfl, q, rfl⟩ := hrel
    obtain ⟨b0, b1, b2, b3, b4, b5, b6⟩ := HP10.out
    obtain ⟨c0, c1, c2, c3, c4, c5, c6⟩ := HP20.out
    by_cases hlt : k < p.isr.length
    · obtain ⟨g1, o1, rfl, m1⟩ := RdP.isrAt HR10.out.1 k hlt
      obtain ⟨g2, o2, rfl, m2⟩ := RdP.isrAt HR20.out.1 k hlt
      have hlt' : (k : Int) < p.isr.length := by omega
      generalize p.isr.getD k false = x at *
      have hx : (x != x) = false := by simp
      go_wp2
      go_quiet (fail)
      go_wp2
      go_roundw
      case rel => exact ⟨k + 1, by omega, by go_num, q + nq, rfl⟩
      case measure => simp [intOf]; omega
    · go_wp2
      clear hk hlt b0 b1 b2 b3 b4 b5 b6 c0 c1 c2 c3 c4 c5 c6
      go_loopw [6] (fun i wr => ∃ k : Nat, k ≤ p.rs.length ∧ i = .int .i64 k ∧ Below W0.heap.size W0 wr) (fun i _ => p.rs.length - (intOf i).toNat)
      case atStart => exact ⟨0, by omega, rfl, below_drewN (Below.refl _ _) _⟩
      case round =>
        obtain ⟨j, hj, rfl, hb⟩ := hrel
        have HBr : Hid (Below w.heap.size w wr) := HB0.out.trans (hb.mono HB0.out.size)
        have hwr : w.heap.size + 1 < wr.heap.size := Nat.lt_of_lt_of_le HSZ0.out hb.size
        have HWr : Hid (Below W0.heap.size W0 wr) := hb
        obtain ⟨b0, b1, b2, b3, b4, b5, b6⟩ := PBox.below HP10.out (by have := HSZ0.out; omega) hb
        obtain ⟨c0, c1, c2, c3, c4, c5, c6⟩ := PBox.below HP20.out HSZ0.out hb
        have hR1 := RdP.below HR10.out (Nat.le_refl _) hb
        have hR2 := RdP.below HR20.out (Nat.le_refl _) hb
        clear hb
        by_cases hlt : j < p.rs.length
        · obtain ⟨g1, o1, rfl, _, r0, r1, r2, r3, r4⟩ := hR1.2.2.cells j hlt
          obtain ⟨g2, o2, rfl, _, s0, s1, s2, s3, s4⟩ := hR2.2.2.cells j hlt
          have hlt' : (j : Int) < p.rs.length := by omega
          have HL1 : Hid _ := r0
          have HL2 : Hid _ := s0
          have hg1 : g1 < wr.heap.size := cell_lt r1
          have hg2 : g2 < wr.heap.size := cell_lt s1
          clear r0 s0 hR1 hR2
          generalize p.at j = R at *
          generalize us j = uj at *
          generalize ut j = tj at *
          obtain ⟨a1, z1, rfl⟩ : ∃ au cu, uj = .slice au R.l.length cu := by obtain ⟨_, au, cu, e, _⟩ := HL1.out; exact ⟨au, cu, e⟩
          obtain ⟨a2, z2, rfl⟩ : ∃ au cu, tj = .slice au R.l.length cu := by obtain ⟨_, au, cu, e, _⟩ := HL2.out; exact ⟨au, cu, e⟩
          have x0 : (R.up != R.up) = false := by simp
          have x1 : (R.h != R.h) = false := by simp
          go_wp2_with fail
          refine (sameLog_true R.l _ _ R.y _ (Rd.below HL1.out (Nat.le_refl _) (bstep (bbox _ _) (bbox _ _))) (Rd.below HL2.out (Nat.le_refl _) (bstep (bbox _ _) (bbox _ _)))).mono ?_
          rintro e w2 ⟨rfl, hb2⟩
          have hb3 := bstep (bstep (bbox _ _) (bbox _ _)) hb2
          have HN : Hid (Below W0.heap.size W0 w2) := HWr.out.trans (hb3.mono HWr.out.size)
          clear b0 b1 b2 b3 b4 b5 b6 c0 c1 c2 c3 c4 c5 c6 r1 r2 r3 r4 s1 s2 s3 s4 hb2 hb3 hg1 hg2 hwr
          go_wp2
          go_roundw
          case rel => exact ⟨j + 1, by omega, by go_num, HN.out⟩
          case measure => simp [intOf]; omega
        · go_wp2
          go_ret
          exact ⟨rfl, HBr.out⟩

end Go.Proofs.Ytkolelpdedmkeaa
