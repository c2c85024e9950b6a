/-
  The walk of part.Check.
-/
import Derived.Test.YtkolelpdedmkeaaPcheck1
namespace Go.Proofs.Ytkolelpdedmkeaa
open Go.RowKit
set_option linter.unusedVariables false
set_option linter.unusedSimpArgs false

set_option maxRecDepth 100000 in
set_option maxHeartbeats 4000000 in
theorem partCheck_any (p : Prt) (vi vk vr : Value) (us : Nat → Value) (w : World) (h : RdP w p vi vk vr us) (hs : p.small) :
    Calls Try.prog 27 #[.agg #[.int .i64 p.ep, .int .i64 p.ld, vi, vk, vr, .int .i64 p.fw, .int .i64 p.bs]] w fun e w' => e = .returned (.int .i64 p.cfl) ∧ Below w.heap.size w w' := by
  obtain ⟨ai, ci, ak, ck, ar, cr, rfl, rfl, rfl, l1, l2, l3⟩ := h.lens
  have hB := bbox w (.cells #[.int .i64 p.ep, .int .i64 p.ld, .slice ai p.isr.length ci, .slice ak p.kn.length ck, .slice ar p.rs.length cr, .int .i64 p.fw, .int .i64 p.bs] 26)
  have HB : Hid (Below w.heap.size w _) := hB
  have HP : Hid (PBox _ w.heap.size p _ _ _) := pbox_new w p (.slice ai p.isr.length ci) (.slice ak p.kn.length ck) (.slice ar p.rs.length cr) 26
  have HR : Hid (RdP _ p _ _ _ us) := h.below (Nat.le_refl _) hB
  have HSZ : Hid (w.heap.size < _) := show w.heap.size < (w.alloc (.cells #[.int .i64 p.ep, .int .i64 p.ld, .slice ai p.isr.length ci, .slice ak p.kn.length ck, .slice ar p.rs.length cr, .int .i64 p.fw, .int .i64 p.bs] 26)).heap.size by simp
  have HS : Hid p.small := hs
  clear h hB hs
  go_enter Try.func27, Try.ntmps27
  cases s1 : p.sizesB with
  | false =>
    have HV : Hid (p.cfl = 12) := cfl_no (may_sizes s1)
    go_wp2_with fail
    refine (fitsSizes_any p _ _ _ us _ HR.out).mono ?_
    rintro e w1 ⟨rfl, hb⟩
    have HB1 : Hid (Below w.heap.size w w1) := HB.out.trans (hb.mono HB.out.size)
    have HR1 : Hid (RdP w1 p _ _ _ us) := RdP.below HR.out (Nat.le_refl _) hb
    have HP1 : Hid (PBox w1 w.heap.size p _ _ _) := PBox.below HP.out HSZ.out hb
    have HSZ1 : Hid (w.heap.size < w1.heap.size) := Nat.lt_of_lt_of_le HSZ.out hb.size
    obtain ⟨c0, c1, c2, c3, c4, c5, c6⟩ := HP1.out
    clear hb
    rw [s1]
    go_wp2
    go_ret
    exact ⟨by rw [HV.out]; rfl, HB1.out⟩
  | true =>
    have HZ : Hid (p.isr.length = p.rs.length) := (sizes_iff.1 s1).2.2.1
    cases s2 : p.leadB with
    | false =>
      have HV : Hid (p.cfl = 12) := cfl_no (may_lead s2)
      go_wp2_with fail
      refine (fitsSizes_any p _ _ _ us _ HR.out).mono ?_
      rintro e w1 ⟨rfl, hb⟩
      have HB1 : Hid (Below w.heap.size w w1) := HB.out.trans (hb.mono HB.out.size)
      have HR1 : Hid (RdP w1 p _ _ _ us) := RdP.below HR.out (Nat.le_refl _) hb
      have HP1 : Hid (PBox w1 w.heap.size p _ _ _) := PBox.below HP.out HSZ.out hb
      have HSZ1 : Hid (w.heap.size < w1.heap.size) := Nat.lt_of_lt_of_le HSZ.out hb.size
      obtain ⟨c0, c1, c2, c3, c4, c5, c6⟩ := HP1.out
      clear hb
      rw [s1]
      go_wp2_with fail
      refine (fitsLeader_any p _ _ _ us _ HR1.out HZ.out).mono ?_
      rintro e w2 ⟨rfl, hb⟩
      have HB2 : Hid (Below w.heap.size w w2) := HB1.out.trans (hb.mono HB1.out.size)
      have HR2 : Hid (RdP w2 p _ _ _ us) := RdP.below HR1.out (Nat.le_refl _) hb
      have HP2 : Hid (PBox w2 w.heap.size p _ _ _) := PBox.below HP1.out HSZ1.out hb
      have HSZ2 : Hid (w.heap.size < w2.heap.size) := Nat.lt_of_lt_of_le HSZ1.out hb.size
      obtain ⟨c0, c1, c2, c3, c4, c5, c6⟩ := HP2.out
      clear hb
      rw [s2]
      go_wp2
      go_ret
      exact ⟨by rw [HV.out]; rfl, HB2.out⟩
    | true =>
      cases s3 : p.numB with
      | false =>
        have HV : Hid (p.cfl = 12) := cfl_no (may_num s3)
        go_wp2_with fail
        refine (fitsSizes_any p _ _ _ us _ HR.out).mono ?_
        rintro e w1 ⟨rfl, hb⟩
        have HB1 : Hid (Below w.heap.size w w1) := HB.out.trans (hb.mono HB.out.size)
        have HR1 : Hid (RdP w1 p _ _ _ us) := RdP.below HR.out (Nat.le_refl _) hb
        have HP1 : Hid (PBox w1 w.heap.size p _ _ _) := PBox.below HP.out HSZ.out hb
        have HSZ1 : Hid (w.heap.size < w1.heap.size) := Nat.lt_of_lt_of_le HSZ.out hb.size
        obtain ⟨c0, c1, c2, c3, c4, c5, c6⟩ := HP1.out
        clear hb
        rw [s1]
        go_wp2_with fail
        refine (fitsLeader_any p _ _ _ us _ HR1.out HZ.out).mono ?_
        rintro e w2 ⟨rfl, hb⟩
        have HB2 : Hid (Below w.heap.size w w2) := HB1.out.trans (hb.mono HB1.out.size)
        have HR2 : Hid (RdP w2 p _ _ _ us) := RdP.below HR1.out (Nat.le_refl _) hb
        have HP2 : Hid (PBox w2 w.heap.size p _ _ _) := PBox.below HP1.out HSZ1.out hb
        have HSZ2 : Hid (w.heap.size < w2.heap.size) := Nat.lt_of_lt_of_le HSZ1.out hb.size
        obtain ⟨c0, c1, c2, c3, c4, c5, c6⟩ := HP2.out
        clear hb
        rw [s2]
        go_wp2_with fail
        refine (fitsNumbers_any p _ _ _ us _ HR2.out).mono ?_
        rintro e w3 ⟨rfl, hb⟩
        have HB3 : Hid (Below w.heap.size w w3) := HB2.out.trans (hb.mono HB2.out.size)
        have HR3 : Hid (RdP w3 p _ _ _ us) := RdP.below HR2.out (Nat.le_refl _) hb
        have HP3 : Hid (PBox w3 w.heap.size p _ _ _) := PBox.below HP2.out HSZ2.out hb
        have HSZ3 : Hid (w.heap.size < w3.heap.size) := Nat.lt_of_lt_of_le HSZ2.out hb.size
        obtain ⟨c0, c1, c2, c3, c4, c5, c6⟩ := HP3.out
        clear hb
        rw [s3]
        go_wp2
        go_ret
        exact ⟨by rw [HV.out]; rfl, HB3.out⟩
      | true =>
        cases s4 : hasB p.isr with
        | false =>
          have HV : Hid (p.cfl = 12) := cfl_no (may_some s4)
          go_wp2_with fail
          refine (fitsSizes_any p _ _ _ us _ HR.out).mono ?_
          rintro e w1 ⟨rfl, hb⟩
          have HB1 : Hid (Below w.heap.size w w1) := HB.out.trans (hb.mono HB.out.size)
          have HR1 : Hid (RdP w1 p _ _ _ us) := RdP.below HR.out (Nat.le_refl _) hb
          have HP1 : Hid (PBox w1 w.heap.size p _ _ _) := PBox.below HP.out HSZ.out hb
          have HSZ1 : Hid (w.heap.size < w1.heap.size) := Nat.lt_of_lt_of_le HSZ.out hb.size
          obtain ⟨c0, c1, c2, c3, c4, c5, c6⟩ := HP1.out
          clear hb
          rw [s1]
          go_wp2_with fail
          refine (fitsLeader_any p _ _ _ us _ HR1.out HZ.out).mono ?_
          rintro e w2 ⟨rfl, hb⟩
          have HB2 : Hid (Below w.heap.size w w2) := HB1.out.trans (hb.mono HB1.out.size)
          have HR2 : Hid (RdP w2 p _ _ _ us) := RdP.below HR1.out (Nat.le_refl _) hb
          have HP2 : Hid (PBox w2 w.heap.size p _ _ _) := PBox.below HP1.out HSZ1.out hb
          have HSZ2 : Hid (w.heap.size < w2.heap.size) := Nat.lt_of_lt_of_le HSZ1.out hb.size
          obtain ⟨c0, c1, c2, c3, c4, c5, c6⟩ := HP2.out
          clear hb
          rw [s2]
          go_wp2_with fail
          refine (fitsNumbers_any p _ _ _ us _ HR2.out).mono ?_
          rintro e w3 ⟨rfl, hb⟩
          have HB3 : Hid (Below w.heap.size w w3) := HB2.out.trans (hb.mono HB2.out.size)
          have HR3 : Hid (RdP w3 p _ _ _ us) := RdP.below HR2.out (Nat.le_refl _) hb
          have HP3 : Hid (PBox w3 w.heap.size p _ _ _) := PBox.below HP2.out HSZ2.out hb
          have HSZ3 : Hid (w.heap.size < w3.heap.size) := Nat.lt_of_lt_of_le HSZ2.out hb.size
          obtain ⟨c0, c1, c2, c3, c4, c5, c6⟩ := HP3.out
          clear hb
          rw [s3]
          go_wp2_with fail
          refine (containsB_any p.isr _ _ HR3.out.1).mono ?_
          rintro e w3 ⟨rfl, rfl⟩
          rw [s4]
          go_wp2
          go_ret
          exact ⟨by rw [HV.out]; rfl, HB3.out⟩
        | true =>
          have HA : Hid ((∀ k, k < p.rs.length → (p.at k).fitB = true) → p.cfl = 0) := fun h5 => cfl_yes (may_all s1 s2 s3 s4 h5)
          go_wp2_with fail
          refine (fitsSizes_any p _ _ _ us _ HR.out).mono ?_
          rintro e w1 ⟨rfl, hb⟩
          have HB1 : Hid (Below w.heap.size w w1) := HB.out.trans (hb.mono HB.out.size)
          have HR1 : Hid (RdP w1 p _ _ _ us) := RdP.below HR.out (Nat.le_refl _) hb
          have HP1 : Hid (PBox w1 w.heap.size p _ _ _) := PBox.below HP.out HSZ.out hb
          have HSZ1 : Hid (w.heap.size < w1.heap.size) := Nat.lt_of_lt_of_le HSZ.out hb.size
          obtain ⟨c0, c1, c2, c3, c4, c5, c6⟩ := HP1.out
          clear hb
          rw [s1]
          go_wp2_with fail
          refine (fitsLeader_any p _ _ _ us _ HR1.out HZ.out).mono ?_
          rintro e w2 ⟨rfl, hb⟩
          have HB2 : Hid (Below w.heap.size w w2) := HB1.out.trans (hb.mono HB1.out.size)
          have HR2 : Hid (RdP w2 p _ _ _ us) := RdP.below HR1.out (Nat.le_refl _) hb
          have HP2 : Hid (PBox w2 w.heap.size p _ _ _) := PBox.below HP1.out HSZ1.out hb
          have HSZ2 : Hid (w.heap.size < w2.heap.size) := Nat.lt_of_lt_of_le HSZ1.out hb.size
          obtain ⟨c0, c1, c2, c3, c4, c5, c6⟩ := HP2.out
          clear hb
          rw [s2]
          go_wp2_with fail
          refine (fitsNumbers_any p _ _ _ us _ HR2.out).mono ?_
          rintro e w3 ⟨rfl, hb⟩
          have HB3 : Hid (Below w.heap.size w w3) := HB2.out.trans (hb.mono HB2.out.size)
          have HR3 : Hid (RdP w3 p _ _ _ us) := RdP.below HR2.out (Nat.le_refl _) hb
          have HP3 : Hid (PBox w3 w.heap.size p _ _ _) := PBox.below HP2.out HSZ2.out hb
          have HSZ3 : Hid (w.heap.size < w3.heap.size) := Nat.lt_of_lt_of_le HSZ2.out hb.size
          obtain ⟨c0, c1, c2, c3, c4, c5, c6⟩ := HP3.out
          clear hb
          rw [s3]
          go_wp2_with fail
          refine (containsB_any p.isr _ _ HR3.out.1).mono ?_
          rintro e w3 ⟨rfl, rfl⟩
          rw [s4]
          clear s1 s2 s3 s4 HZ HR HB HP HSZ HB1 HR1 HP1 HSZ1 HB2 HR2 HP2 HSZ2
          go_wp2
          clear c0 c1 c2 c3 c4 c5 c6
          go_loopw [27] (fun i wr => ∃ k : Nat, k ≤ p.rs.length ∧ i = .int .i64 k ∧ Hid (∀ j, j < k → (p.at j).fitB = true) ∧ Below w3.heap.size w3 wr) (fun i _ => p.rs.length - (intOf i).toNat)
          case atStart => exact ⟨0, by omega, rfl, (fun j hj => by omega), Below.refl _ _⟩
          case round =>
            obtain ⟨k, hk, rfl, HN, hb⟩ := hrel
            have HBr : Hid (Below w.heap.size w wr) := HB3.out.trans (hb.mono HB3.out.size)
            have HWr : Hid (Below w3.heap.size w3 wr) := hb
            by_cases hlt : k < p.rs.length
            · have hlt' : (k : Int) < p.rs.length := by omega
              have hR := RdP.below HR3.out (Nat.le_refl _) hb
              obtain ⟨g, off, rfl, _, r0, r1, r2, r3, r4⟩ := hR.2.2.cells k hlt
              have HR0 : Hid _ := r0
              have HL : Hid _ := HS.out.at k
              have HNO : Hid ((p.at k).fitB = false → p.cfl = 12) := fun h => cfl_no (may_fit k hlt h)
              have HN' : Hid ((p.at k).fitB = true → ∀ j, j < k + 1 → (p.at j).fitB = true) := fun h j hj => by
                by_cases e : j = k
                · subst e; exact h
                · exact HN.out j (by omega)
              clear hb hR r0
              generalize p.at k = R at *
              generalize us k = u at *
              obtain ⟨au, cu, rfl⟩ : ∃ au cu, u = .slice au R.l.length cu := by obtain ⟨_, au, cu, e, _⟩ := HR0.out; exact ⟨au, cu, e⟩
              go_wp2_with fail
              refine (fitsReplica_any R _ _ HL.out (Rd.below HR0.out (Nat.le_refl _) (by repeat (first | exact Below.refl _ _ | refine Below.setCell ?_ (Nat.le_refl _) _ | refine Below.alloc ?_ (Nat.le_refl _) _)))).mono ?_
              rintro e w5 ⟨rfl, hb5⟩
              have HB5 : Hid (Below wr.heap.size wr w5) := (show Below wr.heap.size wr _ by repeat (first | exact Below.refl _ _ | refine Below.setCell ?_ (Nat.le_refl _) _ | refine Below.alloc ?_ (Nat.le_refl _) _)).trans (hb5.mono (by simp))
              clear hb5 r1 r2 r3 r4
              cases hx : R.fitB with
              | false =>
                have HV : Hid _ := HNO.out hx
                go_wp2
                go_ret
                exact ⟨by rw [HV.out]; rfl, HBr.out.trans (HB5.out.mono HBr.out.size)⟩
              | true =>
                have HV : Hid _ := HN'.out hx
                go_wp2
                go_roundw
                case rel => exact ⟨k + 1, by omega, by go_num, HV, HWr.out.trans (HB5.out.mono HWr.out.size)⟩
                case measure => simp [intOf]; omega
            · have HV : Hid (p.cfl = 0) := HA.out (fun k' hk' => HN.out k' (by omega))
              go_wp2
              go_ret
              exact ⟨by rw [HV.out]; rfl, HBr.out⟩

end Go.Proofs.Ytkolelpdedmkeaa
