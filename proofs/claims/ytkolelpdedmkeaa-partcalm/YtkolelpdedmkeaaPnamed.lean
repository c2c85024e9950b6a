/-
  The walks of part's helpers: checkNamed, checkFollower, entriesOf, keepers.
-/
import Derived.Test.YtkolelpdedmkeaaApch
import Derived.Test.YtkolelpdedmkeaaAown
namespace Go.Proofs.Ytkolelpdedmkeaa
open Go.RowKit
set_option linter.unusedVariables false
set_option linter.unusedSimpArgs false

theorem may_fits {p : Prt} (m : May p) : p.fits := by
  have h1 := m.n5
  have h2 := m.li
  have h3 := m.lk
  refine ⟨by omega, by omega, by omega, fun r hr => ?_⟩
  obtain ⟨j, hj, rfl⟩ := List.mem_iff_getElem.1 hr
  have := (lft_ok (m.ok j hj).1).1
  rw [at_rep hj] at this
  omega
theorem may_len {p : Prt} (m : May p) {j : Nat} (hj : j < p.rs.length) : (p.at j).l.length ≤ 40000 := by
  have := (lft_ok (m.ok j hj).1).1
  omega

set_option maxRecDepth 100000 in
set_option maxHeartbeats 2000000 in
theorem checkNamed_any (p : Prt) (r : Int) (vi vk vr : Value) (us : Nat → Value) (w : World) (h : RdP w p vi vk vr us) (hs : p.small) :
    Calls Try.prog 82 #[.agg #[.int .i64 p.ep, .int .i64 p.ld, vi, vk, vr, .int .i64 p.fw, .int .i64 p.bs], .int .i64 r] w fun e w' => e = .returned (.int .i64 (p.flt r)) ∧ Below w.heap.size w w' := by
  obtain ⟨ai, ci, ak, ck, ar, cr, rfl, rfl, rfl, l1, l2, l3⟩ := h.lens
  have hB := bbox w (.cells #[.int .i64 p.ep, .int .i64 p.ld, .slice ai p.isr.length ci, .slice ak p.kn.length ck, .slice ar p.rs.length cr, .int .i64 p.fw, .int .i64 p.bs] 26)
  have HB : Hid (Below w.heap.size w _) := hB
  have HP : Hid (PBox _ w.heap.size p _ _ _) := pbox_new w p (.slice ai p.isr.length ci) (.slice ak p.kn.length ck) (.slice ar p.rs.length cr) 26
  have HR : Hid (RdP _ p _ _ _ us) := h.below (Nat.le_refl _) hB
  have HSZ : Hid (w.heap.size < _) := show w.heap.size < (w.alloc (.cells #[.int .i64 p.ep, .int .i64 p.ld, .slice ai p.isr.length ci, .slice ak p.kn.length ck, .slice ar p.rs.length cr, .int .i64 p.fw, .int .i64 p.bs] 26)).heap.size by simp
  have HS : Hid p.small := hs
  have HF : Hid (p.flt r = if p.mayB then (if inR r 0 ((p.rs.length : Int) - 1) then 0 else 5) else 12) := show _ = _ from rfl
  clear h hB hs
  go_enter Try.func82, Try.ntmps82
  go_wp2_with fail
  refine (partCheck_any p _ _ _ us _ HR.out HS.out).mono ?_
  rintro e w1 ⟨rfl, hb⟩
  have HB1 : Hid (Below w.heap.size w w1) := HB.out.trans (hb.mono HB.out.size)
  have HR1 : Hid (RdP w1 p _ _ _ us) := RdP.below HR.out (Nat.le_refl _) hb
  obtain ⟨b0, b1, b2, b3, b4, b5, b6⟩ := PBox.below HP.out HSZ.out hb
  clear hb
  have HC : Hid (p.cfl = if p.mayB then 0 else 12) := show _ = _ from rfl
  generalize p.mayB = m at *
  cases m with
  | false =>
    rw [show p.cfl = 12 from HC.out]
    go_wp2
    go_ret
    exact ⟨by rw [HF.out]; simp, HB1.out⟩
  | true =>
    rw [show p.cfl = 0 from HC.out]
    cases c : inR r 0 ((p.rs.length : Int) - 1) with
    | true =>
      go_wp2_with fail
      refine (has_any p r _ _ _ us _ HR1.out).mono ?_
      rintro e w2 ⟨rfl, hb⟩
      have HB2 : Hid (Below w.heap.size w w2) := HB1.out.trans (hb.mono HB1.out.size)
      rw [c]
      clear hb
      go_wp2
      go_ret
      exact ⟨by rw [HF.out, c]; simp, HB2.out⟩
    | false =>
      go_wp2_with fail
      refine (has_any p r _ _ _ us _ HR1.out).mono ?_
      rintro e w2 ⟨rfl, hb⟩
      have HB2 : Hid (Below w.heap.size w w2) := HB1.out.trans (hb.mono HB1.out.size)
      rw [c]
      clear hb
      go_wp2
      go_ret
      exact ⟨by rw [HF.out, c]; simp, HB2.out⟩

theorem flt_zero {p : Prt} {r : Int} (h : p.flt r = 0) : May p ∧ 0 ≤ r ∧ r < p.rs.length := by
  unfold Prt.flt at h
  cases hm : p.mayB with
  | false => rw [hm] at h; simp at h
  | true =>
    rw [hm] at h
    cases hr : inR r 0 ((p.rs.length : Int) - 1) with
    | false => rw [hr] at h; simp at h
    | true => have := inR_iff.1 hr; exact ⟨may_iff.1 hm, by omega, by omega⟩

set_option maxRecDepth 100000 in
set_option maxHeartbeats 2000000 in
theorem checkFollower_any (p : Prt) (r : Int) (vi vk vr : Value) (us : Nat → Value) (w : World) (h : RdP w p vi vk vr us) (hs : p.small) :
    Calls Try.prog 87 #[.agg #[.int .i64 p.ep, .int .i64 p.ld, vi, vk, vr, .int .i64 p.fw, .int .i64 p.bs], .int .i64 r] w fun e w' => e = .returned (.int .i64 (p.ofl r)) ∧ Below w.heap.size w w' := by
  obtain ⟨ai, ci, ak, ck, ar, cr, rfl, rfl, rfl, l1, l2, l3⟩ := h.lens
  have hB := bbox w (.cells #[.int .i64 p.ep, .int .i64 p.ld, .slice ai p.isr.length ci, .slice ak p.kn.length ck, .slice ar p.rs.length cr, .int .i64 p.fw, .int .i64 p.bs] 26)
  have HB : Hid (Below w.heap.size w _) := hB
  have HP : Hid (PBox _ w.heap.size p _ _ _) := pbox_new w p (.slice ai p.isr.length ci) (.slice ak p.kn.length ck) (.slice ar p.rs.length cr) 26
  have HR : Hid (RdP _ p _ _ _ us) := h.below (Nat.le_refl _) hB
  have HSZ : Hid (w.heap.size < _) := show w.heap.size < (w.alloc (.cells #[.int .i64 p.ep, .int .i64 p.ld, .slice ai p.isr.length ci, .slice ak p.kn.length ck, .slice ar p.rs.length cr, .int .i64 p.fw, .int .i64 p.bs] 26)).heap.size by simp
  have HS : Hid p.small := hs
  have HF : Hid (p.ofl r = if p.flt r ≠ 0 then p.flt r else if p.ld < 0 ∨ p.ld = r then 8 else 0) := show _ = _ from rfl
  have HM : Hid (p.flt r = 0 → May p ∧ 0 ≤ r ∧ r < p.rs.length) := flt_zero
  clear h hB hs
  go_enter Try.func87, Try.ntmps87
  go_wp2_with fail
  refine (checkNamed_any p r _ _ _ us _ HR.out HS.out).mono ?_
  rintro e w1 ⟨rfl, hb⟩
  have HB1 : Hid (Below w.heap.size w w1) := HB.out.trans (hb.mono HB.out.size)
  obtain ⟨b0, b1, b2, b3, b4, b5, b6⟩ := PBox.below HP.out HSZ.out hb
  clear hb
  generalize p.flt r = f at *
  by_cases c0 : f = 0
  · subst c0
    obtain ⟨m, r0, r1⟩ := HM.out rfl
    have hld := m.ld
    clear m HM
    cases c1 : (p.ld == -1) with
    | true =>
      have e1 : p.ld = -1 := by simpa using c1
      go_wp2
      go_ret
      exact ⟨by rw [HF.out]; simp [e1], HB1.out⟩
    | false =>
      have e1 : ¬ p.ld < 0 := by simp at c1; omega
      cases c2 : (p.ld == r) with
      | true =>
        have e2 : p.ld = r := by simpa using c2
        go_wp2
        go_ret
        exact ⟨by rw [HF.out]; simp [e2], HB1.out⟩
      | false =>
        have e2 : ¬ p.ld = r := by simpa using c2
        go_wp2
        go_ret
        exact ⟨by rw [HF.out]; simp [e2]; omega, HB1.out⟩
  · have d0 : (f != 0) = true := by simp [c0]
    go_wp2
    go_ret
    exact ⟨by rw [HF.out]; simp [c0], HB1.out⟩

set_option maxRecDepth 100000 in
set_option maxHeartbeats 2000000 in
theorem entriesOf_may (p : Prt) (r : Nat) (vi vk vr : Value) (us : Nat → Value) (w : World) (h : RdP w p vi vk vr us) (hr : r < p.rs.length) (h0 : lft (p.at r).l (p.at r).y = 0) :
    Calls Try.prog 75 #[.agg #[.int .i64 p.ep, .int .i64 p.ld, vi, vk, vr, .int .i64 p.fw, .int .i64 p.bs], .int .i64 r] w fun e w' => ∃ v, e = .returned (.tuple #[v, .int .i64 (p.at r).safe]) ∧ OwnE w.heap.size v (p.at r).es w' ∧ Below w.heap.size w w' := by
  obtain ⟨ai, ci, ak, ck, ar, cr, rfl, rfl, rfl, l1, l2, l3⟩ := h.lens
  have hB := bbox w (.cells #[.int .i64 p.ep, .int .i64 p.ld, .slice ai p.isr.length ci, .slice ak p.kn.length ck, .slice ar p.rs.length cr, .int .i64 p.fw, .int .i64 p.bs] 26)
  have HB : Hid (Below w.heap.size w _) := hB
  have HP : Hid (PBox _ w.heap.size p _ _ _) := pbox_new w p (.slice ai p.isr.length ci) (.slice ak p.kn.length ck) (.slice ar p.rs.length cr) 26
  have HR : Hid (RdP _ p _ _ _ us) := h.below (Nat.le_refl _) hB
  have HSZ : Hid (w.heap.size < _) := show w.heap.size < (w.alloc (.cells #[.int .i64 p.ep, .int .i64 p.ld, .slice ai p.isr.length ci, .slice ak p.kn.length ck, .slice ar p.rs.length cr, .int .i64 p.fw, .int .i64 p.bs] 26)).heap.size by simp
  have hr' : (r : Int) < p.rs.length := by omega
  have HL : Hid ((p.at r).l.length ≤ 140737488355328) := show _ ≤ _ by have := (lft_ok h0).1; omega
  obtain ⟨b0, b1, b2, b3, b4, b5, b6⟩ := HP.out
  obtain ⟨g, off, rfl, _, r0, r1, r2, r3, r4⟩ := HR.out.2.2.cells r hr
  have HR0 : Hid _ := r0
  have H0 : Hid _ := h0
  have HE : Hid ((p.at r).safe = (decL ((p.at r).l.take (p.at r).y.toNat)).1.length ∧ (p.at r).es = (decL (p.at r).l).1) := ⟨rfl, rfl⟩
  clear h hB r0 h0
  generalize p.at r = R at *
  generalize us r = u at *
  obtain ⟨au, cu, rfl⟩ : ∃ au cu, u = .slice au R.l.length cu := by obtain ⟨_, au, cu, e, _⟩ := HR0.out; exact ⟨au, cu, e⟩
  go_enter Try.func75, Try.ntmps75
  go_wp2_with fail
  refine (segEntries_ok R.l _ R.y _ HL.out HR0.out H0.out).mono ?_
  rintro e w1 ⟨v, rfl, hv, hb1⟩
  have HB1 : Hid (Below w.heap.size w w1) := HB.out.trans (hb1.mono HB.out.size)
  have HV : Hid (OwnE w.heap.size v (decL R.l).1 w1) := hv.mono HB.out.size
  obtain ⟨ae, ce, rfl⟩ := hv.shape
  clear hv hb1 b0 b1 b2 b3 b4 b5 b6 r1 r2 r3 r4
  go_wp2
  go_ret2
  rw [HE.out.1, HE.out.2]
  exact ⟨_, rfl, HV.out, HB1.out⟩

set_option maxRecDepth 100000 in
set_option maxHeartbeats 2000000 in
theorem keepers_any (p : Prt) (vi vk vr : Value) (us : Nat → Value) (w : World) (h : RdP w p vi vk vr us) (hz : p.isr.length = p.rs.length) :
    Calls Try.prog 77 #[.agg #[.int .i64 p.ep, .int .i64 p.ld, vi, vk, vr, .int .i64 p.fw, .int .i64 p.bs]] w fun e w' => e = .returned (.int .i64 (p.ups p.rs.length)) ∧ Below w.heap.size w w' := by
  obtain ⟨ai, ci, ak, ck, ar, cr, rfl, rfl, rfl, l1, l2, l3⟩ := h.lens
  have hB := bbox w (.cells #[.int .i64 p.ep, .int .i64 p.ld, .slice ai p.isr.length ci, .slice ak p.kn.length ck, .slice ar p.rs.length cr, .int .i64 p.fw, .int .i64 p.bs] 26)
  have HB : Hid (Below w.heap.size w _) := hB
  have HP : Hid (PBox _ w.heap.size p _ _ _) := pbox_new w p (.slice ai p.isr.length ci) (.slice ak p.kn.length ck) (.slice ar p.rs.length cr) 26
  have HR : Hid (RdP _ p _ _ _ us) := h.below (Nat.le_refl _) hB
  have HSZ : Hid (w.heap.size < _) := show w.heap.size < (w.alloc (.cells #[.int .i64 p.ep, .int .i64 p.ld, .slice ai p.isr.length ci, .slice ak p.kn.length ck, .slice ar p.rs.length cr, .int .i64 p.fw, .int .i64 p.bs] 26)).heap.size by simp
  clear h hB
  have HZ : Hid (p.isr.length = p.rs.length) := hz
  clear hz
  obtain ⟨b0, b1, b2, b3, b4, b5, b6⟩ := HP.out
  go_enter Try.func77, Try.ntmps77
  go_wp2
  clear b0 b1 b2 b3 b4 b5 b6
  generalize w.alloc (.cells #[.int .i64 p.ep, .int .i64 p.ld, .slice ai p.isr.length ci, .slice ak p.kn.length ck, .slice ar p.rs.length cr, .int .i64 p.fw, .int .i64 p.bs] 26) = W0 at *
  go_loopw [3, 9] (fun n i wr => ∃ k : Nat, k ≤ p.rs.length ∧ i = .int .i64 k ∧ n = .int .i64 (p.ups k : Nat) ∧ p.ups k ≤ k ∧ Below W0.heap.size W0 wr) (fun _ i _ => p.rs.length - (intOf i).toNat)
  case atStart => exact ⟨0, by omega, rfl, rfl, by simp [Prt.ups], Below.refl _ _⟩
  case round =>
    obtain ⟨k, hk, rfl, rfl, hu, hb⟩ := hrel
    have HBr : Hid (Below w.heap.size w wr) := HB.out.trans (hb.mono HB.out.size)
    have HWr : Hid (Below W0.heap.size W0 wr) := hb
    by_cases hlt : k < p.rs.length
    · have hlt' : (k : Int) < p.rs.length := by omega
      have hki : k < p.isr.length := by rw [HZ.out]; exact hlt
      have hki' : (k : Int) < p.isr.length := by omega
      have hR := RdP.below HR.out (Nat.le_refl _) hb
      obtain ⟨b0, b1, b2, b3, b4, b5, b6⟩ := PBox.below HP.out HSZ.out hb
      have hwr : w.heap.size < wr.heap.size := Nat.lt_of_lt_of_le HSZ.out hb.size
      obtain ⟨g, off, rfl, _, r0, r1, r2, r3, r4⟩ := hR.2.2.cells k hlt
      obtain ⟨gi, oi, rfl, m0⟩ := RdP.isrAt hR.1 k hki
      have hg : g < wr.heap.size := cell_lt r1
      have hgi : gi < wr.heap.size := cell_lt m0
      have HU : Hid (p.ups (k + 1) = p.ups k + if p.isr.getD k false = true ∧ (p.at k).up = true then 1 else 0) := show _ = _ from rfl
      have hu' : (p.ups k : Int) ≤ k := by omega
      obtain ⟨au, cu, eu⟩ : ∃ au cu, us k = .slice au (p.at k).l.length cu := by obtain ⟨_, au, cu, e, _⟩ := r0; exact ⟨au, cu, e⟩
      rw [eu] at r2
      clear hb hR r0 eu
      generalize p.isr.getD k false = bi at *
      generalize p.at k = R at *
      obtain ⟨bu, RL, RY, RH⟩ := R
      dsimp only at *
      cases bi with
      | false =>
        go_wp2
        go_roundw
        case rel => exact ⟨k + 1, by omega, by go_num, by rw [HU.out]; simp, by rw [HU.out]; simp; omega, HWr.out.trans ((show Below wr.heap.size wr _ by repeat (first | exact Below.refl _ _ | refine Below.setCell ?_ (Nat.le_refl _) _ | refine Below.alloc ?_ (Nat.le_refl _) _)).mono HWr.out.size)⟩
        case measure => simp [intOf]; omega
      | true =>
        cases bu with
        | false =>
          go_wp2
          go_roundw
          case rel => exact ⟨k + 1, by omega, by go_num, by rw [HU.out]; simp, by rw [HU.out]; simp; omega, HWr.out.trans ((show Below wr.heap.size wr _ by repeat (first | exact Below.refl _ _ | refine Below.setCell ?_ (Nat.le_refl _) _ | refine Below.alloc ?_ (Nat.le_refl _) _)).mono HWr.out.size)⟩
          case measure => simp [intOf]; omega
        | true =>
          go_wp2
          go_roundw
          case rel => exact ⟨k + 1, by omega, by go_num, by rw [HU.out]; simp; try go_num, by rw [HU.out]; simp; omega, HWr.out.trans ((show Below wr.heap.size wr _ by repeat (first | exact Below.refl _ _ | refine Below.setCell ?_ (Nat.le_refl _) _ | refine Below.alloc ?_ (Nat.le_refl _) _)).mono HWr.out.size)⟩
          case measure => simp [intOf]; omega
    · have hke : k = p.rs.length := by omega
      subst hke
      clear hb
      go_wp2
      go_ret
      exact ⟨rfl, HBr.out⟩

end Go.Proofs.Ytkolelpdedmkeaa
