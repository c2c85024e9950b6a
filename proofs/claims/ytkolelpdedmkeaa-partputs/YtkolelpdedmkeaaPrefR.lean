/-
  The document's raised, in memory of one's own.
-/
import Derived.Test.YtkolelpdedmkeaaPgrow
import Derived.Test.YtkolelpdedmkeaaPlog
import Derived.Test.YtkolelpdedmkeaaPres
namespace Go.Proofs.Ytkolelpdedmkeaa
open Go.RowKit
set_option linter.unusedVariables false
set_option linter.unusedSimpArgs false

theorem logOf_int (p : Prt) (r : Int) (vi vk vr : Value) (us : Nat → Value) (w : World) (h : RdP w p vi vk vr us) (h0 : 0 ≤ r) (h1 : r < p.rs.length) (hs : (p.at r.toNat).l.length ≤ 1099511627775) (hn : (p.rs.length : Int) ≤ 9223372036854775807) :
    Calls Try.prog 68 #[.agg #[.int .i64 p.ep, .int .i64 p.ld, vi, vk, vr, .int .i64 p.fw, .int .i64 p.bs], .int .i64 r] w fun e w' => ∃ v, e = .returned v ∧ OwnE w.heap.size v (p.at r.toNat).es w' ∧ Below w.heap.size w w' := by
  obtain ⟨n, rfl⟩ := Int.eq_ofNat_of_zero_le h0
  rw [Int.toNat_natCast] at *
  exact logOf_any p vi vk vr us n w h hs (by omega) hn
theorem raised_hi {p : Prt} (h0 : 0 ≤ p.ld) (h : (p.at p.ld.toNat).h < p.low (p.at p.ld.toNat).es.length p.isr.length) : p.raised = p.setR p.ld.toNat (fun r => { r with h := p.low (p.at p.ld.toNat).es.length p.isr.length }) := by
  unfold Prt.raised
  rw [if_neg (by omega), if_pos h]
theorem raised_lo {p : Prt} (h0 : 0 ≤ p.ld) (h : ¬ (p.at p.ld.toNat).h < p.low (p.at p.ld.toNat).es.length p.isr.length) : p.raised = p := by
  unfold Prt.raised
  rw [if_neg (by omega), if_neg h]

set_option maxRecDepth 100000 in
set_option maxHeartbeats 4000000 in
theorem raisedRef_any (p : Prt) (B gi gk gr ci ck cr : Nat) (us : Nat → Value) (w : World) (h : OwnP B w p gi gk gr ci ck cr us) (h0 : 0 ≤ p.ld) (h1 : p.ld < p.rs.length) (hi : p.isr.length = p.rs.length) (hk : p.kn.length = p.rs.length) (hs : (p.at p.ld.toNat).l.length ≤ 1099511627775) (hn : (p.rs.length : Int) ≤ 5) :
    Calls Try.prog 86 #[.agg #[.int .i64 p.ep, .int .i64 p.ld, .slice (some ⟨gi, 0, none⟩) p.isr.length ci, .slice (some ⟨gk, 0, none⟩) p.kn.length ck, .slice (some ⟨gr, 0, none⟩) p.rs.length cr, .int .i64 p.fw, .int .i64 p.bs]] w fun e w' => e = .returned (.agg #[.int .i64 p.ep, .int .i64 p.ld, .slice (some ⟨gi, 0, none⟩) p.isr.length ci, .slice (some ⟨gk, 0, none⟩) p.kn.length ck, .slice (some ⟨gr, 0, none⟩) p.rs.length cr, .int .i64 p.fw, .int .i64 p.bs]) ∧ OwnP B w' p.raised gi gk gr ci ck cr us ∧ w.grownBy w' (some gr) := by
  have B0 : Below w.heap.size w ((w.alloc (.cells #[.int .i64 p.ep, .int .i64 p.ld, .slice (some ⟨gi, 0, none⟩) p.isr.length ci, .slice (some ⟨gk, 0, none⟩) p.kn.length ck, .slice (some ⟨gr, 0, none⟩) p.rs.length cr, .int .i64 p.fw, .int .i64 p.bs] 26)).alloc (.cells #[.int .i64 0, .int .i64 0, .slice none 0 0, .slice none 0 0, .slice none 0 0, .int .i64 0, .int .i64 0] 26)) := bstep (bbox _ _) (bbox _ _)
  have P0 : PB ((w.alloc (.cells #[.int .i64 p.ep, .int .i64 p.ld, .slice (some ⟨gi, 0, none⟩) p.isr.length ci, .slice (some ⟨gk, 0, none⟩) p.kn.length ck, .slice (some ⟨gr, 0, none⟩) p.rs.length cr, .int .i64 p.fw, .int .i64 p.bs] 26)).alloc (.cells #[.int .i64 0, .int .i64 0, .slice none 0 0, .slice none 0 0, .slice none 0 0, .int .i64 0, .int .i64 0] 26)) w.heap.size p _ _ _ := (pb_new w p (.slice (some ⟨gi, 0, none⟩) p.isr.length ci) (.slice (some ⟨gk, 0, none⟩) p.kn.length ck) (.slice (some ⟨gr, 0, none⟩) p.rs.length cr) 26 w.heap.size rfl).below (C := w.heap.size + 1) (by omega) ((Below.refl _ _).alloc (by simp) (.cells #[.int .i64 0, .int .i64 0, .slice none 0 0, .slice none 0 0, .slice none 0 0, .int .i64 0, .int .i64 0] 26))
  have Z0 : PB ((w.alloc (.cells #[.int .i64 p.ep, .int .i64 p.ld, .slice (some ⟨gi, 0, none⟩) p.isr.length ci, .slice (some ⟨gk, 0, none⟩) p.kn.length ck, .slice (some ⟨gr, 0, none⟩) p.rs.length cr, .int .i64 p.fw, .int .i64 p.bs] 26)).alloc (.cells #[.int .i64 0, .int .i64 0, .slice none 0 0, .slice none 0 0, .slice none 0 0, .int .i64 0, .int .i64 0] 26)) (w.heap.size + 1) Prt.zero nilV nilV nilV := pb_new _ Prt.zero nilV nilV nilV 26 (w.heap.size + 1) (by simp)
  have O0 : OwnP B ((w.alloc (.cells #[.int .i64 p.ep, .int .i64 p.ld, .slice (some ⟨gi, 0, none⟩) p.isr.length ci, .slice (some ⟨gk, 0, none⟩) p.kn.length ck, .slice (some ⟨gr, 0, none⟩) p.rs.length cr, .int .i64 p.fw, .int .i64 p.bs] 26)).alloc (.cells #[.int .i64 0, .int .i64 0, .slice none 0 0, .slice none 0 0, .slice none 0 0, .int .i64 0, .int .i64 0] 26)) p gi gk gr ci ck cr us := h.below (Nat.le_refl _) B0
  have HUN : Hid (∀ i, i < p.rs.length → (us i).ownBlock ≠ some (w.heap.size + 1)) := fun i hi e => by have := (h.2.un i hi _ e).2.1; omega
  have HL : Hid _ := hs
  have HI : Hid _ := hi
  have HK : Hid _ := hk
  have HH : Hid _ := raised_hi h0
  have HLO : Hid _ := raised_lo h0
  have hgi : gi < w.heap.size := h.2.si
  have hgk : gk < w.heap.size := h.2.sk
  have hgr : gr < w.heap.size := h.2.sr
  have h0' : decide (p.ld < 0) = false := by simp; omega
  clear h hs hi hk
  go_enter Try.func86, Try.ntmps86
  go_wp2_with fail
  generalize (w.alloc (.cells #[.int .i64 p.ep, .int .i64 p.ld, .slice (some ⟨gi, 0, none⟩) p.isr.length ci, .slice (some ⟨gk, 0, none⟩) p.kn.length ck, .slice (some ⟨gr, 0, none⟩) p.rs.length cr, .int .i64 p.fw, .int .i64 p.bs] 26)).alloc (.cells #[.int .i64 0, .int .i64 0, .slice none 0 0, .slice none 0 0, .slice none 0 0, .int .i64 0, .int .i64 0] 26) = W0 at *
  obtain ⟨s1, ⟨b0, b1, b2, b3, b4, b5, b6⟩, f1⟩ := P0
  go_wp2_with fail
  refine (logOf_int p p.ld _ _ _ us _ O0.1 h0 h1 HL.out (by omega)).mono ?_
  rintro e w1 ⟨v, rfl, hv, hb1⟩
  have HB1 : Hid (Below w.heap.size w w1) := B0.trans (hb1.mono B0.size)
  have HO1 : Hid (OwnP B w1 p gi gk gr ci ck cr us) := O0.below (Nat.le_refl _) hb1
  have HP1 : Hid (PB w1 w.heap.size p (.slice (some ⟨gi, 0, none⟩) p.isr.length ci) (.slice (some ⟨gk, 0, none⟩) p.kn.length ck) (.slice (some ⟨gr, 0, none⟩) p.rs.length cr)) := PB.below ⟨s1, ⟨b0, b1, b2, b3, b4, b5, b6⟩, f1⟩ s1 hb1
  have HZ1 : Hid (PB w1 (w.heap.size + 1) Prt.zero nilV nilV nilV) := Z0.below Z0.1 hb1
  obtain ⟨ae, ce, rfl⟩ := hv.shape
  clear hv hb1 b0 b1 b2 b3 b4 b5 b6 f1 s1 B0 O0 Z0
  obtain ⟨s1, ⟨b0, b1, b2, b3, b4, b5, b6⟩, f1⟩ := HP1.out
  obtain ⟨z1, ⟨e0, e1, e2, e3, e4, e5, e6⟩, g1⟩ := HZ1.out
  generalize (p.at p.ld.toNat).es.length = L at *
  go_wp2
  go_loop [3, 4] (fun kp i => ∃ k : Nat, k ≤ p.isr.length ∧ i = .int .i64 k ∧ kp = .int .i64 (p.low L k)) (fun _ i => p.isr.length - (intOf i).toNat)
  case atStart => exact ⟨0, by omega, rfl, rfl⟩
  case round =>
    obtain ⟨k, hk, rfl, rfl⟩ := hrel
    by_cases hlt : k < p.isr.length
    · have hlt' : (k : Int) < p.isr.length := by omega
      have hki : k < p.kn.length := by rw [HK.out, ← HI.out]; exact hlt
      have hki' : (k : Int) < p.kn.length := by omega
      have m0 := OwnP.isrCell HO1.out k hlt
      have m1 := OwnP.knCell HO1.out k hki
      have HM : Hid (p.low L (k + 1) = if p.isr.getD k false = true ∧ p.kn.getD k 0 < p.low L k then p.kn.getD k 0 else p.low L k) := show _ = _ from rfl
      have hl5 : (k : Int) ≤ 5 := by have := HI.out; omega
      generalize p.isr.getD k false = bi at *
      generalize p.kn.getD k 0 = kk at *
      generalize p.low L k = lw at *
      cases bi with
      | true =>
        by_cases hc : kk < lw
        · go_wp2
          go_round
          case rel => exact ⟨k + 1, by omega, by go_num, by rw [HM.out, if_pos ⟨rfl, hc⟩]⟩
          case measure => simp [intOf]; omega
        · have hc' : decide (kk < lw) = false := by simp; omega
          go_wp2
          go_round
          case rel => exact ⟨k + 1, by omega, by go_num, by rw [HM.out, if_neg (fun h => hc h.2)]⟩
          case measure => simp [intOf]; omega
      | false =>
        go_wp2
        go_round
        case rel => exact ⟨k + 1, by omega, by go_num, by rw [HM.out]; simp⟩
        case measure => simp [intOf]; omega
    · have hke : k = p.isr.length := by omega
      subst hke
      have hd : p.ld.toNat < p.rs.length := by omega
      obtain ⟨_, q0, q1, q2, q3⟩ := OwnP.cellsAt HO1.out p.ld.toNat hd
      have f2 := HO1.out.2.fr
      have hgz : gr ≠ w.heap.size + 1 := by omega
      have hgw : gr ≠ w.heap.size := by omega
      have hgw' : ¬ w.heap.size = gr := by omega
      have hgz' : ¬ w.heap.size + 1 = gr := by omega
      by_cases hc : (p.at p.ld.toNat).h < p.low L p.isr.length
      · have hc' : decide (p.low L p.isr.length > (p.at p.ld.toNat).h) = true := by simpa using hc
        have HO2 : Hid (OwnP B (w1.setCell ⟨gr, p.ld.toNat * 4 + 3, none⟩ (.int .i64 (p.low L p.isr.length))) p.raised gi gk gr ci ck cr us) := show OwnP _ _ _ _ _ _ _ _ _ _ by
          rw [HH.out hc]
          exact OwnP.setH HO1.out p.ld.toNat hd _
        have HG2 : Hid _ := grown_put (grown_set (grown_below HB1.out (some gr)) (p.ld.toNat * 4 + 3) (.int .i64 (p.low L p.isr.length))) (b := w.heap.size + 1) (by omega) p (.slice (some ⟨gi, 0, none⟩) p.isr.length ci) (.slice (some ⟨gk, 0, none⟩) p.kn.length ck) (.slice (some ⟨gr, 0, none⟩) p.rs.length cr)
        have HO3 : Hid _ := OwnP.putOut HO2.out (b := w.heap.size + 1) (PB.far HZ1.out hgz.symm _ _).2.2 (by omega) (by omega) hgz (fun i hi => HUN.out i (by rw [(raised_len _).2.2.1] at hi; exact hi)) p (.slice (some ⟨gi, 0, none⟩) p.isr.length ci) (.slice (some ⟨gk, 0, none⟩) p.kn.length ck) (.slice (some ⟨gr, 0, none⟩) p.rs.length cr)
        clear HO2
        go_wp2
        exact bodyPost_ret (v := .agg #[.int .i64 p.ep, .int .i64 p.ld, .slice (some ⟨gi, 0, none⟩) p.isr.length ci, .slice (some ⟨gk, 0, none⟩) p.kn.length ck, .slice (some ⟨gr, 0, none⟩) p.rs.length cr, .int .i64 p.fw, .int .i64 p.bs]) (by simp [results, Try.results86, go_sem, e0, e1, e2, e3, e4, e5, e6]) rfl ⟨rfl, HO3.out, HG2.out⟩
      · have hc' : decide (p.low L p.isr.length > (p.at p.ld.toNat).h) = false := by simp; omega
        have HG2 : Hid _ := grown_put (grown_below HB1.out (some gr)) (b := w.heap.size + 1) (by omega) p (.slice (some ⟨gi, 0, none⟩) p.isr.length ci) (.slice (some ⟨gk, 0, none⟩) p.kn.length ck) (.slice (some ⟨gr, 0, none⟩) p.rs.length cr)
        have HO3 : Hid (OwnP B (put7 w1 (w.heap.size + 1) p (.slice (some ⟨gi, 0, none⟩) p.isr.length ci) (.slice (some ⟨gk, 0, none⟩) p.kn.length ck) (.slice (some ⟨gr, 0, none⟩) p.rs.length cr)) p.raised gi gk gr ci ck cr us) := show OwnP _ _ _ _ _ _ _ _ _ _ by
          rw [HLO.out (by omega)]
          exact OwnP.putOut HO1.out (b := w.heap.size + 1) HZ1.out.2.2 (by omega) (by omega) hgz HUN.out p (.slice (some ⟨gi, 0, none⟩) p.isr.length ci) (.slice (some ⟨gk, 0, none⟩) p.kn.length ck) (.slice (some ⟨gr, 0, none⟩) p.rs.length cr)
        go_wp2
        exact bodyPost_ret (v := .agg #[.int .i64 p.ep, .int .i64 p.ld, .slice (some ⟨gi, 0, none⟩) p.isr.length ci, .slice (some ⟨gk, 0, none⟩) p.kn.length ck, .slice (some ⟨gr, 0, none⟩) p.rs.length cr, .int .i64 p.fw, .int .i64 p.bs]) (by simp [results, Try.results86, go_sem, e0, e1, e2, e3, e4, e5, e6]) rfl ⟨rfl, HO3.out, HG2.out⟩

theorem raisedRef_at (q : Prt) (B gi gk gr ci ck cr li lk lr : Nat) (ep ld fw bs : Int) (us : Nat → Value) (w : World) (h : OwnP B w q gi gk gr ci ck cr us) (h0 : 0 ≤ ld) (h1 : ld < lr) (hi : li = lr) (hk : lk = lr) (hs : (q.at ld.toNat).l.length ≤ 1099511627775) (hn : (lr : Int) ≤ 5) (e1 : q.isr.length = li) (e2 : q.kn.length = lk) (e3 : q.rs.length = lr) (e4 : q.ep = ep) (e5 : q.ld = ld) (e6 : q.fw = fw) (e7 : q.bs = bs) :
    Calls Try.prog 86 #[.agg #[.int .i64 ep, .int .i64 ld, .slice (some ⟨gi, 0, none⟩) li ci, .slice (some ⟨gk, 0, none⟩) lk ck, .slice (some ⟨gr, 0, none⟩) lr cr, .int .i64 fw, .int .i64 bs]] w fun e w' => e = .returned (.agg #[.int .i64 ep, .int .i64 ld, .slice (some ⟨gi, 0, none⟩) li ci, .slice (some ⟨gk, 0, none⟩) lk ck, .slice (some ⟨gr, 0, none⟩) lr cr, .int .i64 fw, .int .i64 bs]) ∧ OwnP B w' q.raised gi gk gr ci ck cr us ∧ w.grownBy w' (some gr) := by
  subst e1 e2 e3 e4 e5 e6 e7
  exact raisedRef_any q B gi gk gr ci ck cr us w h h0 h1 hi hk hs hn

end Go.Proofs.Ytkolelpdedmkeaa
