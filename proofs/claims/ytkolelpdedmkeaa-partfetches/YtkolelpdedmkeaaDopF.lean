/-
  The walk of the document's FetchedOf.
-/
import Derived.Test.YtkolelpdedmkeaaAsd
import Derived.Test.YtkolelpdedmkeaaPrefC
import Derived.Test.YtkolelpdedmkeaaPrefR
import Derived.Test.YtkolelpdedmkeaaPothers
import Derived.Test.YtkolelpdedmkeaaPfet2
import Derived.Test.YtkolelpdedmkeaaPraiseF
import Derived.Deep.RegionWith
import Derived.Deep.RegionHeld3
import Derived.Deep.DeepCutAuto
import Derived.Deep.QuietTactic
import Derived.BigQuiet
namespace Go.Proofs.Ytkolelpdedmkeaa
open Go.RowKit
set_option linter.unusedVariables false
set_option linter.unusedSimpArgs false

set_option maxRecDepth 100000 in
set_option maxHeartbeats 4000000 in
theorem fetchedOf_any (p : Prt) (r : Int) (vi vk vr : Value) (us : Nat → Value) (w : World) (h : RdP w p vi vk vr us) (hs : p.small) :
    Calls Try.prog 36 #[.agg #[.int .i64 p.ep, .int .i64 p.ld, vi, vk, vr, .int .i64 p.fw, .int .i64 p.bs], .int .i64 r] w fun e w' => Res w (p.fetchP r).1 [.int .i64 (p.fetchP r).2.1, .int .i64 (p.fetchP r).2.2] e w' := by
  have HRW : Hid (RdP w p vi vk vr us) := h
  have HS : Hid p.small := hs
  obtain ⟨ai, ci, ak, ck, ar, cr, rfl, rfl, rfl, l1, l2, l3⟩ := h.lens
  clear h hs
  go_enter Try.func36, Try.ntmps36
  go_wp2_with fail
  have B0 : Below w.heap.size w ((w.alloc (.cells #[.int .i64 p.ep, .int .i64 p.ld, .slice ai p.isr.length ci, .slice ak p.kn.length ck, .slice ar p.rs.length cr, .int .i64 p.fw, .int .i64 p.bs] 26)).alloc (.cells #[.int .i64 0, .int .i64 0, .slice none 0 0, .slice none 0 0, .slice none 0 0, .int .i64 0, .int .i64 0] 26)) := bstep (bbox _ _) (bbox _ _)
  have P0 : PB ((w.alloc (.cells #[.int .i64 p.ep, .int .i64 p.ld, .slice ai p.isr.length ci, .slice ak p.kn.length ck, .slice ar p.rs.length cr, .int .i64 p.fw, .int .i64 p.bs] 26)).alloc (.cells #[.int .i64 0, .int .i64 0, .slice none 0 0, .slice none 0 0, .slice none 0 0, .int .i64 0, .int .i64 0] 26)) w.heap.size p _ _ _ := (pb_new w p (.slice ai p.isr.length ci) (.slice ak p.kn.length ck) (.slice ar p.rs.length cr) 26 w.heap.size rfl).below (C := w.heap.size + 1) (by omega) ((Below.refl _ _).alloc (by simp) (.cells #[.int .i64 0, .int .i64 0, .slice none 0 0, .slice none 0 0, .slice none 0 0, .int .i64 0, .int .i64 0] 26))
  have Z0 : PB ((w.alloc (.cells #[.int .i64 p.ep, .int .i64 p.ld, .slice ai p.isr.length ci, .slice ak p.kn.length ck, .slice ar p.rs.length cr, .int .i64 p.fw, .int .i64 p.bs] 26)).alloc (.cells #[.int .i64 0, .int .i64 0, .slice none 0 0, .slice none 0 0, .slice none 0 0, .int .i64 0, .int .i64 0] 26)) (w.heap.size + 1) Prt.zero nilV nilV nilV := pb_new _ Prt.zero nilV nilV nilV 26 (w.heap.size + 1) (by simp)
  generalize (w.alloc (.cells #[.int .i64 p.ep, .int .i64 p.ld, .slice ai p.isr.length ci, .slice ak p.kn.length ck, .slice ar p.rs.length cr, .int .i64 p.fw, .int .i64 p.bs] 26)).alloc (.cells #[.int .i64 0, .int .i64 0, .slice none 0 0, .slice none 0 0, .slice none 0 0, .int .i64 0, .int .i64 0] 26) = W0 at *
  refine (partFault_any p r _ _ _ us _ (RdP.below HRW.out (Nat.le_refl _) B0) HS.out).mono ?_
  rintro e w1 ⟨rfl, hb⟩
  have HB1 : Hid (Below w.heap.size w w1) := B0.trans (hb.mono B0.size)
  have HP1 : Hid (PB w1 w.heap.size p (.slice ai p.isr.length ci) (.slice ak p.kn.length ck) (.slice ar p.rs.length cr)) := P0.below P0.1 hb
  have HZ1 : Hid (PB w1 (w.heap.size + 1) Prt.zero nilV nilV nilV) := Z0.below Z0.1 hb
  have HR1 : Hid (RdP w1 p (.slice ai p.isr.length ci) (.slice ak p.kn.length ck) (.slice ar p.rs.length cr) us) := RdP.below HRW.out (Nat.le_refl _) HB1.out
  clear hb B0 P0 Z0
  obtain ⟨s1, ⟨b0, b1, b2, b3, b4, b5, b6⟩, f1⟩ := HP1.out
  obtain ⟨z1, ⟨e0, e1, e2, e3, e4, e5, e6⟩, g1⟩ := HZ1.out
  by_cases c0 : p.flt r = 0
  rotate_left
  · have d0 : (p.flt r != 0) = true := by simp [c0]
    have d1 : (p.flt r == 0) = false := by simp [c0]
    have HE : Hid (p.fetchP r = (Prt.zero, 0, p.flt r)) := show _ = _ from fetch_flt c0
    clear c0
    go_wp2
    exact bodyPost_ret (v := .tuple #[.agg #[.int .i64 0, .int .i64 0, nilV, nilV, nilV, .int .i64 0, .int .i64 0], .int .i64 0, .int .i64 (p.flt r)]) (by simp [results, Try.results36, go_sem, e0, e1, e2, e3, e4, e5, e6]) rfl (by rw [HE.out]; exact res_zero rfl HB1.out (by omega))
  obtain ⟨m, r0, r1⟩ := flt_zero c0
  rw [c0]
  have H0 : Hid (p.flt r = 0) := c0
  clear c0
  obtain ⟨n, rfl⟩ := Int.eq_ofNat_of_zero_le r0
  have hn : n < p.rs.length := by omega
  have HM : Hid (May p) := m
  have hni : n < p.isr.length := by rw [m.li]; exact hn
  have hnk : n < p.kn.length := by rw [m.lk]; exact hn
  have hn' : (n : Int) < p.rs.length := by omega
  have hni' : (n : Int) < p.isr.length := by omega
  have hnk' : (n : Int) < p.kn.length := by omega
  obtain ⟨g, off, rfl, -, q0, q1, q2, q3, q4⟩ := HR1.out.2.2.cells n hn
  obtain ⟨hgi, hoi, rfl, m0⟩ := RdP.isrAt HR1.out.1 n hni
  obtain ⟨hgk, hok, rfl, m1⟩ := RdP.knAt HR1.out.2.1 n hnk
  have HQ0 : Hid _ := q0
  clear q0 m r0 r1
  by_cases c1 : p.ld < 0 ∨ p.ld = (n : Int)
  · have HE : Hid (p.fetchP n = (Prt.zero, 0, 8)) := show _ = _ from fetch_led H0.out c1
    by_cases c2 : p.ld < 0
    · have d2 : decide (p.ld < 0) = true := by simp [c2]
      clear c1
      go_wp2
      exact bodyPost_ret (v := .tuple #[.agg #[.int .i64 0, .int .i64 0, nilV, nilV, nilV, .int .i64 0, .int .i64 0], .int .i64 0, .int .i64 8]) (by simp [results, Try.results36, go_sem, e0, e1, e2, e3, e4, e5, e6]) rfl (by rw [HE.out]; exact res_zero rfl HB1.out (by omega))
    · have d2 : decide (p.ld < 0) = false := by simp; omega
      have d3 : (p.ld == (n : Int)) = true := by simp; omega
      clear c1
      go_wp2
      exact bodyPost_ret (v := .tuple #[.agg #[.int .i64 0, .int .i64 0, nilV, nilV, nilV, .int .i64 0, .int .i64 0], .int .i64 0, .int .i64 8]) (by simp [results, Try.results36, go_sem, e0, e1, e2, e3, e4, e5, e6]) rfl (by rw [HE.out]; exact res_zero rfl HB1.out (by omega))
  have H1 : Hid (p.ofl n = 0) := show _ = _ from ofl_of H0.out c1
  have hd0 : 0 ≤ p.ld := by omega
  have hrd : n ≠ p.ld.toNat := by omega
  have hd1 : p.ld < p.rs.length := by have := HM.out.ld; omega
  have hd : p.ld.toNat < p.rs.length := by omega
  have d2 : decide (p.ld < 0) = false := by simp; omega
  have d3 : (p.ld == (n : Int)) = false := by simp; omega
  have HL0 : Hid (lft (p.at n).l (p.at n).y = 0) := show _ = _ from (HM.out.ok n hn).1
  have HLN : Hid ((p.at n).l.length ≤ 140737488355328) := show _ ≤ _ by have := may_len HM.out hn; omega
  have HL1 : Hid ((p.at n).l.length ≤ 1099511627775) := show _ ≤ _ by have := may_len HM.out hn; omega
  have HLD : Hid ((p.at p.ld.toNat).l.length ≤ 1099511627775) := show _ ≤ _ by have := may_len HM.out hd; omega
  have HBY : Hid (Bytes (p.at n).l) := HQ0.out.1
  obtain ⟨au, cu, eu⟩ : ∃ au cu, us n = .slice au (p.at n).l.length cu := by obtain ⟨_, au, cu, e, _⟩ := HQ0.out; exact ⟨au, cu, e⟩
  rw [eu] at q2
  have HU0 : Hid (Rd w1 (.slice au (p.at n).l.length cu) (p.at n).l) := show Rd _ _ _ by rw [← eu]; exact HQ0.out
  clear HQ0 c1 eu
  cases hbu : (p.at n).up with
  | false =>
    rw [hbu] at q1
    have HE : Hid (p.fetchP n = (Prt.zero, 0, 7)) := show _ = _ from fetch_down H1.out hbu
    go_wp2
    exact bodyPost_ret (v := .tuple #[.agg #[.int .i64 0, .int .i64 0, nilV, nilV, nilV, .int .i64 0, .int .i64 0], .int .i64 0, .int .i64 7]) (by simp [results, Try.results36, go_sem, e0, e1, e2, e3, e4, e5, e6]) rfl (by rw [HE.out]; exact res_zero rfl HB1.out (by omega))
  | true =>
    rw [hbu] at q1
    have HUP : Hid ((p.at n).up = true) := show _ = _ from hbu
    have HQC : Hid (∀ W, Below w1.heap.size w1 W → W.cell? ⟨g, off + n * 4 + 1, none⟩ = some (.slice au (p.at n).l.length cu) ∧ W.cell? ⟨g, off + n * 4 + 2, none⟩ = some (.int .i64 (p.at n).y) ∧ W.cell? ⟨g, off + n * 4 + 3, none⟩ = some (.int .i64 (p.at n).h)) := fun W hW => ⟨((bcell hW).1 _ _ (cell_lt q2)).trans q2, ((bcell hW).1 _ _ (cell_lt q2)).trans q3, ((bcell hW).1 _ _ (cell_lt q2)).trans q4⟩
    clear hbu
    go_wp2_with fail
    refine (partCopy_any p _ _ _ us _ HR1.out (may_fits HM.out)).mono ?_
    rintro e w2 ⟨xi, xk, xr, us', rfl, hfr, hb⟩
    obtain ⟨gi, gk, gr, di, dk, dr, rfl, rfl, rfl, hsn⟩ := sn_start HB1.out HZ1.out (by omega) hfr hb (by omega) (by omega) (by omega)
    have HT2 : Hid (Sn w1.heap.size (w.heap.size + 1) w (p) gi gk gr di dk dr p.isr.length p.kn.length p.rs.length us' w2) := hsn
    have HP2 : Hid (PB w2 w.heap.size p _ _ _) := PB.below HP1.out HP1.out.1 hb
    have HR2 : Hid (RdP w2 p (.slice (some ⟨hgi, hoi, none⟩) p.isr.length ci) (.slice (some ⟨hgk, hok, none⟩) p.kn.length ck) (.slice (some ⟨g, off, none⟩) p.rs.length cr) us) := RdP.below HR1.out (Nat.le_refl _) hb
    have HBW2 : Hid (Below w1.heap.size w1 w2) := hb
    clear s1 b0 b1 b2 b3 b4 b5 b6 f1 z1 e0 e1 e2 e3 e4 e5 e6 g1 q1 q2 q3 q4 m0 m1 hb hfr hsn
    have HT3 : Hid (Sd w1.heap.size w2.heap.size (w.heap.size + 1) w (p) gi gk gr di dk dr p.isr.length p.kn.length p.rs.length us' (w2.alloc (.cells #[.int .i64 p.ep, .int .i64 p.ld, (.slice (some ⟨gi, 0, none⟩) p.isr.length di), (.slice (some ⟨gk, 0, none⟩) p.kn.length dk), (.slice (some ⟨gr, 0, none⟩) p.rs.length dr), .int .i64 p.fw, .int .i64 p.bs] 26))) := HT2.out.lay 26
    have HBW3 : Hid (Below w1.heap.size w1 (w2.alloc (.cells #[.int .i64 p.ep, .int .i64 p.ld, (.slice (some ⟨gi, 0, none⟩) p.isr.length di), (.slice (some ⟨gk, 0, none⟩) p.kn.length dk), (.slice (some ⟨gr, 0, none⟩) p.rs.length dr), .int .i64 p.fw, .int .i64 p.bs] 26))) := bstep HBW2.out (bbox _ _)
    obtain ⟨s1, ⟨b0, b1, b2, b3, b4, b5, b6⟩, f1⟩ := PB.below HP1.out HP1.out.1 HBW3.out
    go_wp2_with fail
    generalize w2.alloc (.cells #[.int .i64 p.ep, .int .i64 p.ld, (.slice (some ⟨gi, 0, none⟩) p.isr.length di), (.slice (some ⟨gk, 0, none⟩) p.kn.length dk), (.slice (some ⟨gr, 0, none⟩) p.rs.length dr), .int .i64 p.fw, .int .i64 p.bs] 26) = W3 at *
    refine (logOf_any p _ _ _ us n _ (RdP.below HR1.out (Nat.le_refl _) HBW3.out) HL1.out hn l3).mono ?_
    rintro e w4 ⟨v4, rfl, ho4, hb4⟩
    have HT4 : Hid (Sd w1.heap.size w2.heap.size (w.heap.size + 1) w (p) gi gk gr di dk dr p.isr.length p.kn.length p.rs.length us' w4) := HT3.out.below hb4
    have HBW4 : Hid (Below w1.heap.size w1 w4) := bstep HBW3.out hb4
    have HE4 : Hid (RdX w4 v4 (p.at n).es) := ho4.rdX
    clear s1 b0 b1 b2 b3 b4 b5 b6 f1
    clear ho4 hb4 HT3 HBW3
    obtain ⟨s1, ⟨b0, b1, b2, b3, b4, b5, b6⟩, f1⟩ := PB.below HP1.out HP1.out.1 HBW4.out
    go_wp2_with fail
    refine (logOf_int p p.ld _ _ _ us _ (RdP.below HR1.out (Nat.le_refl _) HBW4.out) hd0 hd1 HLD.out l3).mono ?_
    rintro e w5 ⟨v5, rfl, ho5, hb5⟩
    have HT5 : Hid (Sd w1.heap.size w2.heap.size (w.heap.size + 1) w (p) gi gk gr di dk dr p.isr.length p.kn.length p.rs.length us' w5) := HT4.out.below hb5
    have HBW5 : Hid (Below w1.heap.size w1 w5) := bstep HBW4.out hb5
    have HE5 : Hid (RdX w5 v4 (p.at n).es) := RdX.below HE4.out (Nat.le_refl _) hb5
    have HV5 : Hid (RdX w5 v5 (p.at p.ld.toNat).es) := ho5.rdX
    have HVB : Hid (∀ k, v5.ownBlock = some k → k < w5.heap.size ∧ k ≠ gk ∧ k ≠ gr ∧ k ≠ w2.heap.size) := fun k hk => by
      have h1 := OwnE.blk ho5 k hk
      have h2 := HT4.out.o.2.sk
      have h3 := HT4.out.o.2.sr
      have h4 := HT4.out.p.1
      exact ⟨h1.2, by omega, by omega, by omega⟩
    obtain ⟨a4, c4, rfl⟩ : ∃ ao cap, v4 = .slice ao (p.at n).es.length cap := by obtain ⟨ao, cap, e, _⟩ := HE5.out; exact ⟨ao, cap, e⟩
    obtain ⟨a5, c5, rfl⟩ := ho5.shape
    have HCL : Hid (com (p.at n).es (p.at p.ld.toNat).es ≤ (p.at n).es.length ∧ com (p.at n).es (p.at p.ld.toNat).es ≤ (p.at p.ld.toNat).es.length) := show _ ∧ _ from com_le _ _
    have ha4 : ((p.at n).es.length : Int) ≤ 400 := may_es HM.out hn
    have ha5 : ((p.at p.ld.toNat).es.length : Int) ≤ 400 := may_es HM.out hd
    clear s1 b0 b1 b2 b3 b4 b5 b6 f1
    clear ho5 hb5 HT4 HBW4 HE4
    obtain ⟨stay, hstay⟩ : ∃ stay, com (p.at n).es (p.at p.ld.toNat).es = stay := ⟨_, rfl⟩
    have HSY : Hid (com (p.at n).es (p.at p.ld.toNat).es = stay) := show _ = _ from hstay
    rw [hstay] at HCL
    clear hstay
    go_wp2
    go_loopw [11] (fun i wr => ∃ k : Nat, Hid (k ≤ stay) ∧ i = .int .i64 k ∧ Hid (Below w5.heap.size w5 wr)) (fun i _ => (p.at n).es.length - (intOf i).toNat)
    case atStart => exact ⟨0, Nat.zero_le _, rfl, Below.refl _ _⟩
    case round =>
      obtain ⟨k, HK, rfl, HBR⟩ := hrel
      go_upto_region 12 with fail
      have hk4 : (k : Int) ≤ 400 := by have h1 := HK.out; have h2 := HCL.out; omega
      go_cut [80] (fun c W => c = .bool (decide (k < stay)) ∧ Below w5.heap.size w5 W)
      case first =>
        by_cases a1 : k < (p.at n).es.length
        rotate_left
        · have d1 : decide ((k : Int) < ((p.at n).es.length : Int)) = false := by simp; omega
          go_quiet (fail)
          go_wp2
          go_meet
          exact ⟨congrArg Value.bool (decide_eq_false (p := k < stay) (by have h2 := HCL.out; omega)).symm, below_drewN HBR.out _⟩
        · have a1' : (k : Int) < (p.at n).es.length := by omega
          have d1 : decide ((k : Int) < ((p.at n).es.length : Int)) = true := by simp; omega
          by_cases a2 : k < (p.at p.ld.toNat).es.length
          rotate_left
          · have d5 : decide ((k : Int) < ((p.at p.ld.toNat).es.length : Int)) = false := by simp; omega
            go_quiet (fail)
            go_wp2
            go_meet
            exact ⟨congrArg Value.bool (decide_eq_false (p := k < stay) (by have h2 := HCL.out; omega)).symm, below_drewN HBR.out _⟩
          · have a2' : (k : Int) < (p.at p.ld.toNat).es.length := by omega
            have d5 : decide ((k : Int) < ((p.at p.ld.toNat).es.length : Int)) = true := by simp; omega
            have HCT : Hid (k < stay ↔ (Ent.at (p.at n).es k).a = (Ent.at (p.at p.ld.toNat).es k).a) := show _ ↔ _ by rw [← HSY.out]; exact com_lt _ _ k (by rw [HSY.out]; exact HK.out) a1 a2
            obtain ⟨ao, cap, ex, -, -, -, h3⟩ := RdX.below HE5.out (Nat.le_refl _) HBR.out
            simp only [Value.slice.injEq] at ex
            obtain ⟨rfl, -, rfl⟩ := ex
            obtain ⟨ga, oa, rfl, hga⟩ := h3 (by omega)
            obtain ⟨ao2, cap2, ex, -, -, -, h4⟩ := RdX.below HV5.out (Nat.le_refl _) HBR.out
            simp only [Value.slice.injEq] at ex
            obtain ⟨rfl, -, rfl⟩ := ex
            obtain ⟨gb, ob, rfl, hgb⟩ := h4 (by omega)
            obtain ⟨yy0, -⟩ := RdX.cells hga k a1
            obtain ⟨yy1, -⟩ := RdX.cells hgb k a2
            clear hga hgb
            generalize (Ent.at (p.at n).es k).a = ea at *
            generalize (Ent.at (p.at p.ld.toNat).es k).a = fa at *
            obtain ⟨be, hbe⟩ : ∃ be, (ea == fa) = be := ⟨_, rfl⟩
            have HBE : Hid (be = decide (k < stay)) := show _ = _ by
              rw [← hbe, Bool.eq_iff_iff]
              have h5 := HCT.out
              simp only [beq_iff_eq, decide_eq_true_eq]
              exact h5.symm
            cases be with
            | true =>
              go_quiet (fail)
              go_wp2
              go_meet
              exact ⟨congrArg Value.bool HBE.out, below_drewN HBR.out _⟩
            | false =>
              go_quiet (fail)
              go_wp2
              go_meet
              exact ⟨congrArg Value.bool HBE.out, below_drewN HBR.out _⟩
      case rest =>
        have hv := hcut.1
        subst hv
        have HB6 : Hid (Below w5.heap.size w5 wc) := hcut.2
        clear hcut HBR
        by_cases hks : k < stay
        · have d6 : decide (k < stay) = true := by simp [hks]
          go_at_K
          go_wp2
          go_roundw
          case rel => exact ⟨k + 1, hks, by go_num, HB6⟩
          case measure => have h2 := HCL.out; simp [intOf]; omega
        have d6 : decide (k < stay) = false := by simp [hks]
        obtain rfl : stay = k := by have := HK.out; omega
        rename World => w6
        have HT6 : Hid (Sd w1.heap.size w2.heap.size (w.heap.size + 1) w (p) gi gk gr di dk dr p.isr.length p.kn.length p.rs.length us' w6) := HT5.out.below HB6.out
        have HBW6 : Hid (Below w1.heap.size w1 w6) := bstep HBW5.out HB6.out
        have HV6 : Hid (RdX w6 _ (p.at p.ld.toNat).es) := RdX.below HV5.out (Nat.le_refl _) HB6.out
        have HS6 : Hid (w5.heap.size ≤ w6.heap.size) := HB6.out.size
        clear HT5 HBW5 HV5 HE5 HK hks
        obtain ⟨qq1, qq2, qq3⟩ := HQC.out _ HBW6.out
        have HU6 : Hid (Rd w6 (.slice au (p.at n).l.length cu) (p.at n).l) := Rd.below HU0.out (Nat.le_refl _) HBW6.out
        obtain ⟨L, hL⟩ : ∃ L, (p.at n).l.take (endOf (p.at n).es stay) = L := ⟨_, rfl⟩
        obtain ⟨Y, hY⟩ : ∃ Y, cutS (p.at n).l (p.at n).y stay = Y := ⟨_, rfl⟩
        have HL : Hid ((p.at n).l.take (endOf (p.at n).es stay) = L) := hL
        have HY : Hid (cutS (p.at n).l (p.at n).y stay = Y) := hY
        have HLL2 : Hid (L.length ≤ 1099511627775) := show _ ≤ _ by rw [← hL, List.length_take]; have := HL1.out; omega
        have HYB : Hid (0 ≤ Y ∧ Y ≤ (L.length : Nat)) := show _ ∧ _ by rw [← hL, ← hY]; exact cut_bd HL0.out stay
        clear hL hY
        obtain ⟨s1, ⟨b0, b1, b2, b3, b4, b5, b6⟩, f1⟩ := PB.below HP1.out HP1.out.1 HBW6.out
        go_at_K
        go_wp2_with fail
        refine (cutOf_ok (p.at n).l _ (p.at n).y stay _ HLN.out HU6.out HL0.out HCL.out.1 L Y HL.out HY.out).mono ?_
        rintro e w7 ⟨av, cv, rfl, ho7, hb7⟩
        clear s1 b0 b1 b2 b3 b4 b5 b6 f1
        go_upto_region 15 with fail
        have hlb : LBox (w7.alloc (.cells #[.slice av L.length cv, .int .i64 Y] 61)) w7.heap.size (.slice av L.length cv) Y := lbox_new _ _ _ _
        have hb8 : Below w6.heap.size w6 (w7.alloc (.cells #[.slice av L.length cv, .int .i64 Y] 61)) := bstep hb7 (bbox _ _)
        have ho8 : Own w6.heap.size (.slice av L.length cv) L (w7.alloc (.cells #[.slice av L.length cv, .int .i64 Y] 61)) := ho7.alloc _
        have HLB7 : Hid (w6.heap.size ≤ w7.heap.size) := hb7.size
        generalize w7.alloc (.cells #[.slice av L.length cv, .int .i64 Y] 61) = w8 at *
        obtain ⟨lb, hlbe⟩ : ∃ lb, w7.heap.size = lb := ⟨_, rfl⟩
        rw [hlbe] at hlb ⊢
        have HT8 : Hid (Sd w1.heap.size w2.heap.size (w.heap.size + 1) w (p) gi gk gr di dk dr p.isr.length p.kn.length p.rs.length us' w8) := HT6.out.below hb8
        have HBW8 : Hid (Below w1.heap.size w1 w8) := bstep HBW6.out hb8
        have HKP8 : Hid (Kp w8 (.slice a5 (p.at p.ld.toNat).es.length c5) (p.at p.ld.toNat).es lb (.slice av L.length cv) L Y) := ⟨RdX.below HV6.out (Nat.le_refl _) hb8, hlb, ho8.rd, fun k hk => Nat.lt_of_lt_of_le (HVB.out k hk).1 (Nat.le_trans HS6.out hb8.size), fun k hk => (ho8.blk k hk).2⟩
        have HFR : Hid (∀ k, (Value.slice av L.length cv).ownBlock = some k → w1.heap.size ≤ k ∧ k < w8.heap.size ∧ k ≠ gi ∧ k ≠ gk ∧ k ≠ gr ∧ k ≠ w2.heap.size) := fun k hk => HT6.out.fresh ho8 k hk
        have HLG : Hid (lb ≠ gk ∧ lb ≠ gr ∧ lb ≠ w2.heap.size) := by
          have h1 := HT6.out.o.2.sk
          have h2 := HT6.out.o.2.sr
          have h3 := HT6.out.p.1
          have h4 := HLB7.out
          exact ⟨by omega, by omega, by omega⟩
        have HNV : Hid ((Value.slice a5 (p.at p.ld.toNat).es.length c5).ownBlock ≠ some gk ∧ (Value.slice a5 (p.at p.ld.toNat).es.length c5).ownBlock ≠ some gr ∧ (Value.slice a5 (p.at p.ld.toNat).es.length c5).ownBlock ≠ some w2.heap.size) := ⟨fun e => (HVB.out _ e).2.1 rfl, fun e => (HVB.out _ e).2.2.1 rfl, fun e => (HVB.out _ e).2.2.2 rfl⟩
        have HNU : Hid ((Value.slice av L.length cv).ownBlock ≠ some gk ∧ (Value.slice av L.length cv).ownBlock ≠ some gr ∧ (Value.slice av L.length cv).ownBlock ≠ some w2.heap.size) := ⟨fun e => (HFR.out _ e).2.2.2.1 rfl, fun e => (HFR.out _ e).2.2.2.2.1 rfl, fun e => (HFR.out _ e).2.2.2.2.2 rfl⟩
        clear hb8 ho8 ho7 hb7 hlbe HLB7 HT6 HBW6 HV6 HU6 HU0
        have HT9 : Hid (Sd w1.heap.size w2.heap.size (w.heap.size + 1) w ((p.setR n (fun x => { x with l := L })).setR n (fun x => { x with y := Y })) gi gk gr di dk dr p.isr.length p.kn.length p.rs.length (fun j => if j = n then (.slice av L.length cv) else us' j) ((w8.setCell ⟨gr, n * 4 + 1, none⟩ (.slice av L.length cv)).setCell ⟨gr, n * 4 + 2, none⟩ (.int .i64 Y))) := (HT8.out.setB n hn (.slice av L.length cv) L HKP8.out.r HFR.out).setY n hn Y
        have HBW9 : Hid (Below w1.heap.size w1 ((w8.setCell ⟨gr, n * 4 + 1, none⟩ (.slice av L.length cv)).setCell ⟨gr, n * 4 + 2, none⟩ (.int .i64 Y))) := (HBW8.out.setCell (p := ⟨gr, n * 4 + 1, none⟩) HT8.out.o.2.br _).setCell (p := ⟨gr, n * 4 + 2, none⟩) HT8.out.o.2.br _
        have HKP9 : Hid (Kp ((w8.setCell ⟨gr, n * 4 + 1, none⟩ (.slice av L.length cv)).setCell ⟨gr, n * 4 + 2, none⟩ (.int .i64 Y)) (.slice a5 (p.at p.ld.toNat).es.length c5) (p.at p.ld.toNat).es lb (.slice av L.length cv) L Y) := (HKP8.out.set HNV.out.2.1 HLG.out.2.1 HNU.out.2.1 _ _).set HNV.out.2.1 HLG.out.2.1 HNU.out.2.1 _ _
        obtain ⟨-, i1, i2, i3, i4, i9⟩ := HT8.out.cells n hn
        obtain ⟨i6, i8⟩ := HT8.out.kn n hnk
        obtain ⟨i5, i7⟩ := HT8.out.isr n hni
        obtain ⟨k1, k2, k3, k4, k5, k6, -, -, -⟩ := HT8.out.apart
        have k7 : ¬ gi = w2.heap.size := fun h => k1 h.symm
        have k8 : ¬ gk = w2.heap.size := fun h => k2 h.symm
        have k9 : ¬ gr = w2.heap.size := fun h => k3 h.symm
        have t1 : gi ≠ gk := HT8.out.o.2.ik
        have t2 : gi ≠ gr := HT8.out.o.2.ir
        have t3 : gk ≠ gr := HT8.out.o.2.kr
        have x1 := HT8.out.o.2.si
        have x2 := HT8.out.o.2.sk
        have x3 := HT8.out.o.2.sr
        have kb : w2.heap.size ≠ w.heap.size + 1 := HT8.out.bz
        obtain ⟨o1, ⟨o0, o2, o3, o4, o5, o6, o7⟩, o8⟩ := HT8.out.p
        obtain ⟨z1, ⟨e0, e1, e2, e3, e4, e5, e6⟩, g1⟩ := HT8.out.r
        obtain ⟨-, v0, v1, v2⟩ := HKP8.out.b
        go_upto_region 16 with fail
        clear i1 i2 i3 i4 i5 i6 i7 i8 i9 k1 k2 k3 k4 k5 k6 k7 k8 k9 t1 t2 t3 x1 x2 x3 kb o0 o1 o2 o3 o4 o5 o6 o7 o8 z1 e0 e1 e2 e3 e4 e5 e6 g1
        clear v0 v1 v2 HT8 HBW8 HKP8
        generalize (w8.setCell ⟨gr, n * 4 + 1, none⟩ (.slice av L.length cv)).setCell ⟨gr, n * 4 + 2, none⟩ (.int .i64 Y) = w9 at *
        obtain ⟨q, hq⟩ : ∃ q, (p.setR n (fun x => { x with l := L })).setR n (fun x => { x with y := Y }) = q := ⟨_, rfl⟩
        have HQ : Hid ((p.setR n (fun x => { x with l := L })).setR n (fun x => { x with y := Y }) = q) := hq
        obtain ⟨us9, hus9⟩ : ∃ us9, (fun j => if j = n then (.slice av L.length cv) else us' j) = us9 := ⟨_, rfl⟩
        rw [hq, hus9] at HT9
        have HQI : Hid (q.ep = p.ep ∧ q.ld = p.ld ∧ q.fw = p.fw ∧ q.bs = p.bs ∧ q.kn = p.kn) := show _ ∧ _ ∧ _ ∧ _ ∧ _ by rw [← hq]; exact ⟨rfl, rfl, rfl, rfl, rfl⟩
        have HQA : Hid ((q.at n).l = L ∧ (q.at n).y = Y) := show _ ∧ _ by rw [← hq, setR_setR, setR_at _ _ _ hn]; exact ⟨rfl, rfl⟩
        have HQD : Hid (q.at p.ld.toNat = p.at p.ld.toNat) := show _ = _ by rw [← hq, setR_setR]; exact setR_other _ _ _ _ (fun e => hrd e.symm)
        obtain ⟨sf, hsf⟩ : ∃ sf, (q.at n).safe = sf := ⟨_, rfl⟩
        have HSF : Hid ((q.at n).safe = sf) := hsf
        have HMD : Hid (({ q with kn := q.kn.set n (sf : Int) } : Prt).raised = p.met n stay) := show _ = _ by
          rw [← met_doc hn stay L HL.out Y HY.out sf (by rw [hq]; exact hsf), hq, HQI.out.2.2.2.2]
        clear hq hus9 hsf
        obtain ⟨-, i1, i2, i3, i4, i9⟩ := HT9.out.cells n hn
        obtain ⟨i6, i8⟩ := HT9.out.kn n hnk
        obtain ⟨i5, i7⟩ := HT9.out.isr n hni
        obtain ⟨k1, k2, k3, k4, k5, k6, -, -, -⟩ := HT9.out.apart
        have k7 : ¬ gi = w2.heap.size := fun h => k1 h.symm
        have k8 : ¬ gk = w2.heap.size := fun h => k2 h.symm
        have k9 : ¬ gr = w2.heap.size := fun h => k3 h.symm
        have t1 : gi ≠ gk := HT9.out.o.2.ik
        have t2 : gi ≠ gr := HT9.out.o.2.ir
        have t3 : gk ≠ gr := HT9.out.o.2.kr
        have x1 := HT9.out.o.2.si
        have x2 := HT9.out.o.2.sk
        have x3 := HT9.out.o.2.sr
        have kb : w2.heap.size ≠ w.heap.size + 1 := HT9.out.bz
        obtain ⟨o1, ⟨o0, o2, o3, o4, o5, o6, o7⟩, o8⟩ := HT9.out.p
        obtain ⟨z1, ⟨e0, e1, e2, e3, e4, e5, e6⟩, g1⟩ := HT9.out.r
        rw [HQI.out.1] at o0
        rw [HQI.out.2.1] at o2
        rw [HQI.out.2.2.1] at o6
        rw [HQI.out.2.2.2.1] at o7
        have HRQ : Hid (∀ W, Below w9.heap.size w9 W → RdP W q (.slice (some ⟨gi, 0, none⟩) p.isr.length di) (.slice (some ⟨gk, 0, none⟩) p.kn.length dk) (.slice (some ⟨gr, 0, none⟩) p.rs.length dr) us9) := fun W hW => (HT9.out.o.rd' HT9.out.hli HT9.out.hlk HT9.out.hlr).below (Nat.le_refl _) hW
        have hnq : n < q.rs.length := by rw [HT9.out.hlr]; exact hn
        go_cut [] (fun W => Sd w1.heap.size w2.heap.size (w.heap.size + 1) w ({ q with kn := q.kn.set n (sf : Int) }) gi gk gr di dk dr p.isr.length p.kn.length p.rs.length us9 W ∧ Below w1.heap.size w1 W ∧ Kp W (.slice a5 (p.at p.ld.toNat).es.length c5) (p.at p.ld.toNat).es lb (.slice av L.length cv) L Y)
        case first =>
          have HSC : Hid (∀ W, Below w9.heap.size w9 W → Calls Try.prog 92 #[.agg #[.int .i64 p.ep, .int .i64 p.ld, (.slice (some ⟨gi, 0, none⟩) p.isr.length di), (.slice (some ⟨gk, 0, none⟩) p.kn.length dk), (.slice (some ⟨gr, 0, none⟩) p.rs.length dr), .int .i64 p.fw, .int .i64 p.bs], .int .i64 n] W fun e w' => e = .returned (.int .i64 sf) ∧ Below W.heap.size W w') := fun W hW => by
            have h9 := safeOf_any q _ _ _ us9 n W (HRQ.out W hW) (by rw [HQA.out.1]; exact HLL2.out) hnq (by have := HM.out.n5; have := HT9.out.hlr; omega) (by rw [HQA.out.2]; exact HYB.out.1) (by rw [HQA.out.1, HQA.out.2]; exact HYB.out.2)
            rw [HQI.out.1, HQI.out.2.1, HQI.out.2.2.1, HQI.out.2.2.2.1, HSF.out] at h9
            exact h9
          go_region_with (go_at_call 92; refine (HSC.out _ (by repeat (first | exact Below.refl _ _ | refine Below.drew ?_))).mono ?_; rintro e w10 ⟨rfl, hb10⟩; have hB10 : Below w9.heap.size w9 w10 := bstep (by repeat (first | exact Below.refl _ _ | refine Below.drew ?_)) hb10; obtain ⟨m1, m2⟩ := bcell hB10)
          all_goals
            have HX : Hid _ := (HT9.out.below hB10).setKn n hnk sf
            have HXB : Hid _ := (bstep HBW9.out hB10).setCell (p := ⟨gk, n, none⟩) HT9.out.o.2.bk (.int .i64 sf)
            have HXK : Hid _ := (HKP9.out.below hB10).set HNV.out.1 HLG.out.1 HNU.out.1 n (.int .i64 sf)
            clear m1 m2 hB10 hb10
            go_wp2_with fail
            go_meet
          all_goals
            exact ⟨HX.out, HXB.out, HXK.out⟩
        case rest =>
          rename World => w10
          have HT10 : Hid (Sd w1.heap.size w2.heap.size (w.heap.size + 1) w ({ q with kn := q.kn.set n (sf : Int) }) gi gk gr di dk dr p.isr.length p.kn.length p.rs.length us9 w10) := hcut.1
          have HBW10 : Hid (Below w1.heap.size w1 w10) := hcut.2.1
          have HKP10 : Hid (Kp w10 (.slice a5 (p.at p.ld.toNat).es.length c5) (p.at p.ld.toNat).es lb (.slice av L.length cv) L Y) := hcut.2.2
          clear hcut HT9 HBW9 HKP9 HRQ hnq
          clear i1 i2 i3 i4 i5 i6 i7 i8 i9 k1 k2 k3 k4 k5 k6 k7 k8 k9 t1 t2 t3 x1 x2 x3 kb o0 o1 o2 o3 o4 o5 o6 o7 o8 z1 e0 e1 e2 e3 e4 e5 e6 g1
          obtain ⟨o1, ⟨o0, o2, o3, o4, o5, o6, o7⟩, o8⟩ := HT10.out.p
          go_at_K
          go_wp2_with fail
          clear o0 o1 o2 o3 o4 o5 o6 o7 o8
          refine (raisedRef_at ({ q with kn := q.kn.set n (sf : Int) }) w1.heap.size gi gk gr di dk dr p.isr.length p.kn.length p.rs.length q.ep q.ld q.fw q.bs _ _ HT10.out.o (by rw [HQI.out.2.1]; exact hd0) (by rw [HQI.out.2.1]; exact hd1) HM.out.li HM.out.lk (show (q.at q.ld.toNat).l.length ≤ _ by rw [HQI.out.2.1, HQD.out]; exact HLD.out) (by have := HM.out.n5; omega) HT10.out.hli HT10.out.hlk HT10.out.hlr rfl rfl rfl rfl).mono ?_
          rintro e w11 ⟨rfl, ho11, hg11⟩
          obtain ⟨qm, hqm⟩ : ∃ qm, ({ q with kn := q.kn.set n (sf : Int) } : Prt).raised = qm := ⟨_, rfl⟩
          have hrl := raised_len ({ q with kn := q.kn.set n (sf : Int) } : Prt)
          have ht11 : Sd w1.heap.size w2.heap.size (w.heap.size + 1) w ((({ q with kn := q.kn.set n (sf : Int) } : Prt)).raised) gi gk gr di dk dr p.isr.length p.kn.length p.rs.length us9 w11 := Sd.other HT10.out hg11 ho11 ((congrArg List.length hrl.1).trans HT10.out.hli) ((congrArg List.length hrl.2.1).trans HT10.out.hlk) (hrl.2.2.1.trans HT10.out.hlr) hrl.2.2.2.1 hrl.2.2.2.2.1 hrl.2.2.2.2.2.1 hrl.2.2.2.2.2.2
          rw [hqm] at hrl ht11
          have HM1 : Hid (p.met n stay = qm) := show _ = _ by rw [← HMD.out]; exact hqm
          have HMI : Hid (qm.ep = q.ep ∧ qm.ld = q.ld ∧ qm.fw = q.fw ∧ qm.bs = q.bs) := ⟨hrl.2.2.2.1, hrl.2.2.2.2.1, hrl.2.2.2.2.2.1, hrl.2.2.2.2.2.2⟩
          have HT11 : Hid (Sd w1.heap.size w2.heap.size (w.heap.size + 1) w (qm) gi gk gr di dk dr p.isr.length p.kn.length p.rs.length us9 w11) := ht11
          have HT12 : Hid (Sd w1.heap.size w2.heap.size (w.heap.size + 1) w (qm) gi gk gr di dk dr p.isr.length p.kn.length p.rs.length us9 (put7 w11 w2.heap.size q (.slice (some ⟨gi, 0, none⟩) p.isr.length di) (.slice (some ⟨gk, 0, none⟩) p.kn.length dk) (.slice (some ⟨gr, 0, none⟩) p.rs.length dr))) := HT11.out.anew q HMI.out.1 HMI.out.2.1 HMI.out.2.2.1 HMI.out.2.2.2
          have HBW12 : Hid (Below w1.heap.size w1 (put7 w11 w2.heap.size q (.slice (some ⟨gi, 0, none⟩) p.isr.length di) (.slice (some ⟨gk, 0, none⟩) p.kn.length dk) (.slice (some ⟨gr, 0, none⟩) p.rs.length dr))) := below_put (HBW10.out.grown hg11 HBW10.out.size (fun k e => by have h1 := HT10.out.o.2.br; have h2 := Option.some.inj e; omega)) HBW2.out.size _ _ _ _
          have HKP12 : Hid (Kp (put7 w11 w2.heap.size q (.slice (some ⟨gi, 0, none⟩) p.isr.length di) (.slice (some ⟨gk, 0, none⟩) p.kn.length dk) (.slice (some ⟨gr, 0, none⟩) p.rs.length dr)) (.slice a5 (p.at p.ld.toNat).es.length c5) (p.at p.ld.toNat).es lb (.slice av L.length cv) L Y) := (HKP10.out.grown hg11 HNV.out.2.1 HLG.out.2.1 HNU.out.2.1).put HNV.out.2.2 HLG.out.2.2 HNU.out.2.2 _ _ _ _
          unfold put7 at HT12 HBW12 HKP12
          clear ht11 hqm hrl ho11 hg11 HT10 HBW10 HKP10
          obtain ⟨o1, ⟨o0, o2, o3, o4, o5, o6, o7⟩, o8⟩ := HT11.out.p
          go_upto_region 18 with fail
          clear o0 o1 o2 o3 o4 o5 o6 o7 o8
          generalize ((((((w11.setCell ⟨w2.heap.size, 0, none⟩ (.int .i64 q.ep)).setCell ⟨w2.heap.size, 1, none⟩ (.int .i64 q.ld)).setCell ⟨w2.heap.size, 2, none⟩ (.slice (some ⟨gi, 0, none⟩) p.isr.length di)).setCell ⟨w2.heap.size, 3, none⟩ (.slice (some ⟨gk, 0, none⟩) p.kn.length dk)).setCell ⟨w2.heap.size, 4, none⟩ (.slice (some ⟨gr, 0, none⟩) p.rs.length dr)).setCell ⟨w2.heap.size, 5, none⟩ (.int .i64 q.fw)).setCell ⟨w2.heap.size, 6, none⟩ (.int .i64 q.bs) = w12 at *
          clear HT11
          obtain ⟨came, hc⟩ : ∃ came, cameOf L Y ((p.at p.ld.toNat).es.drop stay) = came := ⟨_, rfl⟩
          obtain ⟨NL, hNL⟩ : ∃ NL, longOf L Y ((p.at p.ld.toNat).es.drop stay) = NL := ⟨_, rfl⟩
          have HCA : Hid (cameOf L Y ((p.at p.ld.toNat).es.drop stay) = came) := hc
          have HNL : Hid (longOf L Y ((p.at p.ld.toNat).es.drop stay) = NL) := hNL
          clear hc hNL
          have HMA : Hid ((qm.at n).l = L ∧ (qm.at n).y = Y) := show _ ∧ _ by
            rw [← HM1.out, met_at HBY.out HL0.out hn hd0 hrd stay HCL.out.1 L HL.out Y HY.out, setR_at _ _ _ (by rw [(raised_len _).2.2.1]; exact hn)]
            exact ⟨rfl, rfl⟩
          obtain ⟨hA, hhA⟩ : ∃ hA, (p.at n).h = hA := ⟨_, rfl⟩
          obtain ⟨hB, hhB⟩ : ∃ hB, (qm.at p.ld.toNat).h = hB := ⟨_, rfl⟩
          have HHA : Hid ((p.at n).h = hA) := hhA
          have HHB : Hid ((qm.at p.ld.toNat).h = hB) := hhB
          clear hhA hhB
          have HFI : Hid (qm.ep = p.ep ∧ qm.ld = p.ld ∧ qm.fw = p.fw ∧ qm.bs = p.bs) := ⟨HMI.out.1.trans HQI.out.1, HMI.out.2.1.trans HQI.out.2.1, HMI.out.2.2.1.trans HQI.out.2.2.1, HMI.out.2.2.2.trans HQI.out.2.2.2.1⟩
          have HEH : Hid (∀ x : Int, min (max hA hB) (stay + came : Int) = x → p.fetchP n = (((qm.setR n (fun x => { x with l := NL })).setR n (fun x => { x with y := Y })).setR n (fun z => { z with h := x }), (came : Int), 0)) := fun x hx =>
            fetch_doc HBY.out HL0.out hn H1.out HUP.out stay HSY.out qm HM1.out L HL.out Y HY.out came HCA.out NL HNL.out x (by rw [HHA.out, HHB.out]; exact hx)
          have hnm : n < qm.rs.length := by rw [HT12.out.hlr]; exact hn
          have hst4 : (stay : Int) ≤ 400 := by have := HCL.out.1; omega
          have HLL3 : Hid (L.length ≤ 140737488355328) := show _ ≤ _ by have := HLL2.out; omega
          by_cases hlen : stay < (p.at p.ld.toNat).es.length
          rotate_left
          · have d7 : decide ((stay : Int) < ((p.at p.ld.toNat).es.length : Int)) = false := by simp; omega
            have HC0 : Hid (came = 0 ∧ NL = L) := by
              have := came_none (L := L) (Y := Y) (es := (p.at p.ld.toNat).es.drop stay) (by rw [List.length_drop]; omega)
              rw [HCA.out, HNL.out] at this
              exact this
            have HEX : Hid (∀ x : Int, min (max hA hB) ((stay : Int) + 0) = x → p.fetchP n = (qm.setR n (fun z => { z with h := x }), 0, 0)) := fun x hx => by
              have := HEH.out x (by rw [HC0.out.1]; exact hx)
              rw [HC0.out.2, same_LY hnm HMA.out.1 HMA.out.2, HC0.out.1] at this
              exact this
            have HTX : Hid (Sd w1.heap.size w2.heap.size (w.heap.size + 1) w (qm) gi gk gr di dk dr p.isr.length p.kn.length p.rs.length us9 w12) := HT12.out
            have HBX : Hid (Below w1.heap.size w1 w12) := HBW12.out
            have HFB : Hid ((qm.at p.ld.toNat).h = hB) := HHB.out
            have hlen' : ¬ (stay : Int) < ((p.at p.ld.toNat).es.length : Int) := by omega
            clear hlen
            have HX : Hid (∀ x : Int, Sd w1.heap.size w2.heap.size (w.heap.size + 1) w ((qm).setR n (fun z => { z with h := x })) gi gk gr di dk dr p.isr.length p.kn.length p.rs.length us9 (w12.setCell ⟨gr, n * 4 + 3, none⟩ (.int .i64 x))) := fun x => HTX.out.setH n hn x
            have HX2 : Hid (∀ x : Int, Below w1.heap.size w1 (w12.setCell ⟨gr, n * 4 + 3, none⟩ (.int .i64 x))) := fun x => HBX.out.setCell (p := ⟨gr, n * 4 + 3, none⟩) HTX.out.o.2.br _
            obtain ⟨-, i1, i2, i3, i4, i9⟩ := HTX.out.cells n hn
            obtain ⟨i6, i8⟩ := HTX.out.kn n hnk
            obtain ⟨i5, i7⟩ := HTX.out.isr n hni
            obtain ⟨k1, k2, k3, k4, k5, k6, -, -, -⟩ := HTX.out.apart
            have k7 : ¬ gi = w2.heap.size := fun h => k1 h.symm
            have k8 : ¬ gk = w2.heap.size := fun h => k2 h.symm
            have k9 : ¬ gr = w2.heap.size := fun h => k3 h.symm
            have t1 : gi ≠ gk := HTX.out.o.2.ik
            have t2 : gi ≠ gr := HTX.out.o.2.ir
            have t3 : gk ≠ gr := HTX.out.o.2.kr
            have x1 := HTX.out.o.2.si
            have x2 := HTX.out.o.2.sk
            have x3 := HTX.out.o.2.sr
            have kb : w2.heap.size ≠ w.heap.size + 1 := HTX.out.bz
            obtain ⟨o1, ⟨o0, o2, o3, o4, o5, o6, o7⟩, o8⟩ := HTX.out.p
            obtain ⟨z1, ⟨e0, e1, e2, e3, e4, e5, e6⟩, g1⟩ := HTX.out.r
            obtain ⟨s1, ⟨b0, b1, b2, b3, b4, b5, b6⟩, f1⟩ := PB.below HP1.out HP1.out.1 HBX.out
            obtain ⟨-, j1, j2, j3, j4, -⟩ := HTX.out.cells p.ld.toNat hd
            rw [HFB.out] at j4
            rw [HFI.out.1] at o0
            rw [HFI.out.2.1] at o2
            rw [HFI.out.2.2.1] at o6
            rw [HFI.out.2.2.2] at o7
            obtain ⟨qq1, qq2, qq3⟩ := HQC.out _ HBX.out
            rw [HHA.out] at qq3
            try go_at_K
            go_wp2
            all_goals
              exact bodyPost_ret (v := .tuple #[.agg #[.int .i64 p.ep, .int .i64 p.ld, (.slice (some ⟨gi, 0, none⟩) p.isr.length di), (.slice (some ⟨gk, 0, none⟩) p.kn.length dk), (.slice (some ⟨gr, 0, none⟩) p.rs.length dr), .int .i64 p.fw, .int .i64 p.bs], .int .i64 0, .int .i64 0]) (by simp [results, Try.results36, go_sem, e0, e1, e2, e3, e4, e5, e6]) rfl (by (first | rw [HEX.out hA (by omega)] | rw [HEX.out hB (by omega)] | rw [HEX.out ((stay : Int) + 0) (by omega)] | rw [HEX.out (stay : Int) (by omega)]); obtain ⟨a0, a1, a2, a3⟩ := HFI.out; rw [← a0, ← a1, ← a2, ← a3]; exact Sd.done (q := (qm).setR n (fun z => { z with h := _ })) (HX.out _) rfl)
          have d7 : decide ((stay : Int) < ((p.at p.ld.toNat).es.length : Int)) = true := by simp; omega
          obtain ⟨x, hx⟩ : ∃ x, Ent.at (p.at p.ld.toNat).es stay = x := ⟨_, rfl⟩
          have HXE : Hid (Ent.at ((p.at p.ld.toNat).es.drop stay) 0 = x) := show _ = _ by rw [at_drop, hx]
          have hlb1 : lb < w12.heap.size := HKP12.out.b.1
          have HRL : Hid (∀ W, Below w12.heap.size w12 W → Rd W (.slice av L.length cv) L) := fun W hW => Rd.below HKP12.out.r (Nat.le_refl _) hW
          obtain ⟨ao, cap, ex, -, -, -, h3⟩ := HKP12.out.x
          simp only [Value.slice.injEq] at ex
          obtain ⟨rfl, -, rfl⟩ := ex
          obtain ⟨g5, of5, rfl, hg5⟩ := h3 (by omega)
          obtain ⟨x0, x1, x2, x3, x4, x5, x6⟩ := RdX.cells hg5 stay hlen
          rw [hx] at x0 x1 x2 x3 x4 x5 x6
          have hg5l : g5 < w12.heap.size := cell_lt x0
          obtain ⟨-, v0, v1, v2⟩ := HKP12.out.b
          have hlen' : (stay : Int) < (p.at p.ld.toNat).es.length := by omega
          clear hg5 h3 hx
          go_upto_region 20 with fail
          by_cases hap : apf L Y x = 0
          rotate_left
          · have HAP : Hid (apf L Y x ≠ 0) := show _ ≠ _ from hap
            obtain ⟨ev, hev⟩ : ∃ ev, apf L Y x = ev := ⟨_, rfl⟩
            have HEV : Hid (apf L Y x = ev) := hev
            have d8 : (ev == 0) = false := by rw [← hev]; simp [hap]
            have HC0 : Hid (came = 0 ∧ NL = L) := by
              have := came_bad (L := L) (Y := Y) (es := (p.at p.ld.toNat).es.drop stay) (by rw [HXE.out]; exact hap)
              rw [HCA.out, HNL.out] at this
              exact this
            clear hap hev
            go_cut [16] (fun v W => v = .int .i64 ev ∧ Below w12.heap.size w12 W)
            case first =>
              go_region_held3 (fun W => W.cell? ⟨lb, 0, none⟩ = some (.slice av L.length cv) ∧ W.cell? ⟨lb, 1, none⟩ = some (.int .i64 Y) ∧ W.cell? ⟨g5, of5 + stay * 7, none⟩ = some (.int .i64 x.a) ∧ W.cell? ⟨g5, of5 + stay * 7 + 1, none⟩ = some (.int .i64 x.b) ∧ W.cell? ⟨g5, of5 + stay * 7 + 2, none⟩ = some (.int .i64 x.c) ∧ W.cell? ⟨g5, of5 + stay * 7 + 3, none⟩ = some (.int .i64 x.d) ∧ W.cell? ⟨g5, of5 + stay * 7 + 4, none⟩ = some (.int .i64 x.k) ∧ W.cell? ⟨g5, of5 + stay * 7 + 5, none⟩ = some (.bool x.t) ∧ W.cell? ⟨g5, of5 + stay * 7 + 6, none⟩ = some (.string x.s)) (first | exact ⟨by assumption, by assumption, by assumption, by assumption, by assumption, by assumption, by assumption, by assumption, by assumption⟩ | (refine ⟨?_, ?_, ?_, ?_, ?_, ?_, ?_, ?_, ?_⟩ <;> (rw [cell_far (by omega), cell_far (by omega)]; assumption)) | go_keep) (first | (go_at_call 81; refine (appOf_bad L _ Y x _ HLL3.out (HRL.out _ (by repeat (first | exact Below.refl _ _ | refine Below.drew ?_ | refine Below.alloc ?_ (by simp) _))) HAP.out).mono ?_; rintro e w13 ⟨rfl, hb13⟩; have hB13 : Below w12.heap.size w12 w13 := Below.trans (by repeat (first | exact Below.refl _ _ | refine Below.drew ?_ | refine Below.alloc ?_ (by simp) _)) (hb13.mono (by simp)); obtain ⟨-, c0, c1, -⟩ := LBox.below HKP12.out.b hB13; have y0 := (hB13.cell (p := ⟨g5, of5 + stay * 7, none⟩) hg5l).trans x0; have y1 := (hB13.cell (p := ⟨g5, of5 + stay * 7 + 1, none⟩) hg5l).trans x1; have y2 := (hB13.cell (p := ⟨g5, of5 + stay * 7 + 2, none⟩) hg5l).trans x2; have y3 := (hB13.cell (p := ⟨g5, of5 + stay * 7 + 3, none⟩) hg5l).trans x3; have y4 := (hB13.cell (p := ⟨g5, of5 + stay * 7 + 4, none⟩) hg5l).trans x4; have y5 := (hB13.cell (p := ⟨g5, of5 + stay * 7 + 5, none⟩) hg5l).trans x5; have y6 := (hB13.cell (p := ⟨g5, of5 + stay * 7 + 6, none⟩) hg5l).trans x6; rw [HEV.out]; obtain ⟨hcc, hff⟩ := bcell hb13; have p0 := hcc w12.heap.size 0; have p1 := hcc w12.heap.size 1; have p2 := hff w12.heap.size; (try simp at p0); (try simp at p1); (try simp at p2); clear hcc hff))
              all_goals
                have HXB : Hid (Below w12.heap.size w12 w13) := hB13
                clear c0 c1 y0 y1 y2 y3 y4 y5 y6 hB13 hb13
                go_wp2_with fail
                go_meet
              all_goals
                exact ⟨rfl, by first | exact HXB.out.alloc HXB.out.size _ | exact (HXB.out.setCell (p := ⟨w12.heap.size, 0, none⟩) (Nat.le_refl _) _).setCell (p := ⟨w12.heap.size, 1, none⟩) (Nat.le_refl _) _⟩
            case rest =>
              have hv := hcut.1
              subst hv
              have HTX : Hid (Sd w1.heap.size w2.heap.size (w.heap.size + 1) w (qm) gi gk gr di dk dr p.isr.length p.kn.length p.rs.length us9 wc) := HT12.out.below hcut.2
              have HBX : Hid (Below w1.heap.size w1 wc) := bstep HBW12.out hcut.2
              have HFB : Hid ((qm.at p.ld.toNat).h = hB) := HHB.out
              have HEX : Hid (∀ x : Int, min (max hA hB) ((stay : Int) + 0) = x → p.fetchP n = (qm.setR n (fun z => { z with h := x }), 0, 0)) := fun x hx => by
                have := HEH.out x (by rw [HC0.out.1]; exact hx)
                rw [HC0.out.2, same_LY hnm HMA.out.1 HMA.out.2, HC0.out.1] at this
                exact this
              clear x0 x1 x2 x3 x4 x5 x6 v0 v1 v2 hcut
              have HX : Hid (∀ x : Int, Sd w1.heap.size w2.heap.size (w.heap.size + 1) w ((qm).setR n (fun z => { z with h := x })) gi gk gr di dk dr p.isr.length p.kn.length p.rs.length us9 (wc.setCell ⟨gr, n * 4 + 3, none⟩ (.int .i64 x))) := fun x => HTX.out.setH n hn x
              have HX2 : Hid (∀ x : Int, Below w1.heap.size w1 (wc.setCell ⟨gr, n * 4 + 3, none⟩ (.int .i64 x))) := fun x => HBX.out.setCell (p := ⟨gr, n * 4 + 3, none⟩) HTX.out.o.2.br _
              obtain ⟨-, i1, i2, i3, i4, i9⟩ := HTX.out.cells n hn
              obtain ⟨i6, i8⟩ := HTX.out.kn n hnk
              obtain ⟨i5, i7⟩ := HTX.out.isr n hni
              obtain ⟨k1, k2, k3, k4, k5, k6, -, -, -⟩ := HTX.out.apart
              have k7 : ¬ gi = w2.heap.size := fun h => k1 h.symm
              have k8 : ¬ gk = w2.heap.size := fun h => k2 h.symm
              have k9 : ¬ gr = w2.heap.size := fun h => k3 h.symm
              have t1 : gi ≠ gk := HTX.out.o.2.ik
              have t2 : gi ≠ gr := HTX.out.o.2.ir
              have t3 : gk ≠ gr := HTX.out.o.2.kr
              have x1 := HTX.out.o.2.si
              have x2 := HTX.out.o.2.sk
              have x3 := HTX.out.o.2.sr
              have kb : w2.heap.size ≠ w.heap.size + 1 := HTX.out.bz
              obtain ⟨o1, ⟨o0, o2, o3, o4, o5, o6, o7⟩, o8⟩ := HTX.out.p
              obtain ⟨z1, ⟨e0, e1, e2, e3, e4, e5, e6⟩, g1⟩ := HTX.out.r
              obtain ⟨s1, ⟨b0, b1, b2, b3, b4, b5, b6⟩, f1⟩ := PB.below HP1.out HP1.out.1 HBX.out
              obtain ⟨-, j1, j2, j3, j4, -⟩ := HTX.out.cells p.ld.toNat hd
              rw [HFB.out] at j4
              rw [HFI.out.1] at o0
              rw [HFI.out.2.1] at o2
              rw [HFI.out.2.2.1] at o6
              rw [HFI.out.2.2.2] at o7
              obtain ⟨qq1, qq2, qq3⟩ := HQC.out _ HBX.out
              rw [HHA.out] at qq3
              try go_at_K
              go_wp2
              all_goals
                exact bodyPost_ret (v := .tuple #[.agg #[.int .i64 p.ep, .int .i64 p.ld, (.slice (some ⟨gi, 0, none⟩) p.isr.length di), (.slice (some ⟨gk, 0, none⟩) p.kn.length dk), (.slice (some ⟨gr, 0, none⟩) p.rs.length dr), .int .i64 p.fw, .int .i64 p.bs], .int .i64 0, .int .i64 0]) (by simp [results, Try.results36, go_sem, e0, e1, e2, e3, e4, e5, e6]) rfl (by (first | rw [HEX.out hA (by omega)] | rw [HEX.out hB (by omega)] | rw [HEX.out ((stay : Int) + 0) (by omega)] | rw [HEX.out (stay : Int) (by omega)]); obtain ⟨a0, a1, a2, a3⟩ := HFI.out; rw [← a0, ← a1, ← a2, ← a3]; exact Sd.done (q := (qm).setR n (fun z => { z with h := _ })) (HX.out _) rfl)
          · have HAP : Hid (apf L Y x = 0) := show _ = _ from hap
            have HC1 : Hid (came = 1 ∧ L ++ x.enc = NL) := by
              have := came_ok (L := L) (Y := Y) (es := (p.at p.ld.toNat).es.drop stay) (by rw [List.length_drop]; omega) (by rw [HXE.out]; exact hap)
              rw [HCA.out, HNL.out, HXE.out] at this
              exact ⟨this.1, this.2.symm⟩
            clear hap
            go_cut [16, 15] (fun v16 v15 W => v16 = .int .i64 0 ∧ ∃ lc av3 cv3, v15 = .pointer (some ⟨lc, 0, none⟩) ∧ LBox W lc (.slice av3 NL.length cv3) Y ∧ Own w12.heap.size (.slice av3 NL.length cv3) NL W ∧ Below w12.heap.size w12 W ∧ w12.heap.size ≤ lc)
            case first =>
              go_region_held3 (fun W => W.cell? ⟨lb, 0, none⟩ = some (.slice av L.length cv) ∧ W.cell? ⟨lb, 1, none⟩ = some (.int .i64 Y) ∧ W.cell? ⟨g5, of5 + stay * 7, none⟩ = some (.int .i64 x.a) ∧ W.cell? ⟨g5, of5 + stay * 7 + 1, none⟩ = some (.int .i64 x.b) ∧ W.cell? ⟨g5, of5 + stay * 7 + 2, none⟩ = some (.int .i64 x.c) ∧ W.cell? ⟨g5, of5 + stay * 7 + 3, none⟩ = some (.int .i64 x.d) ∧ W.cell? ⟨g5, of5 + stay * 7 + 4, none⟩ = some (.int .i64 x.k) ∧ W.cell? ⟨g5, of5 + stay * 7 + 5, none⟩ = some (.bool x.t) ∧ W.cell? ⟨g5, of5 + stay * 7 + 6, none⟩ = some (.string x.s)) (first | exact ⟨by assumption, by assumption, by assumption, by assumption, by assumption, by assumption, by assumption, by assumption, by assumption⟩ | (refine ⟨?_, ?_, ?_, ?_, ?_, ?_, ?_, ?_, ?_⟩ <;> (rw [cell_far (by omega), cell_far (by omega)]; assumption)) | go_keep) (first | (go_at_call 81; refine (appOf_ok L _ Y x _ HLL3.out (HRL.out _ (by repeat (first | exact Below.refl _ _ | refine Below.drew ?_ | refine Below.alloc ?_ (by simp) _))) HAP.out NL HC1.out.2).mono ?_; rintro e w13 ⟨av3, cv3, rfl, hov, hb13⟩; have hB13 : Below w12.heap.size w12 w13 := Below.trans (by repeat (first | exact Below.refl _ _ | refine Below.drew ?_ | refine Below.alloc ?_ (by simp) _)) (hb13.mono (by simp)); obtain ⟨-, c0, c1, -⟩ := LBox.below HKP12.out.b hB13; have y0 := (hB13.cell (p := ⟨g5, of5 + stay * 7, none⟩) hg5l).trans x0; have y1 := (hB13.cell (p := ⟨g5, of5 + stay * 7 + 1, none⟩) hg5l).trans x1; have y2 := (hB13.cell (p := ⟨g5, of5 + stay * 7 + 2, none⟩) hg5l).trans x2; have y3 := (hB13.cell (p := ⟨g5, of5 + stay * 7 + 3, none⟩) hg5l).trans x3; have y4 := (hB13.cell (p := ⟨g5, of5 + stay * 7 + 4, none⟩) hg5l).trans x4; have y5 := (hB13.cell (p := ⟨g5, of5 + stay * 7 + 5, none⟩) hg5l).trans x5; have y6 := (hB13.cell (p := ⟨g5, of5 + stay * 7 + 6, none⟩) hg5l).trans x6; obtain ⟨hcc, hff⟩ := bcell hb13; have p0 := hcc w12.heap.size 0; have p1 := hcc w12.heap.size 1; have p2 := hff w12.heap.size; (try simp at p0); (try simp at p1); (try simp at p2); clear hcc hff))
              all_goals
                have HXB : Hid (Below w12.heap.size w12 w13) := hB13
                have HOV : Hid _ := hov
                have hsz7 := hB13.size
                have hsz8 := hb13.size
                clear c0 c1 y0 y1 y2 y3 y4 y5 y6 hB13 hb13 hov
                go_wp2_with fail
                go_meet
              all_goals
                first
                | exact ⟨rfl, w13.heap.size, av3, cv3, rfl, lbox_new _ _ _ _, Own.alloc (Own.mono HOV.out (C := w12.heap.size) (by simp)) _, HXB.out.alloc HXB.out.size _, hsz7⟩
                | exact ⟨rfl, w12.heap.size, av3, cv3, rfl, ⟨by have h1 : w12.heap.size + 1 ≤ w13.heap.size := (by simpa using hsz8); simp; omega, by simp [go_sem, p0, p1], by simp [go_sem, p0, p1], fun o => by simp [go_sem, p2]⟩, ((Own.setCell HOV.out (b := w12.heap.size) (by simp) 0 _).setCell (b := w12.heap.size) (by simp) 1 _).mono (by simp), (HXB.out.setCell (p := ⟨w12.heap.size, 0, none⟩) (Nat.le_refl _) _).setCell (p := ⟨w12.heap.size, 1, none⟩) (Nat.le_refl _) _, Nat.le_refl _⟩
            case rest =>
              rename World => w14
              have hv := hcut.1
              subst hv
              obtain ⟨lc, av3, cv3, hp15, hlc, hov, hb, hge⟩ := hcut.2
              subst hp15
              have HT14 : Hid (Sd w1.heap.size w2.heap.size (w.heap.size + 1) w (qm) gi gk gr di dk dr p.isr.length p.kn.length p.rs.length us9 w14) := HT12.out.below hb
              have HBW14 : Hid (Below w1.heap.size w1 w14) := bstep HBW12.out hb
              have HTX : Hid (Sd w1.heap.size w2.heap.size (w.heap.size + 1) w ((qm.setR n (fun x => { x with l := NL })).setR n (fun x => { x with y := Y })) gi gk gr di dk dr p.isr.length p.kn.length p.rs.length (fun j => if j = n then (.slice av3 NL.length cv3) else us9 j) ((w14.setCell ⟨gr, n * 4 + 1, none⟩ (.slice av3 NL.length cv3)).setCell ⟨gr, n * 4 + 2, none⟩ (.int .i64 Y))) := (HT14.out.setB n hn (.slice av3 NL.length cv3) NL hov.rd (HT12.out.fresh hov)).setY n hn Y
              have HBX : Hid (Below w1.heap.size w1 ((w14.setCell ⟨gr, n * 4 + 1, none⟩ (.slice av3 NL.length cv3)).setCell ⟨gr, n * 4 + 2, none⟩ (.int .i64 Y))) := (HBW14.out.setCell (p := ⟨gr, n * 4 + 1, none⟩) HT14.out.o.2.br _).setCell (p := ⟨gr, n * 4 + 2, none⟩) HT14.out.o.2.br _
              have n1 := HT12.out.o.2.sr
              have n3 : ¬ lc = gr := by omega
              have n4 : ¬ gr = lc := fun h => n3 h.symm
              clear x0 x1 x2 x3 x4 x5 x6 v0 v1 v2 hcut hov hb hge n1
              obtain ⟨-, i1, i2, i3, i4, i9⟩ := HT14.out.cells n hn
              obtain ⟨i6, i8⟩ := HT14.out.kn n hnk
              obtain ⟨i5, i7⟩ := HT14.out.isr n hni
              obtain ⟨k1, k2, k3, k4, k5, k6, -, -, -⟩ := HT14.out.apart
              have k7 : ¬ gi = w2.heap.size := fun h => k1 h.symm
              have k8 : ¬ gk = w2.heap.size := fun h => k2 h.symm
              have k9 : ¬ gr = w2.heap.size := fun h => k3 h.symm
              have t1 : gi ≠ gk := HT14.out.o.2.ik
              have t2 : gi ≠ gr := HT14.out.o.2.ir
              have t3 : gk ≠ gr := HT14.out.o.2.kr
              have x1 := HT14.out.o.2.si
              have x2 := HT14.out.o.2.sk
              have x3 := HT14.out.o.2.sr
              have kb : w2.heap.size ≠ w.heap.size + 1 := HT14.out.bz
              obtain ⟨o1, ⟨o0, o2, o3, o4, o5, o6, o7⟩, o8⟩ := HT14.out.p
              obtain ⟨z1, ⟨e0, e1, e2, e3, e4, e5, e6⟩, g1⟩ := HT14.out.r
              obtain ⟨-, v0, v1, v2⟩ := hlc
              go_at_K
              go_upto_region 24 with fail
              clear i1 i2 i3 i4 i5 i6 i7 i8 i9 k1 k2 k3 k4 k5 k6 k7 k8 k9 t1 t2 t3 x1 x2 x3 kb o0 o1 o2 o3 o4 o5 o6 o7 o8 z1 e0 e1 e2 e3 e4 e5 e6 g1
              clear v0 v1 v2 n3 n4 HT14 HBW14
              generalize (w14.setCell ⟨gr, n * 4 + 1, none⟩ (.slice av3 NL.length cv3)).setCell ⟨gr, n * 4 + 2, none⟩ (.int .i64 Y) = w15 at *
              obtain ⟨usx, husx⟩ : ∃ usx, (fun j => if j = n then (.slice av3 NL.length cv3) else us9 j) = usx := ⟨_, rfl⟩
              rw [husx] at HTX
              obtain ⟨qf, hqf⟩ : ∃ qf, (qm.setR n (fun x => { x with l := NL })).setR n (fun x => { x with y := Y }) = qf := ⟨_, rfl⟩
              rw [hqf] at HTX
              have HFB : Hid ((qf.at p.ld.toNat).h = hB) := show _ = _ by rw [← hqf, setR_setR, setR_other _ _ _ _ (fun e => hrd e.symm)]; exact HHB.out
              have HFI : Hid (qf.ep = p.ep ∧ qf.ld = p.ld ∧ qf.fw = p.fw ∧ qf.bs = p.bs) := show _ ∧ _ ∧ _ ∧ _ by rw [← hqf]; exact HFI.out
              have HEX : Hid (∀ x : Int, min (max hA hB) ((stay : Int) + 1) = x → p.fetchP n = (qf.setR n (fun z => { z with h := x }), 1, 0)) := fun x hx => by
                have := HEH.out x (by rw [HC1.out.1]; exact hx)
                rw [hqf, HC1.out.1] at this
                exact this
              clear hqf husx
              have HX : Hid (∀ x : Int, Sd w1.heap.size w2.heap.size (w.heap.size + 1) w ((qf).setR n (fun z => { z with h := x })) gi gk gr di dk dr p.isr.length p.kn.length p.rs.length usx (w15.setCell ⟨gr, n * 4 + 3, none⟩ (.int .i64 x))) := fun x => HTX.out.setH n hn x
              have HX2 : Hid (∀ x : Int, Below w1.heap.size w1 (w15.setCell ⟨gr, n * 4 + 3, none⟩ (.int .i64 x))) := fun x => HBX.out.setCell (p := ⟨gr, n * 4 + 3, none⟩) HTX.out.o.2.br _
              obtain ⟨-, i1, i2, i3, i4, i9⟩ := HTX.out.cells n hn
              obtain ⟨i6, i8⟩ := HTX.out.kn n hnk
              obtain ⟨i5, i7⟩ := HTX.out.isr n hni
              obtain ⟨k1, k2, k3, k4, k5, k6, -, -, -⟩ := HTX.out.apart
              have k7 : ¬ gi = w2.heap.size := fun h => k1 h.symm
              have k8 : ¬ gk = w2.heap.size := fun h => k2 h.symm
              have k9 : ¬ gr = w2.heap.size := fun h => k3 h.symm
              have t1 : gi ≠ gk := HTX.out.o.2.ik
              have t2 : gi ≠ gr := HTX.out.o.2.ir
              have t3 : gk ≠ gr := HTX.out.o.2.kr
              have x1 := HTX.out.o.2.si
              have x2 := HTX.out.o.2.sk
              have x3 := HTX.out.o.2.sr
              have kb : w2.heap.size ≠ w.heap.size + 1 := HTX.out.bz
              obtain ⟨o1, ⟨o0, o2, o3, o4, o5, o6, o7⟩, o8⟩ := HTX.out.p
              obtain ⟨z1, ⟨e0, e1, e2, e3, e4, e5, e6⟩, g1⟩ := HTX.out.r
              obtain ⟨s1, ⟨b0, b1, b2, b3, b4, b5, b6⟩, f1⟩ := PB.below HP1.out HP1.out.1 HBX.out
              obtain ⟨-, j1, j2, j3, j4, -⟩ := HTX.out.cells p.ld.toNat hd
              rw [HFB.out] at j4
              rw [HFI.out.1] at o0
              rw [HFI.out.2.1] at o2
              rw [HFI.out.2.2.1] at o6
              rw [HFI.out.2.2.2] at o7
              obtain ⟨qq1, qq2, qq3⟩ := HQC.out _ HBX.out
              rw [HHA.out] at qq3
              try go_at_K
              go_wp2
              all_goals
                exact bodyPost_ret (v := .tuple #[.agg #[.int .i64 p.ep, .int .i64 p.ld, (.slice (some ⟨gi, 0, none⟩) p.isr.length di), (.slice (some ⟨gk, 0, none⟩) p.kn.length dk), (.slice (some ⟨gr, 0, none⟩) p.rs.length dr), .int .i64 p.fw, .int .i64 p.bs], .int .i64 1, .int .i64 0]) (by simp [results, Try.results36, go_sem, e0, e1, e2, e3, e4, e5, e6]) rfl (by (first | rw [HEX.out hA (by omega)] | rw [HEX.out hB (by omega)] | rw [HEX.out ((stay : Int) + 1) (by omega)] | rw [HEX.out (stay : Int) (by omega)]); obtain ⟨a0, a1, a2, a3⟩ := HFI.out; rw [← a0, ← a1, ← a2, ← a3]; exact Sd.done (q := (qf).setR n (fun z => { z with h := _ })) (HX.out _) rfl)

end Go.Proofs.Ytkolelpdedmkeaa
