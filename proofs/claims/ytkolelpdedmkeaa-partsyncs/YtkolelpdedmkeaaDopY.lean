/-
  The walk of the document's SyncOf.
-/
import Derived.Test.YtkolelpdedmkeaaAsd
import Derived.Test.YtkolelpdedmkeaaPrefC
import Derived.Test.YtkolelpdedmkeaaPrefR
import Derived.Test.YtkolelpdedmkeaaPothers
import Derived.Test.YtkolelpdedmkeaaPopY
import Derived.Deep.RegionWith
import Derived.Deep.DeepCutAuto
namespace Go.Proofs.Ytkolelpdedmkeaa
open Go.RowKit
set_option linter.unusedVariables false
set_option linter.unusedSimpArgs false

set_option maxRecDepth 100000 in
set_option maxHeartbeats 4000000 in
theorem syncOf_any (p : Prt) (r : Int) (vi vk vr : Value) (us : Nat → Value) (w : World) (h : RdP w p vi vk vr us) (hs : p.small) :
    Calls Try.prog 34 #[.agg #[.int .i64 p.ep, .int .i64 p.ld, vi, vk, vr, .int .i64 p.fw, .int .i64 p.bs], .int .i64 r] w fun e w' => Res w (p.syncP r).1 [.int .i64 (p.syncP r).2] e w' := by
  have HRW : Hid (RdP w p vi vk vr us) := h
  have HS : Hid p.small := hs
  obtain ⟨ai, ci, ak, ck, ar, cr, rfl, rfl, rfl, l1, l2, l3⟩ := h.lens
  clear h hs
  go_enter Try.func34, Try.ntmps34
  go_wp2_with fail
  have B0 : Below w.heap.size w ((w.alloc (.cells #[.int .i64 p.ep, .int .i64 p.ld, .slice ai p.isr.length ci, .slice ak p.kn.length ck, .slice ar p.rs.length cr, .int .i64 p.fw, .int .i64 p.bs] 26)).alloc (.cells #[.int .i64 0, .int .i64 0, .slice none 0 0, .slice none 0 0, .slice none 0 0, .int .i64 0, .int .i64 0] 26)) := bstep (bbox _ _) (bbox _ _)
  have P0 : PB ((w.alloc (.cells #[.int .i64 p.ep, .int .i64 p.ld, .slice ai p.isr.length ci, .slice ak p.kn.length ck, .slice ar p.rs.length cr, .int .i64 p.fw, .int .i64 p.bs] 26)).alloc (.cells #[.int .i64 0, .int .i64 0, .slice none 0 0, .slice none 0 0, .slice none 0 0, .int .i64 0, .int .i64 0] 26)) w.heap.size p _ _ _ := (pb_new w p (.slice ai p.isr.length ci) (.slice ak p.kn.length ck) (.slice ar p.rs.length cr) 26 w.heap.size rfl).below (C := w.heap.size + 1) (by omega) ((Below.refl _ _).alloc (by simp) (.cells #[.int .i64 0, .int .i64 0, .slice none 0 0, .slice none 0 0, .slice none 0 0, .int .i64 0, .int .i64 0] 26))
  have Z0 : PB ((w.alloc (.cells #[.int .i64 p.ep, .int .i64 p.ld, .slice ai p.isr.length ci, .slice ak p.kn.length ck, .slice ar p.rs.length cr, .int .i64 p.fw, .int .i64 p.bs] 26)).alloc (.cells #[.int .i64 0, .int .i64 0, .slice none 0 0, .slice none 0 0, .slice none 0 0, .int .i64 0, .int .i64 0] 26)) (w.heap.size + 1) Prt.zero nilV nilV nilV := pb_new _ Prt.zero nilV nilV nilV 26 (w.heap.size + 1) (by simp)
  generalize (w.alloc (.cells #[.int .i64 p.ep, .int .i64 p.ld, .slice ai p.isr.length ci, .slice ak p.kn.length ck, .slice ar p.rs.length cr, .int .i64 p.fw, .int .i64 p.bs] 26)).alloc (.cells #[.int .i64 0, .int .i64 0, .slice none 0 0, .slice none 0 0, .slice none 0 0, .int .i64 0, .int .i64 0] 26) = W0 at *
  refine (partFault_any p r _ _ _ us _ (RdP.below HRW.out (Nat.le_refl _) B0) HS.out).mono ?_
  rintro e w1 ⟨rfl, hb⟩
  have HB1 : Hid (Below w.heap.size w w1) := B0.trans (hb.mono B0.size)
  have HP1 : Hid (PB w1 w.heap.size p (.slice ai p.isr.length ci) (.slice ak p.kn.length ck) (.slice ar p.rs.length cr)) := P0.below P0.1 hb
  have HZ1 : Hid (PB w1 (w.heap.size + 1) Prt.zero nilV nilV nilV) := Z0.below Z0.1 hb
  have HR1 : Hid (RdP w1 p (.slice ai p.isr.length ci) (.slice ak p.kn.length ck) (.slice ar p.rs.length cr) us) := RdP.below HRW.out (Nat.le_refl _) HB1.out
  clear hb B0 P0 Z0
  obtain ⟨s1, ⟨b0, b1, b2, b3, b4, b5, b6⟩, f1⟩ := HP1.out
  obtain ⟨z1, ⟨e0, e1, e2, e3, e4, e5, e6⟩, g1⟩ := HZ1.out
  by_cases c0 : p.flt r = 0
  rotate_left
  · have d0 : (p.flt r != 0) = true := by simp [c0]
    have d1 : (p.flt r == 0) = false := by simp [c0]
    have HE : Hid (p.syncP r = (Prt.zero, p.flt r)) := show _ = _ by unfold Prt.syncP; rw [if_pos c0]
    clear c0
    go_wp2
    exact bodyPost_ret (v := .tuple #[.agg #[.int .i64 0, .int .i64 0, nilV, nilV, nilV, .int .i64 0, .int .i64 0], .int .i64 (p.flt r)]) (by simp [results, Try.results34, go_sem, e0, e1, e2, e3, e4, e5, e6]) rfl (by rw [HE.out]; exact res_zero rfl HB1.out (by omega))
  obtain ⟨m, r0, r1⟩ := flt_zero c0
  rw [c0]
  have H0 : Hid (p.flt r = 0) := c0
  clear c0
  obtain ⟨n, rfl⟩ := Int.eq_ofNat_of_zero_le r0
  have hn : n < p.rs.length := by omega
  have HM : Hid (May p) := m
  have hni : n < p.isr.length := by rw [m.li]; exact hn
  have hnk : n < p.kn.length := by rw [m.lk]; exact hn
  have hn' : (n : Int) < p.rs.length := by omega
  have hni' : (n : Int) < p.isr.length := by omega
  have hnk' : (n : Int) < p.kn.length := by omega
  obtain ⟨g, off, rfl, -, q0, q1, q2, q3, q4⟩ := HR1.out.2.2.cells n hn
  obtain ⟨hgi, hoi, rfl, m0⟩ := RdP.isrAt HR1.out.1 n hni
  obtain ⟨hgk, hok, rfl, m1⟩ := RdP.knAt HR1.out.2.1 n hnk
  clear q0 q2 m r0 r1
  have HY : Hid (p.setR n (fun r => { r with y := (p.at n).l.length }) = p.setR n (fun x => { x with y := x.l.length })) := show _ = _ from setR_congr hn rfl
  have HE0 : Hid (p.syncP n = if (p.at n).up = false then (Prt.zero, 7) else if (n : Int) = p.ld then (({ p.setR n (fun r => { r with y := (p.at n).l.length }) with kn := p.kn.set n (p.at n).es.length } : Prt).raised, 0) else (p.setR n (fun r => { r with y := (p.at n).l.length }), 0)) := show _ = _ by unfold Prt.syncP; rw [if_neg (by simp [H0.out]), Int.toNat_natCast, HY.out]
  have HLN : Hid ((p.at n).l.length ≤ 1099511627775) := show _ ≤ _ by have := may_len HM.out hn; omega
  generalize hbu : (p.at n).up = bu at *
  clear hbu
  cases bu with
  | false =>
    have HE : Hid (p.syncP n = (Prt.zero, 7)) := show _ = _ by rw [HE0.out]; simp
    go_wp2
    exact bodyPost_ret (v := .tuple #[.agg #[.int .i64 0, .int .i64 0, nilV, nilV, nilV, .int .i64 0, .int .i64 0], .int .i64 7]) (by simp [results, Try.results34, go_sem, e0, e1, e2, e3, e4, e5, e6]) rfl (by rw [HE.out]; exact res_zero rfl HB1.out (by omega))
  | true =>
    go_wp2_with fail
    refine (partCopy_any p _ _ _ us _ HR1.out (may_fits HM.out)).mono ?_
    rintro e w2 ⟨xi, xk, xr, us', rfl, hfr, hb⟩
    obtain ⟨gi, gk, gr, di, dk, dr, rfl, rfl, rfl, hsn⟩ := sn_start HB1.out HZ1.out (by omega) hfr hb (by omega) (by omega) (by omega)
    have HT2 : Hid (Sn w1.heap.size (w.heap.size + 1) w (p) gi gk gr di dk dr p.isr.length p.kn.length p.rs.length us' w2) := hsn
    have HP2 : Hid (PB w2 w.heap.size p _ _ _) := PB.below HP1.out HP1.out.1 hb
    have HR2 : Hid (RdP w2 p (.slice (some ⟨hgi, hoi, none⟩) p.isr.length ci) (.slice (some ⟨hgk, hok, none⟩) p.kn.length ck) (.slice (some ⟨g, off, none⟩) p.rs.length cr) us) := RdP.below HR1.out (Nat.le_refl _) hb
    have HBW2 : Hid (Below w1.heap.size w1 w2) := hb
    clear s1 b0 b1 b2 b3 b4 b5 b6 f1 z1 e0 e1 e2 e3 e4 e5 e6 g1 q1 q3 q4 m0 m1 hb hfr hsn
    have HT3 : Hid (Sd w1.heap.size w2.heap.size (w.heap.size + 1) w (p) gi gk gr di dk dr p.isr.length p.kn.length p.rs.length us' (w2.alloc (.cells #[.int .i64 p.ep, .int .i64 p.ld, (.slice (some ⟨gi, 0, none⟩) p.isr.length di), (.slice (some ⟨gk, 0, none⟩) p.kn.length dk), (.slice (some ⟨gr, 0, none⟩) p.rs.length dr), .int .i64 p.fw, .int .i64 p.bs] 26))) := HT2.out.lay 26
    have HBW3 : Hid (Below w1.heap.size w1 (w2.alloc (.cells #[.int .i64 p.ep, .int .i64 p.ld, (.slice (some ⟨gi, 0, none⟩) p.isr.length di), (.slice (some ⟨gk, 0, none⟩) p.kn.length dk), (.slice (some ⟨gr, 0, none⟩) p.rs.length dr), .int .i64 p.fw, .int .i64 p.bs] 26))) := bstep HBW2.out (bbox _ _)
    go_wp2
    generalize w2.alloc (.cells #[.int .i64 p.ep, .int .i64 p.ld, (.slice (some ⟨gi, 0, none⟩) p.isr.length di), (.slice (some ⟨gk, 0, none⟩) p.kn.length dk), (.slice (some ⟨gr, 0, none⟩) p.rs.length dr), .int .i64 p.fw, .int .i64 p.bs] 26) = W3 at *
    obtain ⟨-, i1, i2, i3, i4, i9⟩ := HT3.out.cells n hn
    obtain ⟨i6, i8⟩ := HT3.out.kn n hnk
    obtain ⟨i5, i7⟩ := HT3.out.isr n hni
    obtain ⟨k1, k2, k3, k4, k5, k6, -, -, -⟩ := HT3.out.apart
    have k7 : ¬ gi = w2.heap.size := fun h => k1 h.symm
    have k8 : ¬ gk = w2.heap.size := fun h => k2 h.symm
    have k9 : ¬ gr = w2.heap.size := fun h => k3 h.symm
    have t1 : gi ≠ gk := HT3.out.o.2.ik
    have t2 : gi ≠ gr := HT3.out.o.2.ir
    have t3 : gk ≠ gr := HT3.out.o.2.kr
    have x1 := HT3.out.o.2.si
    have x2 := HT3.out.o.2.sk
    have x3 := HT3.out.o.2.sr
    have kb : w2.heap.size ≠ w.heap.size + 1 := HT3.out.bz
    obtain ⟨o1, ⟨o0, o2, o3, o4, o5, o6, o7⟩, o8⟩ := HT3.out.p
    obtain ⟨z1, ⟨e0, e1, e2, e3, e4, e5, e6⟩, g1⟩ := HT3.out.r
    obtain ⟨s1, ⟨b0, b1, b2, b3, b4, b5, b6⟩, f1⟩ := PB.below HP1.out HP1.out.1 HBW3.out
    obtain ⟨au, cu, eu⟩ : ∃ au cu, us' n = .slice au (p.at n).l.length cu := by obtain ⟨_, au, cu, e, _⟩ := (HT3.out.cells n hn).1; exact ⟨au, cu, e⟩
    rw [eu] at i2
    clear eu
    go_cut [] (fun W => Sd w1.heap.size w2.heap.size (w.heap.size + 1) w (p.setR n (fun r => { r with y := (p.at n).l.length })) gi gk gr di dk dr p.isr.length p.kn.length p.rs.length us' W ∧ Below w1.heap.size w1 W)
    case first =>
      have HX : Hid _ := HT3.out.setY n hn (p.at n).l.length
      have HXB : Hid _ := HBW3.out.setCell (p := ⟨gr, n * 4 + 2, none⟩) HT3.out.o.2.br (.int .i64 (p.at n).l.length)
      go_region
      all_goals
        go_wp2_with fail
      all_goals
        go_meet
      all_goals
        exact ⟨Sd.drew HX.out, HXB.out.drew⟩
    case rest =>
      rename World => W4
      have HT4 : Hid (Sd w1.heap.size w2.heap.size (w.heap.size + 1) w (p.setR n (fun r => { r with y := (p.at n).l.length })) gi gk gr di dk dr p.isr.length p.kn.length p.rs.length us' W4) := hcut.1
      have HBW4 : Hid (Below w1.heap.size w1 W4) := hcut.2
      clear hcut HT3 HBW3
      clear i1 i2 i3 i4 i5 i6 i7 i8 i9 k1 k2 k3 k4 k5 k6 k7 k8 k9 t1 t2 t3 x1 x2 x3 kb o0 o1 o2 o3 o4 o5 o6 o7 o8 z1 e0 e1 e2 e3 e4 e5 e6 g1
      clear s1 b0 b1 b2 b3 b4 b5 b6 f1
      obtain ⟨q, hq⟩ : ∃ q, q = p.setR n (fun r => { r with y := (p.at n).l.length }) := ⟨_, rfl⟩
      rw [← hq] at HT4 HE0
      have HQI : Hid (q.ep = p.ep ∧ q.ld = p.ld ∧ q.fw = p.fw ∧ q.bs = p.bs ∧ q.kn = p.kn ∧ (q.at n).l = (p.at n).l) := show _ ∧ _ ∧ _ ∧ _ ∧ _ ∧ _ by rw [hq, setR_at _ _ _ hn]; exact ⟨rfl, rfl, rfl, rfl, rfl, rfl⟩
      clear hq HY
      obtain ⟨be, hbe⟩ : ∃ be, ((n : Int) == p.ld) = be := ⟨_, rfl⟩
      have HBE : Hid (((n : Int) == p.ld) = be) := hbe
      obtain ⟨-, i1, i2, i3, i4, i9⟩ := HT4.out.cells n hn
      obtain ⟨i6, i8⟩ := HT4.out.kn n hnk
      obtain ⟨i5, i7⟩ := HT4.out.isr n hni
      obtain ⟨k1, k2, k3, k4, k5, k6, -, -, -⟩ := HT4.out.apart
      have k7 : ¬ gi = w2.heap.size := fun h => k1 h.symm
      have k8 : ¬ gk = w2.heap.size := fun h => k2 h.symm
      have k9 : ¬ gr = w2.heap.size := fun h => k3 h.symm
      have t1 : gi ≠ gk := HT4.out.o.2.ik
      have t2 : gi ≠ gr := HT4.out.o.2.ir
      have t3 : gk ≠ gr := HT4.out.o.2.kr
      have x1 := HT4.out.o.2.si
      have x2 := HT4.out.o.2.sk
      have x3 := HT4.out.o.2.sr
      have kb : w2.heap.size ≠ w.heap.size + 1 := HT4.out.bz
      obtain ⟨o1, ⟨o0, o2, o3, o4, o5, o6, o7⟩, o8⟩ := HT4.out.p
      obtain ⟨z1, ⟨e0, e1, e2, e3, e4, e5, e6⟩, g1⟩ := HT4.out.r
      obtain ⟨s1, ⟨b0, b1, b2, b3, b4, b5, b6⟩, f1⟩ := PB.below HP1.out HP1.out.1 HBW4.out
      go_wp2
      · have hbt : be = true := by assumption
        have HN : Hid (p.ld = n) := show _ = _ by have := HBE.out; rw [hbt] at this; simp at this; exact this.symm
        clear hbt hbe HBE
        have HRP : Hid (∀ W, Below W4.heap.size W4 W → RdP W p (.slice (some ⟨hgi, hoi, none⟩) p.isr.length ci) (.slice (some ⟨hgk, hok, none⟩) p.kn.length ck) (.slice (some ⟨g, off, none⟩) p.rs.length cr) us) := fun W hW => RdP.below HR1.out (Nat.le_refl _) (bstep HBW4.out hW)
        have HE : Hid (p.syncP n = (({ q with kn := q.kn.set n (p.at n).es.length } : Prt).raised, 0)) := show _ = _ by rw [HE0.out, if_neg (by simp), if_pos HN.out.symm, HQI.out.2.2.2.2.1]
        go_cut [] (fun W => Sd w1.heap.size w2.heap.size (w.heap.size + 1) w ({ q with kn := q.kn.set n (p.at n).es.length }) gi gk gr di dk dr p.isr.length p.kn.length p.rs.length us' W ∧ Below w1.heap.size w1 W)
        case first =>
          go_region_with (go_at_call 68; refine (logOf_any p _ _ _ us n _ (HRP.out _ (by repeat (first | exact Below.refl _ _ | refine Below.drew ?_))) HLN.out hn l3).mono ?_; rintro e w6 ⟨v6, rfl, ho6, hb6⟩; have hB6 : Below W4.heap.size W4 w6 := bstep (by repeat (first | exact Below.refl _ _ | refine Below.drew ?_)) hb6; obtain ⟨m1, m2⟩ := bcell hB6; obtain ⟨av6, cv6, rfl⟩ := ho6.shape)
          all_goals
            have HX : Hid _ := (HT4.out.below hB6).setKn n hnk (p.at n).es.length
            have HXB : Hid _ := (bstep HBW4.out hB6).setCell (p := ⟨gk, n, none⟩) HT4.out.o.2.bk (.int .i64 (p.at n).es.length)
            clear m1 m2 hB6 hb6 ho6
            go_wp2_with fail
            go_meet
          all_goals
            exact ⟨HX.out, HXB.out⟩
        case rest =>
          have HT6 : Hid (Sd w1.heap.size w2.heap.size (w.heap.size + 1) w ({ q with kn := q.kn.set n (p.at n).es.length }) gi gk gr di dk dr p.isr.length p.kn.length p.rs.length us' wc) := hcut.1
          clear hcut HT4 HRP HBW4
          clear i1 i2 i3 i4 i5 i6 i7 i8 i9 k1 k2 k3 k4 k5 k6 k7 k8 k9 t1 t2 t3 x1 x2 x3 kb o0 o1 o2 o3 o4 o5 o6 o7 o8 z1 e0 e1 e2 e3 e4 e5 e6 g1
          clear s1 b0 b1 b2 b3 b4 b5 b6 f1
          obtain ⟨q6, hq6⟩ : ∃ q6, q6 = ({ q with kn := q.kn.set n (p.at n).es.length } : Prt) := ⟨_, rfl⟩
          rw [← hq6] at HT6 HE
          have HL6 : Hid (0 ≤ q6.ld ∧ q6.ld < p.rs.length) := show _ ∧ _ by rw [hq6]; show 0 ≤ q.ld ∧ q.ld < _; rw [HQI.out.2.1, HN.out]; exact ⟨by omega, hn'⟩
          have HLL : Hid ((q6.at q6.ld.toNat).l.length ≤ 1099511627775) := show _ ≤ _ by
            have e1 : q6.ld.toNat = n := by rw [hq6]; show q.ld.toNat = n; rw [HQI.out.2.1, HN.out, Int.toNat_natCast]
            rw [e1, hq6]
            show (q.at n).l.length ≤ _
            rw [HQI.out.2.2.2.2.2]
            exact HLN.out
          clear hq6
          obtain ⟨o1, ⟨o0, o2, o3, o4, o5, o6, o7⟩, o8⟩ := HT6.out.p
          go_at_K
          go_wp2_with fail
          refine (raisedRef_at (q6) w1.heap.size gi gk gr di dk dr p.isr.length p.kn.length p.rs.length q6.ep q6.ld q6.fw q6.bs _ _ HT6.out.o HL6.out.1 HL6.out.2 HM.out.li HM.out.lk HLL.out (by have := HM.out.n5; omega) HT6.out.hli HT6.out.hlk HT6.out.hlr rfl rfl rfl rfl).mono ?_
          rintro e w5 ⟨rfl, ho5, hg5⟩
          have HT5 : Hid (Sd w1.heap.size w2.heap.size (w.heap.size + 1) w ((q6) : Prt).raised gi gk gr di dk dr p.isr.length p.kn.length p.rs.length us' w5) := Sd.other (by first | exact HT6.out | simpa using HT6.out) hg5 ho5 ((congrArg List.length (raised_len _).1).trans HT6.out.hli) ((congrArg List.length (raised_len _).2.1).trans HT6.out.hlk) ((raised_len _).2.2.1.trans HT6.out.hlr) (raised_len _).2.2.2.1 (raised_len _).2.2.2.2.1 (raised_len _).2.2.2.2.2.1 (raised_len _).2.2.2.2.2.2
          clear hg5 ho5
          obtain ⟨z1, ⟨e0, e1, e2, e3, e4, e5, e6⟩, g1⟩ := HT5.out.r
          have HRL : Hid (q6.raised.ep = q6.ep ∧ q6.raised.ld = q6.ld ∧ q6.raised.fw = q6.fw ∧ q6.raised.bs = q6.bs) := ⟨(raised_len _).2.2.2.1, (raised_len _).2.2.2.2.1, (raised_len _).2.2.2.2.2.1, (raised_len _).2.2.2.2.2.2⟩
          clear o0 o1 o2 o3 o4 o5 o6 o7 o8
          generalize q6.raised = q7 at *
          have HT7 : Hid _ := HT5.out.anew q6 HRL.out.1 HRL.out.2.1 HRL.out.2.2.1 HRL.out.2.2.2
          obtain ⟨o1, ⟨o0, o2, o3, o4, o5, o6, o7⟩, o8⟩ := HT5.out.p
          have kb : w2.heap.size ≠ w.heap.size + 1 := HT5.out.bz
          have kb' : ¬ w.heap.size + 1 = w2.heap.size := fun h => kb h.symm
          go_wp2
          exact bodyPost_ret (v := .tuple #[.agg #[.int .i64 (q6).ep, .int .i64 (q6).ld, (.slice (some ⟨gi, 0, none⟩) p.isr.length di), (.slice (some ⟨gk, 0, none⟩) p.kn.length dk), (.slice (some ⟨gr, 0, none⟩) p.rs.length dr), .int .i64 (q6).fw, .int .i64 (q6).bs], .int .i64 0]) (by simp [results, Try.results34, go_sem, e0, e1, e2, e3, e4, e5, e6, kb, kb']) rfl (by rw [HE.out]; exact res_ok (q := q7) (p := q6) rfl HT7.out.o HT7.out.zB HT7.out.r.2.2 HT7.out.bel HT7.out.wz HT7.out.hli HT7.out.hlk HT7.out.hlr HRL.out.1 HRL.out.2.1 HRL.out.2.2.1 HRL.out.2.2.2)
      · have hbt : be = false := by assumption
        have HE : Hid (p.syncP n = (q, 0)) := show _ = _ by
          rw [HE0.out, if_neg (by simp), if_neg (fun h => by have := HBE.out; rw [hbt, ← h] at this; simp at this)]
        clear hbt hbe HBE
        exact bodyPost_ret (v := .tuple #[.agg #[.int .i64 (q).ep, .int .i64 (q).ld, (.slice (some ⟨gi, 0, none⟩) p.isr.length di), (.slice (some ⟨gk, 0, none⟩) p.kn.length dk), (.slice (some ⟨gr, 0, none⟩) p.rs.length dr), .int .i64 (q).fw, .int .i64 (q).bs], .int .i64 0]) (by simp [results, Try.results34, go_sem, e0, e1, e2, e3, e4, e5, e6]) rfl (by rw [HE.out]; exact Sd.done HT4.out rfl)

end Go.Proofs.Ytkolelpdedmkeaa
