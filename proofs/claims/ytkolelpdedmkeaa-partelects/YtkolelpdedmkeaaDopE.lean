/-
  The walk of the document's ElectedOf.
-/
import Derived.Test.YtkolelpdedmkeaaAsd
import Derived.Test.YtkolelpdedmkeaaPrefC
import Derived.Test.YtkolelpdedmkeaaPrefR
import Derived.Test.YtkolelpdedmkeaaPothers
import Derived.Deep.RegionWith
import Derived.Deep.DeepCutAuto
namespace Go.Proofs.Ytkolelpdedmkeaa
open Go.RowKit
set_option linter.unusedVariables false
set_option linter.unusedSimpArgs false

theorem rep_drop (l : List Int) (k : Nat) (h : k < l.length) : (List.replicate k 0 ++ l.drop k).set k 0 = List.replicate (k + 1) 0 ++ l.drop (k + 1) := by
  apply List.ext_getElem (by simp; omega)
  intro j h1 h2
  rw [List.getElem_set]
  by_cases e : k = j
  · subst e
    rw [if_pos rfl, List.getElem_append_left (by simp)]
    simp
  · rw [if_neg e]
    by_cases e2 : j < k
    · rw [List.getElem_append_left (by simpa using e2), List.getElem_append_left (by simp; omega)]
      simp
    · rw [List.getElem_append_right (by simp; omega), List.getElem_append_right (by simp; omega)]
      simp only [List.length_replicate, List.getElem_drop]
      congr 1
      omega

set_option maxRecDepth 100000 in
set_option maxHeartbeats 4000000 in
theorem electedOf_any (p : Prt) (r : Int) (vi vk vr : Value) (us : Nat → Value) (w : World) (h : RdP w p vi vk vr us) (hs : p.small) :
    Calls Try.prog 44 #[.agg #[.int .i64 p.ep, .int .i64 p.ld, vi, vk, vr, .int .i64 p.fw, .int .i64 p.bs], .int .i64 r] w fun e w' => Res w (p.electP r).1 [.int .i64 (p.electP r).2] e w' := by
  have HRW : Hid (RdP w p vi vk vr us) := h
  have HS : Hid p.small := hs
  obtain ⟨ai, ci, ak, ck, ar, cr, rfl, rfl, rfl, l1, l2, l3⟩ := h.lens
  clear h hs
  go_enter Try.func44, Try.ntmps44
  go_wp2_with fail
  have B0 : Below w.heap.size w ((w.alloc (.cells #[.int .i64 p.ep, .int .i64 p.ld, .slice ai p.isr.length ci, .slice ak p.kn.length ck, .slice ar p.rs.length cr, .int .i64 p.fw, .int .i64 p.bs] 26)).alloc (.cells #[.int .i64 0, .int .i64 0, .slice none 0 0, .slice none 0 0, .slice none 0 0, .int .i64 0, .int .i64 0] 26)) := bstep (bbox _ _) (bbox _ _)
  have P0 : PB ((w.alloc (.cells #[.int .i64 p.ep, .int .i64 p.ld, .slice ai p.isr.length ci, .slice ak p.kn.length ck, .slice ar p.rs.length cr, .int .i64 p.fw, .int .i64 p.bs] 26)).alloc (.cells #[.int .i64 0, .int .i64 0, .slice none 0 0, .slice none 0 0, .slice none 0 0, .int .i64 0, .int .i64 0] 26)) w.heap.size p _ _ _ := (pb_new w p (.slice ai p.isr.length ci) (.slice ak p.kn.length ck) (.slice ar p.rs.length cr) 26 w.heap.size rfl).below (C := w.heap.size + 1) (by omega) ((Below.refl _ _).alloc (by simp) (.cells #[.int .i64 0, .int .i64 0, .slice none 0 0, .slice none 0 0, .slice none 0 0, .int .i64 0, .int .i64 0] 26))
  have Z0 : PB ((w.alloc (.cells #[.int .i64 p.ep, .int .i64 p.ld, .slice ai p.isr.length ci, .slice ak p.kn.length ck, .slice ar p.rs.length cr, .int .i64 p.fw, .int .i64 p.bs] 26)).alloc (.cells #[.int .i64 0, .int .i64 0, .slice none 0 0, .slice none 0 0, .slice none 0 0, .int .i64 0, .int .i64 0] 26)) (w.heap.size + 1) Prt.zero nilV nilV nilV := pb_new _ Prt.zero nilV nilV nilV 26 (w.heap.size + 1) (by simp)
  generalize (w.alloc (.cells #[.int .i64 p.ep, .int .i64 p.ld, .slice ai p.isr.length ci, .slice ak p.kn.length ck, .slice ar p.rs.length cr, .int .i64 p.fw, .int .i64 p.bs] 26)).alloc (.cells #[.int .i64 0, .int .i64 0, .slice none 0 0, .slice none 0 0, .slice none 0 0, .int .i64 0, .int .i64 0] 26) = W0 at *
  refine (partFault_any p r _ _ _ us _ (RdP.below HRW.out (Nat.le_refl _) B0) HS.out).mono ?_
  rintro e w1 ⟨rfl, hb⟩
  have HB1 : Hid (Below w.heap.size w w1) := B0.trans (hb.mono B0.size)
  have HP1 : Hid (PB w1 w.heap.size p (.slice ai p.isr.length ci) (.slice ak p.kn.length ck) (.slice ar p.rs.length cr)) := P0.below P0.1 hb
  have HZ1 : Hid (PB w1 (w.heap.size + 1) Prt.zero nilV nilV nilV) := Z0.below Z0.1 hb
  have HR1 : Hid (RdP w1 p (.slice ai p.isr.length ci) (.slice ak p.kn.length ck) (.slice ar p.rs.length cr) us) := RdP.below HRW.out (Nat.le_refl _) HB1.out
  clear hb B0 P0 Z0
  obtain ⟨s1, ⟨b0, b1, b2, b3, b4, b5, b6⟩, f1⟩ := HP1.out
  obtain ⟨z1, ⟨e0, e1, e2, e3, e4, e5, e6⟩, g1⟩ := HZ1.out
  by_cases c0 : p.flt r = 0
  rotate_left
  · have d0 : (p.flt r != 0) = true := by simp [c0]
    have d1 : (p.flt r == 0) = false := by simp [c0]
    have HE : Hid (p.electP r = (Prt.zero, p.flt r)) := show _ = _ by unfold Prt.electP; rw [if_pos c0]
    clear c0
    go_wp2
    exact bodyPost_ret (v := .tuple #[.agg #[.int .i64 0, .int .i64 0, nilV, nilV, nilV, .int .i64 0, .int .i64 0], .int .i64 (p.flt r)]) (by simp [results, Try.results44, go_sem, e0, e1, e2, e3, e4, e5, e6]) rfl (by rw [HE.out]; exact res_zero rfl HB1.out (by omega))
  obtain ⟨m, r0, r1⟩ := flt_zero c0
  rw [c0]
  have H0 : Hid (p.flt r = 0) := c0
  clear c0
  obtain ⟨n, rfl⟩ := Int.eq_ofNat_of_zero_le r0
  have hn : n < p.rs.length := by omega
  have HM : Hid (May p) := m
  have hni : n < p.isr.length := by rw [m.li]; exact hn
  have hnk : n < p.kn.length := by rw [m.lk]; exact hn
  have hn' : (n : Int) < p.rs.length := by omega
  have hni' : (n : Int) < p.isr.length := by omega
  have hnk' : (n : Int) < p.kn.length := by omega
  obtain ⟨g, off, rfl, -, q0, q1, q2, q3, q4⟩ := HR1.out.2.2.cells n hn
  obtain ⟨hgi, hoi, rfl, m0⟩ := RdP.isrAt HR1.out.1 n hni
  obtain ⟨hgk, hok, rfl, m1⟩ := RdP.knAt HR1.out.2.1 n hnk
  clear q0 q2 m r0 r1
  have HE0 : Hid (p.electP n = if (p.at n).up = false then (Prt.zero, 7) else if p.isr.getD n false = false then (Prt.zero, 13) else if p.ld = n then (Prt.zero, 6) else if p.ep = 1073741824 then (Prt.zero, 2) else (({ p with ep := p.ep + 1, ld := n, kn := (List.replicate p.kn.length 0).set n (p.at n).safe, bs := (p.at n).es.length } : Prt).raised, 0)) := show _ = _ by unfold Prt.electP; rw [if_neg (by simp [H0.out]), Int.toNat_natCast]
  have HLN : Hid ((p.at n).l.length ≤ 1099511627775) := show _ ≤ _ by have := may_len HM.out hn; omega
  have HYB : Hid (0 ≤ (p.at n).y ∧ (p.at n).y ≤ (p.at n).l.length) := show _ ∧ _ by obtain ⟨h1, h2, h3, h4, h5, h6⟩ := lft_ok (HM.out.ok n hn).1; exact ⟨by omega, by omega⟩
  have hep0 : 0 ≤ p.ep := HM.out.ep.1
  have hep1 : p.ep ≤ 1073741824 := HM.out.ep.2
  generalize hbu : (p.at n).up = bu at *
  generalize hbi : p.isr.getD n false = bi at *
  clear hbu hbi
  cases bu with
  | false =>
    have HE : Hid (p.electP n = (Prt.zero, 7)) := show _ = _ by rw [HE0.out]; simp
    go_wp2
    exact bodyPost_ret (v := .tuple #[.agg #[.int .i64 0, .int .i64 0, nilV, nilV, nilV, .int .i64 0, .int .i64 0], .int .i64 7]) (by simp [results, Try.results44, go_sem, e0, e1, e2, e3, e4, e5, e6]) rfl (by rw [HE.out]; exact res_zero rfl HB1.out (by omega))
  | true =>
    cases bi with
    | false =>
      have HE : Hid (p.electP n = (Prt.zero, 13)) := show _ = _ by rw [HE0.out]; simp
      go_wp2
      exact bodyPost_ret (v := .tuple #[.agg #[.int .i64 0, .int .i64 0, nilV, nilV, nilV, .int .i64 0, .int .i64 0], .int .i64 13]) (by simp [results, Try.results44, go_sem, e0, e1, e2, e3, e4, e5, e6]) rfl (by rw [HE.out]; exact res_zero rfl HB1.out (by omega))
    | true =>
      cases a2 : (p.ld == (n : Int)) with
      | true =>
        have HE : Hid (p.electP n = (Prt.zero, 6)) := show _ = _ by rw [HE0.out]; simp at a2; simp [a2]
        go_wp2
        exact bodyPost_ret (v := .tuple #[.agg #[.int .i64 0, .int .i64 0, nilV, nilV, nilV, .int .i64 0, .int .i64 0], .int .i64 6]) (by simp [results, Try.results44, go_sem, e0, e1, e2, e3, e4, e5, e6]) rfl (by rw [HE.out]; exact res_zero rfl HB1.out (by omega))
      | false =>
        cases a3 : (p.ep == 1073741824) with
        | true =>
          have HE : Hid (p.electP n = (Prt.zero, 2)) := show _ = _ by rw [HE0.out]; simp at a2 a3; simp [a2, a3]
          go_wp2
          exact bodyPost_ret (v := .tuple #[.agg #[.int .i64 0, .int .i64 0, nilV, nilV, nilV, .int .i64 0, .int .i64 0], .int .i64 2]) (by simp [results, Try.results44, go_sem, e0, e1, e2, e3, e4, e5, e6]) rfl (by rw [HE.out]; exact res_zero rfl HB1.out (by omega))
        | false =>
          have HE : Hid (p.electP n = (({ p with ep := p.ep + 1, ld := n, kn := (List.replicate p.kn.length 0).set n (p.at n).safe, bs := (p.at n).es.length } : Prt).raised, 0)) := show _ = _ by rw [HE0.out]; simp at a2 a3; simp [a2, a3]
          clear HE0
          go_wp2_with fail
          refine (partCopy_any p _ _ _ us _ HR1.out (may_fits HM.out)).mono ?_
          rintro e w2 ⟨xi, xk, xr, us', rfl, hfr, hb⟩
          obtain ⟨gi, gk, gr, di, dk, dr, rfl, rfl, rfl, hsn⟩ := sn_start HB1.out HZ1.out (by omega) hfr hb (by omega) (by omega) (by omega)
          have HT2 : Hid (Sn w1.heap.size (w.heap.size + 1) w (p) gi gk gr di dk dr p.isr.length p.kn.length p.rs.length us' w2) := hsn
          have HP2 : Hid (PB w2 w.heap.size p _ _ _) := PB.below HP1.out HP1.out.1 hb
          have HR2 : Hid (RdP w2 p (.slice (some ⟨hgi, hoi, none⟩) p.isr.length ci) (.slice (some ⟨hgk, hok, none⟩) p.kn.length ck) (.slice (some ⟨g, off, none⟩) p.rs.length cr) us) := RdP.below HR1.out (Nat.le_refl _) hb
          have HBW2 : Hid (Below w1.heap.size w1 w2) := hb
          clear s1 b0 b1 b2 b3 b4 b5 b6 f1 z1 e0 e1 e2 e3 e4 e5 e6 g1 q1 q3 q4 m0 m1 hb hfr hsn
          have HT3 : Hid (Sd w1.heap.size w2.heap.size (w.heap.size + 1) w ({ p with ep := p.ep + 1, ld := n }) gi gk gr di dk dr p.isr.length p.kn.length p.rs.length us' (w2.alloc (.cells #[.int .i64 (p.ep + 1), .int .i64 n, (.slice (some ⟨gi, 0, none⟩) p.isr.length di), (.slice (some ⟨gk, 0, none⟩) p.kn.length dk), (.slice (some ⟨gr, 0, none⟩) p.rs.length dr), .int .i64 p.fw, .int .i64 p.bs] 26))) := (HT2.out.ints { p with ep := p.ep + 1, ld := n } rfl rfl rfl).lay 26
          have HBW3 : Hid (Below w1.heap.size w1 (w2.alloc (.cells #[.int .i64 (p.ep + 1), .int .i64 n, (.slice (some ⟨gi, 0, none⟩) p.isr.length di), (.slice (some ⟨gk, 0, none⟩) p.kn.length dk), (.slice (some ⟨gr, 0, none⟩) p.rs.length dr), .int .i64 p.fw, .int .i64 p.bs] 26))) := bstep HBW2.out (bbox _ _)
          go_wp2
          generalize w2.alloc (.cells #[.int .i64 (p.ep + 1), .int .i64 n, (.slice (some ⟨gi, 0, none⟩) p.isr.length di), (.slice (some ⟨gk, 0, none⟩) p.kn.length dk), (.slice (some ⟨gr, 0, none⟩) p.rs.length dr), .int .i64 p.fw, .int .i64 p.bs] 26) = W3 at *
          clear a2 a3
          go_loopw [8] (fun i wr => ∃ k : Nat, k ≤ p.kn.length ∧ i = .int .i64 k ∧ Hid (Sd w1.heap.size w2.heap.size (w.heap.size + 1) w ({ p with ep := p.ep + 1, ld := n, kn := List.replicate k 0 ++ p.kn.drop k }) gi gk gr di dk dr p.isr.length p.kn.length p.rs.length us' wr ∧ Below w1.heap.size w1 wr)) (fun i _ => p.kn.length - (intOf i).toNat)
          case atStart => exact ⟨0, by omega, rfl, by simpa using HT3.out, HBW3.out⟩
          case round =>
            obtain ⟨k, hk, rfl, HN⟩ := hrel
            have HT : Hid (Sd w1.heap.size w2.heap.size (w.heap.size + 1) w ({ p with ep := p.ep + 1, ld := n, kn := List.replicate k 0 ++ p.kn.drop k }) gi gk gr di dk dr p.isr.length p.kn.length p.rs.length us' wr) := HN.out.1
            have HBW : Hid (Below w1.heap.size w1 wr) := HN.out.2
            clear HN HT3 HBW3
            by_cases hlt : k < p.kn.length
            · have hlt' : (k : Int) < p.kn.length := by omega
              have hl5 : (k : Int) ≤ 5 := by have h1 := HM.out.n5; have h2 := HM.out.lk; omega
              obtain ⟨o1, ⟨o0, o2, o3, o4, o5, o6, o7⟩, o8⟩ := HT.out.p
              obtain ⟨i6, i8⟩ := HT.out.kn k hlt
              have HX : Hid (Sd w1.heap.size w2.heap.size (w.heap.size + 1) w ({ p with ep := p.ep + 1, ld := n, kn := List.replicate (k + 1) 0 ++ p.kn.drop (k + 1) }) gi gk gr di dk dr p.isr.length p.kn.length p.rs.length us' (wr.setCell ⟨gk, k, none⟩ (.int .i64 0)) ∧ Below w1.heap.size w1 (wr.setCell ⟨gk, k, none⟩ (.int .i64 0))) := ⟨by have h9 := HT.out.setKn k hlt 0; simp only [rep_drop p.kn k hlt] at h9; exact h9, HBW.out.setCell (p := ⟨gk, k, none⟩) HT.out.o.2.bk _⟩
              go_wp2
              go_roundw
              case rel => exact ⟨k + 1, by omega, by go_num, HX⟩
              case measure => simp [intOf]; omega
            · have hke : k = p.kn.length := by omega
              subst hke
              have HT4 : Hid (Sd w1.heap.size w2.heap.size (w.heap.size + 1) w ({ p with ep := p.ep + 1, ld := n, kn := List.replicate p.kn.length 0 }) gi gk gr di dk dr p.isr.length p.kn.length p.rs.length us' wr) := by have h9 := HT.out; rw [List.drop_length, List.append_nil] at h9; exact h9
              clear HT hk hlt
              obtain ⟨-, i1, i2, i3, i4, i9⟩ := HT4.out.cells n hn
              obtain ⟨i6, i8⟩ := HT4.out.kn n hnk
              obtain ⟨i5, i7⟩ := HT4.out.isr n hni
              obtain ⟨k1, k2, k3, k4, k5, k6, -, -, -⟩ := HT4.out.apart
              have k7 : ¬ gi = w2.heap.size := fun h => k1 h.symm
              have k8 : ¬ gk = w2.heap.size := fun h => k2 h.symm
              have k9 : ¬ gr = w2.heap.size := fun h => k3 h.symm
              have t1 : gi ≠ gk := HT4.out.o.2.ik
              have t2 : gi ≠ gr := HT4.out.o.2.ir
              have t3 : gk ≠ gr := HT4.out.o.2.kr
              have x1 := HT4.out.o.2.si
              have x2 := HT4.out.o.2.sk
              have x3 := HT4.out.o.2.sr
              have kb : w2.heap.size ≠ w.heap.size + 1 := HT4.out.bz
              obtain ⟨o1, ⟨o0, o2, o3, o4, o5, o6, o7⟩, o8⟩ := HT4.out.p
              obtain ⟨z1, ⟨e0, e1, e2, e3, e4, e5, e6⟩, g1⟩ := HT4.out.r
              obtain ⟨s1, ⟨b0, b1, b2, b3, b4, b5, b6⟩, f1⟩ := PB.below HP1.out HP1.out.1 HBW.out
              have HRP : Hid (∀ W, Below wr.heap.size wr W → RdP W p (.slice (some ⟨hgi, hoi, none⟩) p.isr.length ci) (.slice (some ⟨hgk, hok, none⟩) p.kn.length ck) (.slice (some ⟨g, off, none⟩) p.rs.length cr) us) := fun W hW => RdP.below HR1.out (Nat.le_refl _) (bstep HBW.out hW)
              go_wp2
              go_cut [] (fun W => Sd w1.heap.size w2.heap.size (w.heap.size + 1) w ({ p with ep := p.ep + 1, ld := n, kn := (List.replicate p.kn.length 0).set n (p.at n).safe }) gi gk gr di dk dr p.isr.length p.kn.length p.rs.length us' W ∧ Below w1.heap.size w1 W)
              case first =>
                go_region_with (go_at_call 92; refine (safeOf_any p _ _ _ us n _ (HRP.out _ (by repeat (first | exact Below.refl _ _ | refine Below.drew ?_))) HLN.out hn l3 HYB.out.1 HYB.out.2).mono ?_; rintro e w6 ⟨rfl, hb6⟩; have hB6 : Below wr.heap.size wr w6 := bstep (by repeat (first | exact Below.refl _ _ | refine Below.drew ?_)) hb6; obtain ⟨m1, m2⟩ := bcell hB6)
                all_goals
                  have HX : Hid _ := (HT4.out.below hB6).setKn n hnk (p.at n).safe
                  have HXB : Hid _ := (bstep HBW.out hB6).setCell (p := ⟨gk, n, none⟩) HT4.out.o.2.bk (.int .i64 (p.at n).safe)
                  clear m1 m2 hB6 hb6
                  go_wp2_with fail
                  go_meet
                all_goals
                  exact ⟨HX.out, HXB.out⟩
              case rest =>
                have HT6 : Hid (Sd w1.heap.size w2.heap.size (w.heap.size + 1) w ({ p with ep := p.ep + 1, ld := n, kn := (List.replicate p.kn.length 0).set n (p.at n).safe }) gi gk gr di dk dr p.isr.length p.kn.length p.rs.length us' wc) := hcut.1
                have HBW6 : Hid (Below w1.heap.size w1 wc) := hcut.2
                clear hcut HT4 HRP HBW
                clear i1 i2 i3 i4 i5 i6 i7 i8 i9 k1 k2 k3 k4 k5 k6 k7 k8 k9 t1 t2 t3 x1 x2 x3 kb o0 o1 o2 o3 o4 o5 o6 o7 o8 z1 e0 e1 e2 e3 e4 e5 e6 g1
                clear s1 b0 b1 b2 b3 b4 b5 b6 f1
                obtain ⟨s1, ⟨b0, b1, b2, b3, b4, b5, b6⟩, f1⟩ := PB.below HP1.out HP1.out.1 HBW6.out
                go_wp2_with fail
                refine (logOf_any p _ _ _ us n _ (RdP.below HR1.out (Nat.le_refl _) HBW6.out) HLN.out hn l3).mono ?_
                rintro e w7 ⟨v7, rfl, ho7, hb7⟩
                obtain ⟨av7, cv7, rfl⟩ := ho7.shape
                have HT7 : Hid (Sd w1.heap.size w2.heap.size (w.heap.size + 1) w ({ p with ep := p.ep + 1, ld := n, kn := (List.replicate p.kn.length 0).set n (p.at n).safe }) gi gk gr di dk dr p.isr.length p.kn.length p.rs.length us' w7) := HT6.out.below hb7
                have HT8 : Hid (Sd w1.heap.size w2.heap.size (w.heap.size + 1) w ({ p with ep := p.ep + 1, ld := n, kn := (List.replicate p.kn.length 0).set n (p.at n).safe, bs := (p.at n).es.length }) gi gk gr di dk dr p.isr.length p.kn.length p.rs.length us' (w7.setCell ⟨w2.heap.size, 6, none⟩ (.int .i64 (p.at n).es.length))) := HT7.out.setInt { p with ep := p.ep + 1, ld := n, kn := (List.replicate p.kn.length 0).set n (p.at n).safe, bs := (p.at n).es.length } 6 (p.at n).es.length (by simp) rfl rfl rfl (by simp) (by simp) (by simp) (by simp)
                have HLL : Hid ((({ p with ep := p.ep + 1, ld := n, kn := (List.replicate p.kn.length 0).set n (p.at n).safe, bs := (p.at n).es.length } : Prt).at (n : Int).toNat).l.length ≤ 1099511627775) := show _ ≤ _ by rw [Int.toNat_natCast]; exact HLN.out
                clear ho7 hb7 HT6
                clear s1 b0 b1 b2 b3 b4 b5 b6 f1
                obtain ⟨o1, ⟨o0, o2, o3, o4, o5, o6, o7⟩, o8⟩ := HT7.out.p
                go_wp2_with fail
                refine (raisedRef_at ({ p with ep := p.ep + 1, ld := n, kn := (List.replicate p.kn.length 0).set n (p.at n).safe, bs := (p.at n).es.length }) w1.heap.size gi gk gr di dk dr p.isr.length p.kn.length p.rs.length (p.ep + 1) n p.fw ((p.at n).es.length : Nat) _ _ HT8.out.o (by omega) hn' HM.out.li HM.out.lk HLL.out (by have := HM.out.n5; omega) HT8.out.hli HT8.out.hlk HT8.out.hlr rfl rfl rfl rfl).mono ?_
                rintro e w5 ⟨rfl, ho5, hg5⟩
                have HT5 : Hid (Sd w1.heap.size w2.heap.size (w.heap.size + 1) w (({ p with ep := p.ep + 1, ld := n, kn := (List.replicate p.kn.length 0).set n (p.at n).safe, bs := (p.at n).es.length }) : Prt).raised gi gk gr di dk dr p.isr.length p.kn.length p.rs.length us' w5) := Sd.other (by first | exact HT8.out | simpa using HT8.out) hg5 ho5 ((congrArg List.length (raised_len _).1).trans HT8.out.hli) ((congrArg List.length (raised_len _).2.1).trans HT8.out.hlk) ((raised_len _).2.2.1.trans HT8.out.hlr) (raised_len _).2.2.2.1 (raised_len _).2.2.2.2.1 (raised_len _).2.2.2.2.2.1 (raised_len _).2.2.2.2.2.2
                clear hg5 ho5
                obtain ⟨z1, ⟨e0, e1, e2, e3, e4, e5, e6⟩, g1⟩ := HT5.out.r
                clear o0 o1 o2 o3 o4 o5 o6 o7 o8
                go_wp2
                exact bodyPost_ret (v := .tuple #[.agg #[.int .i64 ({ p with ep := p.ep + 1, ld := n, kn := (List.replicate p.kn.length 0).set n (p.at n).safe, bs := (p.at n).es.length }).ep, .int .i64 ({ p with ep := p.ep + 1, ld := n, kn := (List.replicate p.kn.length 0).set n (p.at n).safe, bs := (p.at n).es.length }).ld, (.slice (some ⟨gi, 0, none⟩) p.isr.length di), (.slice (some ⟨gk, 0, none⟩) p.kn.length dk), (.slice (some ⟨gr, 0, none⟩) p.rs.length dr), .int .i64 ({ p with ep := p.ep + 1, ld := n, kn := (List.replicate p.kn.length 0).set n (p.at n).safe, bs := (p.at n).es.length }).fw, .int .i64 ({ p with ep := p.ep + 1, ld := n, kn := (List.replicate p.kn.length 0).set n (p.at n).safe, bs := (p.at n).es.length }).bs], .int .i64 0]) (by simp [results, Try.results44, go_sem, e0, e1, e2, e3, e4, e5, e6]) rfl (by rw [HE.out]; exact res_ok (q := (({ p with ep := p.ep + 1, ld := n, kn := (List.replicate p.kn.length 0).set n (p.at n).safe, bs := (p.at n).es.length }) : Prt).raised) (p := ({ p with ep := p.ep + 1, ld := n, kn := (List.replicate p.kn.length 0).set n (p.at n).safe, bs := (p.at n).es.length })) rfl HT5.out.o HT5.out.zB HT5.out.r.2.2 HT5.out.bel HT5.out.wz HT5.out.hli HT5.out.hlk HT5.out.hlr (raised_len _).2.2.2.1 (raised_len _).2.2.2.2.1 (raised_len _).2.2.2.2.2.1 (raised_len _).2.2.2.2.2.2)

end Go.Proofs.Ytkolelpdedmkeaa
