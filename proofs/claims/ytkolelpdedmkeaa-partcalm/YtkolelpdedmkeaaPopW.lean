/-
  The walk of part.Wipe.
-/
import Derived.Test.YtkolelpdedmkeaaPres
import Derived.Test.YtkolelpdedmkeaaPresF
namespace Go.Proofs.Ytkolelpdedmkeaa
open Go.RowKit
set_option linter.unusedVariables false
set_option linter.unusedSimpArgs false

set_option maxRecDepth 100000 in
set_option maxHeartbeats 4000000 in
theorem wipe_anyF (p : Prt) (r : Int) (vi vk vr : Value) (us : Nat → Value) (w : World) (h : RdP w p vi vk vr us) (hs : p.small) :
    Calls Try.prog 41 #[.agg #[.int .i64 p.ep, .int .i64 p.ld, vi, vk, vr, .int .i64 p.fw, .int .i64 p.bs], .int .i64 r] w fun e w' => ResF w (p.wipeP r).1 [.int .i64 (p.wipeP r).2] e w' := by
  have HRW : Hid (RdP w p vi vk vr us) := h
  have HS : Hid p.small := hs
  obtain ⟨ai, ci, ak, ck, ar, cr, rfl, rfl, rfl, l1, l2, l3⟩ := h.lens
  clear h hs
  go_enter Try.func41, Try.ntmps41
  go_wp2_with fail
  have B0 : Below w.heap.size w ((w.alloc (.cells #[.int .i64 p.ep, .int .i64 p.ld, .slice ai p.isr.length ci, .slice ak p.kn.length ck, .slice ar p.rs.length cr, .int .i64 p.fw, .int .i64 p.bs] 26)).alloc (.cells #[.int .i64 0, .int .i64 0, .slice none 0 0, .slice none 0 0, .slice none 0 0, .int .i64 0, .int .i64 0] 26)) := bstep (bbox _ _) (bbox _ _)
  have P0 : PB ((w.alloc (.cells #[.int .i64 p.ep, .int .i64 p.ld, .slice ai p.isr.length ci, .slice ak p.kn.length ck, .slice ar p.rs.length cr, .int .i64 p.fw, .int .i64 p.bs] 26)).alloc (.cells #[.int .i64 0, .int .i64 0, .slice none 0 0, .slice none 0 0, .slice none 0 0, .int .i64 0, .int .i64 0] 26)) w.heap.size p _ _ _ := (pb_new w p (.slice ai p.isr.length ci) (.slice ak p.kn.length ck) (.slice ar p.rs.length cr) 26 w.heap.size rfl).below (C := w.heap.size + 1) (by omega) ((Below.refl _ _).alloc (by simp) (.cells #[.int .i64 0, .int .i64 0, .slice none 0 0, .slice none 0 0, .slice none 0 0, .int .i64 0, .int .i64 0] 26))
  have Z0 : PB ((w.alloc (.cells #[.int .i64 p.ep, .int .i64 p.ld, .slice ai p.isr.length ci, .slice ak p.kn.length ck, .slice ar p.rs.length cr, .int .i64 p.fw, .int .i64 p.bs] 26)).alloc (.cells #[.int .i64 0, .int .i64 0, .slice none 0 0, .slice none 0 0, .slice none 0 0, .int .i64 0, .int .i64 0] 26)) (w.heap.size + 1) Prt.zero nilV nilV nilV := pb_new _ Prt.zero nilV nilV nilV 26 (w.heap.size + 1) (by simp)
  generalize (w.alloc (.cells #[.int .i64 p.ep, .int .i64 p.ld, .slice ai p.isr.length ci, .slice ak p.kn.length ck, .slice ar p.rs.length cr, .int .i64 p.fw, .int .i64 p.bs] 26)).alloc (.cells #[.int .i64 0, .int .i64 0, .slice none 0 0, .slice none 0 0, .slice none 0 0, .int .i64 0, .int .i64 0] 26) = W0 at *
  refine (checkNamed_any p r _ _ _ us _ (RdP.below HRW.out (Nat.le_refl _) B0) HS.out).mono ?_
  rintro e w1 ⟨rfl, hb⟩
  have HB1 : Hid (Below w.heap.size w w1) := B0.trans (hb.mono B0.size)
  have HP1 : Hid (PB w1 w.heap.size p (.slice ai p.isr.length ci) (.slice ak p.kn.length ck) (.slice ar p.rs.length cr)) := P0.below P0.1 hb
  have HZ1 : Hid (PB w1 (w.heap.size + 1) Prt.zero nilV nilV nilV) := Z0.below Z0.1 hb
  have HR1 : Hid (RdP w1 p (.slice ai p.isr.length ci) (.slice ak p.kn.length ck) (.slice ar p.rs.length cr) us) := RdP.below HRW.out (Nat.le_refl _) HB1.out
  clear hb B0 P0 Z0
  obtain ⟨s1, ⟨b0, b1, b2, b3, b4, b5, b6⟩, f1⟩ := HP1.out
  obtain ⟨z1, ⟨e0, e1, e2, e3, e4, e5, e6⟩, g1⟩ := HZ1.out
  by_cases c0 : p.flt r = 0
  rotate_left
  · have d0 : (p.flt r != 0) = true := by simp [c0]
    have HE : Hid (p.wipeP r = (Prt.zero, p.flt r)) := show _ = _ by unfold Prt.wipeP; rw [if_pos c0]
    clear c0
    go_wp2
    exact bodyPost_ret (v := .tuple #[.agg #[.int .i64 0, .int .i64 0, nilV, nilV, nilV, .int .i64 0, .int .i64 0], .int .i64 (p.flt r)]) (by simp [results, Try.results41, go_sem, e0, e1, e2, e3, e4, e5, e6]) rfl (by rw [HE.out]; exact resF_zero rfl HB1.out (by omega))
  obtain ⟨m, r0, r1⟩ := flt_zero c0
  rw [c0]
  have H0 : Hid (p.flt r = 0) := c0
  clear c0
  obtain ⟨n, rfl⟩ := Int.eq_ofNat_of_zero_le r0
  have hn : n < p.rs.length := by omega
  have HM : Hid (May p) := m
  have hni : n < p.isr.length := by rw [m.li]; exact hn
  have hnk : n < p.kn.length := by rw [m.lk]; exact hn
  have hn' : (n : Int) < p.rs.length := by omega
  have hni' : (n : Int) < p.isr.length := by omega
  have hnk' : (n : Int) < p.kn.length := by omega
  obtain ⟨g, off, rfl, -, q0, q1, q2, q3, q4⟩ := HR1.out.2.2.cells n hn
  obtain ⟨hgi, hoi, rfl, m0⟩ := RdP.isrAt HR1.out.1 n hni
  obtain ⟨hgk, hok, rfl, m1⟩ := RdP.knAt HR1.out.2.1 n hnk
  clear q0 q2 m r0 r1
  have HE1 : Hid ((p.at n).up = true → p.wipeP n = (Prt.zero, 12)) := fun hu => by unfold Prt.wipeP; rw [if_neg (by simp [H0.out]), Int.toNat_natCast, if_pos hu]
  have HE2 : Hid ((p.at n).up = false → hasB (p.isr.set n false) = false → p.wipeP n = (Prt.zero, 8)) := fun hu ho => by unfold Prt.wipeP; rw [if_neg (by simp [H0.out]), Int.toNat_natCast, if_neg (by simp [hu]), if_pos (by rw [other_has p n hni, ho])]
  have HE3 : Hid ((p.at n).up = false → hasB (p.isr.set n false) = true → p.wipeP n = ({ (({ p with isr := p.isr.set n false } : Prt).setR n (fun r => { r with l := [] })).setR n (fun r => { r with y := 0 }) |>.setR n (fun r => { r with h := 0 }) with kn := p.kn.set n 0 }, 0)) := fun hu ho => by
    unfold Prt.wipeP
    rw [if_neg (by simp [H0.out]), Int.toNat_natCast, if_neg (by simp [hu]), if_neg (by rw [other_has p n hni, ho]; simp), setR_setR, setR_setR]
    have := setR_congr (p := p) (f := fun _ => Rep.zero) (g := fun r => { r with l := [], y := 0, h := 0 }) hn (by unfold Rep.zero; rw [← hu])
    rw [this]
    rfl
  generalize hbu : (p.at n).up = bu at *
  cases bu with
  | true =>
    have HE : Hid _ := HE1.out rfl
    clear hbu
    go_wp2
    exact bodyPost_ret (v := .tuple #[.agg #[.int .i64 0, .int .i64 0, nilV, nilV, nilV, .int .i64 0, .int .i64 0], .int .i64 12]) (by simp [results, Try.results41, go_sem, e0, e1, e2, e3, e4, e5, e6]) rfl (by rw [HE.out]; exact resF_zero rfl HB1.out (by omega))
  | false =>
    clear hbu
    go_wp2_with fail
    refine (copy_any p _ _ _ us _ HR1.out (may_fits HM.out)).mono ?_
    rintro e w2 ⟨xi, xk, xr, us', rfl, hfr, hb⟩
    obtain ⟨gi, gk, gr, di, dk, dr, rfl, rfl, rfl, ho⟩ := hfr.own (by omega) (by omega) (by omega)
    have HB2 : Hid (Below w.heap.size w w2) := HB1.out.trans (hb.mono HB1.out.size)
    have HP2 : Hid (PB w2 w.heap.size p _ _ _) := PB.below HP1.out HP1.out.1 hb
    have HZ2 : Hid (PB w2 (w.heap.size + 1) Prt.zero nilV nilV nilV) := PB.below HZ1.out HZ1.out.1 hb
    have HO3 : Hid (OwnP w1.heap.size (put7 w2 w.heap.size p (.slice (some ⟨gi, 0, none⟩) p.isr.length di) (.slice (some ⟨gk, 0, none⟩) p.kn.length dk) (.slice (some ⟨gr, 0, none⟩) p.rs.length dr)) p gi gk gr di dk dr us') := OwnP.put ho HP2.out.2.2 HP1.out.1 p _ _ _
    have HB3 : Hid (Below w.heap.size w (put7 w2 w.heap.size p (.slice (some ⟨gi, 0, none⟩) p.isr.length di) (.slice (some ⟨gk, 0, none⟩) p.kn.length dk) (.slice (some ⟨gr, 0, none⟩) p.rs.length dr))) := below_put HB2.out (Nat.le_refl _) _ _ _ _
    have HP3 : Hid (PB (put7 w2 w.heap.size p (.slice (some ⟨gi, 0, none⟩) p.isr.length di) (.slice (some ⟨gk, 0, none⟩) p.kn.length dk) (.slice (some ⟨gr, 0, none⟩) p.rs.length dr)) w.heap.size p (.slice (some ⟨gi, 0, none⟩) p.isr.length di) (.slice (some ⟨gk, 0, none⟩) p.kn.length dk) (.slice (some ⟨gr, 0, none⟩) p.rs.length dr)) := PB.put HP2.out _ _ _ _
    have HZ3 : Hid (PB (put7 w2 w.heap.size p (.slice (some ⟨gi, 0, none⟩) p.isr.length di) (.slice (some ⟨gk, 0, none⟩) p.kn.length dk) (.slice (some ⟨gr, 0, none⟩) p.rs.length dr)) (w.heap.size + 1) Prt.zero nilV nilV nilV) := PB.putFar HZ2.out (by omega) _ _ _ _
    have HS3 : Hid (w1.heap.size ≤ w2.heap.size) := hb.size
    have k1 : w.heap.size ≠ gi := by have := ho.2.bi; omega
    have k2 : w.heap.size ≠ gk := by have := ho.2.bk; omega
    have k3 : w.heap.size ≠ gr := by have := ho.2.br; omega
    have k4 : w.heap.size + 1 ≠ gi := by have := ho.2.bi; omega
    have k5 : w.heap.size + 1 ≠ gk := by have := ho.2.bk; omega
    have k6 : w.heap.size + 1 ≠ gr := by have := ho.2.br; omega
    have k7 : ¬ gi = w.heap.size := fun h => k1 h.symm
    have k8 : ¬ gk = w.heap.size := fun h => k2 h.symm
    have k9 : ¬ gr = w.heap.size := fun h => k3 h.symm
    have t1 : gi ≠ gk := ho.2.ik
    have t2 : gi ≠ gr := ho.2.ir
    have t3 : gk ≠ gr := ho.2.kr
    have hz1 : w.heap.size + 1 < w1.heap.size := HZ1.out.1
    have hsi := ho.2.si
    have hsk := ho.2.sk
    have hsr := ho.2.sr
    obtain ⟨-, i1, i2, i3, i4⟩ := OwnP.cellsAt ho n hn
    have i5 := OwnP.isrCell ho n hni
    have i6 := OwnP.knCell ho n hnk
    have i7 := ho.2.fi
    have i8 := ho.2.fk
    have i9 := ho.2.fr
    clear s1 b0 b1 b2 b3 b4 b5 b6 f1 z1 e0 e1 e2 e3 e4 e5 e6 g1 q1 q3 q4 m0 m1 hb hfr ho
    obtain ⟨s1, ⟨b0, b1, b2, b3, b4, b5, b6⟩, f1⟩ := HP2.out
    obtain ⟨z1, ⟨e0, e1, e2, e3, e4, e5, e6⟩, g1⟩ := HZ2.out
    have HO4 : Hid _ := OwnP.setIsr HO3.out n hni false
    have HB4 : Hid (Below w.heap.size w ((put7 w2 w.heap.size p (.slice (some ⟨gi, 0, none⟩) p.isr.length di) (.slice (some ⟨gk, 0, none⟩) p.kn.length dk) (.slice (some ⟨gr, 0, none⟩) p.rs.length dr)).setCell ⟨gi, n, none⟩ (.bool false))) := HB3.out.setCell (p := ⟨gi, n, none⟩) (by show _ ≤ gi; have := HO3.out.2.bi; have := HB1.out.size; omega) (.bool false)
    have HZ4 : Hid _ := PB.far HZ3.out k4 n (.bool false)
    have HV4 : Hid (RdV ((put7 w2 w.heap.size p (.slice (some ⟨gi, 0, none⟩) p.isr.length di) (.slice (some ⟨gk, 0, none⟩) p.kn.length dk) (.slice (some ⟨gr, 0, none⟩) p.rs.length dr)).setCell ⟨gi, n, none⟩ (.bool false)) (.slice (some ⟨gi, 0, none⟩) p.isr.length di) ((p.isr.set n false).map Value.bool)) := show RdV _ _ _ by have := HO4.out.1.1; simpa using this
    go_wp2_with fail
    change Calls _ _ _ ((put7 w2 w.heap.size p (.slice (some ⟨gi, 0, none⟩) p.isr.length di) (.slice (some ⟨gk, 0, none⟩) p.kn.length dk) (.slice (some ⟨gr, 0, none⟩) p.rs.length dr)).setCell ⟨gi, n, none⟩ (.bool false)) _
    refine (containsB_any (p.isr.set n false) _ _ HV4.out).mono ?_
    rintro e W5 ⟨rfl, rfl⟩
    unfold put7
    cases hh : hasB (p.isr.set n false) with
    | false =>
      have HE : Hid _ := HE2.out (by first | rfl | trivial) hh
      go_wp2
      exact bodyPost_ret (v := .tuple #[.agg #[.int .i64 0, .int .i64 0, nilV, nilV, nilV, .int .i64 0, .int .i64 0], .int .i64 8]) (by simp [results, Try.results41, go_sem, e0, e1, e2, e3, e4, e5, e6]) rfl (by rw [HE.out]; exact resF_zero rfl HB4.out (by omega))
    | true =>
      have HE : Hid _ := HE3.out (by first | rfl | trivial) hh
      have hn4 : n < ({ p with isr := p.isr.set n false } : Prt).rs.length := hn
      have HO5 : Hid _ := OwnP.setB HO4.out n hn4 nilV [] ⟨fun n hn => by simp at hn, none, 0, rfl, by simp, by simp [maxLen], fun _ => rfl, fun h => by simp at h⟩ (fun k hk => by simp [Value.ownBlock] at hk)
      have HO6 : Hid _ := OwnP.setY HO5.out n (by rw [(setR_len _ _ _).2.2]; exact hn) 0
      have HO7 : Hid _ := OwnP.setH HO6.out n (by rw [(setR_len _ _ _).2.2, (setR_len _ _ _).2.2]; exact hn) 0
      have HO8 : Hid _ := OwnP.setKn HO7.out n (by rw [(setR_len _ _ _).2.1, (setR_len _ _ _).2.1, (setR_len _ _ _).2.1]; exact hnk) 0
      have hgr : w.heap.size ≤ gr := by have := HO3.out.2.br; have := HB1.out.size; omega
      have hgk : w.heap.size ≤ gk := by have := HO3.out.2.bk; have := HB1.out.size; omega
      have HB8 : Hid _ := (((HB4.out.setCell (p := ⟨gr, n * 4 + 1, none⟩) hgr nilV).setCell (p := ⟨gr, n * 4 + 2, none⟩) hgr (.int .i64 0)).setCell (p := ⟨gr, n * 4 + 3, none⟩) hgr (.int .i64 0)).setCell (p := ⟨gk, n, none⟩) hgk (.int .i64 0)
      have HZ8 : Hid _ := (((PB.far HZ4.out k6 (n * 4 + 1) nilV).far k6 (n * 4 + 2) (.int .i64 0)).far k6 (n * 4 + 3) (.int .i64 0)).far k5 n (.int .i64 0)
      go_wp2
      exact bodyPost_ret (v := .tuple #[.agg #[.int .i64 (p).ep, .int .i64 (p).ld, (.slice (some ⟨gi, 0, none⟩) p.isr.length di), (.slice (some ⟨gk, 0, none⟩) p.kn.length dk), (.slice (some ⟨gr, 0, none⟩) p.rs.length dr), .int .i64 (p).fw, .int .i64 (p).bs], .int .i64 0]) (by simp [results, Try.results41, go_sem, e0, e1, e2, e3, e4, e5, e6]) rfl (by rw [HE.out]; exact resF_ok (q := _) (p := p) rfl HO8.out hz1 HZ8.out.2.2 HB8.out (by omega) (by rw [(setR_len _ _ _).1, (setR_len _ _ _).1, (setR_len _ _ _).1]; simp) (by simp [setR_len]) (by show (Prt.setR _ _ _).rs.length = _; rw [(setR_len _ _ _).2.2, (setR_len _ _ _).2.2, (setR_len _ _ _).2.2]) rfl rfl rfl rfl)

theorem wipe_any (p : Prt) (r : Int) (vi vk vr : Value) (us : Nat → Value) (w : World) (h : RdP w p vi vk vr us) (hs : p.small) :
    Calls Try.prog 41 #[.agg #[.int .i64 p.ep, .int .i64 p.ld, vi, vk, vr, .int .i64 p.fw, .int .i64 p.bs], .int .i64 r] w fun e w' => Res w (p.wipeP r).1 [.int .i64 (p.wipeP r).2] e w' :=
  (wipe_anyF p r vi vk vr us w h hs).mono fun _ _ h => h.res

end Go.Proofs.Ytkolelpdedmkeaa
