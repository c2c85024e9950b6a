/-
  The walk of part.Rise.
-/
import Derived.Test.YtkolelpdedmkeaaPres
import Derived.Test.YtkolelpdedmkeaaPresF
namespace Go.Proofs.Ytkolelpdedmkeaa
open Go.RowKit
set_option linter.unusedVariables false
set_option linter.unusedSimpArgs false

set_option maxRecDepth 100000 in
set_option maxHeartbeats 4000000 in
theorem rise_anyF (p : Prt) (r : Int) (vi vk vr : Value) (us : Nat → Value) (w : World) (h : RdP w p vi vk vr us) (hs : p.small) :
    Calls Try.prog 39 #[.agg #[.int .i64 p.ep, .int .i64 p.ld, vi, vk, vr, .int .i64 p.fw, .int .i64 p.bs], .int .i64 r] w fun e w' => ResF w (p.riseP r).1 [.int .i64 (p.riseP r).2] e w' := by
  have HRW : Hid (RdP w p vi vk vr us) := h
  have HS : Hid p.small := hs
  obtain ⟨ai, ci, ak, ck, ar, cr, rfl, rfl, rfl, l1, l2, l3⟩ := h.lens
  clear h hs
  go_enter Try.func39, Try.ntmps39
  go_wp2_with fail
  have B0 : Below w.heap.size w ((w.alloc (.cells #[.int .i64 p.ep, .int .i64 p.ld, .slice ai p.isr.length ci, .slice ak p.kn.length ck, .slice ar p.rs.length cr, .int .i64 p.fw, .int .i64 p.bs] 26)).alloc (.cells #[.int .i64 0, .int .i64 0, .slice none 0 0, .slice none 0 0, .slice none 0 0, .int .i64 0, .int .i64 0] 26)) := bstep (bbox _ _) (bbox _ _)
  have P0 : PB ((w.alloc (.cells #[.int .i64 p.ep, .int .i64 p.ld, .slice ai p.isr.length ci, .slice ak p.kn.length ck, .slice ar p.rs.length cr, .int .i64 p.fw, .int .i64 p.bs] 26)).alloc (.cells #[.int .i64 0, .int .i64 0, .slice none 0 0, .slice none 0 0, .slice none 0 0, .int .i64 0, .int .i64 0] 26)) w.heap.size p _ _ _ := (pb_new w p (.slice ai p.isr.length ci) (.slice ak p.kn.length ck) (.slice ar p.rs.length cr) 26 w.heap.size rfl).below (C := w.heap.size + 1) (by omega) ((Below.refl _ _).alloc (by simp) (.cells #[.int .i64 0, .int .i64 0, .slice none 0 0, .slice none 0 0, .slice none 0 0, .int .i64 0, .int .i64 0] 26))
  have Z0 : PB ((w.alloc (.cells #[.int .i64 p.ep, .int .i64 p.ld, .slice ai p.isr.length ci, .slice ak p.kn.length ck, .slice ar p.rs.length cr, .int .i64 p.fw, .int .i64 p.bs] 26)).alloc (.cells #[.int .i64 0, .int .i64 0, .slice none 0 0, .slice none 0 0, .slice none 0 0, .int .i64 0, .int .i64 0] 26)) (w.heap.size + 1) Prt.zero nilV nilV nilV := pb_new _ Prt.zero nilV nilV nilV 26 (w.heap.size + 1) (by simp)
  generalize (w.alloc (.cells #[.int .i64 p.ep, .int .i64 p.ld, .slice ai p.isr.length ci, .slice ak p.kn.length ck, .slice ar p.rs.length cr, .int .i64 p.fw, .int .i64 p.bs] 26)).alloc (.cells #[.int .i64 0, .int .i64 0, .slice none 0 0, .slice none 0 0, .slice none 0 0, .int .i64 0, .int .i64 0] 26) = W0 at *
  refine (checkNamed_any p r _ _ _ us _ (RdP.below HRW.out (Nat.le_refl _) B0) HS.out).mono ?_
  rintro e w1 ⟨rfl, hb⟩
  have HB1 : Hid (Below w.heap.size w w1) := B0.trans (hb.mono B0.size)
  have HP1 : Hid (PB w1 w.heap.size p (.slice ai p.isr.length ci) (.slice ak p.kn.length ck) (.slice ar p.rs.length cr)) := P0.below P0.1 hb
  have HZ1 : Hid (PB w1 (w.heap.size + 1) Prt.zero nilV nilV nilV) := Z0.below Z0.1 hb
  have HR1 : Hid (RdP w1 p (.slice ai p.isr.length ci) (.slice ak p.kn.length ck) (.slice ar p.rs.length cr) us) := RdP.below HRW.out (Nat.le_refl _) HB1.out
  clear hb B0 P0 Z0
  obtain ⟨s1, ⟨b0, b1, b2, b3, b4, b5, b6⟩, f1⟩ := HP1.out
  obtain ⟨z1, ⟨e0, e1, e2, e3, e4, e5, e6⟩, g1⟩ := HZ1.out
  by_cases c0 : p.flt r = 0
  rotate_left
  · have d0 : (p.flt r != 0) = true := by simp [c0]
    have HE : Hid (p.riseP r = (Prt.zero, p.flt r)) := show _ = _ by unfold Prt.riseP; rw [if_pos c0]
    clear c0
    go_wp2
    exact bodyPost_ret (v := .tuple #[.agg #[.int .i64 0, .int .i64 0, nilV, nilV, nilV, .int .i64 0, .int .i64 0], .int .i64 (p.flt r)]) (by simp [results, Try.results39, go_sem, e0, e1, e2, e3, e4, e5, e6]) rfl (by rw [HE.out]; exact resF_zero rfl HB1.out (by omega))
  obtain ⟨m, r0, r1⟩ := flt_zero c0
  rw [c0]
  have H0 : Hid (p.flt r = 0) := c0
  clear c0
  obtain ⟨n, rfl⟩ := Int.eq_ofNat_of_zero_le r0
  have hn : n < p.rs.length := by omega
  have HM : Hid (May p) := m
  have hni : n < p.isr.length := by rw [m.li]; exact hn
  have hnk : n < p.kn.length := by rw [m.lk]; exact hn
  have hn' : (n : Int) < p.rs.length := by omega
  have hni' : (n : Int) < p.isr.length := by omega
  have hnk' : (n : Int) < p.kn.length := by omega
  obtain ⟨g, off, rfl, -, q0, q1, q2, q3, q4⟩ := HR1.out.2.2.cells n hn
  obtain ⟨hgi, hoi, rfl, m0⟩ := RdP.isrAt HR1.out.1 n hni
  obtain ⟨hgk, hok, rfl, m1⟩ := RdP.knAt HR1.out.2.1 n hnk
  clear q0 q2 m r0 r1
  have HE1 : Hid ((p.at n).up = true → p.riseP n = (Prt.zero, 6)) := fun hu => by unfold Prt.riseP; rw [if_neg (by simp [H0.out]), Int.toNat_natCast, if_pos hu]
  have HE2 : Hid ((p.at n).up = false → p.riseP n = (p.setR n (fun x => { x with up := true }), 0)) := fun hu => by unfold Prt.riseP; rw [if_neg (by simp [H0.out]), Int.toNat_natCast, if_neg (by simp [hu])]
  generalize hbu : (p.at n).up = bu at *
  clear hbu
  cases bu with
  | true =>
    have HE : Hid _ := HE1.out rfl
    go_wp2
    exact bodyPost_ret (v := .tuple #[.agg #[.int .i64 0, .int .i64 0, nilV, nilV, nilV, .int .i64 0, .int .i64 0], .int .i64 6]) (by simp [results, Try.results39, go_sem, e0, e1, e2, e3, e4, e5, e6]) rfl (by rw [HE.out]; exact resF_zero rfl HB1.out (by omega))
  | false =>
    have HE : Hid _ := HE2.out rfl
    go_wp2_with fail
    refine (copy_any p _ _ _ us _ HR1.out (may_fits HM.out)).mono ?_
    rintro e w2 ⟨xi, xk, xr, us', rfl, hfr, hb⟩
    obtain ⟨gi, gk, gr, di, dk, dr, rfl, rfl, rfl, ho⟩ := hfr.own (by omega) (by omega) (by omega)
    have HB2 : Hid (Below w.heap.size w w2) := HB1.out.trans (hb.mono HB1.out.size)
    have HP2 : Hid (PB w2 w.heap.size p _ _ _) := PB.below HP1.out HP1.out.1 hb
    have HZ2 : Hid (PB w2 (w.heap.size + 1) Prt.zero nilV nilV nilV) := PB.below HZ1.out HZ1.out.1 hb
    have HO3 : Hid (OwnP w1.heap.size (put7 w2 w.heap.size p (.slice (some ⟨gi, 0, none⟩) p.isr.length di) (.slice (some ⟨gk, 0, none⟩) p.kn.length dk) (.slice (some ⟨gr, 0, none⟩) p.rs.length dr)) p gi gk gr di dk dr us') := OwnP.put ho HP2.out.2.2 HP1.out.1 p _ _ _
    have HB3 : Hid (Below w.heap.size w (put7 w2 w.heap.size p (.slice (some ⟨gi, 0, none⟩) p.isr.length di) (.slice (some ⟨gk, 0, none⟩) p.kn.length dk) (.slice (some ⟨gr, 0, none⟩) p.rs.length dr))) := below_put HB2.out (Nat.le_refl _) _ _ _ _
    have HP3 : Hid (PB (put7 w2 w.heap.size p (.slice (some ⟨gi, 0, none⟩) p.isr.length di) (.slice (some ⟨gk, 0, none⟩) p.kn.length dk) (.slice (some ⟨gr, 0, none⟩) p.rs.length dr)) w.heap.size p (.slice (some ⟨gi, 0, none⟩) p.isr.length di) (.slice (some ⟨gk, 0, none⟩) p.kn.length dk) (.slice (some ⟨gr, 0, none⟩) p.rs.length dr)) := PB.put HP2.out _ _ _ _
    have HZ3 : Hid (PB (put7 w2 w.heap.size p (.slice (some ⟨gi, 0, none⟩) p.isr.length di) (.slice (some ⟨gk, 0, none⟩) p.kn.length dk) (.slice (some ⟨gr, 0, none⟩) p.rs.length dr)) (w.heap.size + 1) Prt.zero nilV nilV nilV) := PB.putFar HZ2.out (by omega) _ _ _ _
    have HS3 : Hid (w1.heap.size ≤ w2.heap.size) := hb.size
    have k1 : w.heap.size ≠ gi := by have := ho.2.bi; omega
    have k2 : w.heap.size ≠ gk := by have := ho.2.bk; omega
    have k3 : w.heap.size ≠ gr := by have := ho.2.br; omega
    have k4 : w.heap.size + 1 ≠ gi := by have := ho.2.bi; omega
    have k5 : w.heap.size + 1 ≠ gk := by have := ho.2.bk; omega
    have k6 : w.heap.size + 1 ≠ gr := by have := ho.2.br; omega
    have k7 : ¬ gi = w.heap.size := fun h => k1 h.symm
    have k8 : ¬ gk = w.heap.size := fun h => k2 h.symm
    have k9 : ¬ gr = w.heap.size := fun h => k3 h.symm
    have t1 : gi ≠ gk := ho.2.ik
    have t2 : gi ≠ gr := ho.2.ir
    have t3 : gk ≠ gr := ho.2.kr
    have hz1 : w.heap.size + 1 < w1.heap.size := HZ1.out.1
    have hsi := ho.2.si
    have hsk := ho.2.sk
    have hsr := ho.2.sr
    obtain ⟨-, i1, i2, i3, i4⟩ := OwnP.cellsAt ho n hn
    have i5 := OwnP.isrCell ho n hni
    have i6 := OwnP.knCell ho n hnk
    have i7 := ho.2.fi
    have i8 := ho.2.fk
    have i9 := ho.2.fr
    clear s1 b0 b1 b2 b3 b4 b5 b6 f1 z1 e0 e1 e2 e3 e4 e5 e6 g1 q1 q3 q4 m0 m1 hb hfr ho
    obtain ⟨s1, ⟨b0, b1, b2, b3, b4, b5, b6⟩, f1⟩ := HP2.out
    obtain ⟨z1, ⟨e0, e1, e2, e3, e4, e5, e6⟩, g1⟩ := HZ2.out
    have HO4 : Hid _ := OwnP.setUp HO3.out n hn true
    have HB4 : Hid _ := HB3.out.setCell (p := ⟨gr, n * 4, none⟩) (by show _ ≤ gr; have := HO3.out.2.br; have := HB1.out.size; omega) (.bool true)
    have HZ4 : Hid _ := PB.far HZ3.out k6 (n * 4) (.bool true)
    go_wp2
    exact bodyPost_ret (v := .tuple #[.agg #[.int .i64 (p).ep, .int .i64 (p).ld, (.slice (some ⟨gi, 0, none⟩) p.isr.length di), (.slice (some ⟨gk, 0, none⟩) p.kn.length dk), (.slice (some ⟨gr, 0, none⟩) p.rs.length dr), .int .i64 (p).fw, .int .i64 (p).bs], .int .i64 0]) (by simp [results, Try.results39, go_sem, e0, e1, e2, e3, e4, e5, e6]) rfl (by rw [HE.out]; exact resF_ok (q := p.setR n (fun x => { x with up := true })) (p := p) rfl HO4.out hz1 HZ4.out.2.2 HB4.out (by omega) rfl rfl (setR_len _ _ _).2.2 rfl rfl rfl rfl)

theorem rise_any (p : Prt) (r : Int) (vi vk vr : Value) (us : Nat → Value) (w : World) (h : RdP w p vi vk vr us) (hs : p.small) :
    Calls Try.prog 39 #[.agg #[.int .i64 p.ep, .int .i64 p.ld, vi, vk, vr, .int .i64 p.fw, .int .i64 p.bs], .int .i64 r] w fun e w' => Res w (p.riseP r).1 [.int .i64 (p.riseP r).2] e w' :=
  (rise_anyF p r vi vk vr us w h hs).mono fun _ _ h => h.res

end Go.Proofs.Ytkolelpdedmkeaa
