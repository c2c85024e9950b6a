/-
  The walk of part.Elect.
-/
import Derived.Test.YtkolelpdedmkeaaPst
import Derived.Test.YtkolelpdedmkeaaPresF
import Derived.Lib.SliceRun
import Derived.BigFrame
namespace Go.Proofs.Ytkolelpdedmkeaa
open Go.RowKit
set_option linter.unusedVariables false
set_option linter.unusedSimpArgs false

theorem zeroInt (w : World) : (zeroValue 3).run Try.prog w = .ok (.int .i64 0) w := by kernel_rfl

set_option maxRecDepth 100000 in
set_option maxHeartbeats 4000000 in
theorem elect_anyF (p : Prt) (r : Int) (vi vk vr : Value) (us : Nat → Value) (w : World) (h : RdP w p vi vk vr us) (hs : p.small) :
    Calls Try.prog 43 #[.agg #[.int .i64 p.ep, .int .i64 p.ld, vi, vk, vr, .int .i64 p.fw, .int .i64 p.bs], .int .i64 r] w fun e w' => ResF w (p.electP r).1 [.int .i64 (p.electP r).2] e w' := by
  have HRW : Hid (RdP w p vi vk vr us) := h
  have HS : Hid p.small := hs
  obtain ⟨ai, ci, ak, ck, ar, cr, rfl, rfl, rfl, l1, l2, l3⟩ := h.lens
  clear h hs
  go_enter Try.func43, Try.ntmps43
  go_wp2_with fail
  have B0 : Below w.heap.size w ((w.alloc (.cells #[.int .i64 p.ep, .int .i64 p.ld, .slice ai p.isr.length ci, .slice ak p.kn.length ck, .slice ar p.rs.length cr, .int .i64 p.fw, .int .i64 p.bs] 26)).alloc (.cells #[.int .i64 0, .int .i64 0, .slice none 0 0, .slice none 0 0, .slice none 0 0, .int .i64 0, .int .i64 0] 26)) := bstep (bbox _ _) (bbox _ _)
  have P0 : PB ((w.alloc (.cells #[.int .i64 p.ep, .int .i64 p.ld, .slice ai p.isr.length ci, .slice ak p.kn.length ck, .slice ar p.rs.length cr, .int .i64 p.fw, .int .i64 p.bs] 26)).alloc (.cells #[.int .i64 0, .int .i64 0, .slice none 0 0, .slice none 0 0, .slice none 0 0, .int .i64 0, .int .i64 0] 26)) w.heap.size p _ _ _ := (pb_new w p (.slice ai p.isr.length ci) (.slice ak p.kn.length ck) (.slice ar p.rs.length cr) 26 w.heap.size rfl).below (C := w.heap.size + 1) (by omega) ((Below.refl _ _).alloc (by simp) (.cells #[.int .i64 0, .int .i64 0, .slice none 0 0, .slice none 0 0, .slice none 0 0, .int .i64 0, .int .i64 0] 26))
  have Z0 : PB ((w.alloc (.cells #[.int .i64 p.ep, .int .i64 p.ld, .slice ai p.isr.length ci, .slice ak p.kn.length ck, .slice ar p.rs.length cr, .int .i64 p.fw, .int .i64 p.bs] 26)).alloc (.cells #[.int .i64 0, .int .i64 0, .slice none 0 0, .slice none 0 0, .slice none 0 0, .int .i64 0, .int .i64 0] 26)) (w.heap.size + 1) Prt.zero nilV nilV nilV := pb_new _ Prt.zero nilV nilV nilV 26 (w.heap.size + 1) (by simp)
  generalize (w.alloc (.cells #[.int .i64 p.ep, .int .i64 p.ld, .slice ai p.isr.length ci, .slice ak p.kn.length ck, .slice ar p.rs.length cr, .int .i64 p.fw, .int .i64 p.bs] 26)).alloc (.cells #[.int .i64 0, .int .i64 0, .slice none 0 0, .slice none 0 0, .slice none 0 0, .int .i64 0, .int .i64 0] 26) = W0 at *
  refine (checkNamed_any p r _ _ _ us _ (RdP.below HRW.out (Nat.le_refl _) B0) HS.out).mono ?_
  rintro e w1 ⟨rfl, hb⟩
  have HB1 : Hid (Below w.heap.size w w1) := B0.trans (hb.mono B0.size)
  have HP1 : Hid (PB w1 w.heap.size p (.slice ai p.isr.length ci) (.slice ak p.kn.length ck) (.slice ar p.rs.length cr)) := P0.below P0.1 hb
  have HZ1 : Hid (PB w1 (w.heap.size + 1) Prt.zero nilV nilV nilV) := Z0.below Z0.1 hb
  have HR1 : Hid (RdP w1 p (.slice ai p.isr.length ci) (.slice ak p.kn.length ck) (.slice ar p.rs.length cr) us) := RdP.below HRW.out (Nat.le_refl _) HB1.out
  clear hb B0 P0 Z0
  obtain ⟨s1, ⟨b0, b1, b2, b3, b4, b5, b6⟩, f1⟩ := HP1.out
  obtain ⟨z1, ⟨e0, e1, e2, e3, e4, e5, e6⟩, g1⟩ := HZ1.out
  by_cases c0 : p.flt r = 0
  rotate_left
  · have d0 : (p.flt r != 0) = true := by simp [c0]
    have HE : Hid (p.electP r = (Prt.zero, p.flt r)) := show _ = _ by unfold Prt.electP; rw [if_pos c0]
    clear c0
    go_wp2
    exact bodyPost_ret (v := .tuple #[.agg #[.int .i64 0, .int .i64 0, nilV, nilV, nilV, .int .i64 0, .int .i64 0], .int .i64 (p.flt r)]) (by simp [results, Try.results43, go_sem, e0, e1, e2, e3, e4, e5, e6]) rfl (by rw [HE.out]; exact resF_zero rfl HB1.out (by omega))
  obtain ⟨m, r0, r1⟩ := flt_zero c0
  rw [c0]
  have H0 : Hid (p.flt r = 0) := c0
  clear c0
  obtain ⟨n, rfl⟩ := Int.eq_ofNat_of_zero_le r0
  have hn : n < p.rs.length := by omega
  have HM : Hid (May p) := m
  have hni : n < p.isr.length := by rw [m.li]; exact hn
  have hnk : n < p.kn.length := by rw [m.lk]; exact hn
  have hn' : (n : Int) < p.rs.length := by omega
  have hni' : (n : Int) < p.isr.length := by omega
  have hnk' : (n : Int) < p.kn.length := by omega
  obtain ⟨g, off, rfl, -, q0, q1, q2, q3, q4⟩ := HR1.out.2.2.cells n hn
  obtain ⟨hgi, hoi, rfl, m0⟩ := RdP.isrAt HR1.out.1 n hni
  obtain ⟨hgk, hok, rfl, m1⟩ := RdP.knAt HR1.out.2.1 n hnk
  clear q0 q2 m r0 r1
  have HE0 : Hid (p.electP n = if (p.at n).up = false then (Prt.zero, 7) else if p.isr.getD n false = false then (Prt.zero, 13) else if p.ld = n then (Prt.zero, 6) else if p.ep = 1073741824 then (Prt.zero, 2) else (({ p with ep := p.ep + 1, ld := n, kn := (List.replicate p.kn.length 0).set n (p.at n).safe, bs := (p.at n).es.length } : Prt).raised, 0)) := show _ = _ by unfold Prt.electP; rw [if_neg (by simp [H0.out]), Int.toNat_natCast]
  have HL0 : Hid (lft (p.at n).l (p.at n).y = 0) := show _ = _ from (HM.out.ok n hn).1
  have hep0 : 0 ≤ p.ep := HM.out.ep.1
  have hep1 : p.ep ≤ 1073741824 := HM.out.ep.2
  generalize hbu : (p.at n).up = bu at *
  generalize hbi : p.isr.getD n false = bi at *
  clear hbu hbi
  cases bu with
  | false =>
    have HE : Hid (p.electP n = (Prt.zero, 7)) := show _ = _ by rw [HE0.out]; simp
    go_wp2
    exact bodyPost_ret (v := .tuple #[.agg #[.int .i64 0, .int .i64 0, nilV, nilV, nilV, .int .i64 0, .int .i64 0], .int .i64 7]) (by simp [results, Try.results43, go_sem, e0, e1, e2, e3, e4, e5, e6]) rfl (by rw [HE.out]; exact resF_zero rfl HB1.out (by omega))
  | true =>
    cases bi with
    | false =>
      have HE : Hid (p.electP n = (Prt.zero, 13)) := show _ = _ by rw [HE0.out]; simp
      go_wp2
      exact bodyPost_ret (v := .tuple #[.agg #[.int .i64 0, .int .i64 0, nilV, nilV, nilV, .int .i64 0, .int .i64 0], .int .i64 13]) (by simp [results, Try.results43, go_sem, e0, e1, e2, e3, e4, e5, e6]) rfl (by rw [HE.out]; exact resF_zero rfl HB1.out (by omega))
    | true =>
      cases a2 : (p.ld == (n : Int)) with
      | true =>
        have HE : Hid (p.electP n = (Prt.zero, 6)) := show _ = _ by rw [HE0.out]; simp at a2; simp [a2]
        go_wp2
        exact bodyPost_ret (v := .tuple #[.agg #[.int .i64 0, .int .i64 0, nilV, nilV, nilV, .int .i64 0, .int .i64 0], .int .i64 6]) (by simp [results, Try.results43, go_sem, e0, e1, e2, e3, e4, e5, e6]) rfl (by rw [HE.out]; exact resF_zero rfl HB1.out (by omega))
      | false =>
        cases a3 : (p.ep == 1073741824) with
        | true =>
          have HE : Hid (p.electP n = (Prt.zero, 2)) := show _ = _ by rw [HE0.out]; simp at a2 a3; simp [a2, a3]
          go_wp2
          exact bodyPost_ret (v := .tuple #[.agg #[.int .i64 0, .int .i64 0, nilV, nilV, nilV, .int .i64 0, .int .i64 0], .int .i64 2]) (by simp [results, Try.results43, go_sem, e0, e1, e2, e3, e4, e5, e6]) rfl (by rw [HE.out]; exact resF_zero rfl HB1.out (by omega))
        | false =>
          have HE : Hid (p.electP n = (({ p with ep := p.ep + 1, ld := n, kn := (List.replicate p.kn.length 0).set n (p.at n).safe, bs := (p.at n).es.length } : Prt).raised, 0)) := show _ = _ by rw [HE0.out]; simp at a2 a3; simp [a2, a3]
          clear HE0
          go_wp2_with fail
          refine (copy_any p _ _ _ us _ HR1.out (may_fits HM.out)).mono ?_
          rintro e w2 ⟨xi, xk, xr, us', rfl, hfr, hb⟩
          obtain ⟨gi, gk, gr, di, dk, dr, rfl, rfl, rfl, ho⟩ := hfr.own (by omega) (by omega) (by omega)
          have HB2 : Hid (Below w.heap.size w w2) := HB1.out.trans (hb.mono HB1.out.size)
          have HP2 : Hid (PB w2 w.heap.size p _ _ _) := PB.below HP1.out HP1.out.1 hb
          have HZ2 : Hid (PB w2 (w.heap.size + 1) Prt.zero nilV nilV nilV) := PB.below HZ1.out HZ1.out.1 hb
          have HO3 : Hid (OwnP w1.heap.size (put7 w2 w.heap.size p (.slice (some ⟨gi, 0, none⟩) p.isr.length di) (.slice (some ⟨gk, 0, none⟩) p.kn.length dk) (.slice (some ⟨gr, 0, none⟩) p.rs.length dr)) p gi gk gr di dk dr us') := OwnP.put ho HP2.out.2.2 HP1.out.1 p _ _ _
          have HB3 : Hid (Below w.heap.size w (put7 w2 w.heap.size p (.slice (some ⟨gi, 0, none⟩) p.isr.length di) (.slice (some ⟨gk, 0, none⟩) p.kn.length dk) (.slice (some ⟨gr, 0, none⟩) p.rs.length dr))) := below_put HB2.out (Nat.le_refl _) _ _ _ _
          have HP3 : Hid (PB (put7 w2 w.heap.size p (.slice (some ⟨gi, 0, none⟩) p.isr.length di) (.slice (some ⟨gk, 0, none⟩) p.kn.length dk) (.slice (some ⟨gr, 0, none⟩) p.rs.length dr)) w.heap.size p (.slice (some ⟨gi, 0, none⟩) p.isr.length di) (.slice (some ⟨gk, 0, none⟩) p.kn.length dk) (.slice (some ⟨gr, 0, none⟩) p.rs.length dr)) := PB.put HP2.out _ _ _ _
          have HZ3 : Hid (PB (put7 w2 w.heap.size p (.slice (some ⟨gi, 0, none⟩) p.isr.length di) (.slice (some ⟨gk, 0, none⟩) p.kn.length dk) (.slice (some ⟨gr, 0, none⟩) p.rs.length dr)) (w.heap.size + 1) Prt.zero nilV nilV nilV) := PB.putFar HZ2.out (by omega) _ _ _ _
          have HS3 : Hid (w1.heap.size ≤ w2.heap.size) := hb.size
          have HT3 : Hid (St w1.heap.size w.heap.size (w.heap.size + 1) w (p) gi gk gr di dk dr p.isr.length p.kn.length p.rs.length us' (put7 w2 w.heap.size p (.slice (some ⟨gi, 0, none⟩) p.isr.length di) (.slice (some ⟨gk, 0, none⟩) p.kn.length dk) (.slice (some ⟨gr, 0, none⟩) p.rs.length dr))) := ⟨HO3.out, HP3.out, HZ3.out, HB3.out, by rw [put7_size]; exact HS3.out, rfl, rfl, rfl, HP1.out.1, HZ1.out.1, by omega, Nat.le_refl _, by omega⟩
          clear s1 b0 b1 b2 b3 b4 b5 b6 f1 z1 e0 e1 e2 e3 e4 e5 e6 g1 q1 q3 q4 m0 m1 hb hfr ho HO3 HB3 HP3 HZ3
          obtain ⟨s1, ⟨b0, b1, b2, b3, b4, b5, b6⟩, f1⟩ := HP2.out
          obtain ⟨z1, ⟨e0, e1, e2, e3, e4, e5, e6⟩, g1⟩ := HZ2.out
          unfold put7 at HT3
          go_wp2_with fail
          clear s1 b0 b1 b2 b3 b4 b5 b6 f1 z1 e0 e1 e2 e3 e4 e5 e6 g1
          generalize ((((((w2.setCell ⟨w.heap.size, 0, none⟩ (.int .i64 p.ep)).setCell ⟨w.heap.size, 1, none⟩ (.int .i64 p.ld)).setCell ⟨w.heap.size, 2, none⟩ (.slice (some ⟨gi, 0, none⟩) p.isr.length di)).setCell ⟨w.heap.size, 3, none⟩ (.slice (some ⟨gk, 0, none⟩) p.kn.length dk)).setCell ⟨w.heap.size, 4, none⟩ (.slice (some ⟨gr, 0, none⟩) p.rs.length dr)).setCell ⟨w.heap.size, 5, none⟩ (.int .i64 p.fw)).setCell ⟨w.heap.size, 6, none⟩ (.int .i64 p.bs) = W3 at *
          refine (entriesOf_may p n _ _ _ us' _ HT3.out.o.1 hn HL0.out).mono ?_
          rintro e w4 ⟨v4, rfl, ho4, hb4⟩
          obtain ⟨a4, c4, rfl⟩ := ho4.shape
          have HT4 : Hid (St w1.heap.size w.heap.size (w.heap.size + 1) w (p) gi gk gr di dk dr p.isr.length p.kn.length p.rs.length us' w4) := HT3.out.below hb4
          clear a2 a3 ho4 hb4 HT3
          have HTC : Hid (St w1.heap.size w.heap.size (w.heap.size + 1) w ({ p with ep := p.ep + 1, ld := n, bs := (p.at n).es.length }) gi gk gr di dk dr p.isr.length p.kn.length p.rs.length us' (((w4.setCell ⟨w.heap.size, 0, none⟩ (.int .i64 (p.ep + 1))).setCell ⟨w.heap.size, 1, none⟩ (.int .i64 n)).setCell ⟨w.heap.size, 6, none⟩ (.int .i64 ((p.at n).es.length : Nat)))) := ((HT4.out.setInt { p with ep := p.ep + 1 } 0 (p.ep + 1) (by simp) rfl rfl rfl (by simp) (by simp) (by simp) (by simp)).setInt { p with ep := p.ep + 1, ld := n } 1 n (by simp) rfl rfl rfl (by simp) (by simp) (by simp) (by simp)).setInt { p with ep := p.ep + 1, ld := n, bs := (p.at n).es.length } 6 (p.at n).es.length (by simp) rfl rfl rfl (by simp) (by simp) (by simp) (by simp)
          have HTD : Hid _ := HTC.out.clear
          have hcl : ∀ ty, (Builtin.clear_ #[23] ty #[(.slice (some ⟨gk, 0, none⟩) p.kn.length dk)]).run Try.prog (((w4.setCell ⟨w.heap.size, 0, none⟩ (.int .i64 (p.ep + 1))).setCell ⟨w.heap.size, 1, none⟩ (.int .i64 n)).setCell ⟨w.heap.size, 6, none⟩ (.int .i64 ((p.at n).es.length : Nat))) = .ok (.tuple #[]) ((((w4.setCell ⟨w.heap.size, 0, none⟩ (.int .i64 (p.ep + 1))).setCell ⟨w.heap.size, 1, none⟩ (.int .i64 n)).setCell ⟨w.heap.size, 6, none⟩ (.int .i64 ((p.at n).es.length : Nat))).setCells gk 0 (List.replicate p.kn.length (.int .i64 0))) := fun ty => by
            refine Lib.run_clear_slice _ 23 3 ty (.int .i64 0) Try.underlying23 zeroInt rfl rfl gk 0 p.kn.length dk (by omega) (fun j hj => ?_) (fun j hj => ?_)
            · have := (HTC.out.kn j hj).1
              rw [Nat.zero_add, this]
              rfl
            · rw [Nat.zero_add]
              exact (HTC.out.kn j hj).2 j
          obtain ⟨W5, hW5⟩ : ∃ W5, W5 = (((w4.setCell ⟨w.heap.size, 0, none⟩ (.int .i64 (p.ep + 1))).setCell ⟨w.heap.size, 1, none⟩ (.int .i64 n)).setCell ⟨w.heap.size, 6, none⟩ (.int .i64 ((p.at n).es.length : Nat))).setCells gk 0 (List.replicate p.kn.length (.int .i64 0)) := ⟨_, rfl⟩
          rw [← hW5] at hcl HTD
          clear hW5 HTC
          obtain ⟨s1, ⟨b0, b1, b2, b3, b4, b5, b6⟩, f1⟩ := HT4.out.p
          obtain ⟨z1, ⟨e0, e1, e2, e3, e4, e5, e6⟩, g1⟩ := HT4.out.r
          obtain ⟨-, i1, i2, i3, i4, i9⟩ := HT4.out.cells n hn
          obtain ⟨i6, i8⟩ := HT4.out.kn n hnk
          obtain ⟨i5, i7⟩ := HT4.out.isr n hni
          obtain ⟨k1, k2, k3, k4, k5, k6, -, -, -⟩ := HT4.out.apart
          have k7 : ¬ gi = w.heap.size := fun h => k1 h.symm
          have k8 : ¬ gk = w.heap.size := fun h => k2 h.symm
          have k9 : ¬ gr = w.heap.size := fun h => k3 h.symm
          have t1 : gi ≠ gk := HT4.out.o.2.ik
          have t2 : gi ≠ gr := HT4.out.o.2.ir
          have t3 : gk ≠ gr := HT4.out.o.2.kr
          have x1 := HT4.out.o.2.si
          have x2 := HT4.out.o.2.sk
          have x3 := HT4.out.o.2.sr
          obtain ⟨s1y, ⟨b0y, b1y, b2y, b3y, b4y, b5y, b6y⟩, f1y⟩ := HTD.out.p
          obtain ⟨z1y, ⟨e0y, e1y, e2y, e3y, e4y, e5y, e6y⟩, g1y⟩ := HTD.out.r
          obtain ⟨-, i1y, i2y, i3y, i4y, i9y⟩ := HTD.out.cells n hn
          obtain ⟨i6y, i8y⟩ := HTD.out.kn n hnk
          obtain ⟨i5y, i7y⟩ := HTD.out.isr n hni
          obtain ⟨k1y, k2y, k3y, k4y, k5y, k6y, -, -, -⟩ := HTD.out.apart
          have k7y : ¬ gi = w.heap.size := fun h => k1y h.symm
          have k8y : ¬ gk = w.heap.size := fun h => k2y h.symm
          have k9y : ¬ gr = w.heap.size := fun h => k3y h.symm
          have t1y : gi ≠ gk := HTD.out.o.2.ik
          have t2y : gi ≠ gr := HTD.out.o.2.ir
          have t3y : gk ≠ gr := HTD.out.o.2.kr
          have x1y := HTD.out.o.2.si
          have x2y := HTD.out.o.2.sk
          have x3y := HTD.out.o.2.sr
          have HT6 : Hid (St w1.heap.size w.heap.size (w.heap.size + 1) w ({ p with ep := p.ep + 1, ld := n, kn := (List.replicate p.kn.length 0).set n (p.at n).safe, bs := (p.at n).es.length }) gi gk gr di dk dr p.isr.length p.kn.length p.rs.length us' (W5.setCell ⟨gk, n, none⟩ (.int .i64 (p.at n).safe))) := HTD.out.setKn n hnk (p.at n).safe
          have HLL : Hid (lft ((({ p with ep := p.ep + 1, ld := n, kn := (List.replicate p.kn.length 0).set n (p.at n).safe, bs := (p.at n).es.length } : Prt)).at (n : Int).toNat).l ((({ p with ep := p.ep + 1, ld := n, kn := (List.replicate p.kn.length 0).set n (p.at n).safe, bs := (p.at n).es.length } : Prt)).at (n : Int).toNat).y = 0) := show _ = _ by rw [Int.toNat_natCast]; exact HL0.out
          go_wp2_with (simp only [hcl])
          refine (raiseHigh_at ({ p with ep := p.ep + 1, ld := n, kn := (List.replicate p.kn.length 0).set n (p.at n).safe, bs := (p.at n).es.length }) w1.heap.size gi gk gr di dk dr p.isr.length p.kn.length p.rs.length (p.ep + 1) n p.fw ((p.at n).es.length : Nat) _ _ HT6.out.o HT6.out.s (by omega) hn' HM.out.li HM.out.lk HLL.out (by have := HM.out.n5; omega) HT6.out.hli HT6.out.hlk HT6.out.hlr rfl rfl rfl rfl).mono ?_
          rintro e w5 ⟨rfl, ho5, hb5⟩
          have HT5 : Hid (St w1.heap.size w.heap.size (w.heap.size + 1) w (({ p with ep := p.ep + 1, ld := n, kn := (List.replicate p.kn.length 0).set n (p.at n).safe, bs := (p.at n).es.length } : Prt).raised) gi gk gr di dk dr p.isr.length p.kn.length p.rs.length us' w5) := St.other HT6.out hb5 ho5 ((congrArg List.length (raised_len _).1).trans HT6.out.hli) ((congrArg List.length (raised_len _).2.1).trans HT6.out.hlk) ((raised_len _).2.2.1.trans HT6.out.hlr) (raised_len _).2.2.2.1 (raised_len _).2.2.2.2.1 (raised_len _).2.2.2.2.2.1 (raised_len _).2.2.2.2.2.2
          clear s1 b0 b1 b2 b3 b4 b5 b6 f1 z1 e0 e1 e2 e3 e4 e5 e6 g1 i1 i2 i3 i4 i5 i6 i7 i8 i9 k1 k2 k3 k4 k5 k6 k7 k8 k9 t1 t2 t3 x1 x2 x3
          clear s1y b0y b1y b2y b3y b4y b5y b6y f1y z1y e0y e1y e2y e3y e4y e5y e6y g1y i1y i2y i3y i4y i5y i6y i7y i8y i9y k1y k2y k3y k4y k5y k6y k7y k8y k9y t1y t2y t3y x1y x2y x3y
          clear hb5 ho5 HT6 HTD HT4 hcl HLL
          generalize ({ p with ep := p.ep + 1, ld := n, kn := (List.replicate p.kn.length 0).set n (p.at n).safe, bs := (p.at n).es.length } : Prt).raised = q7 at *
          obtain ⟨s1, ⟨b0, b1, b2, b3, b4, b5, b6⟩, f1⟩ := HT5.out.p
          obtain ⟨z1, ⟨e0, e1, e2, e3, e4, e5, e6⟩, g1⟩ := HT5.out.r
          obtain ⟨-, i1, i2, i3, i4, i9⟩ := HT5.out.cells n hn
          obtain ⟨i6, i8⟩ := HT5.out.kn n hnk
          obtain ⟨i5, i7⟩ := HT5.out.isr n hni
          obtain ⟨k1, k2, k3, k4, k5, k6, -, -, -⟩ := HT5.out.apart
          have k7 : ¬ gi = w.heap.size := fun h => k1 h.symm
          have k8 : ¬ gk = w.heap.size := fun h => k2 h.symm
          have k9 : ¬ gr = w.heap.size := fun h => k3 h.symm
          have t1 : gi ≠ gk := HT5.out.o.2.ik
          have t2 : gi ≠ gr := HT5.out.o.2.ir
          have t3 : gk ≠ gr := HT5.out.o.2.kr
          have x1 := HT5.out.o.2.si
          have x2 := HT5.out.o.2.sk
          have x3 := HT5.out.o.2.sr
          go_wp2
          exact bodyPost_ret (v := .tuple #[.agg #[.int .i64 (q7).ep, .int .i64 (q7).ld, (.slice (some ⟨gi, 0, none⟩) p.isr.length di), (.slice (some ⟨gk, 0, none⟩) p.kn.length dk), (.slice (some ⟨gr, 0, none⟩) p.rs.length dr), .int .i64 (q7).fw, .int .i64 (q7).bs], .int .i64 0]) (by simp [results, Try.results43, go_sem, e0, e1, e2, e3, e4, e5, e6]) rfl (by rw [HE.out]; exact St.doneF HT5.out rfl)

theorem elect_any (p : Prt) (r : Int) (vi vk vr : Value) (us : Nat → Value) (w : World) (h : RdP w p vi vk vr us) (hs : p.small) :
    Calls Try.prog 43 #[.agg #[.int .i64 p.ep, .int .i64 p.ld, vi, vk, vr, .int .i64 p.fw, .int .i64 p.bs], .int .i64 r] w fun e w' => Res w (p.electP r).1 [.int .i64 (p.electP r).2] e w' :=
  (elect_anyF p r vi vk vr us w h hs).mono fun _ _ h => h.res

end Go.Proofs.Ytkolelpdedmkeaa
