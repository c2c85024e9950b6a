/-
  The walk of part.Fetch.
-/
import Derived.Test.YtkolelpdedmkeaaAfet
import Derived.Test.YtkolelpdedmkeaaPresF
import Derived.Test.YtkolelpdedmkeaaPst
import Derived.Test.YtkolelpdedmkeaaPraiseF
import Derived.Test.YtkolelpdedmkeaaAseg
import Derived.Deep.RegionWith
import Derived.Deep.RegionHeld3
import Derived.Deep.DeepCutAuto
namespace Go.Proofs.Ytkolelpdedmkeaa
open Go.RowKit
set_option linter.unusedVariables false
set_option linter.unusedSimpArgs false

set_option maxRecDepth 100000 in
set_option maxHeartbeats 4000000 in
theorem fetch_anyF (p : Prt) (r : Int) (vi vk vr : Value) (us : Nat → Value) (w : World) (h : RdP w p vi vk vr us) (hs : p.small) :
    Calls Try.prog 35 #[.agg #[.int .i64 p.ep, .int .i64 p.ld, vi, vk, vr, .int .i64 p.fw, .int .i64 p.bs], .int .i64 r] w fun e w' => ResF w (p.fetchP r).1 [.int .i64 (p.fetchP r).2.1, .int .i64 (p.fetchP r).2.2] e w' := by
  have HRW : Hid (RdP w p vi vk vr us) := h
  have HS : Hid p.small := hs
  obtain ⟨ai, ci, ak, ck, ar, cr, rfl, rfl, rfl, l1, l2, l3⟩ := h.lens
  clear h hs
  go_enter Try.func35, Try.ntmps35
  go_wp2_with fail
  have B0 : Below w.heap.size w ((w.alloc (.cells #[.int .i64 p.ep, .int .i64 p.ld, .slice ai p.isr.length ci, .slice ak p.kn.length ck, .slice ar p.rs.length cr, .int .i64 p.fw, .int .i64 p.bs] 26)).alloc (.cells #[.int .i64 0, .int .i64 0, .slice none 0 0, .slice none 0 0, .slice none 0 0, .int .i64 0, .int .i64 0] 26)) := bstep (bbox _ _) (bbox _ _)
  have P0 : PB ((w.alloc (.cells #[.int .i64 p.ep, .int .i64 p.ld, .slice ai p.isr.length ci, .slice ak p.kn.length ck, .slice ar p.rs.length cr, .int .i64 p.fw, .int .i64 p.bs] 26)).alloc (.cells #[.int .i64 0, .int .i64 0, .slice none 0 0, .slice none 0 0, .slice none 0 0, .int .i64 0, .int .i64 0] 26)) w.heap.size p _ _ _ := (pb_new w p (.slice ai p.isr.length ci) (.slice ak p.kn.length ck) (.slice ar p.rs.length cr) 26 w.heap.size rfl).below (C := w.heap.size + 1) (by omega) ((Below.refl _ _).alloc (by simp) (.cells #[.int .i64 0, .int .i64 0, .slice none 0 0, .slice none 0 0, .slice none 0 0, .int .i64 0, .int .i64 0] 26))
  have Z0 : PB ((w.alloc (.cells #[.int .i64 p.ep, .int .i64 p.ld, .slice ai p.isr.length ci, .slice ak p.kn.length ck, .slice ar p.rs.length cr, .int .i64 p.fw, .int .i64 p.bs] 26)).alloc (.cells #[.int .i64 0, .int .i64 0, .slice none 0 0, .slice none 0 0, .slice none 0 0, .int .i64 0, .int .i64 0] 26)) (w.heap.size + 1) Prt.zero nilV nilV nilV := pb_new _ Prt.zero nilV nilV nilV 26 (w.heap.size + 1) (by simp)
  generalize (w.alloc (.cells #[.int .i64 p.ep, .int .i64 p.ld, .slice ai p.isr.length ci, .slice ak p.kn.length ck, .slice ar p.rs.length cr, .int .i64 p.fw, .int .i64 p.bs] 26)).alloc (.cells #[.int .i64 0, .int .i64 0, .slice none 0 0, .slice none 0 0, .slice none 0 0, .int .i64 0, .int .i64 0] 26) = W0 at *
  refine (checkFollower_any p r _ _ _ us _ (RdP.below HRW.out (Nat.le_refl _) B0) HS.out).mono ?_
  rintro e w1 ⟨rfl, hb⟩
  have HB1 : Hid (Below w.heap.size w w1) := B0.trans (hb.mono B0.size)
  have HP1 : Hid (PB w1 w.heap.size p (.slice ai p.isr.length ci) (.slice ak p.kn.length ck) (.slice ar p.rs.length cr)) := P0.below P0.1 hb
  have HZ1 : Hid (PB w1 (w.heap.size + 1) Prt.zero nilV nilV nilV) := Z0.below Z0.1 hb
  have HR1 : Hid (RdP w1 p (.slice ai p.isr.length ci) (.slice ak p.kn.length ck) (.slice ar p.rs.length cr) us) := RdP.below HRW.out (Nat.le_refl _) HB1.out
  clear hb B0 P0 Z0
  obtain ⟨s1, ⟨b0, b1, b2, b3, b4, b5, b6⟩, f1⟩ := HP1.out
  obtain ⟨z1, ⟨e0, e1, e2, e3, e4, e5, e6⟩, g1⟩ := HZ1.out
  by_cases c0 : p.ofl r = 0
  rotate_left
  · have d0 : (p.ofl r != 0) = true := by simp [c0]
    have HE : Hid (p.fetchP r = (Prt.zero, 0, p.ofl r)) := show _ = _ from fetch_ofl c0
    clear c0
    go_wp2
    exact bodyPost_ret (v := .tuple #[.agg #[.int .i64 0, .int .i64 0, nilV, nilV, nilV, .int .i64 0, .int .i64 0], .int .i64 0, .int .i64 (p.ofl r)]) (by simp [results, Try.results35, go_sem, e0, e1, e2, e3, e4, e5, e6]) rfl (by rw [HE.out]; exact resF_zero rfl HB1.out (by omega))
  obtain ⟨m, r0, r1, hld0, hldr⟩ := ofl_zero c0
  rw [c0]
  have H0 : Hid (p.ofl r = 0) := c0
  clear c0
  obtain ⟨n, rfl⟩ := Int.eq_ofNat_of_zero_le r0
  have hn : n < p.rs.length := by omega
  have HM : Hid (May p) := m
  have hni : n < p.isr.length := by rw [m.li]; exact hn
  have hnk : n < p.kn.length := by rw [m.lk]; exact hn
  have hn' : (n : Int) < p.rs.length := by omega
  have hni' : (n : Int) < p.isr.length := by omega
  have hnk' : (n : Int) < p.kn.length := by omega
  obtain ⟨g, off, rfl, -, q0, q1, q2, q3, q4⟩ := HR1.out.2.2.cells n hn
  obtain ⟨hgi, hoi, rfl, m0⟩ := RdP.isrAt HR1.out.1 n hni
  obtain ⟨hgk, hok, rfl, m1⟩ := RdP.knAt HR1.out.2.1 n hnk
  have HQ0 : Hid _ := q0
  clear q0 m r0 r1
  have HLD : Hid (0 ≤ p.ld ∧ p.ld < p.rs.length) := ⟨hld0, by have := HM.out.ld; omega⟩
  have hrd : n ≠ p.ld.toNat := by omega
  clear hld0 hldr
  have hd : p.ld.toNat < p.rs.length := by have := HLD.out; omega
  have hd0 : 0 ≤ p.ld := HLD.out.1
  have hd1 : p.ld < p.rs.length := HLD.out.2
  have HL0 : Hid (lft (p.at n).l (p.at n).y = 0) := show _ = _ from (HM.out.ok n hn).1
  have HLL : Hid (lft (p.at p.ld.toNat).l (p.at p.ld.toNat).y = 0) := show _ = _ from (HM.out.ok _ hd).1
  have HLN : Hid ((p.at n).l.length ≤ 140737488355328) := show _ ≤ _ by have := may_len HM.out hn; omega
  have HBY : Hid (Bytes (p.at n).l) := HQ0.out.1
  clear HQ0
  cases hbu : (p.at n).up with
  | false =>
    rw [hbu] at q1
    have HE : Hid (p.fetchP n = (Prt.zero, 0, 7)) := show _ = _ from fetch_down H0.out hbu
    go_wp2
    exact bodyPost_ret (v := .tuple #[.agg #[.int .i64 0, .int .i64 0, nilV, nilV, nilV, .int .i64 0, .int .i64 0], .int .i64 0, .int .i64 7]) (by simp [results, Try.results35, go_sem, e0, e1, e2, e3, e4, e5, e6]) rfl (by rw [HE.out]; exact resF_zero rfl HB1.out (by omega))
  | true =>
    rw [hbu] at q1
    have HUP : Hid ((p.at n).up = true) := show _ = _ from hbu
    clear hbu
    go_wp2_with fail
    refine (copy_any p _ _ _ us _ HR1.out (may_fits HM.out)).mono ?_
    rintro e w2 ⟨xi, xk, xr, us', rfl, hfr, hb⟩
    obtain ⟨gi, gk, gr, di, dk, dr, rfl, rfl, rfl, ho⟩ := hfr.own (by omega) (by omega) (by omega)
    have HB2 : Hid (Below w.heap.size w w2) := HB1.out.trans (hb.mono HB1.out.size)
    have HP2 : Hid (PB w2 w.heap.size p _ _ _) := PB.below HP1.out HP1.out.1 hb
    have HZ2 : Hid (PB w2 (w.heap.size + 1) Prt.zero nilV nilV nilV) := PB.below HZ1.out HZ1.out.1 hb
    have HO3 : Hid (OwnP w1.heap.size (put7 w2 w.heap.size p (.slice (some ⟨gi, 0, none⟩) p.isr.length di) (.slice (some ⟨gk, 0, none⟩) p.kn.length dk) (.slice (some ⟨gr, 0, none⟩) p.rs.length dr)) p gi gk gr di dk dr us') := OwnP.put ho HP2.out.2.2 HP1.out.1 p _ _ _
    have HB3 : Hid (Below w.heap.size w (put7 w2 w.heap.size p (.slice (some ⟨gi, 0, none⟩) p.isr.length di) (.slice (some ⟨gk, 0, none⟩) p.kn.length dk) (.slice (some ⟨gr, 0, none⟩) p.rs.length dr))) := below_put HB2.out (Nat.le_refl _) _ _ _ _
    have HP3 : Hid (PB (put7 w2 w.heap.size p (.slice (some ⟨gi, 0, none⟩) p.isr.length di) (.slice (some ⟨gk, 0, none⟩) p.kn.length dk) (.slice (some ⟨gr, 0, none⟩) p.rs.length dr)) w.heap.size p (.slice (some ⟨gi, 0, none⟩) p.isr.length di) (.slice (some ⟨gk, 0, none⟩) p.kn.length dk) (.slice (some ⟨gr, 0, none⟩) p.rs.length dr)) := PB.put HP2.out _ _ _ _
    have HZ3 : Hid (PB (put7 w2 w.heap.size p (.slice (some ⟨gi, 0, none⟩) p.isr.length di) (.slice (some ⟨gk, 0, none⟩) p.kn.length dk) (.slice (some ⟨gr, 0, none⟩) p.rs.length dr)) (w.heap.size + 1) Prt.zero nilV nilV nilV) := PB.putFar HZ2.out (by omega) _ _ _ _
    have HS3 : Hid (w1.heap.size ≤ w2.heap.size) := hb.size
    have HT3 : Hid (St w1.heap.size w.heap.size (w.heap.size + 1) w (p) gi gk gr di dk dr p.isr.length p.kn.length p.rs.length us' (put7 w2 w.heap.size p (.slice (some ⟨gi, 0, none⟩) p.isr.length di) (.slice (some ⟨gk, 0, none⟩) p.kn.length dk) (.slice (some ⟨gr, 0, none⟩) p.rs.length dr))) := ⟨HO3.out, HP3.out, HZ3.out, HB3.out, by rw [put7_size]; exact HS3.out, rfl, rfl, rfl, HP1.out.1, HZ1.out.1, by omega, Nat.le_refl _, by omega⟩
    clear s1 b0 b1 b2 b3 b4 b5 b6 f1 z1 e0 e1 e2 e3 e4 e5 e6 g1 q1 q2 q3 q4 m0 m1 hb hfr ho HO3 HB3 HP3 HZ3
    obtain ⟨s1, ⟨b0, b1, b2, b3, b4, b5, b6⟩, f1⟩ := HP2.out
    obtain ⟨z1, ⟨e0, e1, e2, e3, e4, e5, e6⟩, g1⟩ := HZ2.out
    unfold put7 at HT3
    go_wp2_with fail
    clear s1 b0 b1 b2 b3 b4 b5 b6 f1 z1 e0 e1 e2 e3 e4 e5 e6 g1
    generalize ((((((w2.setCell ⟨w.heap.size, 0, none⟩ (.int .i64 p.ep)).setCell ⟨w.heap.size, 1, none⟩ (.int .i64 p.ld)).setCell ⟨w.heap.size, 2, none⟩ (.slice (some ⟨gi, 0, none⟩) p.isr.length di)).setCell ⟨w.heap.size, 3, none⟩ (.slice (some ⟨gk, 0, none⟩) p.kn.length dk)).setCell ⟨w.heap.size, 4, none⟩ (.slice (some ⟨gr, 0, none⟩) p.rs.length dr)).setCell ⟨w.heap.size, 5, none⟩ (.int .i64 p.fw)).setCell ⟨w.heap.size, 6, none⟩ (.int .i64 p.bs) = W3 at *
    refine (entriesOf_at p n p.ep p.ld p.fw p.bs _ _ _ us' _ (HT3.out.o.rd' rfl rfl rfl) hn HL0.out rfl rfl rfl rfl).mono ?_
    rintro e w4 ⟨v4, rfl, ho4, hb4⟩
    have HT4 : Hid (St w1.heap.size w.heap.size (w.heap.size + 1) w (p) gi gk gr di dk dr p.isr.length p.kn.length p.rs.length us' w4) := HT3.out.below hb4
    have HE4 : Hid (RdX w4 v4 (p.at n).es) := ho4.rdX
    clear ho4 hb4 HT3
    obtain ⟨s1, ⟨b0, b1, b2, b3, b4, b5, b6⟩, f1⟩ := HT4.out.p
    obtain ⟨z1, ⟨e0, e1, e2, e3, e4, e5, e6⟩, g1⟩ := HT4.out.r
    obtain ⟨-, i1, i2, i3, i4, i9⟩ := HT4.out.cells n hn
    obtain ⟨i6, i8⟩ := HT4.out.kn n hnk
    obtain ⟨i5, i7⟩ := HT4.out.isr n hni
    obtain ⟨k1, k2, k3, k4, k5, k6, -, -, -⟩ := HT4.out.apart
    have k7 : ¬ gi = w.heap.size := fun h => k1 h.symm
    have k8 : ¬ gk = w.heap.size := fun h => k2 h.symm
    have k9 : ¬ gr = w.heap.size := fun h => k3 h.symm
    have t1 : gi ≠ gk := HT4.out.o.2.ik
    have t2 : gi ≠ gr := HT4.out.o.2.ir
    have t3 : gk ≠ gr := HT4.out.o.2.kr
    have x1 := HT4.out.o.2.si
    have x2 := HT4.out.o.2.sk
    have x3 := HT4.out.o.2.sr
    go_wp2_with fail
    clear s1 b0 b1 b2 b3 b4 b5 b6 f1 z1 e0 e1 e2 e3 e4 e5 e6 g1 i1 i2 i3 i4 i5 i6 i7 i8 i9 k1 k2 k3 k4 k5 k6 k7 k8 k9 t1 t2 t3 x1 x2 x3
    refine (entriesOf_int p p.ld _ _ _ us' _ (HT4.out.o.rd' rfl rfl rfl) hd0 hd1 HLL.out).mono ?_
    rintro e w5 ⟨v5, rfl, ho5, hb5⟩
    have HT5 : Hid (St w1.heap.size w.heap.size (w.heap.size + 1) w (p) gi gk gr di dk dr p.isr.length p.kn.length p.rs.length us' w5) := HT4.out.below hb5
    have HE5 : Hid (RdX w5 v4 (p.at n).es) := RdX.below HE4.out (Nat.le_refl _) hb5
    have HV5 : Hid (RdX w5 v5 (p.at p.ld.toNat).es) := ho5.rdX
    have HVB : Hid (∀ k, v5.ownBlock = some k → k < w5.heap.size ∧ k ≠ gk ∧ k ≠ gr) := fun k hk => by
      have h1 := OwnE.blk ho5 k hk
      have h2 := HT4.out.o.2.sk
      have h3 := HT4.out.o.2.sr
      exact ⟨h1.2, by omega, by omega⟩
    have HVS : Hid (v5 = .slice none 0 0 ∧ (p.at p.ld.toNat).es.length = 0 ∨ ∃ g5 c5, v5 = .slice (some ⟨g5, 0, none⟩) (p.at p.ld.toNat).es.length c5 ∧ (p.at p.ld.toNat).es.length ≤ c5 ∧ c5 ≤ maxLen) := own_shape ho5
    clear ho5 hb5 HT4 HE4
    obtain ⟨s1, ⟨b0, b1, b2, b3, b4, b5, b6⟩, f1⟩ := HT5.out.p
    obtain ⟨z1, ⟨e0, e1, e2, e3, e4, e5, e6⟩, g1⟩ := HT5.out.r
    obtain ⟨-, i1, i2, i3, i4, i9⟩ := HT5.out.cells n hn
    obtain ⟨i6, i8⟩ := HT5.out.kn n hnk
    obtain ⟨i5, i7⟩ := HT5.out.isr n hni
    obtain ⟨k1, k2, k3, k4, k5, k6, -, -, -⟩ := HT5.out.apart
    have k7 : ¬ gi = w.heap.size := fun h => k1 h.symm
    have k8 : ¬ gk = w.heap.size := fun h => k2 h.symm
    have k9 : ¬ gr = w.heap.size := fun h => k3 h.symm
    have t1 : gi ≠ gk := HT5.out.o.2.ik
    have t2 : gi ≠ gr := HT5.out.o.2.ir
    have t3 : gk ≠ gr := HT5.out.o.2.kr
    have x1 := HT5.out.o.2.si
    have x2 := HT5.out.o.2.sk
    have x3 := HT5.out.o.2.sr
    go_wp2_with fail
    clear s1 b0 b1 b2 b3 b4 b5 b6 f1 z1 e0 e1 e2 e3 e4 e5 e6 g1 i1 i2 i3 i4 i5 i6 i7 i8 i9 k1 k2 k3 k4 k5 k6 k7 k8 k9 t1 t2 t3 x1 x2 x3
    refine (alike_any (p.at n).es (p.at p.ld.toNat).es _ _ _ (by have := may_es HM.out hn; omega) HE5.out HV5.out).mono ?_
    rintro e w6 ⟨rfl, hb6⟩
    have HT6 : Hid (St w1.heap.size w.heap.size (w.heap.size + 1) w (p) gi gk gr di dk dr p.isr.length p.kn.length p.rs.length us' w6) := HT5.out.below hb6
    have HV6 : Hid (RdX w6 v5 (p.at p.ld.toNat).es) := RdX.below HV5.out (Nat.le_refl _) hb6
    have hsz6 : w5.heap.size ≤ w6.heap.size := hb6.size
    clear hb6 HT5 HE5 HV5
    have HCL : Hid (com (p.at n).es (p.at p.ld.toNat).es ≤ (p.at n).es.length ∧ com (p.at n).es (p.at p.ld.toNat).es ≤ (p.at p.ld.toNat).es.length) := show _ ∧ _ from com_le _ _
    obtain ⟨stay, hstay⟩ : ∃ stay, com (p.at n).es (p.at p.ld.toNat).es = stay := ⟨_, rfl⟩
    rw [hstay] at HCL ⊢
    have HSY : Hid (com (p.at n).es (p.at p.ld.toNat).es = stay) := show _ = _ from hstay
    clear hstay
    obtain ⟨safe, hsafe⟩ : ∃ safe, (p.at n).safe = safe := ⟨_, rfl⟩
    rw [hsafe]
    have HSF : Hid ((p.at n).safe = safe) := show _ = _ from hsafe
    clear hsafe
    obtain ⟨s1, ⟨b0, b1, b2, b3, b4, b5, b6⟩, f1⟩ := HT6.out.p
    obtain ⟨z1, ⟨e0, e1, e2, e3, e4, e5, e6⟩, g1⟩ := HT6.out.r
    obtain ⟨-, i1, i2, i3, i4, i9⟩ := HT6.out.cells n hn
    obtain ⟨i6, i8⟩ := HT6.out.kn n hnk
    obtain ⟨i5, i7⟩ := HT6.out.isr n hni
    obtain ⟨k1, k2, k3, k4, k5, k6, -, -, -⟩ := HT6.out.apart
    have k7 : ¬ gi = w.heap.size := fun h => k1 h.symm
    have k8 : ¬ gk = w.heap.size := fun h => k2 h.symm
    have k9 : ¬ gr = w.heap.size := fun h => k3 h.symm
    have t1 : gi ≠ gk := HT6.out.o.2.ik
    have t2 : gi ≠ gr := HT6.out.o.2.ir
    have t3 : gk ≠ gr := HT6.out.o.2.kr
    have x1 := HT6.out.o.2.si
    have x2 := HT6.out.o.2.sk
    have x3 := HT6.out.o.2.sr
    have HX : Hid (∀ x : Int, St w1.heap.size w.heap.size (w.heap.size + 1) w ({ p with kn := p.kn.set n x }) gi gk gr di dk dr p.isr.length p.kn.length p.rs.length us' (w6.setCell ⟨gk, n, none⟩ (.int .i64 x))) := fun x => HT6.out.setKn n hnk x
    have HVX : Hid (∀ x : Int, RdX (w6.setCell ⟨gk, n, none⟩ (.int .i64 x)) v5 (p.at p.ld.toNat).es) := fun x => RdX.keep HV6.out (fun b o hb => cell_far (HVB.out b hb).2.1 _ _ _)
    have HSZ : Hid (w5.heap.size ≤ w6.heap.size) := hsz6
    go_upto_region 10 with fail
    go_cut [] (fun W => St w1.heap.size w.heap.size (w.heap.size + 1) w ((p.know n stay)) gi gk gr di dk dr p.isr.length p.kn.length p.rs.length us' W ∧ RdX W v5 (p.at p.ld.toNat).es ∧ w5.heap.size ≤ W.heap.size)
    case first =>
      clear hsz6
      go_wp2_with fail
      all_goals
        go_meet
      all_goals
        refine ⟨?_, HVX.out _, by simpa using HSZ.out⟩
      all_goals
        first
        | (rw [know_lo (by rw [HSF.out]; omega)]; exact HX.out _)
        | (rw [know_hi (by rw [HSF.out]; omega), HSF.out]; exact HX.out _)
    case rest =>
      have HT7 : Hid (St w1.heap.size w.heap.size (w.heap.size + 1) w ((p.know n stay)) gi gk gr di dk dr p.isr.length p.kn.length p.rs.length us' wc) := hcut.1
      have HV7 : Hid (RdX wc v5 (p.at p.ld.toNat).es) := hcut.2.1
      have HS7 : Hid (w5.heap.size ≤ wc.heap.size) := hcut.2.2
      clear s1 b0 b1 b2 b3 b4 b5 b6 f1 z1 e0 e1 e2 e3 e4 e5 e6 g1 i1 i2 i3 i4 i5 i6 i7 i8 i9 k1 k2 k3 k4 k5 k6 k7 k8 k9 t1 t2 t3 x1 x2 x3
      clear hcut HX HT6 HVX HSZ hsz6 HV6
      obtain ⟨s1, ⟨b0, b1, b2, b3, b4, b5, b6⟩, f1⟩ := HT7.out.p
      go_at_K
      go_wp2_with fail
      refine (raiseHigh_atF (p.know n stay) w1.heap.size gi gk gr di dk dr p.isr.length p.kn.length p.rs.length (p.know n stay).ep (p.know n stay).ld (p.know n stay).fw (p.know n stay).bs _ _ HT7.out.o HT7.out.s hd0 hd1 HM.out.li HM.out.lk HLL.out (by have := HM.out.n5; omega) HT7.out.hli HT7.out.hlk HT7.out.hlr rfl rfl rfl rfl).mono ?_
      rintro e w8 ⟨rfl, ho8, hb8, hf8⟩
      have ht8 : St w1.heap.size w.heap.size (w.heap.size + 1) w ((p.know n stay).raised) gi gk gr di dk dr p.isr.length p.kn.length p.rs.length us' w8 := St.other HT7.out hb8 ho8 (by rw [(raised_len _).1]; exact HT7.out.hli) (by rw [(raised_len _).2.1]; exact HT7.out.hlk) (by rw [(raised_len _).2.2.1]; exact HT7.out.hlr) (raised_len _).2.2.2.1 (raised_len _).2.2.2.2.1 (raised_len _).2.2.2.2.2.1 (raised_len _).2.2.2.2.2.2
      have HV8 : Hid (RdX w8 v5 (p.at p.ld.toNat).es) := RdX.keep HV7.out (fun b o hb => hf8 b o (Nat.lt_of_lt_of_le (HVB.out b hb).1 HS7.out) (HVB.out b hb).2.2)
      obtain ⟨q, hq⟩ : ∃ q, (p.know n stay).raised = q := ⟨_, rfl⟩
      rw [hq] at ht8
      have HT8 : Hid (St w1.heap.size w.heap.size (w.heap.size + 1) w (q) gi gk gr di dk dr p.isr.length p.kn.length p.rs.length us' w8) := ht8
      have HQ : Hid ((p.know n stay).raised = q) := hq
      have HQN : Hid (q.at n = p.at n) := show _ = _ by rw [← hq]; exact raised_kn_at (p.know n stay) n hd0 hrd
      have HQI : Hid (q.ep = p.ep ∧ q.ld = p.ld ∧ q.fw = p.fw ∧ q.bs = p.bs) := show _ ∧ _ ∧ _ ∧ _ by rw [← hq]; exact ⟨(raised_len _).2.2.2.1, (raised_len _).2.2.2.2.1, (raised_len _).2.2.2.2.2.1, (raised_len _).2.2.2.2.2.2⟩
      have HU8 : Hid (Rd w8 (us' n) (p.at n).l) := show Rd _ _ _ by have := (HT8.out.cells n hn).1; rw [HQN.out] at this; exact this
      obtain ⟨L, hL⟩ : ∃ L, (p.at n).l.take (endOf (p.at n).es stay) = L := ⟨_, rfl⟩
      obtain ⟨Y, hY⟩ : ∃ Y, cutS (p.at n).l (p.at n).y stay = Y := ⟨_, rfl⟩
      have HL : Hid ((p.at n).l.take (endOf (p.at n).es stay) = L) := hL
      have HY : Hid (cutS (p.at n).l (p.at n).y stay = Y) := hY
      have HLL2 : Hid (L.length ≤ 140737488355328) := show _ ≤ _ by rw [← hL, List.length_take]; have := HLN.out; omega
      clear ht8 hq hL hY ho8 hb8 hf8 HT7 HV7 s1 b0 b1 b2 b3 b4 b5 b6 f1
      obtain ⟨s1, ⟨b0, b1, b2, b3, b4, b5, b6⟩, f1⟩ := HT8.out.p
      obtain ⟨z1, ⟨e0, e1, e2, e3, e4, e5, e6⟩, g1⟩ := HT8.out.r
      obtain ⟨-, i1, i2, i3, i4, i9⟩ := HT8.out.cells n hn
      obtain ⟨i6, i8⟩ := HT8.out.kn n hnk
      obtain ⟨i5, i7⟩ := HT8.out.isr n hni
      obtain ⟨k1, k2, k3, k4, k5, k6, -, -, -⟩ := HT8.out.apart
      have k7 : ¬ gi = w.heap.size := fun h => k1 h.symm
      have k8 : ¬ gk = w.heap.size := fun h => k2 h.symm
      have k9 : ¬ gr = w.heap.size := fun h => k3 h.symm
      have t1 : gi ≠ gk := HT8.out.o.2.ik
      have t2 : gi ≠ gr := HT8.out.o.2.ir
      have t3 : gk ≠ gr := HT8.out.o.2.kr
      have x1 := HT8.out.o.2.si
      have x2 := HT8.out.o.2.sk
      have x3 := HT8.out.o.2.sr
      rw [HQN.out] at i1 i3 i4
      rw [HQI.out.1] at b0
      rw [HQI.out.2.1] at b1
      rw [HQI.out.2.2.1] at b5
      rw [HQI.out.2.2.2] at b6
      go_wp2_with fail
      clear s1 b0 b1 b2 b3 b4 b5 b6 f1 z1 e0 e1 e2 e3 e4 e5 e6 g1 i1 i2 i3 i4 i5 i6 i7 i8 i9 k1 k2 k3 k4 k5 k6 k7 k8 k9 t1 t2 t3 x1 x2 x3
      refine (segCut_ok (p.at n).l _ (p.at n).y stay _ HLN.out HU8.out HL0.out HCL.out.1 L Y HL.out HY.out).mono ?_
      rintro e w9 ⟨av, cv, rfl, ho9, hb9⟩
      have HT9 : Hid (St w1.heap.size w.heap.size (w.heap.size + 1) w (q) gi gk gr di dk dr p.isr.length p.kn.length p.rs.length us' w9) := HT8.out.below hb9
      have HV9 : Hid (RdX w9 v5 (p.at p.ld.toNat).es) := RdX.below HV8.out (Nat.le_refl _) hb9
      have HO9 : Hid (Own w8.heap.size (.slice av L.length cv) L w9) := ho9
      have HS9 : Hid (w8.heap.size ≤ w9.heap.size) := hb9.size
      clear ho9 hb9 HV8 HU8
      go_upto_region 13 with fail
      have HLB : Hid (LBox (w9.alloc (.cells #[.slice av L.length cv, .int .i64 Y] 61)) w9.heap.size (.slice av L.length cv) Y) := lbox_new _ _ _ _
      have HB10 : Hid (Below w9.heap.size w9 (w9.alloc (.cells #[.slice av L.length cv, .int .i64 Y] 61))) := bbox _ _
      generalize w9.alloc (.cells #[.slice av L.length cv, .int .i64 Y] 61) = w10 at *
      obtain ⟨came, hc⟩ : ∃ came, cameOf L Y ((p.at p.ld.toNat).es.drop stay) = came := ⟨_, rfl⟩
      obtain ⟨NL, hNL⟩ : ∃ NL, longOf L Y ((p.at p.ld.toNat).es.drop stay) = NL := ⟨_, rfl⟩
      have HCA : Hid (cameOf L Y ((p.at p.ld.toNat).es.drop stay) = came) := hc
      have HNL : Hid (longOf L Y ((p.at p.ld.toNat).es.drop stay) = NL) := hNL
      have HC1 : Hid (came ≤ 1) := show _ ≤ _ by rw [← hc]; unfold cameOf; split <;> omega
      have hst : (stay : Int) ≤ (p.at p.ld.toNat).es.length := by have := HCL.out.2; omega
      have hst4 : (stay : Int) ≤ 400 := by have := HCL.out.1; have := may_es HM.out hn; omega
      have HE4 : Hid (((p.at p.ld.toNat).es.length : Int) ≤ 400) := show _ ≤ _ from may_es HM.out hd
      clear hc hNL
      go_cut [15] (fun v15 W => v15 = .int .i64 came ∧ ∃ av2 cv2, LBox W w9.heap.size (.slice av2 NL.length cv2) Y ∧ Rd W (.slice av2 NL.length cv2) NL ∧ (∀ k, (Value.slice av2 NL.length cv2).ownBlock = some k → w8.heap.size ≤ k ∧ k < W.heap.size) ∧ Below w9.heap.size w9 W)
      case first =>
        obtain ⟨lb0, lb1, lb2, lb3⟩ := HLB.out
        have HDR : Hid (∀ v, RdX w10 v ((p.at p.ld.toNat).es.drop stay) → ∀ W, Below w10.heap.size w10 W → Calls Try.prog 90 #[.agg #[.slice av L.length cv, .int .i64 Y], v] W fun e w' => ∃ av2 cv2, e = .returned (.tuple #[.agg #[(.slice av2 NL.length cv2), .int .i64 Y], .int .i64 came]) ∧ Own w8.heap.size (.slice av2 NL.length cv2) NL w' ∧ Below W.heap.size W w' ∧ ∀ k, (Value.slice av2 NL.length cv2).ownBlock = some k → k ≠ w9.heap.size) := fun v hv W hW => by
          refine (appendNext_one L av cv Y _ v W w8.heap.size (by have h1 := HS9.out; have h2 := HB10.out.size; have h3 := hW.size; omega) HLL2.out (Own.below (Own.below HO9.out (Nat.le_refl _) HB10.out) (Nat.le_refl _) hW) (RdX.below hv (Nat.le_refl _) hW) came NL HCA.out HNL.out).mono ?_
          rintro e w' ⟨a2, c2, h1, h2, h3, h4⟩
          refine ⟨a2, c2, h1, h2, h3, fun k hk => ?_⟩
          have h5 := HLB.out.1
          have h6 := hW.size
          rcases h4 k hk with h | h
          · have := (HO9.out.blk k h).2; omega
          · omega
        rcases HVS.out with ⟨rfl, h0⟩ | ⟨g5, c5, rfl, hc1, hc2⟩
        · have hs0 : stay = 0 := by omega
          subst hs0
          have HX5 : Hid (RdX w10 (.slice none 0 0) ((p.at p.ld.toNat).es.drop 0)) := ⟨none, 0, by simp [h0], by simp [h0], by decide, fun _ => rfl, fun h => by simp [h0] at h⟩
          go_region_with (go_at_call 90; refine (HDR.out _ HX5.out _ (by repeat (first | exact Below.refl _ _ | refine Below.drew ?_))).mono ?_; rintro e w11 ⟨av2, cv2, rfl, ho11, hb11, hk11⟩; have hB11 : Below w10.heap.size w10 w11 := Below.trans (by repeat (first | exact Below.refl _ _ | refine Below.drew ?_)) (hb11.mono (by simp)); obtain ⟨n1, m1, m2, m3⟩ := LBox.below HLB.out hB11)
          all_goals
            have HXB : Hid (Below w9.heap.size w9 w11) := Below.trans HB10.out (hB11.mono HB10.out.size)
            have HKB : Hid (∀ k, (Value.slice av2 NL.length cv2).ownBlock = some k → w8.heap.size ≤ k ∧ k < w11.heap.size ∧ k ≠ w9.heap.size) := fun k hk => ⟨(ho11.blk k hk).1, (ho11.blk k hk).2, hk11 k hk⟩
            have HRD : Hid _ := ho11.rd
            clear hB11 hb11 ho11 hk11
            go_wp2_with fail
            go_meet
          all_goals
            exact ⟨rfl, av2, cv2, ⟨by simpa using n1, by simp [go_sem, m1], by simp [go_sem, m1, m2], fun o => by simp [go_sem, m3]⟩, rd_block (rd_block HRD.out (fun e => (HKB.out _ e).2.2 rfl) _ _) (fun e => (HKB.out _ e).2.2 rfl) _ _, fun k hk => ⟨(HKB.out k hk).1, by simpa using (HKB.out k hk).2.1⟩, (HXB.out.setCell (p := ⟨w9.heap.size, 0, none⟩) (Nat.le_refl _) _).setCell (p := ⟨w9.heap.size, 1, none⟩) (Nat.le_refl _) _⟩
        · have hc1' : ((p.at p.ld.toNat).es.length : Int) ≤ c5 := by omega
          have HX0 : Hid (RdX w10 (.slice (if c5 = stay then some ⟨g5, 0, none⟩ else some ⟨g5, stay * 7, none⟩) ((p.at p.ld.toNat).es.length - stay) (c5 - stay)) ((p.at p.ld.toNat).es.drop stay)) := dropX (RdX.below HV9.out (Nat.le_refl _) HB10.out) stay HCL.out.2
          by_cases hcs : c5 = stay
          · have HX5 : Hid (RdX w10 (.slice (some ⟨g5, 0, none⟩) 0 0) ((p.at p.ld.toNat).es.drop stay)) := show RdX _ _ _ by have := HX0.out; rw [if_pos hcs, hcs, Nat.sub_self, show (p.at p.ld.toNat).es.length - stay = 0 by omega] at this; exact this
            clear HX0
            subst hcs
            go_region_with (go_at_call 90; refine (HDR.out _ HX5.out _ (by repeat (first | exact Below.refl _ _ | refine Below.drew ?_))).mono ?_; rintro e w11 ⟨av2, cv2, rfl, ho11, hb11, hk11⟩; have hB11 : Below w10.heap.size w10 w11 := Below.trans (by repeat (first | exact Below.refl _ _ | refine Below.drew ?_)) (hb11.mono (by simp)); obtain ⟨n1, m1, m2, m3⟩ := LBox.below HLB.out hB11)
            all_goals
              have HXB : Hid (Below w9.heap.size w9 w11) := Below.trans HB10.out (hB11.mono HB10.out.size)
              have HKB : Hid (∀ k, (Value.slice av2 NL.length cv2).ownBlock = some k → w8.heap.size ≤ k ∧ k < w11.heap.size ∧ k ≠ w9.heap.size) := fun k hk => ⟨(ho11.blk k hk).1, (ho11.blk k hk).2, hk11 k hk⟩
              have HRD : Hid _ := ho11.rd
              clear hB11 hb11 ho11 hk11
              go_wp2_with fail
              go_meet
            all_goals
              exact ⟨rfl, av2, cv2, ⟨by simpa using n1, by simp [go_sem, m1], by simp [go_sem, m1, m2], fun o => by simp [go_sem, m3]⟩, rd_block (rd_block HRD.out (fun e => (HKB.out _ e).2.2 rfl) _ _) (fun e => (HKB.out _ e).2.2 rfl) _ _, fun k hk => ⟨(HKB.out k hk).1, by simpa using (HKB.out k hk).2.1⟩, (HXB.out.setCell (p := ⟨w9.heap.size, 0, none⟩) (Nat.le_refl _) _).setCell (p := ⟨w9.heap.size, 1, none⟩) (Nat.le_refl _) _⟩
          · have HX5 : Hid (RdX w10 (.slice (some ⟨g5, stay * 7, none⟩) ((p.at p.ld.toNat).es.length - stay) (c5 - stay)) ((p.at p.ld.toNat).es.drop stay)) := show RdX _ _ _ by have := HX0.out; rwa [if_neg hcs] at this
            go_region_with (go_at_call 90; refine (HDR.out _ HX5.out _ (by repeat (first | exact Below.refl _ _ | refine Below.drew ?_))).mono ?_; rintro e w11 ⟨av2, cv2, rfl, ho11, hb11, hk11⟩; have hB11 : Below w10.heap.size w10 w11 := Below.trans (by repeat (first | exact Below.refl _ _ | refine Below.drew ?_)) (hb11.mono (by simp)); obtain ⟨n1, m1, m2, m3⟩ := LBox.below HLB.out hB11)
            all_goals
              have HXB : Hid (Below w9.heap.size w9 w11) := Below.trans HB10.out (hB11.mono HB10.out.size)
              have HKB : Hid (∀ k, (Value.slice av2 NL.length cv2).ownBlock = some k → w8.heap.size ≤ k ∧ k < w11.heap.size ∧ k ≠ w9.heap.size) := fun k hk => ⟨(ho11.blk k hk).1, (ho11.blk k hk).2, hk11 k hk⟩
              have HRD : Hid _ := ho11.rd
              clear hB11 hb11 ho11 hk11
              go_wp2_with fail
              go_meet
            all_goals
              exact ⟨rfl, av2, cv2, ⟨by simpa using n1, by simp [go_sem, m1], by simp [go_sem, m1, m2], fun o => by simp [go_sem, m3]⟩, rd_block (rd_block HRD.out (fun e => (HKB.out _ e).2.2 rfl) _ _) (fun e => (HKB.out _ e).2.2 rfl) _ _, fun k hk => ⟨(HKB.out k hk).1, by simpa using (HKB.out k hk).2.1⟩, (HXB.out.setCell (p := ⟨w9.heap.size, 0, none⟩) (Nat.le_refl _) _).setCell (p := ⟨w9.heap.size, 1, none⟩) (Nat.le_refl _) _⟩
      case rest =>
        have hv := hcut.1
        subst hv
        obtain ⟨av2, cv2, hlb, hrd, hkb, hb⟩ := hcut.2
        have HT10 : Hid (St w1.heap.size w.heap.size (w.heap.size + 1) w (q) gi gk gr di dk dr p.isr.length p.kn.length p.rs.length us' wc) := HT9.out.below hb
        have HLB2 : Hid (LBox wc w9.heap.size (.slice av2 NL.length cv2) Y) := hlb
        have HRD2 : Hid (Rd wc (.slice av2 NL.length cv2) NL) := hrd
        have HKB2 : Hid (∀ k, (Value.slice av2 NL.length cv2).ownBlock = some k → w8.heap.size ≤ k ∧ k < wc.heap.size) := hkb
        obtain ⟨hA, hhA⟩ : ∃ hA, (p.at n).h = hA := ⟨_, rfl⟩
        obtain ⟨hB, hhB⟩ : ∃ hB, (q.at p.ld.toNat).h = hB := ⟨_, rfl⟩
        have HHA : Hid ((p.at n).h = hA) := hhA
        have HHB : Hid ((q.at p.ld.toNat).h = hB) := hhB
        clear hcut hlb hrd hkb hb HT9 HO9 HV9 HLB HB10 HVS hst
        obtain ⟨s1, ⟨b0, b1, b2, b3, b4, b5, b6⟩, f1⟩ := HT10.out.p
        obtain ⟨z1, ⟨e0, e1, e2, e3, e4, e5, e6⟩, g1⟩ := HT10.out.r
        obtain ⟨-, i1, i2, i3, i4, i9⟩ := HT10.out.cells n hn
        obtain ⟨i6, i8⟩ := HT10.out.kn n hnk
        obtain ⟨i5, i7⟩ := HT10.out.isr n hni
        obtain ⟨k1, k2, k3, k4, k5, k6, -, -, -⟩ := HT10.out.apart
        have k7 : ¬ gi = w.heap.size := fun h => k1 h.symm
        have k8 : ¬ gk = w.heap.size := fun h => k2 h.symm
        have k9 : ¬ gr = w.heap.size := fun h => k3 h.symm
        have t1 : gi ≠ gk := HT10.out.o.2.ik
        have t2 : gi ≠ gr := HT10.out.o.2.ir
        have t3 : gk ≠ gr := HT10.out.o.2.kr
        have x1 := HT10.out.o.2.si
        have x2 := HT10.out.o.2.sk
        have x3 := HT10.out.o.2.sr
        obtain ⟨-, j1, j2, j3, j4, -⟩ := HT10.out.cells p.ld.toNat hd
        rw [HQN.out] at i1 i3 i4
        rw [hhA] at i4
        rw [hhB] at j4
        rw [HQI.out.1] at b0
        rw [HQI.out.2.1] at b1
        rw [HQI.out.2.2.1] at b5
        rw [HQI.out.2.2.2] at b6
        clear hhA hhB
        rename World => W10
        go_at_K
        go_upto_region 14 with fail
        go_cut [16] (fun v16 W => v16 = .int .i64 (max hA hB) ∧ Below W10.heap.size W10 W)
        case first =>
          go_region
          all_goals
            go_wp2_with fail
          all_goals
            go_meet
          all_goals
            exact ⟨congrArg (Value.int .i64) (by omega), by repeat (first | exact Below.refl _ _ | refine Below.drew ?_)⟩
        case rest =>
          have hv := hcut.1
          subst hv
          have hb := hcut.2
          clear s1 b0 b1 b2 b3 b4 b5 b6 f1 z1 e0 e1 e2 e3 e4 e5 e6 g1 i1 i2 i3 i4 i5 i6 i7 i8 i9 k1 k2 k3 k4 k5 k6 k7 k8 k9 t1 t2 t3 x1 x2 x3
          clear j1 j2 j3 j4
          have HT11 : Hid (St w1.heap.size w.heap.size (w.heap.size + 1) w (q) gi gk gr di dk dr p.isr.length p.kn.length p.rs.length us' wc) := HT10.out.below hb
          have HRD3 : Hid (Rd wc (.slice av2 NL.length cv2) NL) := Rd.below HRD2.out (Nat.le_refl _) hb
          have HX : Hid (∀ x : Int, St w1.heap.size w.heap.size (w.heap.size + 1) w (((q.setR n (fun x => { x with l := NL })).setR n (fun x => { x with y := Y })).setR n (fun z => { z with h := x })) gi gk gr di dk dr p.isr.length p.kn.length p.rs.length (fun j => if j = n then (.slice av2 NL.length cv2) else us' j) (((wc.setCell ⟨gr, n * 4 + 1, none⟩ (.slice av2 NL.length cv2)).setCell ⟨gr, n * 4 + 2, none⟩ (.int .i64 Y)).setCell ⟨gr, n * 4 + 3, none⟩ (.int .i64 x))) := fun x =>
            ((HT11.out.setB n hn (.slice av2 NL.length cv2) NL HRD3.out (fun k hk => by
              have h1 := HKB2.out k hk
              have h2 := HT8.out.o.2.si
              have h3 := HT8.out.o.2.sk
              have h4 := HT8.out.o.2.sr
              have h5 := HT8.out.s
              have h6 := hb.size
              exact ⟨by omega, by omega, by omega, by omega, by omega⟩)).setY n hn Y).setH n hn x
          have HEH : Hid (∀ x : Int, min (max hA hB) (stay + came : Int) = x → p.fetchP n = (((q.setR n (fun x => { x with l := NL })).setR n (fun x => { x with y := Y })).setR n (fun z => { z with h := x }), (came : Int), 0)) := fun x hx =>
            fetch_form HBY.out HL0.out hn H0.out HUP.out stay HSY.out q HQ.out L HL.out Y HY.out came HCA.out NL HNL.out x (by rw [← hx, ← HHA.out, ← HHB.out, HQN.out])
          obtain ⟨n1, v0, v1, v2⟩ := LBox.below HLB2.out hb
          have hc1 : (came : Int) ≤ 1 := by have := HC1.out; omega
          clear hb hcut HT10 HLB2 HRD2
          obtain ⟨s1, ⟨b0, b1, b2, b3, b4, b5, b6⟩, f1⟩ := HT11.out.p
          obtain ⟨z1, ⟨e0, e1, e2, e3, e4, e5, e6⟩, g1⟩ := HT11.out.r
          obtain ⟨-, i1, i2, i3, i4, i9⟩ := HT11.out.cells n hn
          obtain ⟨i6, i8⟩ := HT11.out.kn n hnk
          obtain ⟨i5, i7⟩ := HT11.out.isr n hni
          obtain ⟨k1, k2, k3, k4, k5, k6, -, -, -⟩ := HT11.out.apart
          have k7 : ¬ gi = w.heap.size := fun h => k1 h.symm
          have k8 : ¬ gk = w.heap.size := fun h => k2 h.symm
          have k9 : ¬ gr = w.heap.size := fun h => k3 h.symm
          have t1 : gi ≠ gk := HT11.out.o.2.ik
          have t2 : gi ≠ gr := HT11.out.o.2.ir
          have t3 : gk ≠ gr := HT11.out.o.2.kr
          have x1 := HT11.out.o.2.si
          have x2 := HT11.out.o.2.sk
          have x3 := HT11.out.o.2.sr
          rw [HQN.out] at i1 i3 i4
          rw [HQI.out.1] at b0
          rw [HQI.out.2.1] at b1
          rw [HQI.out.2.2.1] at b5
          rw [HQI.out.2.2.2] at b6
          rw [HHA.out] at i4
          go_at_K
          go_wp2
          all_goals
            exact bodyPost_ret (v := .tuple #[.agg #[.int .i64 p.ep, .int .i64 p.ld, (.slice (some ⟨gi, 0, none⟩) p.isr.length di), (.slice (some ⟨gk, 0, none⟩) p.kn.length dk), (.slice (some ⟨gr, 0, none⟩) p.rs.length dr), .int .i64 p.fw, .int .i64 p.bs], .int .i64 came, .int .i64 0]) (by simp [results, Try.results35, go_sem, e0, e1, e2, e3, e4, e5, e6]) rfl (by rw [HEH.out _ (by first | exact Int.min_eq_left (by omega) | exact Int.min_eq_right (by omega))]; obtain ⟨a0, a1, a2, a3⟩ := HQI.out; rw [← a0, ← a1, ← a2, ← a3]; exact St.doneF (q := ((q.setR n (fun x => { x with l := NL })).setR n (fun x => { x with y := Y })).setR n (fun z => { z with h := _ })) (HX.out _) rfl)

theorem fetch_any (p : Prt) (r : Int) (vi vk vr : Value) (us : Nat → Value) (w : World) (h : RdP w p vi vk vr us) (hs : p.small) :
    Calls Try.prog 35 #[.agg #[.int .i64 p.ep, .int .i64 p.ld, vi, vk, vr, .int .i64 p.fw, .int .i64 p.bs], .int .i64 r] w fun e w' => Res w (p.fetchP r).1 [.int .i64 (p.fetchP r).2.1, .int .i64 (p.fetchP r).2.2] e w' :=
  (fetch_anyF p r vi vk vr us w h hs).mono fun _ _ h => h.res

end Go.Proofs.Ytkolelpdedmkeaa
