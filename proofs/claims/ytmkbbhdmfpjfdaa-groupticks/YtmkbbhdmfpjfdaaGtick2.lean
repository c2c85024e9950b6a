/-
  What the document says of a tick of a group, walked.
-/
import Derived.Test.YtmkbbhdmfpjfdaaGtick
namespace Go.Proofs.Ytmkbbhdmfpjfdaa
open Go.RowKit
set_option linter.unusedVariables false
set_option linter.unusedSimpArgs false

set_option maxRecDepth 100000 in
set_option maxHeartbeats 2000000 in
theorem groupTick_any (g : Grp) (n : Int) (p : Int) (vm vo : Value) (us : Nat → Value) (w : World) (h : RdG w g vm vo us) (hf : g.fits) :
    Calls Try.prog 39 #[.agg #[.int .i64 g.ck, .int .i64 g.wt, .int .i64 g.gn, vm, vo], .int .i64 n, .int .i64 p] w fun e w' => ∃ vm' vo' us', e = .returned (.tuple #[.agg #[.int .i64 ((g.tick n p).1).ck, .int .i64 ((g.tick n p).1).wt, .int .i64 ((g.tick n p).1).gn, vm', vo'], .int .i64 (g.tick n p).2]) ∧ FreshG w.heap.size w' (g.tick n p).1 vm' vo' us' ∧ Below w.heap.size w w' := by
  obtain ⟨av, cv, rfl, _, _⟩ := h.m.shape
  obtain ⟨ao, co, rfl, _, _⟩ := h.o.shape
  have HR : Hid (∀ W, Below w.heap.size w W → RdG W g (.slice av g.ms.length cv) (.slice ao g.os.length co) us) := fun W hW => h.below (Nat.le_refl _) hW
  have HF : Hid g.fits := hf
  have H0 : Hid _ := three_newT 3 w g (.slice av g.ms.length cv) (.slice ao g.os.length co) (.int .i64 n)
  clear h hf
  go_enter Try.func39, Try.ntmps39
  go_upto_region 1 with fail
  generalize ((w.alloc (.cells #[.int .i64 g.ck, .int .i64 g.wt, .int .i64 g.gn, .slice av g.ms.length cv, .slice ao g.os.length co] 25)).alloc (.cells #[.int .i64 n] 3)).alloc (.cells #[.int .i64 0, .int .i64 0, .int .i64 0, .slice none 0 0, .slice none 0 0] 25) = W0 at *
  have HB0 : Hid (Below w.heap.size w W0) := H0.out.1
  have HC0 : Hid (GB W0 w.heap.size g _ _) := H0.out.2.1
  have HZ0 : Hid (GB W0 (w.heap.size + 2) Grp.zero (.slice none 0 0) (.slice none 0 0)) := H0.out.2.2.1
  have HX0 : Hid (w.heap.size + 1 < W0.heap.size ∧ W0.cell? ⟨w.heap.size + 1, 0, none⟩ = some (.int .i64 n)) := H0.out.2.2.2
  clear H0
  obtain ⟨s1, ⟨a0, a1, a2, a3, a4⟩, f1⟩ := HC0.out
  obtain ⟨z1, ⟨e0, e1, e2, e3, e4⟩, g1⟩ := HZ0.out
  obtain ⟨sx, x0⟩ := HX0.out
  go_wp2_with fail
  refine (groupMay_any g _ _ us _ (HR.out _ HB0.out) HF.out.n HF.out.o).mono ?_
  rintro e w1 ⟨rfl, hb1⟩
  have HB1 : Hid (Below w.heap.size w w1) := bstep HB0.out hb1
  have HC1 : Hid (GB w1 w.heap.size g _ _) := HC0.out.below HC0.out.1 hb1
  have HZ1 : Hid (GB w1 (w.heap.size + 2) Grp.zero _ _) := HZ0.out.below HZ0.out.1 hb1
  have HX1 : Hid _ := strbox_below HX0.out hb1
  clear sx x0 a0 a1 a2 a3 a4 f1 s1 z1 e0 e1 e2 e3 e4 g1 hb1
  obtain ⟨s1, ⟨a0, a1, a2, a3, a4⟩, f1⟩ := HC1.out
  obtain ⟨z1, ⟨e0, e1, e2, e3, e4⟩, g1⟩ := HZ1.out
  obtain ⟨sx, x0⟩ := HX1.out
  cases hmb : g.mayB with
  | false =>
    have HV : Hid (g.tick n p = (Grp.zero, 12)) := tick_may hmb
    have HDN : Hid (FreshG w.heap.size (put5 w1 (w.heap.size + 2) Grp.zero (.slice none 0 0) (.slice none 0 0)) Grp.zero (.slice none 0 0) (.slice none 0 0) nilS ∧ Below w.heap.size w (put5 w1 (w.heap.size + 2) Grp.zero (.slice none 0 0) (.slice none 0 0))) := zero_done2 HB1.out
    go_wp2
    exact bodyPost_ret (v := .tuple #[.agg #[.int .i64 0, .int .i64 0, .int .i64 0, .slice none 0 0, .slice none 0 0], .int .i64 12]) (by simp [results, Try.results39, go_sem, e0, e1, e2, e3, e4]) rfl ⟨.slice none 0 0, .slice none 0 0, nilS, by simp only [HV.out, Grp.zero], by simp only [HV.out]; exact HDN.out.1, HDN.out.2⟩
  | true =>
    have HMB : Hid (g.mayB = true) := hmb
    have HMY : Hid (MayG g) := mayG_iff.1 hmb
    clear hmb
    cases hin : inR n 0 1000 with
    | false =>
      have HV : Hid (g.tick n p = (Grp.zero, 2)) := tick_n HMB.out hin
      have HDN : Hid (FreshG w.heap.size (put5 w1 (w.heap.size + 2) Grp.zero (.slice none 0 0) (.slice none 0 0)) Grp.zero (.slice none 0 0) (.slice none 0 0) nilS ∧ Below w.heap.size w (put5 w1 (w.heap.size + 2) Grp.zero (.slice none 0 0) (.slice none 0 0))) := zero_done2 HB1.out
      go_wp2_with (go_at_call 48; refine (In_any _ _ _ _).mono ?_; rintro e w' ⟨rfl, rfl⟩; rw [hin])
      exact bodyPost_ret (v := .tuple #[.agg #[.int .i64 0, .int .i64 0, .int .i64 0, .slice none 0 0, .slice none 0 0], .int .i64 2]) (by simp [results, Try.results39, go_sem, e0, e1, e2, e3, e4]) rfl ⟨.slice none 0 0, .slice none 0 0, nilS, by simp only [HV.out, Grp.zero], by simp only [HV.out]; exact HDN.out.1, HDN.out.2⟩
    | true =>
      have HIN : Hid (inR n 0 1000 = true) := hin
      obtain ⟨hn0, hn1⟩ := inR_iff.1 hin
      have hc0 := HMY.out.c0
      have hc1 := HMY.out.c1
      by_cases hbig : 1073741824 < g.ck + n
      · have HV : Hid (g.tick n p = (Grp.zero, 2)) := tick_big HMB.out HIN.out hbig
        have HDN : Hid (FreshG w.heap.size (put5 w1 (w.heap.size + 2) Grp.zero (.slice none 0 0) (.slice none 0 0)) Grp.zero (.slice none 0 0) (.slice none 0 0) nilS ∧ Below w.heap.size w (put5 w1 (w.heap.size + 2) Grp.zero (.slice none 0 0) (.slice none 0 0))) := zero_done2 HB1.out
        go_wp2_with (go_at_call 48; refine (In_any _ _ _ _).mono ?_; rintro e w' ⟨rfl, rfl⟩; rw [hin])
        exact bodyPost_ret (v := .tuple #[.agg #[.int .i64 0, .int .i64 0, .int .i64 0, .slice none 0 0, .slice none 0 0], .int .i64 2]) (by simp [results, Try.results39, go_sem, e0, e1, e2, e3, e4]) rfl ⟨.slice none 0 0, .slice none 0 0, nilS, by simp only [HV.out, Grp.zero], by simp only [HV.out]; exact HDN.out.1, HDN.out.2⟩
      have HBG : Hid (g.ck + n ≤ 1073741824) := show _ ≤ _ by omega
      go_wp2_with (go_at_call 48; refine (In_any _ _ _ _).mono ?_; rintro e w' ⟨rfl, rfl⟩; rw [hin])
      refine (partsMay_any g p _ _ _).mono ?_
      rintro e w2 ⟨rfl, hb2⟩
      have HB2 : Hid (Below w.heap.size w w2) := bstep HB1.out hb2
      have HC2 : Hid (GB w2 w.heap.size g _ _) := HC1.out.below HC1.out.1 hb2
      have HZ2 : Hid (GB w2 (w.heap.size + 2) Grp.zero _ _) := HZ1.out.below HZ1.out.1 hb2
      have HX2 : Hid _ := strbox_below HX1.out hb2
      clear sx x0 a0 a1 a2 a3 a4 f1 s1 z1 e0 e1 e2 e3 e4 g1 hb2
      obtain ⟨s1, ⟨a0, a1, a2, a3, a4⟩, f1⟩ := HC2.out
      obtain ⟨z1, ⟨e0, e1, e2, e3, e4⟩, g1⟩ := HZ2.out
      obtain ⟨sx, x0⟩ := HX2.out
      clear hin
      cases hcn : g.canB p with
      | false =>
        have HV : Hid (g.tick n p = (Grp.zero, 2)) := tick_can HMB.out HIN.out HBG.out hcn
        have HDN : Hid (FreshG w.heap.size (put5 w2 (w.heap.size + 2) Grp.zero (.slice none 0 0) (.slice none 0 0)) Grp.zero (.slice none 0 0) (.slice none 0 0) nilS ∧ Below w.heap.size w (put5 w2 (w.heap.size + 2) Grp.zero (.slice none 0 0) (.slice none 0 0))) := zero_done2 HB2.out
        go_wp2
        exact bodyPost_ret (v := .tuple #[.agg #[.int .i64 0, .int .i64 0, .int .i64 0, .slice none 0 0, .slice none 0 0], .int .i64 2]) (by simp [results, Try.results39, go_sem, e0, e1, e2, e3, e4]) rfl ⟨.slice none 0 0, .slice none 0 0, nilS, by simp only [HV.out, Grp.zero], by simp only [HV.out]; exact HDN.out.1, HDN.out.2⟩
      | true =>
        have HCN : Hid (g.canB p = true) := hcn
        obtain ⟨⟨hp0, hp1⟩, hgn⟩ := canB_iff.1 hcn
        clear hcn
        have hn6 := HMY.out.n6
        have hgn0 := HMY.out.g0
        have hgn1 : g.gn ≤ 1073741824 := by omega
        have hll := stay_len (g := g) (n := n)

        have HKE : Hid (g.keep (silD g n) = g.keep (g.silB n)) := show _ = _ by
          unfold Grp.keep
          rw [keep_same (fun m hm => silD_eq HMY.out hn0 hn1 hm)]
        go_wp2_with fail
        refine (without_any g 78 _ (silD g n) (enters_of Try.func78 (by kernel_rfl) rfl) _ _ us _ (HR.out _ HB2.out) HF.out (tick_fn _ _ g _ _ n _ HC2.out HX2.out)).mono ?_
        rw [HKE.out]
        rintro e w5 ⟨v5, o5, us5, rfl, hf5, hb5⟩
        obtain ⟨k5, c5, rfl⟩ : ∃ k5 c5, v5 = .slice k5 (g.stay n).ms.length c5 := hf5.m.o.shape
        obtain ⟨l5, lc5, rfl⟩ : ∃ l5 lc5, o5 = .slice l5 g.os.length lc5 := hf5.o.o.shape
        have HS : Hid (Sg w w5.heap.size (w.heap.size + 2) w2.heap.size w2.heap.size w2 (g.keep (g.silB n)) (.slice k5 (g.stay n).ms.length c5) (.slice l5 g.os.length lc5) us5 (w5.alloc (.cells #[.int .i64 ((g.keep (g.silB n))).ck, .int .i64 ((g.keep (g.silB n))).wt, .int .i64 ((g.keep (g.silB n))).gn, .slice k5 (g.stay n).ms.length c5, .slice l5 g.os.length lc5] 25))) := sg_new HB2.out HZ2.out (by omega) hf5 hb5
        have HLW : Hid (w2.heap.size ≤ w5.heap.size) := hb5.size
        clear sx x0 a0 a1 a2 a3 a4 f1 s1 z1 e0 e1 e2 e3 e4 g1 hf5 hb5
        go_upto_region 6 with fail
        generalize w5.alloc (.cells #[.int .i64 ((g.keep (g.silB n))).ck, .int .i64 ((g.keep (g.silB n))).wt, .int .i64 ((g.keep (g.silB n))).gn, .slice k5 (g.stay n).ms.length c5, .slice l5 g.os.length lc5] 25) = W4 at *
        have hlw := HLW.out
        have hw1 := HC2.out.1
        have hz1' := HZ2.out.1
        have hx1' := HX2.out.1
        generalize w5.heap.size = o at *
        have HC4 : Hid (GB W4 w.heap.size g _ _) := HS.out.src HC2.out hw1 (by omega)
        have HX4 : Hid (w.heap.size + 1 < W4.heap.size ∧ W4.cell? ⟨w.heap.size + 1, 0, none⟩ = some (.int .i64 n)) := show _ ∧ _ from ⟨by have := HS.out.zz.1; omega, (World.cell?_of_block (w := w2) (w' := W4) (a := ⟨w.heap.size + 1, 0, none⟩) (HS.out.old _ (show w.heap.size + 1 < w2.heap.size from hx1') (show w.heap.size + 1 ≠ o by omega))).trans HX2.out.2⟩
        have hbz : w.heap.size ≠ w.heap.size + 2 := by omega
        have hob : w.heap.size ≠ o := by omega
        have hox : w.heap.size + 1 ≠ o := by omega
        have hoz : w.heap.size + 2 ≠ o := by omega
        obtain ⟨s1, ⟨a0, a1, a2, a3, a4⟩, f1⟩ := HC4.out
        obtain ⟨sx, x0⟩ := HX4.out
        obtain ⟨o1, ⟨b0, b1, b2, b3, b4⟩, h1⟩ := (HS.out.bb.ren rfl rfl rfl : GB W4 o g (.slice k5 (g.stay n).ms.length c5) (.slice l5 g.os.length lc5))
        have HS5 : Hid (Sg w o (w.heap.size + 2) w2.heap.size w2.heap.size w2 (g.stay n) (.slice k5 (g.stay n).ms.length c5) (.slice l5 g.os.length lc5) us5 (W4.setCell ⟨o, 0, none⟩ (.int .i64 (g.ck + n)))) := (HS.out.setCk (g.ck + n)).ren rfl
        go_upto_region 7 with fail
        generalize W4.setCell ⟨o, 0, none⟩ (.int .i64 (g.ck + n)) = W5 at *
        have HC5 : Hid (GB W5 w.heap.size g _ _) := HS5.out.src HC2.out hw1 (by omega)
        clear sx x0 a0 a1 a2 a3 a4 f1 s1 o1 b0 b1 b2 b3 b4 h1
        obtain ⟨s1, ⟨a0, a1, a2, a3, a4⟩, f1⟩ := HC5.out
        obtain ⟨o1, ⟨b0, b1, b2, b3, b4⟩, h1⟩ := HS5.out.bb
        obtain ⟨z1, ⟨e0, e1, e2, e3, e4⟩, g1⟩ := HS5.out.zz
        simp only [Grp.stay, Grp.keep] at b0 b1 b2
        by_cases hlt : (g.stay n).ms.length < g.ms.length
        · have HV : Hid (g.tick n p = ((g.stay n).anew p, 0)) := tick_out HMB.out HIN.out HBG.out HCN.out hlt
          have d5 : (((g.stay n).ms.length : Int) < (g.ms.length : Int)) := by omega
          go_wp2_with fail
          refine (anew_any (g.stay n) p _ _ _ _ _ HS5.out.own (by omega) (by omega) (by omega) (by omega) hgn0 hgn1).mono ?_
          rintro e w8 ⟨us8, rfl, hf8, hg8, hn8⟩
          have HG8 : Hid (GB w8 o (g.stay n) _ _) := HS5.out.bb.grown hg8 HS5.out.nb.1
          have hoff := HS5.out.offBox (g' := (g.stay n).anew p) (us' := us8) (fun i hi => hn8 i (by rw [anew_len] at hi; exact hi))
          have HS8 : Hid (Sg w o (w.heap.size + 2) w2.heap.size 0 w ((g.stay n).anew p) (.slice k5 (g.stay n).ms.length c5) (.slice l5 g.os.length lc5) us8 (put5 w8 o ((g.stay n).anew p) (.slice k5 (g.stay n).ms.length c5) (.slice l5 g.os.length lc5))) := HS5.out.take hg8 hf8 hoff.1 hoff.2
          unfold put5 at HS8
          clear a0 a1 a2 a3 a4 f1 s1 o1 b0 b1 b2 b3 b4 h1 z1 e0 e1 e2 e3 e4 g1 hf8 hg8 hn8 hoff
          obtain ⟨o1, ⟨b0, b1, b2, b3, b4⟩, h1⟩ := HG8.out
          go_upto_region 9 with fail
          generalize (((((w8.setCell ⟨o, 0, none⟩ (.int .i64 (((g.stay n).anew p)).ck)).setCell ⟨o, 1, none⟩ (.int .i64 (((g.stay n).anew p)).wt)).setCell ⟨o, 2, none⟩ (.int .i64 (((g.stay n).anew p)).gn)).setCell ⟨o, 3, none⟩ (.slice k5 (g.stay n).ms.length c5)).setCell ⟨o, 4, none⟩ (.slice l5 g.os.length lc5)) = W9 at *
          clear o1 b0 b1 b2 b3 b4 h1
          obtain ⟨o1, ⟨b0, b1, b2, b3, b4⟩, h1⟩ := HS8.out.bb
          obtain ⟨z1, ⟨e0, e1, e2, e3, e4⟩, g1⟩ := HS8.out.zz
          simp only [Grp.anew, Grp.stay, Grp.keep] at b0 b1 b2
          have HDN : Hid _ := HS8.out.done ((g.stay n).anew p)
          unfold put5 at HDN
          go_wp2
          exact bodyPost_ret (v := .tuple #[.agg #[.int .i64 (g.ck + n), .int .i64 g.wt, .int .i64 (g.gn + 1), .slice k5 (g.stay n).ms.length c5, .slice l5 g.os.length lc5], .int .i64 0]) (by simp [results, Try.results39, go_sem, b0, b1, b2, b3, b4, e0, e1, e2, e3, e4, hoz, Grp.anew, Grp.stay, Grp.keep]) rfl ⟨.slice k5 (g.stay n).ms.length c5, .slice l5 g.os.length lc5, us8, by first | (rw [HV.out]; rfl) | (simp only [HV.out, Grp.anew, Grp.stay, Grp.keep]; done), by simp only [HV.out]; exact HDN.out.1, HDN.out.2⟩
        · have HV : Hid (g.tick n p = (g.stay n, 0)) := tick_in HMB.out HIN.out HBG.out HCN.out hlt
          have d5 : ¬ (((g.stay n).ms.length : Int) < (g.ms.length : Int)) := by omega
          have HDN : Hid _ := HS5.out.done (g.stay n)
          unfold put5 at HDN
          go_wp2
          exact bodyPost_ret (v := .tuple #[.agg #[.int .i64 (g.ck + n), .int .i64 g.wt, .int .i64 g.gn, .slice k5 (g.stay n).ms.length c5, .slice l5 g.os.length lc5], .int .i64 0]) (by simp [results, Try.results39, go_sem, b0, b1, b2, b3, b4, e0, e1, e2, e3, e4, hoz, Grp.stay, Grp.keep]) rfl ⟨.slice k5 (g.stay n).ms.length c5, .slice l5 g.os.length lc5, by first | (rw [HV.out]; rfl) | (simp only [HV.out, Grp.stay, Grp.keep]; done), ⟨us5, by simp only [HV.out]; exact HDN.out.1⟩, HDN.out.2⟩

end Go.Proofs.Ytmkbbhdmfpjfdaa
