/-
  Who fell behind keeps up again when it has all: the walk.
-/
import Derived.Test.YtkolelpdedmkeaaPcat0
import Derived.Test.YtkolelpdedmkeaaPfew0
import Derived.Test.YtkolelpdedmkeaaPopN
import Derived.Test.YtkolelpdedmkeaaPopE
import Derived.Test.YtkolelpdedmkeaaPopP
import Derived.Test.YtkolelpdedmkeaaPopF
import Derived.Test.YtkolelpdedmkeaaPopS
import Derived.Test.YtkolelpdedmkeaaPopX
import Derived.Test.YtkolelpdedmkeaaPopY
namespace Go.Proofs.Ytkolelpdedmkeaa
open Go.RowKit
set_option linter.unusedVariables false
set_option linter.unusedSimpArgs false

set_option maxRecDepth 100000 in
set_option maxHeartbeats 8000000 in
theorem partCatches_core (n many : Int) (w : World) (hn : -9223372036854775808 ≤ n ∧ n ≤ 9223372036854775807) (hf : -9223372036854775808 ≤ many ∧ many ≤ 9223372036854775807) :
    Calls Try.prog 23 #[.int .i64 n, .int .i64 many] w fun e w' => e = .returned (.bool true) ∧ Below w.heap.size w w' := by
  have hpn := pick_bd many 8 (by omega)
  obtain ⟨k, hk⟩ := Int.eq_ofNat_of_zero_le (show 0 ≤ 1 + pick many 8 by omega)
  have hk1 : 1 ≤ k := by omega
  have hk8 : k ≤ 8 := by omega
  have HK : Hid (1 + pick many 8 = (k : Int)) := hk
  obtain ⟨c1, c2, c3, c4, c5⟩ := cat_one
  have HPT : Hid (∀ i, i < k → ((catA i).putP (catW i)).2.2 = 0 ∧ smallB (catA i) = true) := fun i hi => cat_put ⟨i, by omega⟩
  have HMD := (show Hid (_ ∧ _) from cat_mid ⟨k, by omega⟩ hk1)
  have HLP : Hid (∀ j, j ≤ k → smallB (catF k j) = true ∧ smallB (catE (catF k j)) = true) := fun j hj => cat_loop ⟨k, by omega⟩ ⟨j, by omega⟩ hk1 hj
  simp only at HMD
  obtain ⟨p0, hp0⟩ : ∃ p0, (newP 2 1).1 = p0 := ⟨_, rfl⟩
  obtain ⟨p1, hp1⟩ : ∃ p1, ((newP 2 1).1.electP 0).1 = p1 := ⟨_, rfl⟩
  have HE1 : Hid (newP 2 1 = (p0, 0)) := Prod.ext hp0 c1
  have HE2 : Hid (p0.electP 0 = (p1, 0)) := show _ = _ by rw [← hp0]; exact Prod.ext hp1 c2
  have HE3 : Hid (p1.shrinkP 1 = (catA 0, 0)) := show _ = _ by rw [← hp1]; exact Prod.ext rfl c3
  have HS0 : Hid p0.small := show p0.small by rw [← hp0]; exact small_of c4
  have HS1 : Hid p1.small := show p1.small by rw [← hp1]; exact small_of c5
  have HB0 : Hid (Below w.heap.size w w) := Below.refl _ _
  clear hk c1 c2 c3 c4 c5 hp0 hp1
  go_enter Try.func23, Try.ntmps23
  go_wp2_with fail
  refine (picked_any many 8 _ hf ⟨by omega, by omega⟩).mono ?_
  rintro e w0 ⟨rfl, hw0⟩
  rw [hw0]
  clear hw0
  go_upto_region 2 with fail
  rw [HK.out]
  go_wp2_with fail
  refine (new_any 2 1 _).mono ?_
  rintro e w1 ⟨vi1, vk1, vr1, us1, rfl, hr1, hb1⟩
  rw [HE1.out] at hr1 ⊢
  obtain ⟨ai1, ci1, ak1, ck1, ar1, cr1, rfl, rfl, rfl, -, -, -⟩ := hr1.lens
  have t1 := bstep hb1 (bbox w1 (.cells #[.int .i64 p0.ep, .int .i64 p0.ld, .slice ai1 p0.isr.length ci1, .slice ak1 p0.kn.length ck1, .slice ar1 p0.rs.length cr1, .int .i64 p0.fw, .int .i64 p0.bs] 26))
  have HB1 : Hid (Below w.heap.size w (w1.alloc (.cells #[.int .i64 p0.ep, .int .i64 p0.ld, .slice ai1 p0.isr.length ci1, .slice ak1 p0.kn.length ck1, .slice ar1 p0.rs.length cr1, .int .i64 p0.fw, .int .i64 p0.bs] 26))) := bstep HB0.out t1
  have HN1 : Hid (PB (w1.alloc (.cells #[.int .i64 p0.ep, .int .i64 p0.ld, .slice ai1 p0.isr.length ci1, .slice ak1 p0.kn.length ck1, .slice ar1 p0.rs.length cr1, .int .i64 p0.fw, .int .i64 p0.bs] 26)) w1.heap.size p0 (.slice ai1 p0.isr.length ci1) (.slice ak1 p0.kn.length ck1) (.slice ar1 p0.rs.length cr1) ∧ RdP (w1.alloc (.cells #[.int .i64 p0.ep, .int .i64 p0.ld, .slice ai1 p0.isr.length ci1, .slice ak1 p0.kn.length ck1, .slice ar1 p0.rs.length cr1, .int .i64 p0.fw, .int .i64 p0.bs] 26)) p0 (.slice ai1 p0.isr.length ci1) (.slice ak1 p0.kn.length ck1) (.slice ar1 p0.rs.length cr1) us1) := ⟨pb_new w1 p0 _ _ _ 26 w1.heap.size rfl, RdP.below hr1 (Nat.le_refl _) (bbox _ _)⟩
  have HLO1 : w.heap.size ≤ w1.heap.size := (bstep HB0.out hb1).size
  clear hb1 hr1 t1
  go_upto_region 3 with fail
  generalize w1.alloc (.cells #[.int .i64 p0.ep, .int .i64 p0.ld, .slice ai1 p0.isr.length ci1, .slice ak1 p0.kn.length ck1, .slice ar1 p0.rs.length cr1, .int .i64 p0.fw, .int .i64 p0.bs] 26) = W1 at *
  generalize w1.heap.size = b1 at *
  obtain ⟨s1, ⟨a0, a1, a2, a3, a4, a5, a6⟩, f1⟩ := HN1.out.1
  go_wp2_with fail
  refine (elect_anyF p0 0 _ _ _ us1 _ HN1.out.2 HS0.out).mono ?_
  rintro e w2 ⟨vi2, vk2, vr2, us2, rfl, hr2, hb2, hn2⟩
  rw [HE2.out] at hr2 hn2 ⊢
  obtain ⟨ai2, ci2, ak2, ck2, ar2, cr2, rfl, rfl, rfl, -, -, -⟩ := hr2.lens
  have hc2 := HN1.out.1.below HN1.out.1.1 hb2
  have HB2 : Hid (Below w.heap.size w (put7 w2 b1 p1 (.slice ai2 p1.isr.length ci2) (.slice ak2 p1.kn.length ck2) (.slice ar2 p1.rs.length cr2))) := below_put (bstep HB1.out hb2) HLO1 _ _ _ _
  have HN2 : Hid (PB (put7 w2 b1 p1 (.slice ai2 p1.isr.length ci2) (.slice ak2 p1.kn.length ck2) (.slice ar2 p1.rs.length cr2)) b1 p1 (.slice ai2 p1.isr.length ci2) (.slice ak2 p1.kn.length ck2) (.slice ar2 p1.rs.length cr2) ∧ RdP (put7 w2 b1 p1 (.slice ai2 p1.isr.length ci2) (.slice ak2 p1.kn.length ck2) (.slice ar2 p1.rs.length cr2)) p1 (.slice ai2 p1.isr.length ci2) (.slice ak2 p1.kn.length ck2) (.slice ar2 p1.rs.length cr2) us2) := ⟨hc2.put _ _ _ _, hr2.put rfl (hn2.off HN1.out.1.1) _ _ _ _⟩
  clear s1 a0 a1 a2 a3 a4 a5 a6 f1
  obtain ⟨s1, ⟨a0, a1, a2, a3, a4, a5, a6⟩, f1⟩ := hc2
  unfold put7 at HB2 HN2
  clear hb2 hr2 hn2
  go_upto_region 4 with fail
  clear s1 a0 a1 a2 a3 a4 a5 a6 f1
  obtain ⟨s1, ⟨a0, a1, a2, a3, a4, a5, a6⟩, f1⟩ := HN2.out.1
  go_wp2_with fail
  refine (shrink_anyF p1 1 _ _ _ us2 _ HN2.out.2 HS1.out).mono ?_
  rintro e w3 ⟨vi3, vk3, vr3, us3, rfl, hr3, hb3, hn3⟩
  rw [HE3.out] at hr3 hn3 ⊢
  obtain ⟨ai3, ci3, ak3, ck3, ar3, cr3, rfl, rfl, rfl, -, -, -⟩ := hr3.lens
  have hc3 := HN2.out.1.below HN2.out.1.1 hb3
  have HB3 : Hid (Below w.heap.size w (put7 w3 b1 (catA 0) (.slice ai3 (catA 0).isr.length ci3) (.slice ak3 (catA 0).kn.length ck3) (.slice ar3 (catA 0).rs.length cr3))) := below_put (bstep HB2.out hb3) HLO1 _ _ _ _
  have HN3 : Hid (PB (put7 w3 b1 (catA 0) (.slice ai3 (catA 0).isr.length ci3) (.slice ak3 (catA 0).kn.length ck3) (.slice ar3 (catA 0).rs.length cr3)) b1 (catA 0) (.slice ai3 (catA 0).isr.length ci3) (.slice ak3 (catA 0).kn.length ck3) (.slice ar3 (catA 0).rs.length cr3) ∧ RdP (put7 w3 b1 (catA 0) (.slice ai3 (catA 0).isr.length ci3) (.slice ak3 (catA 0).kn.length ck3) (.slice ar3 (catA 0).rs.length cr3)) (catA 0) (.slice ai3 (catA 0).isr.length ci3) (.slice ak3 (catA 0).kn.length ck3) (.slice ar3 (catA 0).rs.length cr3) us3) := ⟨hc3.put _ _ _ _, hr3.put rfl (hn3.off HN2.out.1.1) _ _ _ _⟩
  clear s1 a0 a1 a2 a3 a4 a5 a6 f1
  obtain ⟨s1, ⟨a0, a1, a2, a3, a4, a5, a6⟩, f1⟩ := hc3
  unfold put7 at HB3 HN3
  clear hb3 hr3 hn3
  go_upto_region 5 with fail
  clear s1 a0 a1 a2 a3 a4 a5 a6 f1
  have HL0 : Hid (∃ vi vk vr us, (PB _ b1 (catA 0) vi vk vr ∧ RdP _ (catA 0) vi vk vr us) ∧ Below w.heap.size w _) := ⟨_, _, _, us3, HN3.out, HB3.out⟩
  clear HN3 HB3
  go_wp2
  go_loopw [40] (fun i wr => ∃ j : Nat, j ≤ k ∧ i = .int .i64 j ∧ Hid (∃ vi vk vr us, (PB wr b1 (catA j) vi vk vr ∧ RdP wr (catA j) vi vk vr us) ∧ Below w.heap.size w wr)) (fun i _ => k - (intOf i).toNat)
  case atStart => exact ⟨0, Nat.zero_le _, rfl, HL0⟩
  case round =>
    obtain ⟨j, hj, rfl, HI⟩ := hrel
    obtain ⟨vi, vk, vr, us, ⟨hp, hr⟩, hb⟩ := HI.out
    obtain ⟨ai, ci, ak, ck, ar, cr, rfl, rfl, rfl, -, -, -⟩ := hr.lens
    obtain ⟨q, hq⟩ : ∃ q, catA j = q := ⟨_, rfl⟩
    rw [hq] at hp hr
    have HQ : Hid (catA j = q) := hq
    have HP : Hid (PB wr b1 q _ _ _ ∧ RdP wr q _ _ _ us) := ⟨hp, hr⟩
    have HB : Hid (Below w.heap.size w wr) := hb
    clear hp hr hb hq HI
    by_cases hlt : j < k
    · have hltv : (j : Int) < k := by omega
      obtain ⟨h1, h2⟩ := HPT.out j hlt
      rw [HQ.out] at h1 h2
      obtain ⟨⟨q2, y, er⟩, hz⟩ : ∃ x, q.putP (catW j) = x := ⟨_, rfl⟩
      rw [hz] at h1
      obtain rfl : er = 0 := h1
      have HE4 : Hid (q.putP ⟨0, 0, 0, 0, 1, false, wordS (j : Int)⟩ = (q2, y, 0)) := hz
      have HSQ : Hid q.small := small_of h2
      have HNX : Hid (catA (j + 1) = q2) := show _ = _ by
        show ((catA j).putP (catW j)).1 = q2
        rw [HQ.out, hz]
      clear h2 hz
      go_upto_region 9 with fail
      obtain ⟨s1, ⟨a0, a1, a2, a3, a4, a5, a6⟩, f1⟩ := HP.out.1
      go_cut [11] (fun g W => g = .int .i64 0 ∧ ∃ vi vk vr us, (PB W b1 q2 vi vk vr ∧ RdP W q2 vi vk vr us) ∧ Below w.heap.size w W)
      case first =>
        go_region_with (first | (go_at_call 58; refine (word_any (j : Int) _ ⟨by omega, by omega⟩).mono ?_; rintro e ww ⟨rfl, rfl⟩) | (go_at_call 31; go_must (refine (put_anyF q ⟨0, 0, 0, 0, 1, false, wordS (j : Int)⟩ _ _ _ us _ (RdP.below HP.out.2 (Nat.le_refl _) (by repeat (first | exact Below.refl _ _ | refine Below.drew ?_))) HSQ.out).mono ?_; rintro e w6 ⟨yi, yk, yr, us6, rfl, hr6, hb6, hn6⟩; rw [HE4.out] at hr6 hn6 ⊢; obtain ⟨yi, fi, yk, fk, yr, fr, rfl, rfl, rfl, -, -, -⟩ := hr6.lens; have HB6 : Hid (Below wr.heap.size wr w6) := bstep (by repeat (first | exact Below.refl _ _ | refine Below.drew ?_)) hb6; have HR6 : Hid (RdP w6 q2 _ _ _ us6) := hr6; have HN6 : Hid (NewAt wr.heap.size w6 q2.rs.length _ _ _ us6) := hn6.mono (by simp) (Nat.le_refl _); obtain ⟨s1, ⟨a0, a1, a2, a3, a4, a5, a6⟩, f1⟩ := PB.below HP.out.1 HP.out.1.1 HB6.out; clear hr6 hb6 hn6)))
        all_goals
          go_wp2_with fail
          go_meet
          exact ⟨rfl, _, _, _, us6, ⟨PB.put (PB.below HP.out.1 HP.out.1.1 HB6.out) q2 _ _ _, HR6.out.put rfl (HN6.out.off HP.out.1.1) q2 _ _ _⟩, below_put (bstep HB.out HB6.out) HLO1 q2 _ _ _⟩
      case rest =>
      obtain ⟨hv, hcc⟩ := hcut
      subst hv
      rename World => w9
      have HCC : Hid (∃ vi vk vr us, (PB w9 b1 q2 vi vk vr ∧ RdP w9 q2 vi vk vr us) ∧ Below w.heap.size w w9) := hcc
      clear s1 a0 a1 a2 a3 a4 a5 a6 f1 hcc
      go_at_K
      go_wp2
      go_roundw
      case rel => exact ⟨j + 1, by omega, by go_num, by rw [HNX.out]; exact HCC⟩
      case measure => simp [intOf]; omega
    · obtain rfl : j = k := by omega
      obtain ⟨h1, h2, h3, h4, h5, h6, h7, h8, h9, h10, h11, h12⟩ := HMD.out
      have HSA : Hid (q.small) := show q.small by rw [← HQ.out]; exact small_of h1
      have HSB : Hid ((catB j).small) := small_of h3
      have HE5 : Hid (q.syncP 0 = (catB j, 0)) := show _ = _ by rw [← HQ.out]; exact Prod.ext rfl h2
      obtain ⟨z6, g6, -⟩ := pair2 h4
      have HE6 : Hid ((catB j).expandP 1 = (z6, 13)) := g6
      obtain ⟨z7, g7, -⟩ := pair2 h5
      have HE7 : Hid ((catF j j).expandP 1 = (z7, 13)) := g7
      obtain ⟨z8, y8, g8⟩ := pair3 h6
      have HE8 : Hid ((catF j j).fetchP 1 = (catE (catF j j), y8, 0)) := show _ = _ by
        have e : catE (catF j j) = z8 := by unfold catE; rw [g8]
        rw [e]; exact g8
      have HE9 : Hid ((catE (catF j j)).expandP 1 = (catH j, 0)) := Prod.ext rfl h7
      obtain ⟨z10, g10, -⟩ := pair2 h8
      have HE10 : Hid ((catH j).expandP 1 = (z10, 6)) := g10
      have HHH : Hid (((catH j).at 0).h = j ∧ (catH j).rs.length = 2) := ⟨h9, h10⟩
      have HSE : Hid ((catE (catF j j)).small) := small_of h11
      have HSH : Hid ((catH j).small) := small_of h12
      clear h1 h2 h3 h4 h5 h6 h7 h8 h9 h10 h11 h12 g6 g7 g8 g10 HMD HPT
      obtain ⟨s1, ⟨a0, a1, a2, a3, a4, a5, a6⟩, f1⟩ := HP.out.1
      go_wp2_with fail
      refine (sync_anyF q 0 _ _ _ us _ HP.out.2 HSA.out).mono ?_
      rintro e w11 ⟨vi11, vk11, vr11, us11, rfl, hr11, hb11, hn11⟩
      rw [HE5.out] at hr11 hn11 ⊢
      obtain ⟨ai11, ci11, ak11, ck11, ar11, cr11, rfl, rfl, rfl, -, -, -⟩ := hr11.lens
      have hc11 := HP.out.1.below HP.out.1.1 hb11
      have HB11 : Hid (Below w.heap.size w (put7 w11 b1 (catB j) (.slice ai11 (catB j).isr.length ci11) (.slice ak11 (catB j).kn.length ck11) (.slice ar11 (catB j).rs.length cr11))) := below_put (bstep HB.out hb11) HLO1 _ _ _ _
      have HN11 : Hid (PB (put7 w11 b1 (catB j) (.slice ai11 (catB j).isr.length ci11) (.slice ak11 (catB j).kn.length ck11) (.slice ar11 (catB j).rs.length cr11)) b1 (catB j) (.slice ai11 (catB j).isr.length ci11) (.slice ak11 (catB j).kn.length ck11) (.slice ar11 (catB j).rs.length cr11) ∧ RdP (put7 w11 b1 (catB j) (.slice ai11 (catB j).isr.length ci11) (.slice ak11 (catB j).kn.length ck11) (.slice ar11 (catB j).rs.length cr11)) (catB j) (.slice ai11 (catB j).isr.length ci11) (.slice ak11 (catB j).kn.length ck11) (.slice ar11 (catB j).rs.length cr11) us11) := ⟨hc11.put _ _ _ _, hr11.put rfl (hn11.off HP.out.1.1) _ _ _ _⟩
      clear s1 a0 a1 a2 a3 a4 a5 a6 f1
      obtain ⟨s1, ⟨a0, a1, a2, a3, a4, a5, a6⟩, f1⟩ := hc11
      unfold put7 at HB11 HN11
      clear hb11 hr11 hn11
      go_upto_region 14 with fail
      clear s1 a0 a1 a2 a3 a4 a5 a6 f1
      obtain ⟨s1, ⟨a0, a1, a2, a3, a4, a5, a6⟩, f1⟩ := HN11.out.1
      go_wp2_with fail
      refine (expand_anyF (catB j) 1 _ _ _ us11 _ HN11.out.2 HSB.out).mono ?_
      rintro e w12 ⟨vi12, vk12, vr12, us12, rfl, hr12, hb12, hn12⟩
      rw [HE6.out] at hr12 hn12 ⊢
      obtain ⟨ai12, ci12, ak12, ck12, ar12, cr12, rfl, rfl, rfl, -, -, -⟩ := hr12.lens
      have t12 := bstep hb12 (bbox w12 (.cells #[.int .i64 z6.ep, .int .i64 z6.ld, .slice ai12 z6.isr.length ci12, .slice ak12 z6.kn.length ck12, .slice ar12 z6.rs.length cr12, .int .i64 z6.fw, .int .i64 z6.bs] 26))
      have HB12 : Hid (Below w.heap.size w (w12.alloc (.cells #[.int .i64 z6.ep, .int .i64 z6.ld, .slice ai12 z6.isr.length ci12, .slice ak12 z6.kn.length ck12, .slice ar12 z6.rs.length cr12, .int .i64 z6.fw, .int .i64 z6.bs] 26))) := bstep HB11.out t12
      have HN11_12 : Hid (PB (w12.alloc (.cells #[.int .i64 z6.ep, .int .i64 z6.ld, .slice ai12 z6.isr.length ci12, .slice ak12 z6.kn.length ck12, .slice ar12 z6.rs.length cr12, .int .i64 z6.fw, .int .i64 z6.bs] 26)) b1 (catB j) (.slice ai11 (catB j).isr.length ci11) (.slice ak11 (catB j).kn.length ck11) (.slice ar11 (catB j).rs.length cr11) ∧ RdP (w12.alloc (.cells #[.int .i64 z6.ep, .int .i64 z6.ld, .slice ai12 z6.isr.length ci12, .slice ak12 z6.kn.length ck12, .slice ar12 z6.rs.length cr12, .int .i64 z6.fw, .int .i64 z6.bs] 26)) (catB j) (.slice ai11 (catB j).isr.length ci11) (.slice ak11 (catB j).kn.length ck11) (.slice ar11 (catB j).rs.length cr11) us11) := ⟨HN11.out.1.below HN11.out.1.1 t12, RdP.below HN11.out.2 (Nat.le_refl _) t12⟩
      clear s1 a0 a1 a2 a3 a4 a5 a6 f1
      obtain ⟨s1, ⟨a0, a1, a2, a3, a4, a5, a6⟩, f1⟩ := HN11.out.1.below HN11.out.1.1 hb12
      clear hb12 hr12 t12 hn12
      go_upto_region 15 with fail
      generalize w12.alloc (.cells #[.int .i64 z6.ep, .int .i64 z6.ld, .slice ai12 z6.isr.length ci12, .slice ak12 z6.kn.length ck12, .slice ar12 z6.rs.length cr12, .int .i64 z6.fw, .int .i64 z6.bs] 26) = W12 at *
      generalize w12.heap.size = b12 at *
      clear s1 a0 a1 a2 a3 a4 a5 a6 f1
      have HL1 : Hid (∃ vi vk vr us, (PB _ b1 (catF j 0) vi vk vr ∧ RdP _ (catF j 0) vi vk vr us) ∧ Below w.heap.size w _) := ⟨_, _, _, us11, HN11_12.out, HB12.out⟩
      clear HN11_12 HB12 HP HB HQ HSA HSB
      go_wp2
      go_loopw [66] (fun i wr => ∃ m : Nat, m ≤ j ∧ i = .int .i64 m ∧ Hid (∃ vi vk vr us, (PB wr b1 (catF j m) vi vk vr ∧ RdP wr (catF j m) vi vk vr us) ∧ Below w.heap.size w wr)) (fun i _ => j - (intOf i).toNat)
      case atStart => exact ⟨0, Nat.zero_le _, rfl, HL1⟩
      case round =>
        obtain ⟨m, hm, rfl, HI⟩ := hrel
        obtain ⟨vi, vk, vr, us, ⟨hp, hr⟩, hb⟩ := HI.out
        obtain ⟨ai, ci, ak, ck, ar, cr, rfl, rfl, rfl, -, -, -⟩ := hr.lens
        obtain ⟨q, hq⟩ : ∃ q, catF j m = q := ⟨_, rfl⟩
        rw [hq] at hp hr
        have HQ : Hid (catF j m = q) := hq
        have HP : Hid (PB wr b1 q _ _ _ ∧ RdP wr q _ _ _ us) := ⟨hp, hr⟩
        have HB : Hid (Below w.heap.size w wr) := hb
        clear hp hr hb hq HI
        obtain ⟨h1, h2⟩ := HLP.out m hm
        rw [HQ.out] at h1 h2
        have HSQ : Hid q.small := small_of h1
        have HSE2 : Hid (catE q).small := small_of h2
        clear h1 h2
        by_cases hmt : m < j
        · have hmv : (m : Int) < j := by omega
          obtain ⟨⟨z, y, er⟩, hz⟩ : ∃ x, q.fetchP 1 = x := ⟨_, rfl⟩
          have HF1 : Hid (q.fetchP 1 = (catE q, y, er)) := show _ = _ by
            have e : catE q = z := by unfold catE; rw [hz]
            rw [e]; exact hz
          obtain ⟨⟨q2, er2⟩, hz2⟩ : ∃ x, (catE q).syncP 1 = x := ⟨_, rfl⟩
          have HF2 : Hid ((catE q).syncP 1 = (q2, er2)) := hz2
          have HNX : Hid (catF j (m + 1) = q2) := show _ = _ by
            show ((catE (catF j m)).syncP 1).1 = q2
            rw [HQ.out, hz2]
          clear hz hz2
          obtain ⟨s1, ⟨a0, a1, a2, a3, a4, a5, a6⟩, f1⟩ := HP.out.1
          go_wp2_with fail
          refine (fetch_anyF q 1 _ _ _ us _ HP.out.2 HSQ.out).mono ?_
          rintro e w21 ⟨vi21, vk21, vr21, us21, rfl, hr21, hb21, hn21⟩
          rw [HF1.out] at hr21 hn21 ⊢
          obtain ⟨ai21, ci21, ak21, ck21, ar21, cr21, rfl, rfl, rfl, -, -, -⟩ := hr21.lens
          have hc21 := HP.out.1.below HP.out.1.1 hb21
          have HB21 : Hid (Below w.heap.size w (put7 w21 b1 (catE q) (.slice ai21 (catE q).isr.length ci21) (.slice ak21 (catE q).kn.length ck21) (.slice ar21 (catE q).rs.length cr21))) := below_put (bstep HB.out hb21) HLO1 _ _ _ _
          have HN21 : Hid (PB (put7 w21 b1 (catE q) (.slice ai21 (catE q).isr.length ci21) (.slice ak21 (catE q).kn.length ck21) (.slice ar21 (catE q).rs.length cr21)) b1 (catE q) (.slice ai21 (catE q).isr.length ci21) (.slice ak21 (catE q).kn.length ck21) (.slice ar21 (catE q).rs.length cr21) ∧ RdP (put7 w21 b1 (catE q) (.slice ai21 (catE q).isr.length ci21) (.slice ak21 (catE q).kn.length ck21) (.slice ar21 (catE q).rs.length cr21)) (catE q) (.slice ai21 (catE q).isr.length ci21) (.slice ak21 (catE q).kn.length ck21) (.slice ar21 (catE q).rs.length cr21) us21) := ⟨hc21.put _ _ _ _, hr21.put rfl (hn21.off HP.out.1.1) _ _ _ _⟩
          clear s1 a0 a1 a2 a3 a4 a5 a6 f1
          obtain ⟨s1, ⟨a0, a1, a2, a3, a4, a5, a6⟩, f1⟩ := hc21
          unfold put7 at HB21 HN21
          clear hb21 hr21 hn21
          go_upto_region 18 with fail
          clear s1 a0 a1 a2 a3 a4 a5 a6 f1
          obtain ⟨s1, ⟨a0, a1, a2, a3, a4, a5, a6⟩, f1⟩ := HN21.out.1
          go_wp2_with fail
          refine (sync_anyF (catE q) 1 _ _ _ us21 _ HN21.out.2 HSE2.out).mono ?_
          rintro e w22 ⟨vi22, vk22, vr22, us22, rfl, hr22, hb22, hn22⟩
          rw [HF2.out] at hr22 hn22 ⊢
          obtain ⟨ai22, ci22, ak22, ck22, ar22, cr22, rfl, rfl, rfl, -, -, -⟩ := hr22.lens
          have hc22 := HN21.out.1.below HN21.out.1.1 hb22
          have HB22 : Hid (Below w.heap.size w (put7 w22 b1 q2 (.slice ai22 q2.isr.length ci22) (.slice ak22 q2.kn.length ck22) (.slice ar22 q2.rs.length cr22))) := below_put (bstep HB21.out hb22) HLO1 _ _ _ _
          have HN22 : Hid (PB (put7 w22 b1 q2 (.slice ai22 q2.isr.length ci22) (.slice ak22 q2.kn.length ck22) (.slice ar22 q2.rs.length cr22)) b1 q2 (.slice ai22 q2.isr.length ci22) (.slice ak22 q2.kn.length ck22) (.slice ar22 q2.rs.length cr22) ∧ RdP (put7 w22 b1 q2 (.slice ai22 q2.isr.length ci22) (.slice ak22 q2.kn.length ck22) (.slice ar22 q2.rs.length cr22)) q2 (.slice ai22 q2.isr.length ci22) (.slice ak22 q2.kn.length ck22) (.slice ar22 q2.rs.length cr22) us22) := ⟨hc22.put _ _ _ _, hr22.put rfl (hn22.off HN21.out.1.1) _ _ _ _⟩
          clear s1 a0 a1 a2 a3 a4 a5 a6 f1
          obtain ⟨s1, ⟨a0, a1, a2, a3, a4, a5, a6⟩, f1⟩ := hc22
          unfold put7 at HB22 HN22
          clear hb22 hr22 hn22
          go_upto_region 19 with fail
          clear s1 a0 a1 a2 a3 a4 a5 a6 f1
          go_wp2
          go_roundw
          case rel => exact ⟨m + 1, by omega, by go_num, ⟨_, _, _, us22, by rw [HNX.out]; exact HN22.out, HB22.out⟩⟩
          case measure => simp [intOf]; omega
        · obtain rfl : m = j := by omega
          rw [HQ.out] at HE7 HE8 HE9 HSE
          have HQH : Hid (catE q = catE q) := rfl
          obtain ⟨s1, ⟨a0, a1, a2, a3, a4, a5, a6⟩, f1⟩ := HP.out.1
          go_wp2_with fail
          refine (expand_anyF q 1 _ _ _ us _ HP.out.2 HSQ.out).mono ?_
          rintro e w31 ⟨vi31, vk31, vr31, us31, rfl, hr31, hb31, hn31⟩
          rw [HE7.out] at hr31 hn31 ⊢
          obtain ⟨ai31, ci31, ak31, ck31, ar31, cr31, rfl, rfl, rfl, -, -, -⟩ := hr31.lens
          have t31 := bstep hb31 (bbox w31 (.cells #[.int .i64 z7.ep, .int .i64 z7.ld, .slice ai31 z7.isr.length ci31, .slice ak31 z7.kn.length ck31, .slice ar31 z7.rs.length cr31, .int .i64 z7.fw, .int .i64 z7.bs] 26))
          have HB31 : Hid (Below w.heap.size w (w31.alloc (.cells #[.int .i64 z7.ep, .int .i64 z7.ld, .slice ai31 z7.isr.length ci31, .slice ak31 z7.kn.length ck31, .slice ar31 z7.rs.length cr31, .int .i64 z7.fw, .int .i64 z7.bs] 26))) := bstep HB.out t31
          have HP_31 : Hid (PB (w31.alloc (.cells #[.int .i64 z7.ep, .int .i64 z7.ld, .slice ai31 z7.isr.length ci31, .slice ak31 z7.kn.length ck31, .slice ar31 z7.rs.length cr31, .int .i64 z7.fw, .int .i64 z7.bs] 26)) b1 q (.slice ai q.isr.length ci) (.slice ak q.kn.length ck) (.slice ar q.rs.length cr) ∧ RdP (w31.alloc (.cells #[.int .i64 z7.ep, .int .i64 z7.ld, .slice ai31 z7.isr.length ci31, .slice ak31 z7.kn.length ck31, .slice ar31 z7.rs.length cr31, .int .i64 z7.fw, .int .i64 z7.bs] 26)) q (.slice ai q.isr.length ci) (.slice ak q.kn.length ck) (.slice ar q.rs.length cr) us) := ⟨HP.out.1.below HP.out.1.1 t31, RdP.below HP.out.2 (Nat.le_refl _) t31⟩
          clear s1 a0 a1 a2 a3 a4 a5 a6 f1
          obtain ⟨s1, ⟨a0, a1, a2, a3, a4, a5, a6⟩, f1⟩ := HP.out.1.below HP.out.1.1 hb31
          clear hb31 hr31 t31 hn31
          go_upto_region 21 with fail
          generalize w31.alloc (.cells #[.int .i64 z7.ep, .int .i64 z7.ld, .slice ai31 z7.isr.length ci31, .slice ak31 z7.kn.length ck31, .slice ar31 z7.rs.length cr31, .int .i64 z7.fw, .int .i64 z7.bs] 26) = W31 at *
          generalize w31.heap.size = b31 at *
          clear s1 a0 a1 a2 a3 a4 a5 a6 f1
          obtain ⟨s1, ⟨a0, a1, a2, a3, a4, a5, a6⟩, f1⟩ := HP_31.out.1
          go_wp2_with fail
          refine (fetch_anyF q 1 _ _ _ us _ HP_31.out.2 HSQ.out).mono ?_
          rintro e w32 ⟨vi32, vk32, vr32, us32, rfl, hr32, hb32, hn32⟩
          rw [HE8.out] at hr32 hn32 ⊢
          obtain ⟨ai32, ci32, ak32, ck32, ar32, cr32, rfl, rfl, rfl, -, -, -⟩ := hr32.lens
          have hc32 := HP_31.out.1.below HP_31.out.1.1 hb32
          have HB32 : Hid (Below w.heap.size w (put7 w32 b1 (catE q) (.slice ai32 (catE q).isr.length ci32) (.slice ak32 (catE q).kn.length ck32) (.slice ar32 (catE q).rs.length cr32))) := below_put (bstep HB31.out hb32) HLO1 _ _ _ _
          have HN32 : Hid (PB (put7 w32 b1 (catE q) (.slice ai32 (catE q).isr.length ci32) (.slice ak32 (catE q).kn.length ck32) (.slice ar32 (catE q).rs.length cr32)) b1 (catE q) (.slice ai32 (catE q).isr.length ci32) (.slice ak32 (catE q).kn.length ck32) (.slice ar32 (catE q).rs.length cr32) ∧ RdP (put7 w32 b1 (catE q) (.slice ai32 (catE q).isr.length ci32) (.slice ak32 (catE q).kn.length ck32) (.slice ar32 (catE q).rs.length cr32)) (catE q) (.slice ai32 (catE q).isr.length ci32) (.slice ak32 (catE q).kn.length ck32) (.slice ar32 (catE q).rs.length cr32) us32) := ⟨hc32.put _ _ _ _, hr32.put rfl (hn32.off HP_31.out.1.1) _ _ _ _⟩
          clear s1 a0 a1 a2 a3 a4 a5 a6 f1
          obtain ⟨s1, ⟨a0, a1, a2, a3, a4, a5, a6⟩, f1⟩ := hc32
          unfold put7 at HB32 HN32
          clear hb32 hr32 hn32
          go_upto_region 22 with fail
          clear s1 a0 a1 a2 a3 a4 a5 a6 f1
          obtain ⟨s1, ⟨a0, a1, a2, a3, a4, a5, a6⟩, f1⟩ := HN32.out.1
          go_wp2_with fail
          refine (expand_anyF (catE q) 1 _ _ _ us32 _ HN32.out.2 HSE.out).mono ?_
          rintro e w33 ⟨vi33, vk33, vr33, us33, rfl, hr33, hb33, hn33⟩
          rw [HE9.out] at hr33 hn33 ⊢
          obtain ⟨ai33, ci33, ak33, ck33, ar33, cr33, rfl, rfl, rfl, -, -, -⟩ := hr33.lens
          have hc33 := HN32.out.1.below HN32.out.1.1 hb33
          have HB33 : Hid (Below w.heap.size w (put7 w33 b1 (catH m) (.slice ai33 (catH m).isr.length ci33) (.slice ak33 (catH m).kn.length ck33) (.slice ar33 (catH m).rs.length cr33))) := below_put (bstep HB32.out hb33) HLO1 _ _ _ _
          have HN33 : Hid (PB (put7 w33 b1 (catH m) (.slice ai33 (catH m).isr.length ci33) (.slice ak33 (catH m).kn.length ck33) (.slice ar33 (catH m).rs.length cr33)) b1 (catH m) (.slice ai33 (catH m).isr.length ci33) (.slice ak33 (catH m).kn.length ck33) (.slice ar33 (catH m).rs.length cr33) ∧ RdP (put7 w33 b1 (catH m) (.slice ai33 (catH m).isr.length ci33) (.slice ak33 (catH m).kn.length ck33) (.slice ar33 (catH m).rs.length cr33)) (catH m) (.slice ai33 (catH m).isr.length ci33) (.slice ak33 (catH m).kn.length ck33) (.slice ar33 (catH m).rs.length cr33) us33) := ⟨hc33.put _ _ _ _, hr33.put rfl (hn33.off HN32.out.1.1) _ _ _ _⟩
          clear s1 a0 a1 a2 a3 a4 a5 a6 f1
          obtain ⟨s1, ⟨a0, a1, a2, a3, a4, a5, a6⟩, f1⟩ := hc33
          unfold put7 at HB33 HN33
          clear hb33 hr33 hn33
          go_upto_region 23 with fail
          clear s1 a0 a1 a2 a3 a4 a5 a6 f1
          obtain ⟨s1, ⟨a0, a1, a2, a3, a4, a5, a6⟩, f1⟩ := HN33.out.1
          go_wp2_with fail
          refine (expand_anyF (catH m) 1 _ _ _ us33 _ HN33.out.2 HSH.out).mono ?_
          rintro e w34 ⟨vi34, vk34, vr34, us34, rfl, hr34, hb34, hn34⟩
          rw [HE10.out] at hr34 hn34 ⊢
          obtain ⟨ai34, ci34, ak34, ck34, ar34, cr34, rfl, rfl, rfl, -, -, -⟩ := hr34.lens
          have t34 := bstep hb34 (bbox w34 (.cells #[.int .i64 z10.ep, .int .i64 z10.ld, .slice ai34 z10.isr.length ci34, .slice ak34 z10.kn.length ck34, .slice ar34 z10.rs.length cr34, .int .i64 z10.fw, .int .i64 z10.bs] 26))
          have HB34 : Hid (Below w.heap.size w (w34.alloc (.cells #[.int .i64 z10.ep, .int .i64 z10.ld, .slice ai34 z10.isr.length ci34, .slice ak34 z10.kn.length ck34, .slice ar34 z10.rs.length cr34, .int .i64 z10.fw, .int .i64 z10.bs] 26))) := bstep HB33.out t34
          have HN33_34 : Hid (PB (w34.alloc (.cells #[.int .i64 z10.ep, .int .i64 z10.ld, .slice ai34 z10.isr.length ci34, .slice ak34 z10.kn.length ck34, .slice ar34 z10.rs.length cr34, .int .i64 z10.fw, .int .i64 z10.bs] 26)) b1 (catH m) (.slice ai33 (catH m).isr.length ci33) (.slice ak33 (catH m).kn.length ck33) (.slice ar33 (catH m).rs.length cr33) ∧ RdP (w34.alloc (.cells #[.int .i64 z10.ep, .int .i64 z10.ld, .slice ai34 z10.isr.length ci34, .slice ak34 z10.kn.length ck34, .slice ar34 z10.rs.length cr34, .int .i64 z10.fw, .int .i64 z10.bs] 26)) (catH m) (.slice ai33 (catH m).isr.length ci33) (.slice ak33 (catH m).kn.length ck33) (.slice ar33 (catH m).rs.length cr33) us33) := ⟨HN33.out.1.below HN33.out.1.1 t34, RdP.below HN33.out.2 (Nat.le_refl _) t34⟩
          clear s1 a0 a1 a2 a3 a4 a5 a6 f1
          obtain ⟨s1, ⟨a0, a1, a2, a3, a4, a5, a6⟩, f1⟩ := HN33.out.1.below HN33.out.1.1 hb34
          clear hb34 hr34 t34 hn34
          go_upto_region 24 with fail
          generalize w34.alloc (.cells #[.int .i64 z10.ep, .int .i64 z10.ld, .slice ai34 z10.isr.length ci34, .slice ak34 z10.kn.length ck34, .slice ar34 z10.rs.length cr34, .int .i64 z10.fw, .int .i64 z10.bs] 26) = W34 at *
          generalize w34.heap.size = b34 at *
          clear s1 a0 a1 a2 a3 a4 a5 a6 f1
          obtain ⟨s1, ⟨a0, a1, a2, a3, a4, a5, a6⟩, f1⟩ := HN33_34.out.1
          obtain ⟨g, off, har, -, -, -, -, r3, r4⟩ := HN33_34.out.2.2.2.cells 0 (by rw [HHH.out.2]; omega)
          subst har
          rw [HHH.out.1] at r4
          have hln : (0 : Int) < (catH m).rs.length := by rw [HHH.out.2]; omega
          simp only [Nat.zero_mul, Nat.add_zero] at r3 r4
          go_wp2
          go_ret
          exact ⟨rfl, HB34.out⟩

end Go.Proofs.Ytkolelpdedmkeaa
