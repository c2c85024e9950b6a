/-
  Where too few keep up nothing is put: the walk.
-/
import Derived.Test.YtkolelpdedmkeaaPfew0
import Derived.Test.YtkolelpdedmkeaaPopN
import Derived.Test.YtkolelpdedmkeaaPopE
import Derived.Test.YtkolelpdedmkeaaApopC
import Derived.Test.YtkolelpdedmkeaaPopP
namespace Go.Proofs.Ytkolelpdedmkeaa
open Go.RowKit
set_option linter.unusedVariables false
set_option linter.unusedSimpArgs false

theorem may_smallP {p : Prt} (m : May p) : p.small := by
  intro r hr
  obtain ⟨i, hi, rfl⟩ := List.getElem_of_mem hr
  have := may_len m hi
  rw [at_rep hi] at this
  omega
theorem few_kept {k m : Nat} (hk : 2 ≤ k) (hk5 : k ≤ 5) (hm : 1 ≤ m) (hmk : m ≤ k) (r : Nat) (hr : r < k) : (fewS k m r).rs.length = k ∧ ∃ C, Kept (fewS k m r) C := by
  induction r with
  | zero =>
    obtain ⟨h1, h2, h3, C, h4⟩ := new_elect (n := k) (few := m) (by omega) (by omega) hm hmk
    exact ⟨h4.n, C, h4.k⟩
  | succ r ih =>
    obtain ⟨hl, C, hC⟩ := ih (by omega)
    have h0 := (few_facts ⟨k, by omega⟩ ⟨m, by omega⟩ ⟨r, by omega⟩ hk hm hmk hr).2
    obtain ⟨C', _, h⟩ := hC.crash (r := r + 1) (by omega) 0 (by omega) h0
    exact ⟨(crash_rs h0).trans hl, C', h⟩

set_option maxRecDepth 100000 in
set_option maxHeartbeats 4000000 in
theorem partFew_core (n few : Int) (w : World) (hn : -9223372036854775808 ≤ n ∧ n ≤ 9223372036854775807) (hf : -9223372036854775808 ≤ few ∧ few ≤ 9223372036854775807) :
    Calls Try.prog 21 #[.int .i64 n, .int .i64 few] w fun e w' => e = .returned (.bool true) ∧ Below w.heap.size w w' := by
  have hpn := pick_bd n 4 (by omega)
  obtain ⟨k, hk⟩ := Int.eq_ofNat_of_zero_le (show 0 ≤ 2 + pick n 4 by omega)
  have hk2 : 2 ≤ k := by omega
  have hk5 : k ≤ 5 := by omega
  have hpf := pick_bd few k (by omega)
  obtain ⟨m, hm⟩ := Int.eq_ofNat_of_zero_le (show 0 ≤ 1 + pick few k by omega)
  have hm1 : 1 ≤ m := by omega
  have hmk : m ≤ k := by omega
  have HK : Hid (2 + pick n 4 = (k : Int)) := hk
  have HM : Hid (1 + pick few k = (m : Int)) := hm
  obtain ⟨g1, g2, g3, C0, g4⟩ := new_elect (n := k) (few := m) (by omega) (by omega) hm1 hmk
  have HM0 : Hid (May (newP k m).1) := may_iff.1 (kept_new (n := k) (few := m) (by omega) (by omega) hm1 hmk).2.may
  have HMY : Hid (∀ r, r < k → May (fewS k m r)) := fun r hr => by obtain ⟨_, C, hC⟩ := few_kept hk2 hk5 hm1 hmk r hr; exact may_iff.1 hC.may
  have HFC : Hid (∀ r, 1 ≤ r → r < k → ((fewS k m (r - 1)).putP eD).2.2 = (if m + (r - 1) ≤ k then 0 else 9) ∧ ((fewS k m (r - 1)).crashP r 0).2 = 0) := fun r h1 h2 => by
    obtain ⟨j, rfl⟩ : ∃ j, r = j + 1 := ⟨r - 1, by omega⟩
    exact few_facts ⟨k, by omega⟩ ⟨m, by omega⟩ ⟨j, by omega⟩ hk2 hm1 hmk h2
  have HFL : Hid (((fewS k m (k - 1)).putP eD).2.2 = (if m = 1 then 0 else 9)) := few_last ⟨k, by omega⟩ ⟨m, by omega⟩ hk2 hm1 hmk
  have HFR : Hid ((newP k ((k : Int) + 1)).2 = 2) := few_range ⟨k, by omega⟩ hk2
  obtain ⟨p0, hp0⟩ : ∃ p0, (newP k m).1 = p0 := ⟨_, rfl⟩
  have HE1 : Hid (newP k m = (p0, 0)) := Prod.ext hp0 g1
  rw [hp0] at HM0 g2
  obtain ⟨p1, hp1⟩ : ∃ p1, (p0.electP 0).1 = p1 := ⟨_, rfl⟩
  have HE2 : Hid (p0.electP 0 = (p1, 0)) := Prod.ext hp1 g2
  have HS0 : Hid (fewS k m 0 = p1) := show _ = _ by rw [← hp1, ← hp0]; rfl
  have HB0 : Hid (Below w.heap.size w w) := Below.refl _ _
  clear hk hm g1 g2 g3 g4 hp0 hp1
  go_enter Try.func21, Try.ntmps21
  go_wp2_with fail
  refine (picked_any n 4 _ hn ⟨by omega, by omega⟩).mono ?_
  rintro e w0 ⟨rfl, hw0⟩
  rw [hw0]
  clear hw0
  go_wp2_with fail
  rw [HK.out]
  refine (picked_any few k _ hf ⟨by omega, by omega⟩).mono ?_
  rintro e w0 ⟨rfl, hw0⟩
  rw [hw0]
  clear hw0
  go_upto_region 3 with fail
  rw [HM.out]
  go_wp2_with fail
  refine (new_any k m _).mono ?_
  rintro e w1 ⟨vi1, vk1, vr1, us1, rfl, hr1, hb1⟩
  rw [HE1.out] at hr1 ⊢
  obtain ⟨ai1, ci1, ak1, ck1, ar1, cr1, rfl, rfl, rfl, -, -, -⟩ := hr1.lens
  have t1 := bstep hb1 (bbox w1 (.cells #[.int .i64 p0.ep, .int .i64 p0.ld, .slice ai1 p0.isr.length ci1, .slice ak1 p0.kn.length ck1, .slice ar1 p0.rs.length cr1, .int .i64 p0.fw, .int .i64 p0.bs] 26))
  have HB1 : Hid (Below w.heap.size w (w1.alloc (.cells #[.int .i64 p0.ep, .int .i64 p0.ld, .slice ai1 p0.isr.length ci1, .slice ak1 p0.kn.length ck1, .slice ar1 p0.rs.length cr1, .int .i64 p0.fw, .int .i64 p0.bs] 26))) := bstep HB0.out t1
  have HN1 : Hid (PB (w1.alloc (.cells #[.int .i64 p0.ep, .int .i64 p0.ld, .slice ai1 p0.isr.length ci1, .slice ak1 p0.kn.length ck1, .slice ar1 p0.rs.length cr1, .int .i64 p0.fw, .int .i64 p0.bs] 26)) w1.heap.size p0 (.slice ai1 p0.isr.length ci1) (.slice ak1 p0.kn.length ck1) (.slice ar1 p0.rs.length cr1) ∧ RdP (w1.alloc (.cells #[.int .i64 p0.ep, .int .i64 p0.ld, .slice ai1 p0.isr.length ci1, .slice ak1 p0.kn.length ck1, .slice ar1 p0.rs.length cr1, .int .i64 p0.fw, .int .i64 p0.bs] 26)) p0 (.slice ai1 p0.isr.length ci1) (.slice ak1 p0.kn.length ck1) (.slice ar1 p0.rs.length cr1) us1) := ⟨pb_new w1 p0 _ _ _ 26 w1.heap.size rfl, RdP.below hr1 (Nat.le_refl _) (bbox _ _)⟩
  have HLO1 : w.heap.size ≤ w1.heap.size := (bstep HB0.out hb1).size
  clear hb1 hr1 t1
  go_upto_region 4 with fail
  generalize w1.alloc (.cells #[.int .i64 p0.ep, .int .i64 p0.ld, .slice ai1 p0.isr.length ci1, .slice ak1 p0.kn.length ck1, .slice ar1 p0.rs.length cr1, .int .i64 p0.fw, .int .i64 p0.bs] 26) = W1 at *
  generalize w1.heap.size = b1 at *
  obtain ⟨s1, ⟨a0, a1, a2, a3, a4, a5, a6⟩, f1⟩ := HN1.out.1
  go_wp2_with fail
  refine (elect_anyF p0 0 _ _ _ us1 _ HN1.out.2 (may_smallP HM0.out)).mono ?_
  rintro e w2 ⟨vi2, vk2, vr2, us2, rfl, hr2, hb2, hn2⟩
  rw [HE2.out] at hr2 hn2 ⊢
  obtain ⟨ai2, ci2, ak2, ck2, ar2, cr2, rfl, rfl, rfl, -, -, -⟩ := hr2.lens
  have hc2 := HN1.out.1.below HN1.out.1.1 hb2
  have HB2 : Hid (Below w.heap.size w (put7 w2 b1 p1 (.slice ai2 p1.isr.length ci2) (.slice ak2 p1.kn.length ck2) (.slice ar2 p1.rs.length cr2))) := below_put (bstep HB1.out hb2) HLO1 _ _ _ _
  have HN2 : Hid (PB (put7 w2 b1 p1 (.slice ai2 p1.isr.length ci2) (.slice ak2 p1.kn.length ck2) (.slice ar2 p1.rs.length cr2)) b1 p1 (.slice ai2 p1.isr.length ci2) (.slice ak2 p1.kn.length ck2) (.slice ar2 p1.rs.length cr2) ∧ RdP (put7 w2 b1 p1 (.slice ai2 p1.isr.length ci2) (.slice ak2 p1.kn.length ck2) (.slice ar2 p1.rs.length cr2)) p1 (.slice ai2 p1.isr.length ci2) (.slice ak2 p1.kn.length ck2) (.slice ar2 p1.rs.length cr2) us2) := ⟨hc2.put _ _ _ _, hr2.put rfl (hn2.off HN1.out.1.1) _ _ _ _⟩
  clear s1 a0 a1 a2 a3 a4 a5 a6 f1
  obtain ⟨s1, ⟨a0, a1, a2, a3, a4, a5, a6⟩, f1⟩ := hc2
  unfold put7 at HB2 HN2
  clear hb2 hr2 hn2
  go_upto_region 5 with fail
  clear s1 a0 a1 a2 a3 a4 a5 a6 f1
  have HL0 : Hid (∃ vi vk vr us, (PB _ b1 (fewS k m 0) vi vk vr ∧ RdP _ (fewS k m 0) vi vk vr us) ∧ Below w.heap.size w _) := ⟨_, _, _, us2, by rw [HS0.out]; exact HN2.out, HB2.out⟩
  clear HN2 HB2
  go_wp2
  go_loopw [10] (fun i wr => ∃ r : Nat, 1 ≤ r ∧ r ≤ k ∧ i = .int .i64 r ∧ Hid (∃ vi vk vr us, (PB wr b1 (fewS k m (r - 1)) vi vk vr ∧ RdP wr (fewS k m (r - 1)) vi vk vr us) ∧ Below w.heap.size w wr)) (fun i _ => k - (intOf i).toNat)
  case atStart => exact ⟨1, by omega, by omega, rfl, HL0⟩
  case round =>
    obtain ⟨r, hr1, hrk, rfl, HI⟩ := hrel
    obtain ⟨vi, vk, vr, us, ⟨hp, hr⟩, hb⟩ := HI.out
    obtain ⟨ai, ci, ak, ck, ar, cr, rfl, rfl, rfl, -, -, -⟩ := hr.lens
    obtain ⟨q, hq⟩ : ∃ q, fewS k m (r - 1) = q := ⟨_, rfl⟩
    have HMQ : Hid (May q) := show May q by rw [← hq]; exact HMY.out (r - 1) (by omega)
    rw [hq] at hp hr
    have HQ : Hid (fewS k m (r - 1) = q) := hq
    have HP : Hid (PB wr b1 q _ _ _ ∧ RdP wr q _ _ _ us) := ⟨hp, hr⟩
    have HB : Hid (Below w.heap.size w wr) := hb
    clear hp hr hb hq HI
    by_cases hlt : r < k
    · have hltv : (r : Int) < k := by omega
      obtain ⟨e1, e2⟩ := HFC.out r hr1 hlt
      rw [HQ.out] at e1 e2
      have HNX : Hid ((q.crashP r 0).1 = fewS k m (r + 1 - 1)) := show _ = _ by
        rw [← HQ.out]
        obtain ⟨j, rfl⟩ : ∃ j, r = j + 1 := ⟨r - 1, by omega⟩
        rfl
      obtain ⟨⟨z, y, er⟩, hz⟩ : ∃ x, q.putP eD = x := ⟨_, rfl⟩
      rw [hz] at e1
      have HE3 : Hid (q.putP eD = (z, y, er)) := hz
      obtain ⟨⟨q2, er2⟩, hq2⟩ : ∃ x, q.crashP r 0 = x := ⟨_, rfl⟩
      rw [hq2] at e2 HNX
      have e2 : er2 = 0 := e2
      subst e2
      have HE4 : Hid (q.crashP r 0 = (q2, 0)) := hq2
      have HEQ : Hid (er = if m + (r - 1) ≤ k then 0 else 9) := e1
      clear hz hq2 e1
      go_upto_region 9 with fail
      obtain ⟨s1, ⟨a0, a1, a2, a3, a4, a5, a6⟩, f1⟩ := HP.out.1
      go_wp2_with fail
      refine (put_anyF q eD _ _ _ us _ HP.out.2 (may_smallP HMQ.out)).mono ?_
      rintro e w3 ⟨vi3, vk3, vr3, us3, rfl, hr3, hb3, hn3⟩
      rw [HE3.out] at hr3 hn3 ⊢
      obtain ⟨ai3, ci3, ak3, ck3, ar3, cr3, rfl, rfl, rfl, -, -, -⟩ := hr3.lens
      have t3 := bstep hb3 (bbox w3 (.cells #[.int .i64 z.ep, .int .i64 z.ld, .slice ai3 z.isr.length ci3, .slice ak3 z.kn.length ck3, .slice ar3 z.rs.length cr3, .int .i64 z.fw, .int .i64 z.bs] 26))
      have HB3 : Hid (Below w.heap.size w (w3.alloc (.cells #[.int .i64 z.ep, .int .i64 z.ld, .slice ai3 z.isr.length ci3, .slice ak3 z.kn.length ck3, .slice ar3 z.rs.length cr3, .int .i64 z.fw, .int .i64 z.bs] 26))) := bstep HB.out t3
      have HP_3 : Hid (PB (w3.alloc (.cells #[.int .i64 z.ep, .int .i64 z.ld, .slice ai3 z.isr.length ci3, .slice ak3 z.kn.length ck3, .slice ar3 z.rs.length cr3, .int .i64 z.fw, .int .i64 z.bs] 26)) b1 q (.slice ai q.isr.length ci) (.slice ak q.kn.length ck) (.slice ar q.rs.length cr) ∧ RdP (w3.alloc (.cells #[.int .i64 z.ep, .int .i64 z.ld, .slice ai3 z.isr.length ci3, .slice ak3 z.kn.length ck3, .slice ar3 z.rs.length cr3, .int .i64 z.fw, .int .i64 z.bs] 26)) q (.slice ai q.isr.length ci) (.slice ak q.kn.length ck) (.slice ar q.rs.length cr) us) := ⟨HP.out.1.below HP.out.1.1 t3, RdP.below HP.out.2 (Nat.le_refl _) t3⟩
      clear s1 a0 a1 a2 a3 a4 a5 a6 f1
      obtain ⟨s1, ⟨a0, a1, a2, a3, a4, a5, a6⟩, f1⟩ := HP.out.1.below HP.out.1.1 hb3
      clear hb3 hr3 t3 hn3
      go_upto_region 10 with fail
      generalize w3.alloc (.cells #[.int .i64 z.ep, .int .i64 z.ld, .slice ai3 z.isr.length ci3, .slice ak3 z.kn.length ck3, .slice ar3 z.rs.length cr3, .int .i64 z.fw, .int .i64 z.bs] 26) = W3 at *
      generalize w3.heap.size = b3 at *
      clear s1 a0 a1 a2 a3 a4 a5 a6 f1
      by_cases hm : m + (r - 1) ≤ k
      · have HER : Hid (er = 0) := show _ = _ by rw [HEQ.out]; exact if_pos hm
        rw [HER.out]
        have d1 : decide ((m : Int) ≤ (k : Int) - (r : Int) + 1) = true := by simp; omega
        clear hm
        obtain ⟨s1, ⟨a0, a1, a2, a3, a4, a5, a6⟩, f1⟩ := HP_3.out.1
        go_wp2_with fail
        refine (crash_anyF q r 0 _ _ _ us _ HP_3.out.2 (may_smallP HMQ.out)).mono ?_
        rintro e w4 ⟨vi4, vk4, vr4, us4, rfl, hr4, hb4, hn4⟩
        rw [HE4.out] at hr4 hn4 ⊢
        obtain ⟨ai4, ci4, ak4, ck4, ar4, cr4, rfl, rfl, rfl, -, -, -⟩ := hr4.lens
        have hc4 := HP_3.out.1.below HP_3.out.1.1 hb4
        have HB4 : Hid (Below w.heap.size w (put7 w4 b1 q2 (.slice ai4 q2.isr.length ci4) (.slice ak4 q2.kn.length ck4) (.slice ar4 q2.rs.length cr4))) := below_put (bstep HB3.out hb4) HLO1 _ _ _ _
        have HN4 : Hid (PB (put7 w4 b1 q2 (.slice ai4 q2.isr.length ci4) (.slice ak4 q2.kn.length ck4) (.slice ar4 q2.rs.length cr4)) b1 q2 (.slice ai4 q2.isr.length ci4) (.slice ak4 q2.kn.length ck4) (.slice ar4 q2.rs.length cr4) ∧ RdP (put7 w4 b1 q2 (.slice ai4 q2.isr.length ci4) (.slice ak4 q2.kn.length ck4) (.slice ar4 q2.rs.length cr4)) q2 (.slice ai4 q2.isr.length ci4) (.slice ak4 q2.kn.length ck4) (.slice ar4 q2.rs.length cr4) us4) := ⟨hc4.put _ _ _ _, hr4.put rfl (hn4.off HP_3.out.1.1) _ _ _ _⟩
        clear s1 a0 a1 a2 a3 a4 a5 a6 f1
        obtain ⟨s1, ⟨a0, a1, a2, a3, a4, a5, a6⟩, f1⟩ := hc4
        unfold put7 at HB4 HN4
        clear hb4 hr4 hn4
        go_upto_region 13 with fail
        clear s1 a0 a1 a2 a3 a4 a5 a6 f1
        go_wp2
        go_roundw
        case rel => exact ⟨r + 1, by omega, by omega, by go_num, ⟨_, _, _, us4, by rw [← HNX.out]; exact HN4.out, HB4.out⟩⟩
        case measure => simp [intOf]; omega
      · have HER : Hid (er = 9) := show _ = _ by rw [HEQ.out]; exact if_neg hm
        rw [HER.out]
        have d1 : decide ((m : Int) ≤ (k : Int) - (r : Int) + 1) = false := by simp; omega
        clear hm
        obtain ⟨s1, ⟨a0, a1, a2, a3, a4, a5, a6⟩, f1⟩ := HP_3.out.1
        go_wp2_with fail
        refine (crash_anyF q r 0 _ _ _ us _ HP_3.out.2 (may_smallP HMQ.out)).mono ?_
        rintro e w4 ⟨vi4, vk4, vr4, us4, rfl, hr4, hb4, hn4⟩
        rw [HE4.out] at hr4 hn4 ⊢
        obtain ⟨ai4, ci4, ak4, ck4, ar4, cr4, rfl, rfl, rfl, -, -, -⟩ := hr4.lens
        have hc4 := HP_3.out.1.below HP_3.out.1.1 hb4
        have HB4 : Hid (Below w.heap.size w (put7 w4 b1 q2 (.slice ai4 q2.isr.length ci4) (.slice ak4 q2.kn.length ck4) (.slice ar4 q2.rs.length cr4))) := below_put (bstep HB3.out hb4) HLO1 _ _ _ _
        have HN4 : Hid (PB (put7 w4 b1 q2 (.slice ai4 q2.isr.length ci4) (.slice ak4 q2.kn.length ck4) (.slice ar4 q2.rs.length cr4)) b1 q2 (.slice ai4 q2.isr.length ci4) (.slice ak4 q2.kn.length ck4) (.slice ar4 q2.rs.length cr4) ∧ RdP (put7 w4 b1 q2 (.slice ai4 q2.isr.length ci4) (.slice ak4 q2.kn.length ck4) (.slice ar4 q2.rs.length cr4)) q2 (.slice ai4 q2.isr.length ci4) (.slice ak4 q2.kn.length ck4) (.slice ar4 q2.rs.length cr4) us4) := ⟨hc4.put _ _ _ _, hr4.put rfl (hn4.off HP_3.out.1.1) _ _ _ _⟩
        clear s1 a0 a1 a2 a3 a4 a5 a6 f1
        obtain ⟨s1, ⟨a0, a1, a2, a3, a4, a5, a6⟩, f1⟩ := hc4
        unfold put7 at HB4 HN4
        clear hb4 hr4 hn4
        go_upto_region 13 with fail
        clear s1 a0 a1 a2 a3 a4 a5 a6 f1
        go_wp2
        go_roundw
        case rel => exact ⟨r + 1, by omega, by omega, by go_num, ⟨_, _, _, us4, by rw [← HNX.out]; exact HN4.out, HB4.out⟩⟩
        case measure => simp [intOf]; omega
    · obtain rfl : r = k := by omega
      have e1 := HFL.out
      rw [HQ.out] at e1
      obtain ⟨⟨z, y, er⟩, hz⟩ : ∃ x, q.putP eD = x := ⟨_, rfl⟩
      rw [hz] at e1
      have HE3 : Hid (q.putP eD = (z, y, er)) := hz
      have HEQ : Hid (er = if m = 1 then 0 else 9) := e1
      obtain ⟨⟨z2, er2⟩, hz2⟩ : ∃ x, newP r (r + 1) = x := ⟨_, rfl⟩
      have HE5 : Hid (newP r (r + 1) = (z2, 2)) := show _ = _ by
        have := HFR.out
        rw [hz2] at this ⊢
        have e : er2 = 2 := this
        rw [e]
      clear hz hz2 e1
      obtain ⟨s1, ⟨a0, a1, a2, a3, a4, a5, a6⟩, f1⟩ := HP.out.1
      go_wp2_with fail
      refine (put_anyF q eD _ _ _ us _ HP.out.2 (may_smallP HMQ.out)).mono ?_
      rintro e w5 ⟨vi5, vk5, vr5, us5, rfl, hr5, hb5, hn5⟩
      rw [HE3.out] at hr5 hn5 ⊢
      obtain ⟨ai5, ci5, ak5, ck5, ar5, cr5, rfl, rfl, rfl, -, -, -⟩ := hr5.lens
      have t5 := bstep hb5 (bbox w5 (.cells #[.int .i64 z.ep, .int .i64 z.ld, .slice ai5 z.isr.length ci5, .slice ak5 z.kn.length ck5, .slice ar5 z.rs.length cr5, .int .i64 z.fw, .int .i64 z.bs] 26))
      have HB5 : Hid (Below w.heap.size w (w5.alloc (.cells #[.int .i64 z.ep, .int .i64 z.ld, .slice ai5 z.isr.length ci5, .slice ak5 z.kn.length ck5, .slice ar5 z.rs.length cr5, .int .i64 z.fw, .int .i64 z.bs] 26))) := bstep HB.out t5
      have HP_5 : Hid (PB (w5.alloc (.cells #[.int .i64 z.ep, .int .i64 z.ld, .slice ai5 z.isr.length ci5, .slice ak5 z.kn.length ck5, .slice ar5 z.rs.length cr5, .int .i64 z.fw, .int .i64 z.bs] 26)) b1 q (.slice ai q.isr.length ci) (.slice ak q.kn.length ck) (.slice ar q.rs.length cr) ∧ RdP (w5.alloc (.cells #[.int .i64 z.ep, .int .i64 z.ld, .slice ai5 z.isr.length ci5, .slice ak5 z.kn.length ck5, .slice ar5 z.rs.length cr5, .int .i64 z.fw, .int .i64 z.bs] 26)) q (.slice ai q.isr.length ci) (.slice ak q.kn.length ck) (.slice ar q.rs.length cr) us) := ⟨HP.out.1.below HP.out.1.1 t5, RdP.below HP.out.2 (Nat.le_refl _) t5⟩
      clear s1 a0 a1 a2 a3 a4 a5 a6 f1
      obtain ⟨s1, ⟨a0, a1, a2, a3, a4, a5, a6⟩, f1⟩ := HP.out.1.below HP.out.1.1 hb5
      clear hb5 hr5 t5 hn5
      go_upto_region 16 with fail
      generalize w5.alloc (.cells #[.int .i64 z.ep, .int .i64 z.ld, .slice ai5 z.isr.length ci5, .slice ak5 z.kn.length ck5, .slice ar5 z.rs.length cr5, .int .i64 z.fw, .int .i64 z.bs] 26) = W5 at *
      generalize w5.heap.size = b5 at *
      clear s1 a0 a1 a2 a3 a4 a5 a6 f1
      go_wp2_with fail
      refine (new_any r (r + 1) _).mono ?_
      rintro e w6 ⟨vi6, vk6, vr6, us6, rfl, hr6, hb6⟩
      rw [HE5.out] at hr6 ⊢
      obtain ⟨ai6, ci6, ak6, ck6, ar6, cr6, rfl, rfl, rfl, -, -, -⟩ := hr6.lens
      have t6 := bstep hb6 (bbox w6 (.cells #[.int .i64 z2.ep, .int .i64 z2.ld, .slice ai6 z2.isr.length ci6, .slice ak6 z2.kn.length ck6, .slice ar6 z2.rs.length cr6, .int .i64 z2.fw, .int .i64 z2.bs] 26))
      have HB6 : Hid (Below w.heap.size w (w6.alloc (.cells #[.int .i64 z2.ep, .int .i64 z2.ld, .slice ai6 z2.isr.length ci6, .slice ak6 z2.kn.length ck6, .slice ar6 z2.rs.length cr6, .int .i64 z2.fw, .int .i64 z2.bs] 26))) := bstep HB5.out t6
      have HP_5_6 : Hid (PB (w6.alloc (.cells #[.int .i64 z2.ep, .int .i64 z2.ld, .slice ai6 z2.isr.length ci6, .slice ak6 z2.kn.length ck6, .slice ar6 z2.rs.length cr6, .int .i64 z2.fw, .int .i64 z2.bs] 26)) b1 q (.slice ai q.isr.length ci) (.slice ak q.kn.length ck) (.slice ar q.rs.length cr) ∧ RdP (w6.alloc (.cells #[.int .i64 z2.ep, .int .i64 z2.ld, .slice ai6 z2.isr.length ci6, .slice ak6 z2.kn.length ck6, .slice ar6 z2.rs.length cr6, .int .i64 z2.fw, .int .i64 z2.bs] 26)) q (.slice ai q.isr.length ci) (.slice ak q.kn.length ck) (.slice ar q.rs.length cr) us) := ⟨HP_5.out.1.below HP_5.out.1.1 t6, RdP.below HP_5.out.2 (Nat.le_refl _) t6⟩
      clear hb6 hr6 t6
      go_upto_region 17 with fail
      generalize w6.alloc (.cells #[.int .i64 z2.ep, .int .i64 z2.ld, .slice ai6 z2.isr.length ci6, .slice ak6 z2.kn.length ck6, .slice ar6 z2.rs.length cr6, .int .i64 z2.fw, .int .i64 z2.bs] 26) = W6 at *
      generalize w6.heap.size = b6 at *
      by_cases hm : m = 1
      · have HER : Hid (er = 0) := show _ = _ by rw [HEQ.out]; exact if_pos hm
        rw [HER.out]
        have d1 : ((m : Int) == 1) = true := by simp; omega
        clear hm
        go_wp2
        go_ret
        exact ⟨rfl, HB6.out⟩
      · have HER : Hid (er = 9) := show _ = _ by rw [HEQ.out]; exact if_neg hm
        rw [HER.out]
        have d1 : ((m : Int) == 1) = false := by simp; omega
        clear hm
        go_wp2
        go_ret
        exact ⟨rfl, HB6.out⟩

end Go.Proofs.Ytkolelpdedmkeaa
