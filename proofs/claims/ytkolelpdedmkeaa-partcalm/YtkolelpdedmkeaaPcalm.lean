/-
  When all is calm all that was put is kept: the walk.
-/
import Derived.Test.YtkolelpdedmkeaaPcalm0
import Derived.Test.YtkolelpdedmkeaaAkept
namespace Go.Proofs.Ytkolelpdedmkeaa
open Go.RowKit
set_option linter.unusedVariables false
set_option linter.unusedSimpArgs false

set_option maxRecDepth 100000 in
set_option maxHeartbeats 8000000 in
theorem partCalm_core (rs : List Raw4) (v : Value) (n : Int) (w : World) (hl : (rs.length : Int) ≤ 9223372036854775807) (hn : -9223372036854775808 ≤ n ∧ n ≤ 9223372036854775807) (h : RdR w v rs) :
    Calls Try.prog 20 #[v, .int .i64 n] w fun e w' => e = .returned (.bool true) ∧ Below w.heap.size w w' := by
  obtain ⟨k, hk, hk1, hk4⟩ := nat_pick n 4 (by omega)
  have HK : Hid (1 + pick n 4 = (k : Int)) := hk
  have HR : Hid (∀ W, Below w.heap.size w W → RdR W v rs) := fun W hW => h.below hW
  have hpk := pick_bd n 4 (by omega)
  obtain ⟨L, hL, hs⟩ := calm_play (n := k) hk1 (by omega) (rs.take 25)
  obtain ⟨P0, hP0⟩ : ∃ P0, (plL k 1 false (rs.take 25)).p = P0 := ⟨_, rfl⟩
  rw [hP0] at hs
  have HS : Hid (∀ t, CalS (calT P0 k t) k L t 0) := hs
  have HP0 : Hid ((plL k 1 false (rs.take 25)).p = P0) := hP0
  have hL25 : L ≤ 25 := by rw [List.length_take] at hL; omega
  clear hk h hs hP0 hL
  go_enter Try.func20, Try.ntmps20
  go_wp2_with fail
  refine (partTells_any _).mono ?_
  rintro e w0 ⟨rfl, hb0⟩
  go_wp2_with fail
  refine (picked_any n 4 _ hn ⟨by omega, by omega⟩).mono ?_
  rintro e w1 ⟨rfl, hw1⟩
  rw [hw1]
  clear hw1
  go_wp2_with fail
  rw [HK.out]
  refine (played_any rs k 1 25 false v _ (HR.out _ hb0) hk1 (by omega) (by omega) (by omega) (by omega) hl).mono ?_
  rintro e w2 ⟨vi2, vk2, vr2, us2, vh2, rfl, hr2, -, hb2⟩
  have e1 : ((1 : Nat) : Int) = 1 := rfl
  rw [e1] at hr2 ⊢
  rw [HP0.out] at hr2 ⊢
  obtain ⟨ai2, ci2, ak2, ck2, ar2, cr2, rfl, rfl, rfl, -, -, -⟩ := hr2.lens
  have hbb := bstep hb0 hb2
  have HB2 : Hid (Below w.heap.size w (w2.alloc (.cells #[.int .i64 P0.ep, .int .i64 P0.ld, .slice ai2 P0.isr.length ci2, .slice ak2 P0.kn.length ck2, .slice ar2 P0.rs.length cr2, .int .i64 P0.fw, .int .i64 P0.bs] 26))) := bstep hbb (bbox _ _)
  have HP2 : Hid (PB (w2.alloc (.cells #[.int .i64 P0.ep, .int .i64 P0.ld, .slice ai2 P0.isr.length ci2, .slice ak2 P0.kn.length ck2, .slice ar2 P0.rs.length cr2, .int .i64 P0.fw, .int .i64 P0.bs] 26)) w2.heap.size P0 (.slice ai2 P0.isr.length ci2) (.slice ak2 P0.kn.length ck2) (.slice ar2 P0.rs.length cr2) ∧ RdP (w2.alloc (.cells #[.int .i64 P0.ep, .int .i64 P0.ld, .slice ai2 P0.isr.length ci2, .slice ak2 P0.kn.length ck2, .slice ar2 P0.rs.length cr2, .int .i64 P0.fw, .int .i64 P0.bs] 26)) P0 (.slice ai2 P0.isr.length ci2) (.slice ak2 P0.kn.length ck2) (.slice ar2 P0.rs.length cr2) us2) := ⟨pb_new w2 P0 _ _ _ 26 w2.heap.size rfl, RdP.below hr2 (Nat.le_refl _) (bbox _ _)⟩
  have HLO1 : w.heap.size ≤ w2.heap.size := hbb.size
  clear hbb hb0 hb2 hr2 e1
  go_upto_region 5 with fail
  generalize w2.alloc (.cells #[.int .i64 P0.ep, .int .i64 P0.ld, .slice ai2 P0.isr.length ci2, .slice ak2 P0.kn.length ck2, .slice ar2 P0.rs.length cr2, .int .i64 P0.fw, .int .i64 P0.bs] 26) = W2 at *
  generalize w2.heap.size = b1 at *
  have HL0 : Hid (∃ vi vk vr us, (PB W2 b1 (calT P0 k 0) vi vk vr ∧ RdP W2 (calT P0 k 0) vi vk vr us) ∧ Below w.heap.size w W2) := ⟨_, _, _, us2, HP2.out, HB2.out⟩
  clear HP2 HB2
  go_wp2
  go_loopw [32] (fun i wr => ∃ t : Nat, t ≤ 60 ∧ i = .int .i64 t ∧ Hid (∃ vi vk vr us, (PB wr b1 (calT P0 k t) vi vk vr ∧ RdP wr (calT P0 k t) vi vk vr us) ∧ Below w.heap.size w wr)) (fun i _ => 60 - (intOf i).toNat)
  case atStart => exact ⟨0, by omega, rfl, HL0⟩
  case round =>
    obtain ⟨t, ht, rfl, HI⟩ := hrel
    by_cases hlt : t < 60
    · have hltv : (t : Int) < 60 := by omega
      have HCS : Hid (CalS (calT P0 k t) k L t 0) := HS.out t
      have HTN : Hid (calT P0 k (t + 1) = calK (calT P0 k t) k) := rfl
      obtain ⟨T, hT⟩ : ∃ T, calT P0 k t = T := ⟨_, rfl⟩
      rw [hT] at HI HCS HTN
      have HI2 : Hid (∃ vi vk vr us, (PB wr b1 (calK T 0) vi vk vr ∧ RdP wr (calK T 0) vi vk vr us) ∧ Below w.heap.size w wr) := HI
      clear HI hT
      go_upto_region 8 with fail
      go_loopw [35] (fun i wv => ∃ j : Nat, j ≤ k ∧ i = .int .i64 j ∧ Hid (∃ vi vk vr us, (PB wv b1 (calK T j) vi vk vr ∧ RdP wv (calK T j) vi vk vr us) ∧ Below w.heap.size w wv)) (fun i _ => k - (intOf i).toNat)
      case atStart => exact ⟨0, by omega, rfl, HI2⟩
      case round =>
        obtain ⟨j, hj, rfl, HJ⟩ := hrel
        by_cases hjk : j < k
        · have hjkv : (j : Int) < k := by omega
          obtain ⟨vi, vk, vr, us, ⟨hp, hr⟩, hb⟩ := HJ.out
          obtain ⟨ai, ci, ak, ck, ar, cr, rfl, rfl, rfl, -, -, -⟩ := hr.lens
          have hKM := (HCS.out.round j (by omega)).keptM
          obtain ⟨p, hpe⟩ : ∃ p, calK T j = p := ⟨_, rfl⟩
          have HNX : Hid (calK T (j + 1) = calR p j) := show calK T (j + 1) = _ by rw [← hpe]; rfl
          rw [hpe] at hp hr hKM
          have HMP : Hid (May p) := show May p from hKM.may
          obtain ⟨q, hq1, hq2, hq3⟩ := hKM.visit hjk
          have HQ3 : Hid _ := hq3
          have HES : Hid (p.syncP j = (q, 0)) := hq1
          have HMQ : Hid (May q) := show May q from hq2.may
          have HP : Hid (PB _ b1 p _ _ _ ∧ RdP _ p _ _ _ us) := ⟨hp, hr⟩
          have HB : Hid (Below w.heap.size w _) := hb
          clear hp hr hb hpe hKM hq1 hq2 hq3 HJ HI2 HCS HTN
          go_upto_region 10 with fail
          obtain ⟨s1, ⟨a0, a1, a2, a3, a4, a5, a6⟩, f1⟩ := HP.out.1
          go_wp2_with fail
          refine (sync_anyF p j _ _ _ us _ HP.out.2 (may_small HMP.out)).mono ?_
          rintro e w3 ⟨vi3, vk3, vr3, us3, rfl, hr3, hb3, hn3⟩
          rw [HES.out] at hr3 hn3 ⊢
          obtain ⟨ai3, ci3, ak3, ck3, ar3, cr3, rfl, rfl, rfl, -, -, -⟩ := hr3.lens
          have t3 := bstep hb3 (bbox w3 (.cells #[.int .i64 q.ep, .int .i64 q.ld, .slice ai3 q.isr.length ci3, .slice ak3 q.kn.length ck3, .slice ar3 q.rs.length cr3, .int .i64 q.fw, .int .i64 q.bs] 26))
          have HB3 : Hid (Below w.heap.size w (w3.alloc (.cells #[.int .i64 q.ep, .int .i64 q.ld, .slice ai3 q.isr.length ci3, .slice ak3 q.kn.length ck3, .slice ar3 q.rs.length cr3, .int .i64 q.fw, .int .i64 q.bs] 26))) := bstep HB.out t3
          have HO3 : Hid (PB (w3.alloc (.cells #[.int .i64 q.ep, .int .i64 q.ld, .slice ai3 q.isr.length ci3, .slice ak3 q.kn.length ck3, .slice ar3 q.rs.length cr3, .int .i64 q.fw, .int .i64 q.bs] 26)) b1 p (.slice ai p.isr.length ci) (.slice ak p.kn.length ck) (.slice ar p.rs.length cr) ∧ RdP (w3.alloc (.cells #[.int .i64 q.ep, .int .i64 q.ld, .slice ai3 q.isr.length ci3, .slice ak3 q.kn.length ck3, .slice ar3 q.rs.length cr3, .int .i64 q.fw, .int .i64 q.bs] 26)) p (.slice ai p.isr.length ci) (.slice ak p.kn.length ck) (.slice ar p.rs.length cr) us) := ⟨HP.out.1.below HP.out.1.1 t3, RdP.below HP.out.2 (Nat.le_refl _) t3⟩
          have HN3 : Hid (PB (w3.alloc (.cells #[.int .i64 q.ep, .int .i64 q.ld, .slice ai3 q.isr.length ci3, .slice ak3 q.kn.length ck3, .slice ar3 q.rs.length cr3, .int .i64 q.fw, .int .i64 q.bs] 26)) w3.heap.size q (.slice ai3 q.isr.length ci3) (.slice ak3 q.kn.length ck3) (.slice ar3 q.rs.length cr3) ∧ RdP (w3.alloc (.cells #[.int .i64 q.ep, .int .i64 q.ld, .slice ai3 q.isr.length ci3, .slice ak3 q.kn.length ck3, .slice ar3 q.rs.length cr3, .int .i64 q.fw, .int .i64 q.bs] 26)) q (.slice ai3 q.isr.length ci3) (.slice ak3 q.kn.length ck3) (.slice ar3 q.rs.length cr3) us3) := ⟨pb_new w3 q _ _ _ 26 w3.heap.size rfl, RdP.below hr3 (Nat.le_refl _) (bbox _ _)⟩
          have HF3 : Hid (Off b1 q.rs.length (.slice ai3 q.isr.length ci3) (.slice ak3 q.kn.length ck3) (.slice ar3 q.rs.length cr3) us3) := hn3.off HP.out.1.1
          clear s1 a0 a1 a2 a3 a4 a5 a6 f1
          obtain ⟨s1, ⟨a0, a1, a2, a3, a4, a5, a6⟩, f1⟩ := HP.out.1.below HP.out.1.1 hb3
          clear hb3 hr3 t3 hn3
          go_upto_region 11 with fail
          generalize w3.alloc (.cells #[.int .i64 q.ep, .int .i64 q.ld, .slice ai3 q.isr.length ci3, .slice ak3 q.kn.length ck3, .slice ar3 q.rs.length cr3, .int .i64 q.fw, .int .i64 q.bs] 26) = W3 at *
          generalize w3.heap.size = b3 at *
          clear s1 a0 a1 a2 a3 a4 a5 a6 f1
          go_upto_region 12 with fail
          have HB4 : Hid (Below w.heap.size w (put7 W3 b1 q (.slice ai3 q.isr.length ci3) (.slice ak3 q.kn.length ck3) (.slice ar3 q.rs.length cr3))) := below_put HB3.out HLO1 _ _ _ _
          have HN4 : Hid (PB (put7 W3 b1 q (.slice ai3 q.isr.length ci3) (.slice ak3 q.kn.length ck3) (.slice ar3 q.rs.length cr3)) b1 q (.slice ai3 q.isr.length ci3) (.slice ak3 q.kn.length ck3) (.slice ar3 q.rs.length cr3) ∧ RdP (put7 W3 b1 q (.slice ai3 q.isr.length ci3) (.slice ak3 q.kn.length ck3) (.slice ar3 q.rs.length cr3)) q (.slice ai3 q.isr.length ci3) (.slice ak3 q.kn.length ck3) (.slice ar3 q.rs.length cr3) us3) := ⟨HO3.out.1.put _ _ _ _, HN3.out.2.put rfl HF3.out _ _ _ _⟩
          obtain ⟨s1, ⟨a0, a1, a2, a3, a4, a5, a6⟩, f1⟩ := HO3.out.1
          obtain ⟨t1, ⟨c0, c1, c2, c3, c4, c5, c6⟩, g1⟩ := HN3.out.1
          unfold put7 at HB4 HN4
          go_upto_region 13 with fail
          clear s1 a0 a1 a2 a3 a4 a5 a6 f1
          clear t1 c0 c1 c2 c3 c4 c5 c6 g1
          rcases HQ3.out with ⟨-, her, hcal⟩ | ⟨-, z, y, hz, hcal, -⟩
          · obtain ⟨⟨z, y, er⟩, hz⟩ : ∃ x, q.fetchP ((j : Nat) : Int) = x := ⟨_, rfl⟩
            rw [hz] at her
            have HEF : Hid (q.fetchP j = (z, y, er)) := hz
            have HCAL : Hid (calR p j = q) := hcal
            have d0 : ¬ er = 0 := her
            have d1 : (er == 0) = false := by simp; exact her
            clear hz her hcal
            obtain ⟨s1, ⟨a0, a1, a2, a3, a4, a5, a6⟩, f1⟩ := HN4.out.1
            go_wp2_with fail
            refine (fetch_anyF q j _ _ _ us3 _ HN4.out.2 (may_small HMQ.out)).mono ?_
            rintro e w5 ⟨vi5, vk5, vr5, us5, rfl, hr5, hb5, hn5⟩
            rw [HEF.out] at hr5 hn5 ⊢
            obtain ⟨ai5, ci5, ak5, ck5, ar5, cr5, rfl, rfl, rfl, -, -, -⟩ := hr5.lens
            have t5 := bstep hb5 (bbox w5 (.cells #[.int .i64 z.ep, .int .i64 z.ld, .slice ai5 z.isr.length ci5, .slice ak5 z.kn.length ck5, .slice ar5 z.rs.length cr5, .int .i64 z.fw, .int .i64 z.bs] 26))
            have HB5 : Hid (Below w.heap.size w (w5.alloc (.cells #[.int .i64 z.ep, .int .i64 z.ld, .slice ai5 z.isr.length ci5, .slice ak5 z.kn.length ck5, .slice ar5 z.rs.length cr5, .int .i64 z.fw, .int .i64 z.bs] 26))) := bstep HB4.out t5
            have HO5 : Hid (PB (w5.alloc (.cells #[.int .i64 z.ep, .int .i64 z.ld, .slice ai5 z.isr.length ci5, .slice ak5 z.kn.length ck5, .slice ar5 z.rs.length cr5, .int .i64 z.fw, .int .i64 z.bs] 26)) b1 q (.slice ai3 q.isr.length ci3) (.slice ak3 q.kn.length ck3) (.slice ar3 q.rs.length cr3) ∧ RdP (w5.alloc (.cells #[.int .i64 z.ep, .int .i64 z.ld, .slice ai5 z.isr.length ci5, .slice ak5 z.kn.length ck5, .slice ar5 z.rs.length cr5, .int .i64 z.fw, .int .i64 z.bs] 26)) q (.slice ai3 q.isr.length ci3) (.slice ak3 q.kn.length ck3) (.slice ar3 q.rs.length cr3) us3) := ⟨HN4.out.1.below HN4.out.1.1 t5, RdP.below HN4.out.2 (Nat.le_refl _) t5⟩
            have HN5 : Hid (PB (w5.alloc (.cells #[.int .i64 z.ep, .int .i64 z.ld, .slice ai5 z.isr.length ci5, .slice ak5 z.kn.length ck5, .slice ar5 z.rs.length cr5, .int .i64 z.fw, .int .i64 z.bs] 26)) w5.heap.size z (.slice ai5 z.isr.length ci5) (.slice ak5 z.kn.length ck5) (.slice ar5 z.rs.length cr5) ∧ RdP (w5.alloc (.cells #[.int .i64 z.ep, .int .i64 z.ld, .slice ai5 z.isr.length ci5, .slice ak5 z.kn.length ck5, .slice ar5 z.rs.length cr5, .int .i64 z.fw, .int .i64 z.bs] 26)) z (.slice ai5 z.isr.length ci5) (.slice ak5 z.kn.length ck5) (.slice ar5 z.rs.length cr5) us5) := ⟨pb_new w5 z _ _ _ 26 w5.heap.size rfl, RdP.below hr5 (Nat.le_refl _) (bbox _ _)⟩
            have HF5 : Hid (Off b1 z.rs.length (.slice ai5 z.isr.length ci5) (.slice ak5 z.kn.length ck5) (.slice ar5 z.rs.length cr5) us5) := hn5.off HN4.out.1.1
            clear s1 a0 a1 a2 a3 a4 a5 a6 f1
            obtain ⟨s1, ⟨a0, a1, a2, a3, a4, a5, a6⟩, f1⟩ := HN4.out.1.below HN4.out.1.1 hb5
            clear hb5 hr5 t5 hn5
            go_upto_region 14 with fail
            generalize w5.alloc (.cells #[.int .i64 z.ep, .int .i64 z.ld, .slice ai5 z.isr.length ci5, .slice ak5 z.kn.length ck5, .slice ar5 z.rs.length cr5, .int .i64 z.fw, .int .i64 z.bs] 26) = W5 at *
            generalize w5.heap.size = b5 at *
            clear s1 a0 a1 a2 a3 a4 a5 a6 f1
            go_wp2
            go_roundw
            case rel => exact ⟨j + 1, by omega, by go_num, ⟨_, _, _, us3, by rw [HNX.out, HCAL.out]; exact HO5.out, HB5.out⟩⟩
            case measure => simp [intOf]; omega
          · have HEF : Hid (q.fetchP j = (z, y, 0)) := hz
            have HCAL : Hid (calR p j = z) := hcal
            clear hz hcal
            obtain ⟨s1, ⟨a0, a1, a2, a3, a4, a5, a6⟩, f1⟩ := HN4.out.1
            go_wp2_with fail
            refine (fetch_anyF q j _ _ _ us3 _ HN4.out.2 (may_small HMQ.out)).mono ?_
            rintro e w5 ⟨vi5, vk5, vr5, us5, rfl, hr5, hb5, hn5⟩
            rw [HEF.out] at hr5 hn5 ⊢
            obtain ⟨ai5, ci5, ak5, ck5, ar5, cr5, rfl, rfl, rfl, -, -, -⟩ := hr5.lens
            have t5 := bstep hb5 (bbox w5 (.cells #[.int .i64 z.ep, .int .i64 z.ld, .slice ai5 z.isr.length ci5, .slice ak5 z.kn.length ck5, .slice ar5 z.rs.length cr5, .int .i64 z.fw, .int .i64 z.bs] 26))
            have HB5 : Hid (Below w.heap.size w (w5.alloc (.cells #[.int .i64 z.ep, .int .i64 z.ld, .slice ai5 z.isr.length ci5, .slice ak5 z.kn.length ck5, .slice ar5 z.rs.length cr5, .int .i64 z.fw, .int .i64 z.bs] 26))) := bstep HB4.out t5
            have HO5 : Hid (PB (w5.alloc (.cells #[.int .i64 z.ep, .int .i64 z.ld, .slice ai5 z.isr.length ci5, .slice ak5 z.kn.length ck5, .slice ar5 z.rs.length cr5, .int .i64 z.fw, .int .i64 z.bs] 26)) b1 q (.slice ai3 q.isr.length ci3) (.slice ak3 q.kn.length ck3) (.slice ar3 q.rs.length cr3) ∧ RdP (w5.alloc (.cells #[.int .i64 z.ep, .int .i64 z.ld, .slice ai5 z.isr.length ci5, .slice ak5 z.kn.length ck5, .slice ar5 z.rs.length cr5, .int .i64 z.fw, .int .i64 z.bs] 26)) q (.slice ai3 q.isr.length ci3) (.slice ak3 q.kn.length ck3) (.slice ar3 q.rs.length cr3) us3) := ⟨HN4.out.1.below HN4.out.1.1 t5, RdP.below HN4.out.2 (Nat.le_refl _) t5⟩
            have HN5 : Hid (PB (w5.alloc (.cells #[.int .i64 z.ep, .int .i64 z.ld, .slice ai5 z.isr.length ci5, .slice ak5 z.kn.length ck5, .slice ar5 z.rs.length cr5, .int .i64 z.fw, .int .i64 z.bs] 26)) w5.heap.size z (.slice ai5 z.isr.length ci5) (.slice ak5 z.kn.length ck5) (.slice ar5 z.rs.length cr5) ∧ RdP (w5.alloc (.cells #[.int .i64 z.ep, .int .i64 z.ld, .slice ai5 z.isr.length ci5, .slice ak5 z.kn.length ck5, .slice ar5 z.rs.length cr5, .int .i64 z.fw, .int .i64 z.bs] 26)) z (.slice ai5 z.isr.length ci5) (.slice ak5 z.kn.length ck5) (.slice ar5 z.rs.length cr5) us5) := ⟨pb_new w5 z _ _ _ 26 w5.heap.size rfl, RdP.below hr5 (Nat.le_refl _) (bbox _ _)⟩
            have HF5 : Hid (Off b1 z.rs.length (.slice ai5 z.isr.length ci5) (.slice ak5 z.kn.length ck5) (.slice ar5 z.rs.length cr5) us5) := hn5.off HN4.out.1.1
            clear s1 a0 a1 a2 a3 a4 a5 a6 f1
            obtain ⟨s1, ⟨a0, a1, a2, a3, a4, a5, a6⟩, f1⟩ := HN4.out.1.below HN4.out.1.1 hb5
            clear hb5 hr5 t5 hn5
            go_upto_region 14 with fail
            generalize w5.alloc (.cells #[.int .i64 z.ep, .int .i64 z.ld, .slice ai5 z.isr.length ci5, .slice ak5 z.kn.length ck5, .slice ar5 z.rs.length cr5, .int .i64 z.fw, .int .i64 z.bs] 26) = W5 at *
            generalize w5.heap.size = b5 at *
            clear s1 a0 a1 a2 a3 a4 a5 a6 f1
            go_upto_region 15 with fail
            have HB6 : Hid (Below w.heap.size w (put7 W5 b1 z (.slice ai5 z.isr.length ci5) (.slice ak5 z.kn.length ck5) (.slice ar5 z.rs.length cr5))) := below_put HB5.out HLO1 _ _ _ _
            have HN6 : Hid (PB (put7 W5 b1 z (.slice ai5 z.isr.length ci5) (.slice ak5 z.kn.length ck5) (.slice ar5 z.rs.length cr5)) b1 z (.slice ai5 z.isr.length ci5) (.slice ak5 z.kn.length ck5) (.slice ar5 z.rs.length cr5) ∧ RdP (put7 W5 b1 z (.slice ai5 z.isr.length ci5) (.slice ak5 z.kn.length ck5) (.slice ar5 z.rs.length cr5)) z (.slice ai5 z.isr.length ci5) (.slice ak5 z.kn.length ck5) (.slice ar5 z.rs.length cr5) us5) := ⟨HO5.out.1.put _ _ _ _, HN5.out.2.put rfl HF5.out _ _ _ _⟩
            obtain ⟨s1, ⟨a0, a1, a2, a3, a4, a5, a6⟩, f1⟩ := HO5.out.1
            obtain ⟨t1, ⟨c0, c1, c2, c3, c4, c5, c6⟩, g1⟩ := HN5.out.1
            unfold put7 at HB6 HN6
            go_upto_region 16 with fail
            clear s1 a0 a1 a2 a3 a4 a5 a6 f1
            clear t1 c0 c1 c2 c3 c4 c5 c6 g1
            go_wp2
            go_roundw
            case rel => exact ⟨j + 1, by omega, by go_num, ⟨_, _, _, us5, by rw [HNX.out, HCAL.out]; exact HN6.out, HB6.out⟩⟩
            case measure => simp [intOf]; omega
        · have hjk2 : j = k := by omega
          have HX := HJ
          rw [hjk2, ← HTN.out] at HX
          clear HJ HI2 HCS HTN
          go_wp2
          go_roundw
          case rel => exact ⟨t + 1, by omega, by go_num, HX⟩
          case measure => simp [intOf]; omega
    · obtain ⟨vi, vk, vr, us, ⟨hp, hr⟩, hb⟩ := HI.out
      obtain ⟨ai, ci, ak, ck, ar, cr, rfl, rfl, rfl, -, -, -⟩ := hr.lens
      have hKM := (HS.out t).keptM
      have hend := calm_end (by omega) (HS.out t) (by omega)
      obtain ⟨p, hpe⟩ : ∃ p, calT P0 k t = p := ⟨_, rfl⟩
      rw [hpe] at hp hr hKM hend
      obtain ⟨hld, hrl, hes, hsf, hlf, hall⟩ := hend
      have HM := hKM.may
      have h0p : 0 < p.rs.length := by omega
      have HAL : Hid (∀ i, i < k → (p.at i).l = (p.at 0).l ∧ (p.at i).h = L) := hall
      have HLF : Hid (lft (p.at 0).l (p.at 0).y = 0) := hlf
      have HLN : Hid ((p.at 0).l.length ≤ 140737488351232) := show _ ≤ _ by have := may_len HM h0p; omega
      have HE : Hid ((decL (p.at 0).l).1.length = L ∧ (decL ((p.at 0).l.take (p.at 0).y.toNat)).1.length = L) := ⟨hes, hsf⟩
      have HP : Hid (PB _ b1 p _ _ _ ∧ RdP _ p _ _ _ us) := ⟨hp, hr⟩
      have HB : Hid (Below w.heap.size w _) := hb
      obtain ⟨g, off, rfl, hus, r0, r1, r2, r3, r4⟩ := hr.2.2.cells 0 h0p
      have HRL : Hid _ := r0
      simp only [Nat.zero_mul, Nat.add_zero] at r1 r2 r3 r4
      have hk0 : (0 : Int) < k := by omega
      have hrlv : ((p.rs.length : Nat) : Int) = k := by omega
      clear hp hr hb hpe hKM hes hsf hlf hall HM r0 HI HS
      obtain ⟨au, cu, eu⟩ : ∃ au cu, us 0 = .slice au (p.at 0).l.length cu := by obtain ⟨_, au, cu, e, _⟩ := HRL.out; exact ⟨au, cu, e⟩
      have HRL2 := HRL
      rw [eu] at HRL2
      rw [eu] at r2
      obtain ⟨s1, ⟨a0, a1, a2, a3, a4, a5, a6⟩, f1⟩ := HP.out.1
      rw [hld] at a1
      go_wp2_with fail
      refine (segEntries_ok (p.at 0).l _ (p.at 0).y _ (by have := HLN.out; omega) HRL2.out HLF.out).mono ?_
      rintro e w4 ⟨v4, rfl, ho4, hb4⟩
      obtain ⟨a4', c4, rfl⟩ := ho4.shape
      rw [HE.out.1, HE.out.2]
      have HB4 : Hid (Below w.heap.size w w4) := bstep HB.out hb4
      have HP4 : Hid (PB w4 b1 p _ _ _ ∧ RdP w4 p _ _ _ us) := ⟨HP.out.1.below HP.out.1.1 hb4, RdP.below HP.out.2 (Nat.le_refl _) hb4⟩
      clear ho4 hb4 s1 a0 a1 a2 a3 a4 a5 a6 f1 r1 r2 r3 r4 HP
      obtain ⟨s1, ⟨a0, a1, a2, a3, a4, a5, a6⟩, f1⟩ := HP4.out.1
      rw [hld] at a1
      go_upto_region 20 with fail
      clear s1 a0 a1 a2 a3 a4 a5 a6 f1
      go_loopw [72] (fun i wx => ∃ m : Nat, m ≤ k ∧ i = .int .i64 m ∧ Hid (Below w4.heap.size w4 wx)) (fun i _ => k - (intOf i).toNat)
      case atStart => exact ⟨0, by omega, rfl, Below.refl _ _⟩
      case round =>
        obtain ⟨m, hm, rfl, HBX⟩ := hrel
        rename World => wx
        have HPX : Hid (PB wx b1 p _ _ _ ∧ RdP wx p _ _ _ us) := ⟨HP4.out.1.below HP4.out.1.1 HBX.out, RdP.below HP4.out.2 (Nat.le_refl _) HBX.out⟩
        by_cases hmk : m < k
        · have hmv : (m : Int) < k := by omega
          have hmv2 : (m : Int) < p.rs.length := by omega
          obtain ⟨g2, off2, hg2, -, q0, q1, q2, q3, q4⟩ := HPX.out.2.2.2.cells m (by omega)
          obtain ⟨rfl, rfl⟩ : g = g2 ∧ off = off2 := by simpa using hg2
          obtain ⟨g3, off3, hg3, -, p0, p1, p2, p3, p4⟩ := HPX.out.2.2.2.cells 0 h0p
          obtain ⟨rfl, rfl⟩ : g = g3 ∧ off = off3 := by simpa using hg3
          simp only [Nat.zero_mul, Nat.add_zero] at p1 p2 p3 p4
          obtain ⟨hml, hmh⟩ := HAL.out m hmk
          rw [hml] at q0
          rw [hmh] at q4
          obtain ⟨aum, cum, eum⟩ : ∃ au cu, us m = .slice au (p.at 0).l.length cu := by obtain ⟨_, au, cu, e, _⟩ := q0; exact ⟨au, cu, e⟩
          rw [eum] at q0 q2
          rw [eu] at p0 p2
          have t5 := bbox wx (.cells #[.bool (p.at m).up, .slice aum (p.at 0).l.length cum, .int .i64 (p.at m).y, .int .i64 L] 63)
          have c1 := fun q => conv_str ((q0.below (Nat.le_refl _) t5).drewN q)
          have c2 := fun q => conv_str ((p0.below (Nat.le_refl _) t5).drewN q)
          have hpw := HPX.out.1.below HPX.out.1.1 t5
          have hrw := RdP.below HPX.out.2 (Nat.le_refl _) t5
          obtain ⟨g4, off4, hg4, -, z0, z1, z2, z3, z4⟩ := hrw.2.2.cells 0 h0p
          obtain ⟨rfl, rfl⟩ : g = g4 ∧ off = off4 := by simpa using hg4
          clear z0 z1 z3 z4 hg4
          simp only [Nat.zero_mul, Nat.add_zero] at z2
          rw [eu] at z2
          have HBW : Hid (Below w4.heap.size w4 (wx.alloc (.cells #[.bool (p.at m).up, .slice aum (p.at 0).l.length cum, .int .i64 (p.at m).y, .int .i64 L] 63))) := bstep HBX.out t5
          obtain ⟨s1, ⟨a0, a1, a2, a3, a4, a5, a6⟩, f1⟩ := hpw
          clear hg2 hg3 p0 q0 p1 p2 p3 p4 t5 hrw HPX HBX hml hmh eum
          go_upto_region 22 with fail
          have x1 : (wx.alloc (.cells #[.bool (p.at m).up, .slice aum (p.at 0).l.length cum, .int .i64 (p.at m).y, .int .i64 L] 63)).cell? ⟨wx.heap.size, 1, none⟩ = some (.slice aum (p.at 0).l.length cum) := by simp [go_sem]
          have x3 : (wx.alloc (.cells #[.bool (p.at m).up, .slice aum (p.at 0).l.length cum, .int .i64 (p.at m).y, .int .i64 L] 63)).cell? ⟨wx.heap.size, 3, none⟩ = some (.int .i64 L) := by simp [go_sem]
          clear q1 q2 q3 q4
          generalize wx.alloc (.cells #[.bool (p.at m).up, .slice aum (p.at 0).l.length cum, .int .i64 (p.at m).y, .int .i64 L] 63) = W5 at *
          generalize wx.heap.size = b5 at *
          go_quiet (fail)
          go_wp2
          go_roundw
          case rel => exact ⟨m + 1, by omega, by go_num, below_drewN HBW.out _⟩
          case measure => simp [intOf]; omega
        · have hmv : ¬ (m : Int) < k := by omega
          have HBF : Hid (Below w.heap.size w wx) := bstep HB4.out HBX.out
          obtain ⟨s1, ⟨a0, a1, a2, a3, a4, a5, a6⟩, f1⟩ := HPX.out.1
          rw [hld] at a1
          clear HBX HPX
          go_wp2
          go_ret
          exact ⟨rfl, HBF.out⟩

end Go.Proofs.Ytkolelpdedmkeaa
