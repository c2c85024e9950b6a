/-
  What lasts too long is aborted, and its producer is fenced; what does not is not: the walk.
-/
import Derived.Test.YtjhpfnogdjpbmaaCplayw
import Derived.Test.YtjhpfnogdjpbmaaCplay2
import Derived.Test.YtjhpfnogdjpbmaaChold
namespace Go.Proofs.Ytjhpfnogdjpbmaa
open Go.RowKit
set_option linter.unusedVariables false
set_option linter.unusedSimpArgs false

def wT : Txn := ⟨nmD, 1, 0, 2, [1], 0, 0⟩
theorem co_zero {k : Int} (h1 : 1 ≤ k) (h2 : k ≤ 1000) (N : ByteArray → Prop) : CoP N ⟨0, 1, k, []⟩ := by
  exact ⟨⟨by show (0 : Int) ≤ 0; omega, by show (0 : Int) ≤ 1073741824; omega, by show (1 : Int) ≤ 1; omega, by show (1 : Int) ≤ 1073741824; omega, h1, h2, by simp, fun i hi => by simp at hi, fun i k hi => by simp at hi⟩, fun i hi => by simp at hi, rfl⟩

set_option maxRecDepth 100000 in
set_option maxHeartbeats 4000000 in
theorem coordWaits_core (m n : Int) (w : World) (hm : -9223372036854775808 ≤ m ∧ m ≤ 9223372036854775807) (hn : -9223372036854775808 ≤ n ∧ n ≤ 9223372036854775807) :
    Calls Try.prog 15 #[.int .i64 m, .int .i64 n] w fun e w' => e = .returned (.bool true) ∧ Below w.heap.size w w' := by
  have hpm := pick_bd m 50 (by omega)
  have hpn := pick_bd n 100 (by omega)
  obtain ⟨k, hk⟩ : ∃ k, 1 + pick m 50 = k := ⟨_, rfl⟩
  obtain ⟨t, ht⟩ : ∃ t, pick n 100 = t := ⟨_, rfl⟩
  have hk1 : 1 ≤ k := by omega
  have hk2 : k ≤ 50 := by omega
  rw [ht] at hpn
  obtain ⟨ht0, ht1⟩ := hpn
  have HND : Hid (nmD.size ≤ maxLen) := show _ ≤ _ by decide
  have HTW : Hid ((Lit.int .i64 t).wf = true) := show _ = _ by simp [Lit.wf, IntKind.min, IntKind.max, IntKind.signed, IntKind.bits]; omega
  have HTF : Hid ((Lit.int .i64 1001).wf = true) := show _ = _ by decide
  have hC0 := co_zero hk1 (by omega : k ≤ 1000) (fun _ => True)
  have HE0 : Hid (newC k = (⟨0, 1, k, []⟩, 0)) := show _ = _ by unfold newC; rw [if_pos]; rw [inR_iff]; omega
  have g1 := init_new hC0.m nmD_ok (fun j hj => by simp at hj) (by simp) (by show (1 : Int) < _; omega)
  have hC1 : CoP (fun _ => True) ⟨0, 2, k, [newT nmD 1]⟩ := co_new hC0 trivial nmD_ok (by rw [pos_none (fun j hj => by simp at hj)]; decide) (by simp) (by show (1 : Int) < _; omega)
  have HE1 : Hid ((⟨0, 1, k, []⟩ : Crd).initP nmD = (⟨0, 2, k, [newT nmD 1]⟩, 1, 0, 0)) := g1
  have g2 := add_ok (k := 0) (v := 0) (p := 1) hC1.m nmD_ok (by simp) rfl rfl (by decide) rfl
  have hC2 : CoP (fun _ => True) ⟨0, 2, k, [wT]⟩ := co_setT (i := 0) hC1 (by simp) (addT_ok (p := 1) hC1.m (k := 0) (by simp) (by decide) rfl) rfl rfl
  have HE2 : Hid ((⟨0, 2, k, [newT nmD 1]⟩ : Crd).addP nmD 0 1 = (⟨0, 2, k, [wT]⟩, 0)) := g2
  have g3 := tick_ok' (n := t) hC2.m (by rw [inR_iff]; omega) (by show (0 : Int) + t ≤ _; omega)
  have hC3 := @co_tick (fun _ => True) _ hC2 t (by rw [g3])
  rw [g3] at hC3
  have e0 : (0 : Int) + t = t := by omega
  simp only [e0, List.map_cons, List.map_nil] at g3 hC3
  have HE3 : Hid ((⟨0, 2, k, [wT]⟩ : Crd).tickP t = (⟨t, 2, k, [wT.tick t k]⟩, 0)) := g3
  have HE6 : Hid ((⟨t, 2, k, [wT.tick t k]⟩ : Crd).tickP 1001 = (Crd.zero, 2)) := tick_far hC3.m (by decide)
  have HF0 : Hid (Crd.fits ⟨0, 1, k, []⟩) := mayC_fits hC0.m
  have HF1 : Hid (Crd.fits ⟨0, 2, k, [newT nmD 1]⟩) := mayC_fits hC1.m
  have HF2 : Hid (Crd.fits ⟨0, 2, k, [wT]⟩) := mayC_fits hC2.m
  have HF3 : Hid (Crd.fits ⟨t, 2, k, [wT.tick t k]⟩) := mayC_fits hC3.m
  have hkey : ∃ z4 i nm pp pid vr kd tx j, (⟨t, 2, k, [wT.tick t k]⟩ : Crd).endP nmD 0 true = (z4, i) ∧ (⟨t, 2, k, [wT.tick t k]⟩ : Crd).nextP 0 = (nm, pp, pid, vr, kd, tx, j) ∧ ((k ≤ t ∧ i = 10 ∧ j = 0 ∧ kd = 3 ∧ vr = 1) ∨ (¬ k ≤ t ∧ i = 0 ∧ j = 15)) := by
    by_cases hlt : k ≤ t
    · have hl : wT.lateB t k = true := by unfold Txn.lateB wT; simp; omega
      have he : wT.tick t k = { wT with st := 4, v := 1 } := by unfold Txn.tick; rw [if_pos hl]; rfl
      rw [he] at hC3 ⊢
      have hf := kfl_val (k := 0) hC3.m nmD_ok (by simp) rfl 0
      rw [if_neg (by show ¬ (1 : Int) = 0; omega)] at hf
      refine ⟨Crd.zero, 10, nmD, 1, 1, 1, 3, true, 0, end_bad hf (by decide), ?_, .inl ⟨hlt, rfl, rfl, rfl, rfl⟩⟩
      · unfold Crd.nextP
        rw [if_neg (by rw [mayC_iff.2 hC3.m]; simp)]
        rfl
    · have hl : wT.lateB t k = false := by unfold Txn.lateB wT; simp; omega
      have he : wT.tick t k = wT := by unfold Txn.tick; rw [if_neg (by rw [hl]; simp)]
      rw [he] at hC3 ⊢
      have hv := end_val (k := 0) (v := 0) true hC3.m nmD_ok (by simp) rfl rfl
      rw [if_pos (by rfl)] at hv
      refine ⟨_, 0, ⟨#[]⟩, 0, 0, 0, 0, false, 15, hv, ?_, .inr ⟨hlt, rfl, rfl⟩⟩
      · unfold Crd.nextP
        rw [if_neg (by rw [mayC_iff.2 hC3.m]; simp)]
        rfl
  obtain ⟨z4, i, nm, pp, pid, vr, kd, tx, j, g4, g5, g6⟩ := hkey
  have HE4 : Hid ((⟨t, 2, k, [wT.tick t k]⟩ : Crd).endP nmD 0 true = (z4, i)) := g4
  have HE5 : Hid ((⟨t, 2, k, [wT.tick t k]⟩ : Crd).nextP 0 = (nm, pp, pid, vr, kd, tx, j)) := g5
  have HAN : Hid ((k ≤ t ∧ i = 10 ∧ j = 0 ∧ kd = 3 ∧ vr = 1) ∨ (¬ k ≤ t ∧ i = 0 ∧ j = 15)) := g6
  have HK : Hid (1 + pick m 50 = k) := hk
  have HT : Hid (pick n 100 = t) := ht
  obtain ⟨c1, hc1⟩ : ∃ c1 : Crd, ⟨0, 2, k, [newT nmD 1]⟩ = c1 := ⟨_, rfl⟩
  obtain ⟨c2, hc2⟩ : ∃ c2 : Crd, ⟨0, 2, k, [wT]⟩ = c2 := ⟨_, rfl⟩
  obtain ⟨c3, hc3⟩ : ∃ c3 : Crd, ⟨t, 2, k, [wT.tick t k]⟩ = c3 := ⟨_, rfl⟩
  rw [hc1] at HE1 HE2 HF1
  rw [hc2] at HE2 HE3 HF2
  rw [hc3] at HE3 HE4 HE5 HE6 HF3
  clear hC0 hC1 hC2 hC3 g1 g2 g3 g4 g5 g6 hk ht e0 hc1 hc2 hc3
  go_enter Try.func15, Try.ntmps15
  go_wp2_with fail
  refine (picked_any m 50 _ hm ⟨by omega, by omega⟩).mono ?_
  rintro e w0 ⟨rfl, hw0⟩
  rw [hw0]
  clear hw0
  go_upto_region 2 with fail
  rw [HK.out]
  go_wp2_with fail
  refine (picked_any n 100 _ hn ⟨by omega, by omega⟩).mono ?_
  rintro e w0 ⟨rfl, hw0⟩
  rw [hw0]
  clear hw0
  rw [HT.out]
  go_wp2_with fail
  refine (cnew_any k _).mono ?_
  rintro e w1 ⟨rfl, hb1⟩
  rw [HE0.out]
  have HB0 : Hid (Below w.heap.size w (w1.alloc (.cells #[.int .i64 0, .int .i64 1, .int .i64 k, .slice none 0 0] 24))) := bstep hb1 (bbox _ _)
  have HC0 : Hid (Hold (w1.alloc (.cells #[.int .i64 0, .int .i64 1, .int .i64 k, .slice none 0 0] 24)) w1.heap.size ⟨0, 1, k, []⟩ (.slice none 0 0) (fun _ => .slice none 0 0)) := ⟨cb_new w1 ⟨0, 1, k, []⟩ (.slice none 0 0) 24 w1.heap.size rfl, FreshC.rd (freshC_nil' _ rfl (Nat.le_refl _))⟩
  have HLO : w.heap.size ≤ w1.heap.size := hb1.size
  clear hb1
  go_upto_region 4 with fail
  generalize w1.alloc (.cells #[.int .i64 0, .int .i64 1, .int .i64 k, .slice none 0 0] 24) = W1 at *
  generalize w1.heap.size = b1 at *
  obtain ⟨s1, ⟨a0, a1, a2, a3⟩, f1⟩ := HC0.out.1
  go_wp2_with fail
  refine (init_any ⟨0, 1, k, []⟩ nmD _ (fun _ => .slice none 0 0) _ HC0.out.2 HF0.out HND.out).mono ?_
  rintro e w2 ⟨v2, us2, rfl, hf2, hb2⟩
  rw [HE1.out] at hf2 ⊢
  obtain ⟨k2, q2, rfl⟩ := hf2.shapeOf
  have hc2 := HC0.out.1.below HC0.out.1.1 hb2
  have HB2 : Hid (Below w.heap.size w (put4 w2 b1 c1 (.slice k2 c1.ts.length q2))) := below_put4 (bstep HB0.out hb2) HLO _ _
  have HN2 : Hid (Hold (put4 w2 b1 c1 (.slice k2 c1.ts.length q2)) b1 c1 (.slice k2 c1.ts.length q2) us2) := ⟨hc2.put _ _, FreshC.rd (FreshC.put4 hf2 HC0.out.1.1 _ _)⟩
  clear s1 a0 a1 a2 a3 f1
  obtain ⟨s1, ⟨a0, a1, a2, a3⟩, f1⟩ := hc2
  unfold put4 at HB2 HN2
  clear hb2 hf2
  go_upto_region 5 with fail
  clear s1 a0 a1 a2 a3 f1
  obtain ⟨s1, ⟨a0, a1, a2, a3⟩, f1⟩ := HN2.out.1
  go_wp2_with fail
  refine (add_any c1 nmD 0 1 _ us2 _ HN2.out.2 HF1.out HND.out).mono ?_
  rintro e w3 ⟨v3, us3, rfl, hf3, hb3⟩
  rw [HE2.out] at hf3 ⊢
  obtain ⟨k3, q3, rfl⟩ := hf3.shapeOf
  have hc3 := HN2.out.1.below HN2.out.1.1 hb3
  have HB3 : Hid (Below w.heap.size w (put4 w3 b1 c2 (.slice k3 c2.ts.length q3))) := below_put4 (bstep HB2.out hb3) HLO _ _
  have HN3 : Hid (Hold (put4 w3 b1 c2 (.slice k3 c2.ts.length q3)) b1 c2 (.slice k3 c2.ts.length q3) us3) := ⟨hc3.put _ _, FreshC.rd (FreshC.put4 hf3 HN2.out.1.1 _ _)⟩
  clear s1 a0 a1 a2 a3 f1
  obtain ⟨s1, ⟨a0, a1, a2, a3⟩, f1⟩ := hc3
  unfold put4 at HB3 HN3
  clear hb3 hf3
  go_upto_region 6 with fail
  clear s1 a0 a1 a2 a3 f1
  obtain ⟨s1, ⟨a0, a1, a2, a3⟩, f1⟩ := HN3.out.1
  go_wp2_with fail
  refine (tick_any c2 t _ us3 _ HN3.out.2 HF2.out HTW.out).mono ?_
  rintro e w4 ⟨v4, us4, rfl, hf4, hb4⟩
  rw [HE3.out] at hf4 ⊢
  obtain ⟨k4, q4, rfl⟩ := hf4.shapeOf
  have hc4 := HN3.out.1.below HN3.out.1.1 hb4
  have HB4 : Hid (Below w.heap.size w (put4 w4 b1 c3 (.slice k4 c3.ts.length q4))) := below_put4 (bstep HB3.out hb4) HLO _ _
  have HN4 : Hid (Hold (put4 w4 b1 c3 (.slice k4 c3.ts.length q4)) b1 c3 (.slice k4 c3.ts.length q4) us4) := ⟨hc4.put _ _, FreshC.rd (FreshC.put4 hf4 HN3.out.1.1 _ _)⟩
  clear s1 a0 a1 a2 a3 f1
  obtain ⟨s1, ⟨a0, a1, a2, a3⟩, f1⟩ := hc4
  unfold put4 at HB4 HN4
  clear hb4 hf4
  go_upto_region 7 with fail
  clear s1 a0 a1 a2 a3 f1
  obtain ⟨s1, ⟨a0, a1, a2, a3⟩, f1⟩ := HN4.out.1
  go_wp2_with fail
  refine (end_any c3 nmD 0 true _ us4 _ HN4.out.2 HF3.out HND.out).mono ?_
  rintro e w5 ⟨v5, us5, rfl, hf5, hb5⟩
  rw [HE4.out] at hf5 ⊢
  obtain ⟨k5, q5, rfl⟩ := hf5.shapeOf
  have t5 := bstep hb5 (bbox w5 (.cells #[.int .i64 z4.ck, .int .i64 z4.nx, .int .i64 z4.wt, .slice k5 z4.ts.length q5] 24))
  have HB5 : Hid (Below w.heap.size w (w5.alloc (.cells #[.int .i64 z4.ck, .int .i64 z4.nx, .int .i64 z4.wt, .slice k5 z4.ts.length q5] 24))) := bstep HB4.out t5
  have HN4_5 : Hid (Hold (w5.alloc (.cells #[.int .i64 z4.ck, .int .i64 z4.nx, .int .i64 z4.wt, .slice k5 z4.ts.length q5] 24)) b1 c3 (.slice k4 c3.ts.length q4) us4) := HN4.out.below t5
  clear s1 a0 a1 a2 a3 f1
  obtain ⟨s1, ⟨a0, a1, a2, a3⟩, f1⟩ := (HN4.out.below hb5).1
  clear hb5 hf5 t5
  go_upto_region 8 with fail
  generalize w5.alloc (.cells #[.int .i64 z4.ck, .int .i64 z4.nx, .int .i64 z4.wt, .slice k5 z4.ts.length q5] 24) = W5 at *
  generalize w5.heap.size = b5 at *
  clear s1 a0 a1 a2 a3 f1
  obtain ⟨s1, ⟨a0, a1, a2, a3⟩, f1⟩ := HN4_5.out.1
  go_wp2_with fail
  refine (next_any c3 0 _ us4 _ HN4_5.out.2 HF3.out.n).mono ?_
  rintro e w6 ⟨rfl, hb6⟩
  rw [HE5.out]
  unfold nextV entV
  simp only
  have t6 := bstep hb6 (bbox w6 (.cells #[.int .i64 0, .int .i64 pid, .int .i64 vr, .int .i64 0, .int .i64 kd, .bool tx, .string ⟨#[]⟩] 41))
  have HB6 : Hid (Below w.heap.size w (w6.alloc (.cells #[.int .i64 0, .int .i64 pid, .int .i64 vr, .int .i64 0, .int .i64 kd, .bool tx, .string ⟨#[]⟩] 41))) := bstep HB5.out t6
  have HC6 : Hid (Hold (w6.alloc (.cells #[.int .i64 0, .int .i64 pid, .int .i64 vr, .int .i64 0, .int .i64 kd, .bool tx, .string ⟨#[]⟩] 41)) b1 c3 (.slice k4 c3.ts.length q4) us4) := HN4_5.out.below t6
  have HX6 : Hid (EB (w6.alloc (.cells #[.int .i64 0, .int .i64 pid, .int .i64 vr, .int .i64 0, .int .i64 kd, .bool tx, .string ⟨#[]⟩] 41)) w6.heap.size pid vr kd tx) := eb_new w6 _ _ _ _ _ rfl
  clear s1 a0 a1 a2 a3 f1
  obtain ⟨s1, ⟨a0, a1, a2, a3⟩, f1⟩ := (HN4_5.out.below hb6).1
  clear hb6 t6
  go_upto_region 9 with fail
  generalize w6.alloc (.cells #[.int .i64 0, .int .i64 pid, .int .i64 vr, .int .i64 0, .int .i64 kd, .bool tx, .string ⟨#[]⟩] 41) = W6 at *
  generalize w6.heap.size = b6 at *
  clear s1 a0 a1 a2 a3 f1
  obtain ⟨s1, ⟨a0, a1, a2, a3⟩, f1⟩ := HC6.out.1
  go_wp2_with fail
  refine (tick_any c3 1001 _ us4 _ HC6.out.2 HF3.out HTF.out).mono ?_
  rintro e w7 ⟨v7, us7, rfl, hf7, hb7⟩
  rw [HE6.out] at hf7 ⊢
  obtain ⟨k7, q7, rfl⟩ := hf7.shapeOf
  have t7 := bstep hb7 (bbox w7 (.cells #[.int .i64 Crd.zero.ck, .int .i64 Crd.zero.nx, .int .i64 Crd.zero.wt, .slice k7 Crd.zero.ts.length q7] 24))
  have HB7 : Hid (Below w.heap.size w (w7.alloc (.cells #[.int .i64 Crd.zero.ck, .int .i64 Crd.zero.nx, .int .i64 Crd.zero.wt, .slice k7 Crd.zero.ts.length q7] 24))) := bstep HB6.out t7
  have HC6_7 : Hid (Hold (w7.alloc (.cells #[.int .i64 Crd.zero.ck, .int .i64 Crd.zero.nx, .int .i64 Crd.zero.wt, .slice k7 Crd.zero.ts.length q7] 24)) b1 c3 (.slice k4 c3.ts.length q4) us4) := HC6.out.below t7
  clear s1 a0 a1 a2 a3 f1
  obtain ⟨s1, ⟨a0, a1, a2, a3⟩, f1⟩ := (HC6.out.below hb7).1
  have HX7 := HX6.out.below t7
  clear hb7 hf7 t7
  go_upto_region 10 with fail
  generalize w7.alloc (.cells #[.int .i64 Crd.zero.ck, .int .i64 Crd.zero.nx, .int .i64 Crd.zero.wt, .slice k7 Crd.zero.ts.length q7] 24) = W7 at *
  generalize w7.heap.size = b7 at *
  clear s1 a0 a1 a2 a3 f1
  obtain ⟨z1, ⟨e0, e1, e2, e3, e4, e5, e6⟩, g1⟩ := HX7
  rcases HAN.out with ⟨hlt, rfl, rfl, rfl, rfl⟩ | ⟨hlt, rfl, rfl⟩
  · go_wp2
    go_ret
    exact ⟨rfl, HB7.out⟩
  · go_wp2
    go_ret
    exact ⟨rfl, HB7.out⟩

end Go.Proofs.Ytjhpfnogdjpbmaa
