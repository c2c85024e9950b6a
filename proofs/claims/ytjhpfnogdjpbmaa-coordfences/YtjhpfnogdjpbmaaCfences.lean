/-
  Who has an old version is refused: the walk.
-/
import Derived.Test.YtjhpfnogdjpbmaaCplayw
import Derived.Test.YtjhpfnogdjpbmaaCplay2
import Derived.Test.YtjhpfnogdjpbmaaChold
namespace Go.Proofs.Ytjhpfnogdjpbmaa
open Go.RowKit
set_option linter.unusedVariables false
set_option linter.unusedSimpArgs false

set_option maxRecDepth 100000 in
set_option maxHeartbeats 4000000 in
theorem coordFences_core (rs : List Raw4) (v : Value) (n : Int) (w : World) (hl : (rs.length : Int) ≤ 9223372036854775807) (hn : -9223372036854775808 ≤ n ∧ n ≤ 9223372036854775807) (h : RdR w v rs) :
    Calls Try.prog 13 #[v, .int .i64 n] w fun e w' => e = .returned (.bool true) ∧ Below w.heap.size w w' := by
  have hpk := pick_bd n 4 (by omega)
  have HND : Hid (nmD.size ≤ maxLen) := show _ ≤ _ by decide
  have HNN : Hid (nmN.size ≤ maxLen) := show _ ≤ _ by decide
  go_enter Try.func13, Try.ntmps13
  go_wp2_with fail
  refine (coordinated_any rs 40 v _ h hl (by omega)).mono ?_
  rintro e w1 ⟨c, vt, us, rfl, hC, hr1, hb1⟩
  obtain ⟨g1, hC1, hk, ha⟩ := dee_new hC
  have HF : Hid c.fits := mayC_fits hC.m
  obtain ⟨c1, hc1⟩ : ∃ c1 : Crd, { c with nx := c.nx + 1, ts := c.ts ++ [newT nmD c.nx] } = c1 := ⟨_, rfl⟩
  rw [hc1] at g1 hC1 hk ha
  have HE1 : Hid (c.initP nmD = (c1, c.nx, 0, 0)) := g1
  have HF1 : Hid c1.fits := mayC_fits hC1.m
  have g2 := init_old hC1.m nmD_ok hk (by rw [ha]; rfl) (by rw [ha]; rfl) (by rw [ha]; show (0 : Int) ≠ 1073741824; omega)
  have hD : CoP isName4 (c1.setT c.ts.length (c1.at c.ts.length).renew) := co_setT hC1 hk (renew_ok (hC1.m.ok _ hk) (by rw [ha]; show (0 : Int) ≠ 1073741824; omega)) rfl rfl
  have hdk : c.ts.length < (c1.setT c.ts.length (c1.at c.ts.length).renew).ts.length := by rw [setT_len]; exact hk
  have hda : (c1.setT c.ts.length (c1.at c.ts.length).renew).at c.ts.length = (newT nmD c.nx).renew := by rw [setT_at hk, ha]
  rw [ha] at g2 hD hdk hda
  obtain ⟨d, hd⟩ : ∃ d, c1.setT c.ts.length (newT nmD c.nx).renew = d := ⟨_, rfl⟩
  rw [hd] at g2 hD hdk hda
  have HE2 : Hid (c1.initP nmD = (d, c.nx, 1, 0)) := g2
  have HFD : Hid d.fits := mayC_fits hD.m
  have hkv := kfl_val hD.m nmD_ok hdk (by rw [hda]; rfl) 0
  rw [hda, if_neg (by show ¬ (0 : Int) + 1 = 0; omega)] at hkv
  have HE3 : Hid (d.addP nmD 0 0 = (Crd.zero, 10)) := add_bad hkv (by decide)
  have HE4 : Hid (d.endP nmD 0 true = (Crd.zero, 10)) := end_bad hkv (by decide)
  have g5 := add_ok (p := pick n 4) (v := 1) hD.m nmD_ok hdk (by rw [hda]; rfl) (by rw [hda]; rfl) (by rw [inR_iff]; omega) (by rw [hda]; rfl)
  obtain ⟨d5, hd5⟩ : ∃ d5, d.setT c.ts.length ((d.at c.ts.length).add d.ck (pick n 4)) = d5 := ⟨_, rfl⟩
  rw [hd5] at g5
  have HE5 : Hid (d.addP nmD 1 (pick n 4) = (d5, 0)) := g5
  have HE6 : Hid (d.addP nmN 0 0 = (Crd.zero, 5)) := add_bad (kflC_none hD.m nmN_ok (fun j hj => nmN_4 (hD.n j hj)) 0) (by decide)
  clear g1 g2 g5 hC hC1 hD hk ha hdk hda hkv hd5 hd hc1
  obtain ⟨k1, q1, rfl⟩ : ∃ k q, vt = .slice k c.ts.length q := by obtain ⟨k, q, e, _⟩ := hr1.shape; exact ⟨k, q, e⟩
  have HB0 : Hid (Below w.heap.size w (w1.alloc (.cells #[.int .i64 c.ck, .int .i64 c.nx, .int .i64 c.wt, .slice k1 c.ts.length q1] 24))) := bstep hb1 (bbox _ _)
  have HC0 : Hid (Hold (w1.alloc (.cells #[.int .i64 c.ck, .int .i64 c.nx, .int .i64 c.wt, .slice k1 c.ts.length q1] 24)) w1.heap.size c (.slice k1 c.ts.length q1) us) := hold_new hr1
  have HLO : w.heap.size ≤ w1.heap.size := hb1.size
  clear hb1 hr1
  go_upto_region 2 with fail
  generalize w1.alloc (.cells #[.int .i64 c.ck, .int .i64 c.nx, .int .i64 c.wt, .slice k1 c.ts.length q1] 24) = W1 at *
  generalize w1.heap.size = b1 at *
  obtain ⟨s1, ⟨a0, a1, a2, a3⟩, f1⟩ := HC0.out.1
  go_wp2_with fail
  refine (init_any c nmD _ us _ HC0.out.2 HF.out HND.out).mono ?_
  rintro e w2 ⟨v2, us2, rfl, hf2, hb2⟩
  rw [HE1.out] at hf2 ⊢
  obtain ⟨k2, q2, rfl⟩ := hf2.shapeOf
  have hc2 := HC0.out.1.below HC0.out.1.1 hb2
  have HB2 : Hid (Below w.heap.size w (put4 w2 b1 c1 (.slice k2 c1.ts.length q2))) := below_put4 (bstep HB0.out hb2) HLO _ _
  have HN2 : Hid (Hold (put4 w2 b1 c1 (.slice k2 c1.ts.length q2)) b1 c1 (.slice k2 c1.ts.length q2) us2) := ⟨hc2.put _ _, FreshC.rd (FreshC.put4 hf2 HC0.out.1.1 _ _)⟩
  clear s1 a0 a1 a2 a3 f1
  obtain ⟨s1, ⟨a0, a1, a2, a3⟩, f1⟩ := hc2
  unfold put4 at HB2 HN2
  clear hb2 hf2
  go_upto_region 3 with fail
  clear s1 a0 a1 a2 a3 f1
  obtain ⟨s1, ⟨a0, a1, a2, a3⟩, f1⟩ := HN2.out.1
  go_wp2_with fail
  refine (init_any c1 nmD _ us2 _ HN2.out.2 HF1.out HND.out).mono ?_
  rintro e w3 ⟨v3, us3, rfl, hf3, hb3⟩
  rw [HE2.out] at hf3 ⊢
  obtain ⟨k3, q3, rfl⟩ := hf3.shapeOf
  have t3 := bstep hb3 (bbox w3 (.cells #[.int .i64 d.ck, .int .i64 d.nx, .int .i64 d.wt, .slice k3 d.ts.length q3] 24))
  have HB3 : Hid (Below w.heap.size w (w3.alloc (.cells #[.int .i64 d.ck, .int .i64 d.nx, .int .i64 d.wt, .slice k3 d.ts.length q3] 24))) := bstep HB2.out t3
  have HN2_3 : Hid (Hold (w3.alloc (.cells #[.int .i64 d.ck, .int .i64 d.nx, .int .i64 d.wt, .slice k3 d.ts.length q3] 24)) b1 c1 (.slice k2 c1.ts.length q2) us2) := HN2.out.below t3
  clear s1 a0 a1 a2 a3 f1
  obtain ⟨s1, ⟨a0, a1, a2, a3⟩, f1⟩ := (HN2.out.below hb3).1
  have HN3 : Hid (Hold (w3.alloc (.cells #[.int .i64 d.ck, .int .i64 d.nx, .int .i64 d.wt, .slice k3 d.ts.length q3] 24)) w3.heap.size d (.slice k3 d.ts.length q3) us3) := hold_new hf3.rd
  clear hb3 hf3 t3
  go_upto_region 4 with fail
  generalize w3.alloc (.cells #[.int .i64 d.ck, .int .i64 d.nx, .int .i64 d.wt, .slice k3 d.ts.length q3] 24) = W3 at *
  generalize w3.heap.size = b3 at *
  clear s1 a0 a1 a2 a3 f1
  obtain ⟨s1, ⟨a0, a1, a2, a3⟩, f1⟩ := HN3.out.1
  go_wp2_with fail
  refine (add_any d nmD 0 0 _ us3 _ HN3.out.2 HFD.out HND.out).mono ?_
  rintro e w4 ⟨v4, us4, rfl, hf4, hb4⟩
  rw [HE3.out] at hf4 ⊢
  obtain ⟨k4, q4, rfl⟩ := hf4.shapeOf
  have t4 := bstep hb4 (bbox w4 (.cells #[.int .i64 Crd.zero.ck, .int .i64 Crd.zero.nx, .int .i64 Crd.zero.wt, .slice k4 Crd.zero.ts.length q4] 24))
  have HB4 : Hid (Below w.heap.size w (w4.alloc (.cells #[.int .i64 Crd.zero.ck, .int .i64 Crd.zero.nx, .int .i64 Crd.zero.wt, .slice k4 Crd.zero.ts.length q4] 24))) := bstep HB3.out t4
  have HN2_3_4 : Hid (Hold (w4.alloc (.cells #[.int .i64 Crd.zero.ck, .int .i64 Crd.zero.nx, .int .i64 Crd.zero.wt, .slice k4 Crd.zero.ts.length q4] 24)) b1 c1 (.slice k2 c1.ts.length q2) us2) := HN2_3.out.below t4
  have HN3_4 : Hid (Hold (w4.alloc (.cells #[.int .i64 Crd.zero.ck, .int .i64 Crd.zero.nx, .int .i64 Crd.zero.wt, .slice k4 Crd.zero.ts.length q4] 24)) b3 d (.slice k3 d.ts.length q3) us3) := HN3.out.below t4
  clear s1 a0 a1 a2 a3 f1
  obtain ⟨s1, ⟨a0, a1, a2, a3⟩, f1⟩ := (HN3.out.below hb4).1
  clear hb4 hf4 t4
  go_upto_region 5 with fail
  generalize w4.alloc (.cells #[.int .i64 Crd.zero.ck, .int .i64 Crd.zero.nx, .int .i64 Crd.zero.wt, .slice k4 Crd.zero.ts.length q4] 24) = W4 at *
  generalize w4.heap.size = b4 at *
  clear s1 a0 a1 a2 a3 f1
  obtain ⟨s1, ⟨a0, a1, a2, a3⟩, f1⟩ := HN3_4.out.1
  go_wp2_with fail
  refine (end_any d nmD 0 true _ us3 _ HN3_4.out.2 HFD.out HND.out).mono ?_
  rintro e w5 ⟨v5, us5, rfl, hf5, hb5⟩
  rw [HE4.out] at hf5 ⊢
  obtain ⟨k5, q5, rfl⟩ := hf5.shapeOf
  have t5 := bstep hb5 (bbox w5 (.cells #[.int .i64 Crd.zero.ck, .int .i64 Crd.zero.nx, .int .i64 Crd.zero.wt, .slice k5 Crd.zero.ts.length q5] 24))
  have HB5 : Hid (Below w.heap.size w (w5.alloc (.cells #[.int .i64 Crd.zero.ck, .int .i64 Crd.zero.nx, .int .i64 Crd.zero.wt, .slice k5 Crd.zero.ts.length q5] 24))) := bstep HB4.out t5
  have HN2_3_4_5 : Hid (Hold (w5.alloc (.cells #[.int .i64 Crd.zero.ck, .int .i64 Crd.zero.nx, .int .i64 Crd.zero.wt, .slice k5 Crd.zero.ts.length q5] 24)) b1 c1 (.slice k2 c1.ts.length q2) us2) := HN2_3_4.out.below t5
  have HN3_4_5 : Hid (Hold (w5.alloc (.cells #[.int .i64 Crd.zero.ck, .int .i64 Crd.zero.nx, .int .i64 Crd.zero.wt, .slice k5 Crd.zero.ts.length q5] 24)) b3 d (.slice k3 d.ts.length q3) us3) := HN3_4.out.below t5
  clear s1 a0 a1 a2 a3 f1
  obtain ⟨s1, ⟨a0, a1, a2, a3⟩, f1⟩ := (HN3_4.out.below hb5).1
  clear hb5 hf5 t5
  go_upto_region 6 with fail
  generalize w5.alloc (.cells #[.int .i64 Crd.zero.ck, .int .i64 Crd.zero.nx, .int .i64 Crd.zero.wt, .slice k5 Crd.zero.ts.length q5] 24) = W5 at *
  generalize w5.heap.size = b5 at *
  clear s1 a0 a1 a2 a3 f1
  obtain ⟨s1, ⟨a0, a1, a2, a3⟩, f1⟩ := HN3_4_5.out.1
  go_cut [19] (fun r W => r = .int .i64 0 ∧ Below W5.heap.size W5 W)
  case first =>
    go_region_with (first | (go_at_call 37; refine (picked_any n 4 _ hn ⟨by omega, by omega⟩).mono ?_; rintro e w7 ⟨rfl, rfl⟩) | (go_at_call 26; go_must (refine (add_any d nmD 1 (pick n 4) _ us3 _ (RdC.below HN3_4_5.out.2 (Nat.le_refl _) (by repeat (first | exact Below.refl _ _ | exact bbox _ _ | refine Below.drew ?_ | refine Below.alloc ?_ (by first | exact Nat.le_refl _ | (simp; done) | (simp; omega)) _))) HFD.out HND.out).mono ?_; rintro e w8 ⟨v8, us8, rfl, hf8, hb8⟩; rw [HE5.out] at hf8 ⊢; obtain ⟨k8, q8, rfl⟩ := hf8.shapeOf; obtain ⟨m3, m4⟩ := bcell hb8; have hB8 : Below W5.heap.size W5 w8 := bstep (by repeat (first | exact Below.refl _ _ | exact bbox _ _ | refine Below.drew ?_ | refine Below.alloc ?_ (by first | exact Nat.le_refl _ | (simp; done) | (simp; omega)) _)) hb8; clear hb8)))
    all_goals
      go_wp2_with fail
      go_meet
      exact ⟨rfl, by repeat (first | exact Below.refl _ _ | exact hB8 | exact bbox _ _ | refine Below.drew ?_ | refine Below.setCell (p := ⟨_, _, _⟩) ?_ (by exact Nat.le_refl _) _ | refine Below.alloc ?_ (by first | exact Nat.le_refl _ | exact hB8.size | (simp; done) | (simp; omega)) _)⟩
  case rest =>
  obtain ⟨hv, hbl⟩ := hcut
  subst hv
  rename World => W9
  have HB9 : Hid (Below w.heap.size w W9) := bstep HB5.out hbl
  have HD9 : Hid (Hold W9 b3 d (.slice k3 d.ts.length q3) us3) := HN3_4_5.out.below hbl
  clear s1 a0 a1 a2 a3 f1 hbl
  obtain ⟨s1, ⟨a0, a1, a2, a3⟩, f1⟩ := HD9.out.1
  go_at_K
  go_wp2_with fail
  refine (add_any d nmN 0 0 _ us3 _ HD9.out.2 HFD.out HNN.out).mono ?_
  rintro e w10 ⟨v10, us10, rfl, hf10, hb10⟩
  rw [HE6.out] at hf10 ⊢
  obtain ⟨k10, q10, rfl⟩ := hf10.shapeOf
  have HB10 : Hid (Below w.heap.size w (w10.alloc (.cells #[.int .i64 Crd.zero.ck, .int .i64 Crd.zero.nx, .int .i64 Crd.zero.wt, .slice k10 Crd.zero.ts.length q10] 24))) := bstep (bstep HB9.out hb10) (bbox _ _)
  clear hf10 hb10 s1 a0 a1 a2 a3 f1
  go_wp2
  go_ret
  exact ⟨rfl, HB10.out⟩

end Go.Proofs.Ytjhpfnogdjpbmaa
