/-
  The walk of coord.Add.
-/
import Derived.Test.YtjhpfnogdjpbmaaCturn
namespace Go.Proofs.Ytjhpfnogdjpbmaa
open Go.RowKit
set_option linter.unusedVariables false
set_option linter.unusedSimpArgs false

theorem kfl_may {c : Crd} {s : ByteArray} {v : Int} (h : c.kfl s v = 0) : MayC c := by
  refine (flt_zero_iff.1 (?_ : c.flt s = 0)).1
  unfold Crd.kfl at h
  split at h
  · contradiction
  · rename_i h1
    simpa using h1
theorem ins_count {l : List Int} (p : Int) : (l.take (below l p) ++ p :: l.drop (below l p)).length = l.length + 1 := by
  have := below_le l p
  simp
  omega
theorem sc_congr {w : World} {b z B : Nat} {c d : Crd} {vt : Value} {us : Nat → Value} {W : World} (e : c = d) (h : Sc w b z B c vt us W) : Sc w b z B d vt us W := e ▸ h
theorem Sc.drew {w : World} {b z B : Nat} {c : Crd} {vt : Value} {us : Nat → Value} {W : World} (h : Sc w b z B c vt us W) : Sc w b z B c vt us W.drew :=
  ⟨h.bel.drew, h.bb, h.zz, FreshC.drew h.own, h.bB, h.zB, h.bz, h.wb, h.wz, h.wB⟩

set_option maxRecDepth 100000 in
set_option maxHeartbeats 4000000 in
theorem add_any (c : Crd) (s : ByteArray) (v p : Int) (vt : Value) (us : Nat → Value) (w : World) (h : RdC w c vt us) (hf : c.fits) (hn : s.size ≤ maxLen) :
    Calls Try.prog 26 #[.agg #[.int .i64 c.ck, .int .i64 c.nx, .int .i64 c.wt, vt], .string s, .int .i64 v, .int .i64 p] w fun e w' => ∃ vt' us', e = .returned (.tuple #[.agg #[.int .i64 (c.addP s v p).1.ck, .int .i64 (c.addP s v p).1.nx, .int .i64 (c.addP s v p).1.wt, vt'], .int .i64 (c.addP s v p).2]) ∧ FreshC w.heap.size w' (c.addP s v p).1 vt' us' ∧ Below w.heap.size w w' := by
  obtain ⟨av, cv, rfl, hl1, hl2⟩ := h.shape
  unfold maxLen at hl2
  have hll : (c.ts.length : Int) ≤ 9223372036854775807 := by omega
  have HR : Hid (∀ W, Below w.heap.size w W → RdC W c (.slice av c.ts.length cv) us) := fun W hW => h.below (Nat.le_refl _) hW
  have HF : Hid c.fits := hf
  have HB0 : Hid (Below w.heap.size w ((w.alloc (.cells #[.int .i64 c.ck, .int .i64 c.nx, .int .i64 c.wt, .slice av c.ts.length cv] 24)).alloc (.cells #[.int .i64 0, .int .i64 0, .int .i64 0, .slice none 0 0] 24))) := bstep (bbox _ _) (bbox _ _)
  have HC0 : Hid (CB ((w.alloc (.cells #[.int .i64 c.ck, .int .i64 c.nx, .int .i64 c.wt, .slice av c.ts.length cv] 24)).alloc (.cells #[.int .i64 0, .int .i64 0, .int .i64 0, .slice none 0 0] 24)) w.heap.size c (.slice av c.ts.length cv)) := (cb_new w c (.slice av c.ts.length cv) 24 w.heap.size rfl).below (C := w.heap.size + 1) (by omega) ((Below.refl _ _).alloc (by simp) _)
  have HZ0 : Hid (CB ((w.alloc (.cells #[.int .i64 c.ck, .int .i64 c.nx, .int .i64 c.wt, .slice av c.ts.length cv] 24)).alloc (.cells #[.int .i64 0, .int .i64 0, .int .i64 0, .slice none 0 0] 24)) (w.heap.size + 1) Crd.zero (.slice none 0 0)) := cb_new _ Crd.zero (.slice none 0 0) 24 (w.heap.size + 1) (by simp)
  have HEE : Hid (c.addP s v p = if c.kfl s v ≠ 0 then (Crd.zero, c.kfl s v) else if inR p 0 3 = false then (Crd.zero, 2) else if (c.at (c.pos s).toNat).endB then (Crd.zero, 12) else (c.setT (c.pos s).toNat ((c.at (c.pos s).toNat).add c.ck p), 0)) := show _ = _ from rfl
  have HN : Hid (s.size ≤ maxLen) := hn
  clear h hf hl1 hl2 hn
  go_enter Try.func26, Try.ntmps26
  go_upto_region 1 with fail
  generalize (w.alloc (.cells #[.int .i64 c.ck, .int .i64 c.nx, .int .i64 c.wt, .slice av c.ts.length cv] 24)).alloc (.cells #[.int .i64 0, .int .i64 0, .int .i64 0, .slice none 0 0] 24) = W0 at *
  obtain ⟨s1, ⟨a0, a1, a2, a3⟩, f1⟩ := HC0.out
  obtain ⟨z1, ⟨e0, e1, e2, e3⟩, g1⟩ := HZ0.out
  go_wp2_with fail
  refine (findVersion_any c s v _ us _ (HR.out _ HB0.out) HF.out.n HN.out).mono ?_
  rintro e w1 ⟨rfl, hb1⟩
  have HB1 : Hid (Below w.heap.size w w1) := bstep HB0.out hb1
  have HC1 : Hid (CB w1 w.heap.size c _) := HC0.out.below HC0.out.1 hb1
  have HZ1 : Hid (CB w1 (w.heap.size + 1) Crd.zero _) := HZ0.out.below HZ0.out.1 hb1
  clear a0 a1 a2 a3 f1 s1 z1 e0 e1 e2 e3 g1 hb1
  obtain ⟨s1, ⟨a0, a1, a2, a3⟩, f1⟩ := HC1.out
  obtain ⟨z1, ⟨e0, e1, e2, e3⟩, g1⟩ := HZ1.out
  by_cases hf0 : c.kfl s v = 0
  rotate_left
  · have HV : Hid (c.addP s v p = (Crd.zero, c.kfl s v)) := show _ = _ by rw [HEE.out, if_pos hf0]
    have d1 : (c.kfl s v != 0) = true := by simp [hf0]
    clear hf0
    generalize c.kfl s v = fl at *
    have HDN : Hid (FreshC w.heap.size (put4 w1 (w.heap.size + 1) Crd.zero (.slice none 0 0)) Crd.zero (.slice none 0 0) (fun _ => .slice none 0 0) ∧ Below w.heap.size w (put4 w1 (w.heap.size + 1) Crd.zero (.slice none 0 0))) := ⟨freshC_nil' _ rfl (by rw [put4_size]; exact HB1.out.size), below_put4 HB1.out (by omega) _ _⟩
    go_wp2
    exact bodyPost_ret (v := .tuple #[.agg #[.int .i64 0, .int .i64 0, .int .i64 0, .slice none 0 0], .int .i64 fl]) (by simp [results, Try.results26, go_sem, e0, e1, e2, e3]) rfl ⟨.slice none 0 0, fun _ => .slice none 0 0, by simp only [HV.out, Crd.zero], by simp only [HV.out]; exact HDN.out.1, HDN.out.2⟩
  have HFL : Hid (c.kfl s v = 0) := hf0
  have HMY : Hid (MayC c) := kfl_may hf0
  obtain ⟨k, hk, hp, HPS⟩ := kfl_at hf0
  rw [HFL.out, hp]
  have HE2 : Hid (c.addP s v p = if inR p 0 3 = false then (Crd.zero, 2) else if (c.at k).endB then (Crd.zero, 12) else (c.setT k ((c.at k).add c.ck p), 0)) := show _ = _ by rw [HEE.out, if_neg (by rw [HFL.out]; simp), HPS, Int.toNat_natCast]
  have hkv : (k : Int) < c.ts.length := by omega
  clear hf0 HEE hp HPS
  go_wp2_with fail
  refine (cwithin_any _ _ _ _).mono ?_
  rintro e wx ⟨rfl, rfl⟩
  cases hin : inR p 0 3 with
  | false =>
    have HV : Hid (c.addP s v p = (Crd.zero, 2)) := show _ = _ by rw [HE2.out, if_pos hin]
    have HDN : Hid (FreshC w.heap.size (put4 wx (w.heap.size + 1) Crd.zero (.slice none 0 0)) Crd.zero (.slice none 0 0) (fun _ => .slice none 0 0) ∧ Below w.heap.size w (put4 wx (w.heap.size + 1) Crd.zero (.slice none 0 0))) := ⟨freshC_nil' _ rfl (by rw [put4_size]; exact HB1.out.size), below_put4 HB1.out (by omega) _ _⟩
    clear hin
    go_wp2
    exact bodyPost_ret (v := .tuple #[.agg #[.int .i64 0, .int .i64 0, .int .i64 0, .slice none 0 0], .int .i64 2]) (by simp [results, Try.results26, go_sem, e0, e1, e2, e3]) rfl ⟨.slice none 0 0, fun _ => .slice none 0 0, by simp only [HV.out, Crd.zero], by simp only [HV.out]; exact HDN.out.1, HDN.out.2⟩
  | true =>
  have HIN : Hid (inR p 0 3 = true) := hin
  obtain ⟨gg, off, t, au', cu', rfl, HAT, hgg, HQ, p0, p1, p2, p3, p4, p5, p6⟩ := (HR.out wx HB1.out).txnAt k hk
  have HRS : Hid (riseB t.ps = true) := show _ = _ by rw [← HAT.out]; exact (HMY.out.ok k hk).ps
  have HE3 : Hid (c.addP s v p = if t.endB then (Crd.zero, 12) else (c.setT k (t.add c.ck p), 0)) := show _ = _ by rw [HE2.out, if_neg (by rw [hin]; simp), HAT.out]
  clear hin HE2
  go_wp2_with fail
  refine (hasMarkers_any t (.slice au' t.ps.length cu') _).mono ?_
  rintro e w2 ⟨rfl, hb2⟩
  have HB2 : Hid (Below w.heap.size w w2) := bstep HB1.out hb2
  have HC2 : Hid (CB w2 w.heap.size c _) := HC1.out.below HC1.out.1 hb2
  have HZ2 : Hid (CB w2 (w.heap.size + 1) Crd.zero _) := HZ1.out.below HZ1.out.1 hb2
  clear a0 a1 a2 a3 f1 s1 z1 e0 e1 e2 e3 g1 p0 p1 p2 p3 p4 p5 p6 hb2
  obtain ⟨s1, ⟨a0, a1, a2, a3⟩, f1⟩ := HC2.out
  obtain ⟨z1, ⟨e0, e1, e2, e3⟩, g1⟩ := HZ2.out
  cases he : t.endB with
  | true =>
    have HV : Hid (c.addP s v p = (Crd.zero, 12)) := show _ = _ by rw [HE3.out, he]; rfl
    have HDN : Hid (FreshC w.heap.size (put4 w2 (w.heap.size + 1) Crd.zero (.slice none 0 0)) Crd.zero (.slice none 0 0) (fun _ => .slice none 0 0) ∧ Below w.heap.size w (put4 w2 (w.heap.size + 1) Crd.zero (.slice none 0 0))) := ⟨freshC_nil' _ rfl (by rw [put4_size]; exact HB2.out.size), below_put4 HB2.out (by omega) _ _⟩
    clear he
    go_wp2
    exact bodyPost_ret (v := .tuple #[.agg #[.int .i64 0, .int .i64 0, .int .i64 0, .slice none 0 0], .int .i64 12]) (by simp [results, Try.results26, go_sem, e0, e1, e2, e3]) rfl ⟨.slice none 0 0, fun _ => .slice none 0 0, by simp only [HV.out, Crd.zero], by simp only [HV.out]; exact HDN.out.1, HDN.out.2⟩
  | false =>
  have HEF : Hid (c.addP s v p = (c.setT k (t.add c.ck p), 0)) := show _ = _ by rw [HE3.out, if_neg (by rw [he]; simp)]
  clear he HE3
  go_wp2_with fail
  refine (ccopy_any c _ us _ (HR.out _ HB2.out) HF.out).mono ?_
  rintro e w3 ⟨v3, us3, rfl, hf3, hb3⟩
  obtain ⟨g3, c3, rfl⟩ := hf3.form (by omega)
  have HS : Hid (Sc w w.heap.size (w.heap.size + 1) w2.heap.size c (.slice (some ⟨g3, 0, none⟩) c.ts.length c3) us3 (put4 w3 w.heap.size c (.slice (some ⟨g3, 0, none⟩) c.ts.length c3))) := sc_copy HB2.out HC2.out HZ2.out (by omega) (Nat.le_refl _) (by omega) hf3 hb3
  have hC3 := HC2.out.below HC2.out.1 hb3
  have hZ3 := HZ2.out.below HZ2.out.1 hb3
  obtain ⟨hT3, hfz, hg1, hg2⟩ := hf3.cells k hk
  obtain ⟨au, cu, hu, _⟩ := (hf3.i k hk).rdv.intShape
  rw [← at_txn hk, HAT.out] at hu
  have hu : us3 k = .slice au t.ps.length cu := hu
  rw [HAT.out, hu] at hT3
  have HU : Hid (us3 k = .slice au t.ps.length cu) := hu
  have hgb : w.heap.size ≠ g3 := by have := HB2.out.size; have := HC2.out.1; omega
  have hgz : w.heap.size + 1 ≠ g3 := by have := HZ2.out.1; omega
  have hbz : w.heap.size ≠ w.heap.size + 1 := by omega
  clear a0 a1 a2 a3 f1 s1 z1 e0 e1 e2 e3 g1 hf3 hb3 hu hg1
  obtain ⟨s1, ⟨a0, a1, a2, a3⟩, f1⟩ := hC3
  obtain ⟨z1, ⟨e0, e1, e2, e3⟩, g1⟩ := hZ3
  obtain ⟨q0, q1, q2, q3, q4, q5, q6⟩ := hT3
  unfold put4 at HS
  have HLN : Hid ((t.ps.take (below t.ps p) ++ p :: t.ps.drop (below t.ps p)).length = t.ps.length + 1) := ins_count p
  by_cases hst : t.st = 1
  · have d2 : (t.st == 1) = true := by simp [hst]
    obtain ⟨t1, ht1⟩ : ∃ t1 : Txn, { t with st := 2, sn := c.ck } = t1 := ⟨_, rfl⟩
    have HT1 : Hid (t1.ps = t.ps) := show _ = _ by rw [← ht1]
    have HYE : Hid (t.ps.contains p = true → t.add c.ck p = t1) := fun h => by unfold Txn.add; rw [if_pos hst, if_pos hst, ins_there HRS.out HIN.out h, ← ht1]
    have HNE : Hid (t.ps.contains p = false → t.add c.ck p = { t1 with ps := t.ps.take (below t.ps p) ++ p :: t.ps.drop (below t.ps p) }) := fun h => by unfold Txn.add; rw [if_pos hst, if_pos hst, ins_new HRS.out HIN.out h, ← ht1]
    have hs1 := HS.out.set k 3 hk (by omega) { t with st := 2 } (.int .i64 2) (by rw [HAT.out]; rfl) (by rw [HAT.out])
    have hs2 := hs1.set k 5 (by rw [setT_len]; exact hk) (by omega) { t with st := 2, sn := c.ck } (.int .i64 c.ck) (by rw [setT_at hk]; rfl) (by rw [setT_at hk])
    rw [setT_setT, ht1] at hs2
    have hs2 := hs2.drew
    have HS4 : Hid _ := hs2
    have hq1 := hs2.own.i k (by show k < (c.setT k t1).ts.length; rw [setT_len]; exact hk)
    rw [← at_txn (by rw [setT_len]; exact hk), setT_at hk, HU.out, show txnE.ns t1 = t.ps from HT1.out] at hq1
    have HQ4 : Hid _ := hq1.rdv
    clear hq1
    clear hst hs1 hs2 ht1
    go_upto_region 12 with fail
    go_region
    all_goals
      go_wp2_with fail
      refine (binSearch_any t.ps p _ _ HQ4.out HRS.out).mono ?_
      rintro e w5 ⟨rfl, hb5⟩
      have HS5 : Hid (Sc w w.heap.size (w.heap.size + 1) w2.heap.size (c.setT k t1) (.slice (some ⟨g3, 0, none⟩) c.ts.length c3) us3 w5) := HS4.out.below hb5
      clear hb5 a0 a1 a2 a3 f1 s1 z1 e0 e1 e2 e3 g1 q0 q1 q2 q3 q4 q5 q6 hfz hg2
      have hbb5 : CB w5 w.heap.size c (.slice (some ⟨g3, 0, none⟩) c.ts.length c3) := HS5.out.bb
      obtain ⟨s1, ⟨a0, a1, a2, a3⟩, f1⟩ := hbb5
      obtain ⟨z1, ⟨e0, e1, e2, e3⟩, g1⟩ := HS5.out.zz
      obtain ⟨hT5, hfz, hg1, hg2⟩ := FreshC.cells HS5.out.own k (by rw [setT_len]; exact hk)
      rw [setT_at hk, HU.out] at hT5
      clear hg1
      obtain ⟨q0, q1, q2, q3, q4, q5, q6⟩ := hT5
      cases hct : t.ps.contains p with
      | true =>
        have HV : Hid (c.addP s v p = (c.setT k t1, 0)) := show _ = _ by rw [HEF.out]; exact congrArg (fun x => (c.setT k x, (0 : Int))) (HYE.out hct)
        have HDN : Hid _ := HS5.out.done c
        unfold put4 at HDN
        clear hct
        go_wp2
        exact bodyPost_ret (v := .tuple #[.agg #[.int .i64 c.ck, .int .i64 c.nx, .int .i64 c.wt, .slice (some ⟨g3, 0, none⟩) c.ts.length c3], .int .i64 0]) (by simp [results, Try.results26, go_sem, a0, a1, a2, a3, e0, e1, e2, e3, hgb, hgz, hbz]) rfl ⟨.slice (some ⟨g3, 0, none⟩) c.ts.length c3, us3, by simp only [HV.out, Crd.setT], by simp only [HV.out]; exact HDN.out.1, HDN.out.2⟩
      | false =>
        have HNO := HNE.out hct
        clear hct
        have HS6 : Hid (Sc w w.heap.size (w.heap.size + 1) w2.heap.size (c.setT k t1) (.slice (some ⟨g3, 0, none⟩) c.ts.length c3) us3 (w5.alloc (.cells #[.int .i64 p] 3))) := HS5.out.below (bbox _ _)
        have HO6 : Hid (OwnV w2.heap.size 3 1 (.slice au t.ps.length cu) t.ps.length (ints t.ps) (w5.alloc (.cells #[.int .i64 p] 3))) := by
          have h1 := HS6.out.own.i k (by show k < (c.setT k t1).ts.length; rw [setT_len]; exact hk)
          rw [← at_txn (by rw [setT_len]; exact hk), setT_at hk, HU.out] at h1
          have h2 : txnE.ns t1 = t.ps := HT1.out
          rw [h2] at h1
          exact h1
        have HNB : Hid ((Value.slice au t.ps.length cu).ownBlock ≠ some w5.heap.size) := fun e => by
          have h1 := HS5.out.own.i k (by show k < (c.setT k t1).ts.length; rw [setT_len]; exact hk)
          rw [HU.out] at h1
          have := (h1.blk _ e).2
          omega
        have HVB : Hid ((w5.alloc (.cells #[.int .i64 p] 3)).cell? ⟨w5.heap.size, 0, none⟩ = some (.int .i64 p) ∧ (w5.alloc (.cells #[.int .i64 p] 3)).shape? w5.heap.size = some (3, 1) ∧ ∀ o, (w5.alloc (.cells #[.int .i64 p] 3)).frozen? ⟨w5.heap.size, o, none⟩ = false) := ⟨by simp, by first | (simp [go_sem]; done) | (unfold World.shape?; rw [heap_alloc_new]; rfl) | simp [World.shape?], fun o => by simp [go_sem]⟩
        go_wp2_with fail
        refine (insert_any t.ps p (below t.ps p) _ _ w5.heap.size HO6.out (below_le _ _) (rise_len HRS.out) HVB.out.1 HVB.out.2.1 HVB.out.2.2 HNB.out).mono ?_
        rintro e w6 ⟨u6, rfl, ho6, hg6, hat6⟩
        obtain ⟨au6, cu6, rfl⟩ := ho6.shape
        rw [← HU.out] at hg6 hat6
        obtain ⟨hb7, hz7, hT7, hfz7, hg7⟩ := HS6.out.turned k (by rw [setT_len]; exact hk) hg6
        rw [setT_at hk, HU.out] at hT7
        have hb7 : CB w6 w.heap.size c (.slice (some ⟨g3, 0, none⟩) c.ts.length c3) := hb7
        have hs7 := HS6.out.turnIn k (by rw [setT_len]; exact hk) { t1 with ps := t.ps.take (below t.ps p) ++ p :: t.ps.drop (below t.ps p) } (.slice au6 (t.ps.length + 1) cu6) (by rw [setT_at hk]; rfl) (by simpa [HLN.out] using ho6) hg6 (fun b e => by rcases hat6 b e with h | h; exact .inl h; exact .inr (by omega))
        rw [setT_setT] at hs7
        have HV : Hid (c.addP s v p = (c.setT k { t1 with ps := t.ps.take (below t.ps p) ++ p :: t.ps.drop (below t.ps p) }, 0)) := show _ = _ by rw [HEF.out]; exact congrArg (fun x => (c.setT k x, (0 : Int))) HNO
        have HDN : Hid _ := hs7.done c
        unfold put4 at HDN
        clear a0 a1 a2 a3 f1 s1 z1 e0 e1 e2 e3 g1 q0 q1 q2 q3 q4 q5 q6 hfz hg2 ho6 hg6 hat6 hs7 HNO
        obtain ⟨s1, ⟨a0, a1, a2, a3⟩, f1⟩ := hb7
        obtain ⟨z1, ⟨e0, e1, e2, e3⟩, g1⟩ := hz7
        obtain ⟨q0, q1, q2, q3, q4, q5, q6⟩ := hT7
        go_wp2
        exact bodyPost_ret (v := .tuple #[.agg #[.int .i64 c.ck, .int .i64 c.nx, .int .i64 c.wt, .slice (some ⟨g3, 0, none⟩) c.ts.length c3], .int .i64 0]) (by simp [results, Try.results26, go_sem, a0, a1, a2, a3, e0, e1, e2, e3, hgb, hgz, hbz]) rfl ⟨.slice (some ⟨g3, 0, none⟩) c.ts.length c3, _, by simp only [HV.out, Crd.setT], by simp only [HV.out]; exact HDN.out.1, HDN.out.2⟩
  · have d2 : (t.st == 1) = false := by simp [hst]
    obtain ⟨t1, ht1⟩ : ∃ t1 : Txn, t = t1 := ⟨_, rfl⟩
    have HT1 : Hid (t1.ps = t.ps) := show _ = _ by rw [← ht1]
    have HYE : Hid (t.ps.contains p = true → t.add c.ck p = t1) := fun h => by unfold Txn.add; rw [if_neg hst, if_neg hst, ins_there HRS.out HIN.out h, ← ht1]
    have HNE : Hid (t.ps.contains p = false → t.add c.ck p = { t1 with ps := t.ps.take (below t.ps p) ++ p :: t.ps.drop (below t.ps p) }) := fun h => by unfold Txn.add; rw [if_neg hst, if_neg hst, ins_new HRS.out HIN.out h, ← ht1]
    have HC4 : Hid (c.setT k t1 = c) := show _ = _ by rw [← ht1, ← HAT.out]; exact setT_self hk
    have hs2 := sc_congr HC4.out.symm HS.out
    have HS4 : Hid _ := hs2
    have hq1 := hs2.own.i k (by show k < (c.setT k t1).ts.length; rw [setT_len]; exact hk)
    rw [← at_txn (by rw [setT_len]; exact hk), setT_at hk, HU.out, show txnE.ns t1 = t.ps from HT1.out] at hq1
    have HQ4 : Hid _ := hq1.rdv
    clear hq1
    clear hst hs2 ht1
    go_wp2_with fail
    refine (binSearch_any t.ps p _ _ HQ4.out HRS.out).mono ?_
    rintro e w5 ⟨rfl, hb5⟩
    have HS5 : Hid (Sc w w.heap.size (w.heap.size + 1) w2.heap.size (c.setT k t1) (.slice (some ⟨g3, 0, none⟩) c.ts.length c3) us3 w5) := HS4.out.below hb5
    clear hb5 a0 a1 a2 a3 f1 s1 z1 e0 e1 e2 e3 g1 q0 q1 q2 q3 q4 q5 q6 hfz hg2
    have hbb5 : CB w5 w.heap.size c (.slice (some ⟨g3, 0, none⟩) c.ts.length c3) := HS5.out.bb
    obtain ⟨s1, ⟨a0, a1, a2, a3⟩, f1⟩ := hbb5
    obtain ⟨z1, ⟨e0, e1, e2, e3⟩, g1⟩ := HS5.out.zz
    obtain ⟨hT5, hfz, hg1, hg2⟩ := FreshC.cells HS5.out.own k (by rw [setT_len]; exact hk)
    rw [setT_at hk, HU.out] at hT5
    clear hg1
    obtain ⟨q0, q1, q2, q3, q4, q5, q6⟩ := hT5
    cases hct : t.ps.contains p with
    | true =>
      have HV : Hid (c.addP s v p = (c.setT k t1, 0)) := show _ = _ by rw [HEF.out]; exact congrArg (fun x => (c.setT k x, (0 : Int))) (HYE.out hct)
      have HDN : Hid _ := HS5.out.done c
      unfold put4 at HDN
      clear hct
      go_wp2
      exact bodyPost_ret (v := .tuple #[.agg #[.int .i64 c.ck, .int .i64 c.nx, .int .i64 c.wt, .slice (some ⟨g3, 0, none⟩) c.ts.length c3], .int .i64 0]) (by simp [results, Try.results26, go_sem, a0, a1, a2, a3, e0, e1, e2, e3, hgb, hgz, hbz]) rfl ⟨.slice (some ⟨g3, 0, none⟩) c.ts.length c3, us3, by simp only [HV.out, Crd.setT], by simp only [HV.out]; exact HDN.out.1, HDN.out.2⟩
    | false =>
      have HNO := HNE.out hct
      clear hct
      have HS6 : Hid (Sc w w.heap.size (w.heap.size + 1) w2.heap.size (c.setT k t1) (.slice (some ⟨g3, 0, none⟩) c.ts.length c3) us3 (w5.alloc (.cells #[.int .i64 p] 3))) := HS5.out.below (bbox _ _)
      have HO6 : Hid (OwnV w2.heap.size 3 1 (.slice au t.ps.length cu) t.ps.length (ints t.ps) (w5.alloc (.cells #[.int .i64 p] 3))) := by
        have h1 := HS6.out.own.i k (by show k < (c.setT k t1).ts.length; rw [setT_len]; exact hk)
        rw [← at_txn (by rw [setT_len]; exact hk), setT_at hk, HU.out] at h1
        have h2 : txnE.ns t1 = t.ps := HT1.out
        rw [h2] at h1
        exact h1
      have HNB : Hid ((Value.slice au t.ps.length cu).ownBlock ≠ some w5.heap.size) := fun e => by
        have h1 := HS5.out.own.i k (by show k < (c.setT k t1).ts.length; rw [setT_len]; exact hk)
        rw [HU.out] at h1
        have := (h1.blk _ e).2
        omega
      have HVB : Hid ((w5.alloc (.cells #[.int .i64 p] 3)).cell? ⟨w5.heap.size, 0, none⟩ = some (.int .i64 p) ∧ (w5.alloc (.cells #[.int .i64 p] 3)).shape? w5.heap.size = some (3, 1) ∧ ∀ o, (w5.alloc (.cells #[.int .i64 p] 3)).frozen? ⟨w5.heap.size, o, none⟩ = false) := ⟨by simp, by first | (simp [go_sem]; done) | (unfold World.shape?; rw [heap_alloc_new]; rfl) | simp [World.shape?], fun o => by simp [go_sem]⟩
      go_wp2_with fail
      refine (insert_any t.ps p (below t.ps p) _ _ w5.heap.size HO6.out (below_le _ _) (rise_len HRS.out) HVB.out.1 HVB.out.2.1 HVB.out.2.2 HNB.out).mono ?_
      rintro e w6 ⟨u6, rfl, ho6, hg6, hat6⟩
      obtain ⟨au6, cu6, rfl⟩ := ho6.shape
      rw [← HU.out] at hg6 hat6
      obtain ⟨hb7, hz7, hT7, hfz7, hg7⟩ := HS6.out.turned k (by rw [setT_len]; exact hk) hg6
      rw [setT_at hk, HU.out] at hT7
      have hb7 : CB w6 w.heap.size c (.slice (some ⟨g3, 0, none⟩) c.ts.length c3) := hb7
      have hs7 := HS6.out.turnIn k (by rw [setT_len]; exact hk) { t1 with ps := t.ps.take (below t.ps p) ++ p :: t.ps.drop (below t.ps p) } (.slice au6 (t.ps.length + 1) cu6) (by rw [setT_at hk]; rfl) (by simpa [HLN.out] using ho6) hg6 (fun b e => by rcases hat6 b e with h | h; exact .inl h; exact .inr (by omega))
      rw [setT_setT] at hs7
      have HV : Hid (c.addP s v p = (c.setT k { t1 with ps := t.ps.take (below t.ps p) ++ p :: t.ps.drop (below t.ps p) }, 0)) := show _ = _ by rw [HEF.out]; exact congrArg (fun x => (c.setT k x, (0 : Int))) HNO
      have HDN : Hid _ := hs7.done c
      unfold put4 at HDN
      clear a0 a1 a2 a3 f1 s1 z1 e0 e1 e2 e3 g1 q0 q1 q2 q3 q4 q5 q6 hfz hg2 ho6 hg6 hat6 hs7 HNO
      obtain ⟨s1, ⟨a0, a1, a2, a3⟩, f1⟩ := hb7
      obtain ⟨z1, ⟨e0, e1, e2, e3⟩, g1⟩ := hz7
      obtain ⟨q0, q1, q2, q3, q4, q5, q6⟩ := hT7
      go_wp2
      exact bodyPost_ret (v := .tuple #[.agg #[.int .i64 c.ck, .int .i64 c.nx, .int .i64 c.wt, .slice (some ⟨g3, 0, none⟩) c.ts.length c3], .int .i64 0]) (by simp [results, Try.results26, go_sem, a0, a1, a2, a3, e0, e1, e2, e3, hgb, hgz, hbz]) rfl ⟨.slice (some ⟨g3, 0, none⟩) c.ts.length c3, _, by simp only [HV.out, Crd.setT], by simp only [HV.out]; exact HDN.out.1, HDN.out.2⟩

end Go.Proofs.Ytjhpfnogdjpbmaa
