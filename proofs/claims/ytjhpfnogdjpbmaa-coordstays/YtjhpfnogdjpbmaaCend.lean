/-
  The walk of coord.End.
-/
import Derived.Test.YtjhpfnogdjpbmaaCst
namespace Go.Proofs.Ytjhpfnogdjpbmaa
open Go.RowKit
set_option linter.unusedVariables false
set_option linter.unusedSimpArgs false

theorem kfl_at {c : Crd} {s : ByteArray} {v : Int} (h : c.kfl s v = 0) : ∃ k : Nat, k < c.ts.length ∧ c.fndV s v = k ∧ c.pos s = k := by
  have h1 : c.fndV s v = c.pos s := by unfold Crd.fndV; rw [if_pos h]
  rcases pos_cases c s with hp | ⟨k, hk, hp, _⟩
  · exfalso
    unfold Crd.kfl at h
    split at h
    · contradiction
    · rw [if_pos (by omega)] at h
      cases h
  · exact ⟨k, hk, by rw [h1, hp], hp⟩

set_option maxRecDepth 100000 in
set_option maxHeartbeats 4000000 in
theorem end_true (c : Crd) (s : ByteArray) (v : Int) (vt : Value) (us : Nat → Value) (w : World) (h : RdC w c vt us) (hf : c.fits) (hn : s.size ≤ maxLen) :
    Calls Try.prog 28 #[.agg #[.int .i64 c.ck, .int .i64 c.nx, .int .i64 c.wt, vt], .string s, .int .i64 v, .bool true] w fun e w' => ∃ vt' us', e = .returned (.tuple #[.agg #[.int .i64 (c.endP s v true).1.ck, .int .i64 (c.endP s v true).1.nx, .int .i64 (c.endP s v true).1.wt, vt'], .int .i64 (c.endP s v true).2]) ∧ FreshC w.heap.size w' (c.endP s v true).1 vt' us' ∧ Below w.heap.size w w' := by
  obtain ⟨av, cv, rfl, hl1, hl2⟩ := h.shape
  unfold maxLen at hl2
  have hll : (c.ts.length : Int) ≤ 9223372036854775807 := by omega
  have HR : Hid (∀ W, Below w.heap.size w W → RdC W c (.slice av c.ts.length cv) us) := fun W hW => h.below (Nat.le_refl _) hW
  have HF : Hid c.fits := hf
  have HB0 : Hid (Below w.heap.size w ((w.alloc (.cells #[.int .i64 c.ck, .int .i64 c.nx, .int .i64 c.wt, .slice av c.ts.length cv] 24)).alloc (.cells #[.int .i64 0, .int .i64 0, .int .i64 0, .slice none 0 0] 24))) := bstep (bbox _ _) (bbox _ _)
  have HC0 : Hid (CB ((w.alloc (.cells #[.int .i64 c.ck, .int .i64 c.nx, .int .i64 c.wt, .slice av c.ts.length cv] 24)).alloc (.cells #[.int .i64 0, .int .i64 0, .int .i64 0, .slice none 0 0] 24)) w.heap.size c (.slice av c.ts.length cv)) := (cb_new w c (.slice av c.ts.length cv) 24 w.heap.size rfl).below (C := w.heap.size + 1) (by omega) ((Below.refl _ _).alloc (by simp) _)
  have HZ0 : Hid (CB ((w.alloc (.cells #[.int .i64 c.ck, .int .i64 c.nx, .int .i64 c.wt, .slice av c.ts.length cv] 24)).alloc (.cells #[.int .i64 0, .int .i64 0, .int .i64 0, .slice none 0 0] 24)) (w.heap.size + 1) Crd.zero (.slice none 0 0)) := cb_new _ Crd.zero (.slice none 0 0) 24 (w.heap.size + 1) (by simp)
  have HEE : Hid (c.endP s v true = if c.kfl s v ≠ 0 then (Crd.zero, c.kfl s v) else if (c.at (c.pos s).toNat).st = 2 then (c.setT (c.pos s).toNat { c.at (c.pos s).toNat with st := wantI true }, 0) else if (c.at (c.pos s).toNat).st = wantI true then (c, 0) else if (c.at (c.pos s).toNat).st = 1 ∧ ((c.at (c.pos s).toNat).dn = 0 ∨ (c.at (c.pos s).toNat).dn = wantI true) then (c.setT (c.pos s).toNat { c.at (c.pos s).toNat with dn := wantI true }, 0) else (Crd.zero, 12)) := show _ = _ from rfl
  have HN : Hid (s.size ≤ maxLen) := hn
  clear h hf hl1 hl2 hn
  have HWN : wantI true = 3 := rfl
  rw [HWN] at HEE
  go_enter Try.func28, Try.ntmps28
  go_upto_region 1 with fail
  generalize (w.alloc (.cells #[.int .i64 c.ck, .int .i64 c.nx, .int .i64 c.wt, .slice av c.ts.length cv] 24)).alloc (.cells #[.int .i64 0, .int .i64 0, .int .i64 0, .slice none 0 0] 24) = W0 at *
  obtain ⟨s1, ⟨a0, a1, a2, a3⟩, f1⟩ := HC0.out
  obtain ⟨z1, ⟨e0, e1, e2, e3⟩, g1⟩ := HZ0.out
  go_wp2_with fail
  refine (findVersion_any c s v _ us _ (HR.out _ HB0.out) HF.out.n HN.out).mono ?_
  rintro e w1 ⟨rfl, hb1⟩
  have HB1 : Hid (Below w.heap.size w w1) := bstep HB0.out hb1
  have HC1 : Hid (CB w1 w.heap.size c _) := HC0.out.below HC0.out.1 hb1
  have HZ1 : Hid (CB w1 (w.heap.size + 1) Crd.zero _) := HZ0.out.below HZ0.out.1 hb1
  clear a0 a1 a2 a3 f1 s1 z1 e0 e1 e2 e3 g1 hb1
  obtain ⟨s1, ⟨a0, a1, a2, a3⟩, f1⟩ := HC1.out
  obtain ⟨z1, ⟨e0, e1, e2, e3⟩, g1⟩ := HZ1.out
  by_cases hf0 : c.kfl s v = 0
  rotate_left
  · have HV : Hid (c.endP s v true = (Crd.zero, c.kfl s v)) := show _ = _ by rw [HEE.out, if_pos hf0]
    have d1 : (c.kfl s v != 0) = true := by simp [hf0]
    clear hf0
    generalize c.kfl s v = fl at *
    have HDN : Hid (FreshC w.heap.size (put4 w1 (w.heap.size + 1) Crd.zero (.slice none 0 0)) Crd.zero (.slice none 0 0) (fun _ => .slice none 0 0) ∧ Below w.heap.size w (put4 w1 (w.heap.size + 1) Crd.zero (.slice none 0 0))) := ⟨freshC_nil' _ rfl (by rw [put4_size]; exact HB1.out.size), below_put4 HB1.out (by omega) _ _⟩
    go_wp2
    exact bodyPost_ret (v := .tuple #[.agg #[.int .i64 0, .int .i64 0, .int .i64 0, .slice none 0 0], .int .i64 fl]) (by simp [results, Try.results28, go_sem, e0, e1, e2, e3]) rfl ⟨.slice none 0 0, fun _ => .slice none 0 0, by simp only [HV.out, Crd.zero], by simp only [HV.out]; exact HDN.out.1, HDN.out.2⟩
  have HFL : Hid (c.kfl s v = 0) := hf0
  obtain ⟨k, hk, hp, HPS⟩ := kfl_at hf0
  rw [HFL.out, hp]
  have HEF : Hid (c.endP s v true = if (c.at k).st = 2 then (c.setT k { c.at k with st := 3 }, 0) else if (c.at k).st = 3 then (c, 0) else if (c.at k).st = 1 ∧ ((c.at k).dn = 0 ∨ (c.at k).dn = 3) then (c.setT k { c.at k with dn := 3 }, 0) else (Crd.zero, 12)) := show _ = _ by rw [HEE.out, if_neg (by rw [HFL.out]; simp), HPS, Int.toNat_natCast]
  have hkv : (k : Int) < c.ts.length := by omega
  clear hf0 HEE hp HPS
  go_wp2_with fail
  refine (ccopy_any c _ us _ (HR.out _ HB1.out) HF.out).mono ?_
  rintro e w3 ⟨v3, us3, rfl, hf3, hb3⟩
  obtain ⟨g3, c3, rfl⟩ := hf3.form (by omega)
  have HS : Hid (Sc w w.heap.size (w.heap.size + 1) w1.heap.size c (.slice (some ⟨g3, 0, none⟩) c.ts.length c3) us3 (put4 w3 w.heap.size c (.slice (some ⟨g3, 0, none⟩) c.ts.length c3))) := sc_copy HB1.out HC1.out HZ1.out (by omega) (Nat.le_refl _) (by omega) hf3 hb3
  have hC3 := HC1.out.below HC1.out.1 hb3
  have hZ3 := HZ1.out.below HZ1.out.1 hb3
  obtain ⟨hT3, hfz, hg1, hg2⟩ := hf3.cells k hk
  obtain ⟨t, hAT⟩ : ∃ t, c.at k = t := ⟨_, rfl⟩
  have HAT : Hid (c.at k = t) := hAT
  rw [HAT.out] at hT3 HEF
  have hgb : w.heap.size ≠ g3 := by have := HB1.out.size; have := HC1.out.1; omega
  have hgz : w.heap.size + 1 ≠ g3 := by have := HZ1.out.1; omega
  have hbz : w.heap.size ≠ w.heap.size + 1 := by omega
  clear a0 a1 a2 a3 f1 s1 z1 e0 e1 e2 e3 g1 hf3 hb3 hAT
  obtain ⟨s1, ⟨a0, a1, a2, a3⟩, f1⟩ := hC3
  obtain ⟨z1, ⟨e0, e1, e2, e3⟩, g1⟩ := hZ3
  obtain ⟨q0, q1, q2, q3, q4, q5, q6⟩ := hT3
  have HBP : Hid (Below w.heap.size w (put4 w3 w.heap.size c (.slice (some ⟨g3, 0, none⟩) c.ts.length c3))) := HS.out.bel
  unfold put4 at HS HBP
  by_cases hst : t.st = 2
  · have d2 : (t.st == 2) = true := by simp [hst]
    have HV : Hid (c.endP s v true = (c.setT k { t with st := 3 }, 0)) := show _ = _ by rw [HEF.out, if_pos hst]
    have HS2 : Hid (Sc w w.heap.size (w.heap.size + 1) w1.heap.size (c.setT k { t with st := 3 }) (.slice (some ⟨g3, 0, none⟩) c.ts.length c3) us3 _) := HS.out.set k 3 hk (by omega) { t with st := 3 } (.int .i64 3) (by rw [HAT.out]; rfl) (by rw [HAT.out])
    have HDN : Hid _ := HS2.out.done c
    unfold put4 at HDN
    clear hst
    go_wp2
    exact bodyPost_ret (v := .tuple #[.agg #[.int .i64 c.ck, .int .i64 c.nx, .int .i64 c.wt, .slice (some ⟨g3, 0, none⟩) c.ts.length c3], .int .i64 0]) (by simp [results, Try.results28, go_sem, a0, a1, a2, a3, e0, e1, e2, e3, hgb, hgz, hbz]) rfl ⟨.slice (some ⟨g3, 0, none⟩) c.ts.length c3, us3, by simp only [HV.out, Crd.setT], by simp only [HV.out]; exact HDN.out.1, HDN.out.2⟩
  have d2 : (t.st == 2) = false := by simp [hst]
  by_cases hsw : t.st = 3
  · have d3 : (t.st == 3) = true := by simp [hsw]
    have HV : Hid (c.endP s v true = (c, 0)) := show _ = _ by rw [HEF.out, if_neg hst, if_pos hsw]
    have HDN : Hid _ := HS.out.done c
    unfold put4 at HDN
    clear hst hsw
    go_wp2
    exact bodyPost_ret (v := .tuple #[.agg #[.int .i64 c.ck, .int .i64 c.nx, .int .i64 c.wt, .slice (some ⟨g3, 0, none⟩) c.ts.length c3], .int .i64 0]) (by simp [results, Try.results28, go_sem, a0, a1, a2, a3, e0, e1, e2, e3, hgb, hgz, hbz]) rfl ⟨.slice (some ⟨g3, 0, none⟩) c.ts.length c3, us3, by simp only [HV.out, Crd.setT], by simp only [HV.out]; exact HDN.out.1, HDN.out.2⟩
  have d3 : (t.st == 3) = false := by simp [hsw]
  by_cases hs1 : t.st = 1
  · have d4 : (t.st == 1) = true := by simp [hs1]
    by_cases hd0 : t.dn = 0
    · have d5 : (t.dn == 0) = true := by simp [hd0]
      have HV : Hid (c.endP s v true = (c.setT k { t with dn := 3 }, 0)) := show _ = _ by rw [HEF.out, if_neg hst, if_neg hsw, if_pos ⟨hs1, .inl hd0⟩]
      have HS2 : Hid (Sc w w.heap.size (w.heap.size + 1) w1.heap.size (c.setT k { t with dn := 3 }) (.slice (some ⟨g3, 0, none⟩) c.ts.length c3) us3 _) := HS.out.set k 6 hk (by omega) { t with dn := 3 } (.int .i64 3) (by rw [HAT.out]; rfl) (by rw [HAT.out])
      have HDN : Hid _ := HS2.out.done c
      unfold put4 at HDN
      clear hst hsw hs1 hd0
      go_wp2
      exact bodyPost_ret (v := .tuple #[.agg #[.int .i64 c.ck, .int .i64 c.nx, .int .i64 c.wt, .slice (some ⟨g3, 0, none⟩) c.ts.length c3], .int .i64 0]) (by simp [results, Try.results28, go_sem, a0, a1, a2, a3, e0, e1, e2, e3, hgb, hgz, hbz]) rfl ⟨.slice (some ⟨g3, 0, none⟩) c.ts.length c3, us3, by simp only [HV.out, Crd.setT], by simp only [HV.out]; exact HDN.out.1, HDN.out.2⟩
    have d5 : (t.dn == 0) = false := by simp [hd0]
    by_cases hdw : t.dn = 3
    · have d6 : (t.dn == 3) = true := by simp [hdw]
      have HV : Hid (c.endP s v true = (c.setT k { t with dn := 3 }, 0)) := show _ = _ by rw [HEF.out, if_neg hst, if_neg hsw, if_pos ⟨hs1, .inr hdw⟩]
      have HS2 : Hid (Sc w w.heap.size (w.heap.size + 1) w1.heap.size (c.setT k { t with dn := 3 }) (.slice (some ⟨g3, 0, none⟩) c.ts.length c3) us3 _) := HS.out.set k 6 hk (by omega) { t with dn := 3 } (.int .i64 3) (by rw [HAT.out]; rfl) (by rw [HAT.out])
      have HDN : Hid _ := HS2.out.done c
      unfold put4 at HDN
      clear hst hsw hs1 hd0
      go_wp2
      exact bodyPost_ret (v := .tuple #[.agg #[.int .i64 c.ck, .int .i64 c.nx, .int .i64 c.wt, .slice (some ⟨g3, 0, none⟩) c.ts.length c3], .int .i64 0]) (by simp [results, Try.results28, go_sem, a0, a1, a2, a3, e0, e1, e2, e3, hgb, hgz, hbz]) rfl ⟨.slice (some ⟨g3, 0, none⟩) c.ts.length c3, us3, by simp only [HV.out, Crd.setT], by simp only [HV.out]; exact HDN.out.1, HDN.out.2⟩
    have d6 : (t.dn == 3) = false := by simp [hdw]
    have HV : Hid (c.endP s v true = (Crd.zero, 12)) := show _ = _ by rw [HEF.out, if_neg hst, if_neg hsw, if_neg (by rintro ⟨_, h | h⟩; exact hd0 h; exact hdw h)]
    have HDN : Hid (FreshC w.heap.size (put4 ((((w3.setCell ⟨w.heap.size, 0, none⟩ (.int .i64 c.ck)).setCell ⟨w.heap.size, 1, none⟩ (.int .i64 c.nx)).setCell ⟨w.heap.size, 2, none⟩ (.int .i64 c.wt)).setCell ⟨w.heap.size, 3, none⟩ (.slice (some ⟨g3, 0, none⟩) c.ts.length c3)) (w.heap.size + 1) Crd.zero (.slice none 0 0)) Crd.zero (.slice none 0 0) (fun _ => .slice none 0 0) ∧ Below w.heap.size w (put4 ((((w3.setCell ⟨w.heap.size, 0, none⟩ (.int .i64 c.ck)).setCell ⟨w.heap.size, 1, none⟩ (.int .i64 c.nx)).setCell ⟨w.heap.size, 2, none⟩ (.int .i64 c.wt)).setCell ⟨w.heap.size, 3, none⟩ (.slice (some ⟨g3, 0, none⟩) c.ts.length c3)) (w.heap.size + 1) Crd.zero (.slice none 0 0))) := ⟨freshC_nil' _ rfl (by rw [put4_size]; exact HBP.out.size), below_put4 HBP.out (by omega) _ _⟩
    unfold put4 at HDN
    clear hst hsw hs1 hd0 hdw
    go_wp2
    exact bodyPost_ret (v := .tuple #[.agg #[.int .i64 0, .int .i64 0, .int .i64 0, .slice none 0 0], .int .i64 12]) (by simp [results, Try.results28, go_sem, e0, e1, e2, e3, hbz, hgz, hgb]) rfl ⟨.slice none 0 0, fun _ => .slice none 0 0, by simp only [HV.out, Crd.zero], by simp only [HV.out]; exact HDN.out.1, HDN.out.2⟩
  · have d4 : (t.st == 1) = false := by simp [hs1]
    have HV : Hid (c.endP s v true = (Crd.zero, 12)) := show _ = _ by rw [HEF.out, if_neg hst, if_neg hsw, if_neg (by rintro ⟨h, _⟩; exact hs1 h)]
    have HDN : Hid (FreshC w.heap.size (put4 ((((w3.setCell ⟨w.heap.size, 0, none⟩ (.int .i64 c.ck)).setCell ⟨w.heap.size, 1, none⟩ (.int .i64 c.nx)).setCell ⟨w.heap.size, 2, none⟩ (.int .i64 c.wt)).setCell ⟨w.heap.size, 3, none⟩ (.slice (some ⟨g3, 0, none⟩) c.ts.length c3)) (w.heap.size + 1) Crd.zero (.slice none 0 0)) Crd.zero (.slice none 0 0) (fun _ => .slice none 0 0) ∧ Below w.heap.size w (put4 ((((w3.setCell ⟨w.heap.size, 0, none⟩ (.int .i64 c.ck)).setCell ⟨w.heap.size, 1, none⟩ (.int .i64 c.nx)).setCell ⟨w.heap.size, 2, none⟩ (.int .i64 c.wt)).setCell ⟨w.heap.size, 3, none⟩ (.slice (some ⟨g3, 0, none⟩) c.ts.length c3)) (w.heap.size + 1) Crd.zero (.slice none 0 0))) := ⟨freshC_nil' _ rfl (by rw [put4_size]; exact HBP.out.size), below_put4 HBP.out (by omega) _ _⟩
    unfold put4 at HDN
    clear hst hsw hs1
    go_wp2
    exact bodyPost_ret (v := .tuple #[.agg #[.int .i64 0, .int .i64 0, .int .i64 0, .slice none 0 0], .int .i64 12]) (by simp [results, Try.results28, go_sem, e0, e1, e2, e3, hbz, hgz, hgb]) rfl ⟨.slice none 0 0, fun _ => .slice none 0 0, by simp only [HV.out, Crd.zero], by simp only [HV.out]; exact HDN.out.1, HDN.out.2⟩

set_option maxRecDepth 100000 in
set_option maxHeartbeats 4000000 in
theorem end_false (c : Crd) (s : ByteArray) (v : Int) (vt : Value) (us : Nat → Value) (w : World) (h : RdC w c vt us) (hf : c.fits) (hn : s.size ≤ maxLen) :
    Calls Try.prog 28 #[.agg #[.int .i64 c.ck, .int .i64 c.nx, .int .i64 c.wt, vt], .string s, .int .i64 v, .bool false] w fun e w' => ∃ vt' us', e = .returned (.tuple #[.agg #[.int .i64 (c.endP s v false).1.ck, .int .i64 (c.endP s v false).1.nx, .int .i64 (c.endP s v false).1.wt, vt'], .int .i64 (c.endP s v false).2]) ∧ FreshC w.heap.size w' (c.endP s v false).1 vt' us' ∧ Below w.heap.size w w' := by
  obtain ⟨av, cv, rfl, hl1, hl2⟩ := h.shape
  unfold maxLen at hl2
  have hll : (c.ts.length : Int) ≤ 9223372036854775807 := by omega
  have HR : Hid (∀ W, Below w.heap.size w W → RdC W c (.slice av c.ts.length cv) us) := fun W hW => h.below (Nat.le_refl _) hW
  have HF : Hid c.fits := hf
  have HB0 : Hid (Below w.heap.size w ((w.alloc (.cells #[.int .i64 c.ck, .int .i64 c.nx, .int .i64 c.wt, .slice av c.ts.length cv] 24)).alloc (.cells #[.int .i64 0, .int .i64 0, .int .i64 0, .slice none 0 0] 24))) := bstep (bbox _ _) (bbox _ _)
  have HC0 : Hid (CB ((w.alloc (.cells #[.int .i64 c.ck, .int .i64 c.nx, .int .i64 c.wt, .slice av c.ts.length cv] 24)).alloc (.cells #[.int .i64 0, .int .i64 0, .int .i64 0, .slice none 0 0] 24)) w.heap.size c (.slice av c.ts.length cv)) := (cb_new w c (.slice av c.ts.length cv) 24 w.heap.size rfl).below (C := w.heap.size + 1) (by omega) ((Below.refl _ _).alloc (by simp) _)
  have HZ0 : Hid (CB ((w.alloc (.cells #[.int .i64 c.ck, .int .i64 c.nx, .int .i64 c.wt, .slice av c.ts.length cv] 24)).alloc (.cells #[.int .i64 0, .int .i64 0, .int .i64 0, .slice none 0 0] 24)) (w.heap.size + 1) Crd.zero (.slice none 0 0)) := cb_new _ Crd.zero (.slice none 0 0) 24 (w.heap.size + 1) (by simp)
  have HEE : Hid (c.endP s v false = if c.kfl s v ≠ 0 then (Crd.zero, c.kfl s v) else if (c.at (c.pos s).toNat).st = 2 then (c.setT (c.pos s).toNat { c.at (c.pos s).toNat with st := wantI false }, 0) else if (c.at (c.pos s).toNat).st = wantI false then (c, 0) else if (c.at (c.pos s).toNat).st = 1 ∧ ((c.at (c.pos s).toNat).dn = 0 ∨ (c.at (c.pos s).toNat).dn = wantI false) then (c.setT (c.pos s).toNat { c.at (c.pos s).toNat with dn := wantI false }, 0) else (Crd.zero, 12)) := show _ = _ from rfl
  have HN : Hid (s.size ≤ maxLen) := hn
  clear h hf hl1 hl2 hn
  have HWN : wantI false = 4 := rfl
  rw [HWN] at HEE
  go_enter Try.func28, Try.ntmps28
  go_upto_region 1 with fail
  generalize (w.alloc (.cells #[.int .i64 c.ck, .int .i64 c.nx, .int .i64 c.wt, .slice av c.ts.length cv] 24)).alloc (.cells #[.int .i64 0, .int .i64 0, .int .i64 0, .slice none 0 0] 24) = W0 at *
  obtain ⟨s1, ⟨a0, a1, a2, a3⟩, f1⟩ := HC0.out
  obtain ⟨z1, ⟨e0, e1, e2, e3⟩, g1⟩ := HZ0.out
  go_wp2_with fail
  refine (findVersion_any c s v _ us _ (HR.out _ HB0.out) HF.out.n HN.out).mono ?_
  rintro e w1 ⟨rfl, hb1⟩
  have HB1 : Hid (Below w.heap.size w w1) := bstep HB0.out hb1
  have HC1 : Hid (CB w1 w.heap.size c _) := HC0.out.below HC0.out.1 hb1
  have HZ1 : Hid (CB w1 (w.heap.size + 1) Crd.zero _) := HZ0.out.below HZ0.out.1 hb1
  clear a0 a1 a2 a3 f1 s1 z1 e0 e1 e2 e3 g1 hb1
  obtain ⟨s1, ⟨a0, a1, a2, a3⟩, f1⟩ := HC1.out
  obtain ⟨z1, ⟨e0, e1, e2, e3⟩, g1⟩ := HZ1.out
  by_cases hf0 : c.kfl s v = 0
  rotate_left
  · have HV : Hid (c.endP s v false = (Crd.zero, c.kfl s v)) := show _ = _ by rw [HEE.out, if_pos hf0]
    have d1 : (c.kfl s v != 0) = true := by simp [hf0]
    clear hf0
    generalize c.kfl s v = fl at *
    have HDN : Hid (FreshC w.heap.size (put4 w1 (w.heap.size + 1) Crd.zero (.slice none 0 0)) Crd.zero (.slice none 0 0) (fun _ => .slice none 0 0) ∧ Below w.heap.size w (put4 w1 (w.heap.size + 1) Crd.zero (.slice none 0 0))) := ⟨freshC_nil' _ rfl (by rw [put4_size]; exact HB1.out.size), below_put4 HB1.out (by omega) _ _⟩
    go_wp2
    exact bodyPost_ret (v := .tuple #[.agg #[.int .i64 0, .int .i64 0, .int .i64 0, .slice none 0 0], .int .i64 fl]) (by simp [results, Try.results28, go_sem, e0, e1, e2, e3]) rfl ⟨.slice none 0 0, fun _ => .slice none 0 0, by simp only [HV.out, Crd.zero], by simp only [HV.out]; exact HDN.out.1, HDN.out.2⟩
  have HFL : Hid (c.kfl s v = 0) := hf0
  obtain ⟨k, hk, hp, HPS⟩ := kfl_at hf0
  rw [HFL.out, hp]
  have HEF : Hid (c.endP s v false = if (c.at k).st = 2 then (c.setT k { c.at k with st := 4 }, 0) else if (c.at k).st = 4 then (c, 0) else if (c.at k).st = 1 ∧ ((c.at k).dn = 0 ∨ (c.at k).dn = 4) then (c.setT k { c.at k with dn := 4 }, 0) else (Crd.zero, 12)) := show _ = _ by rw [HEE.out, if_neg (by rw [HFL.out]; simp), HPS, Int.toNat_natCast]
  have hkv : (k : Int) < c.ts.length := by omega
  clear hf0 HEE hp HPS
  go_wp2_with fail
  refine (ccopy_any c _ us _ (HR.out _ HB1.out) HF.out).mono ?_
  rintro e w3 ⟨v3, us3, rfl, hf3, hb3⟩
  obtain ⟨g3, c3, rfl⟩ := hf3.form (by omega)
  have HS : Hid (Sc w w.heap.size (w.heap.size + 1) w1.heap.size c (.slice (some ⟨g3, 0, none⟩) c.ts.length c3) us3 (put4 w3 w.heap.size c (.slice (some ⟨g3, 0, none⟩) c.ts.length c3))) := sc_copy HB1.out HC1.out HZ1.out (by omega) (Nat.le_refl _) (by omega) hf3 hb3
  have hC3 := HC1.out.below HC1.out.1 hb3
  have hZ3 := HZ1.out.below HZ1.out.1 hb3
  obtain ⟨hT3, hfz, hg1, hg2⟩ := hf3.cells k hk
  obtain ⟨t, hAT⟩ : ∃ t, c.at k = t := ⟨_, rfl⟩
  have HAT : Hid (c.at k = t) := hAT
  rw [HAT.out] at hT3 HEF
  have hgb : w.heap.size ≠ g3 := by have := HB1.out.size; have := HC1.out.1; omega
  have hgz : w.heap.size + 1 ≠ g3 := by have := HZ1.out.1; omega
  have hbz : w.heap.size ≠ w.heap.size + 1 := by omega
  clear a0 a1 a2 a3 f1 s1 z1 e0 e1 e2 e3 g1 hf3 hb3 hAT
  obtain ⟨s1, ⟨a0, a1, a2, a3⟩, f1⟩ := hC3
  obtain ⟨z1, ⟨e0, e1, e2, e3⟩, g1⟩ := hZ3
  obtain ⟨q0, q1, q2, q3, q4, q5, q6⟩ := hT3
  have HBP : Hid (Below w.heap.size w (put4 w3 w.heap.size c (.slice (some ⟨g3, 0, none⟩) c.ts.length c3))) := HS.out.bel
  unfold put4 at HS HBP
  by_cases hst : t.st = 2
  · have d2 : (t.st == 2) = true := by simp [hst]
    have HV : Hid (c.endP s v false = (c.setT k { t with st := 4 }, 0)) := show _ = _ by rw [HEF.out, if_pos hst]
    have HS2 : Hid (Sc w w.heap.size (w.heap.size + 1) w1.heap.size (c.setT k { t with st := 4 }) (.slice (some ⟨g3, 0, none⟩) c.ts.length c3) us3 _) := HS.out.set k 3 hk (by omega) { t with st := 4 } (.int .i64 4) (by rw [HAT.out]; rfl) (by rw [HAT.out])
    have HDN : Hid _ := HS2.out.done c
    unfold put4 at HDN
    clear hst
    go_wp2
    exact bodyPost_ret (v := .tuple #[.agg #[.int .i64 c.ck, .int .i64 c.nx, .int .i64 c.wt, .slice (some ⟨g3, 0, none⟩) c.ts.length c3], .int .i64 0]) (by simp [results, Try.results28, go_sem, a0, a1, a2, a3, e0, e1, e2, e3, hgb, hgz, hbz]) rfl ⟨.slice (some ⟨g3, 0, none⟩) c.ts.length c3, us3, by simp only [HV.out, Crd.setT], by simp only [HV.out]; exact HDN.out.1, HDN.out.2⟩
  have d2 : (t.st == 2) = false := by simp [hst]
  by_cases hsw : t.st = 4
  · have d3 : (t.st == 4) = true := by simp [hsw]
    have HV : Hid (c.endP s v false = (c, 0)) := show _ = _ by rw [HEF.out, if_neg hst, if_pos hsw]
    have HDN : Hid _ := HS.out.done c
    unfold put4 at HDN
    clear hst hsw
    go_wp2
    exact bodyPost_ret (v := .tuple #[.agg #[.int .i64 c.ck, .int .i64 c.nx, .int .i64 c.wt, .slice (some ⟨g3, 0, none⟩) c.ts.length c3], .int .i64 0]) (by simp [results, Try.results28, go_sem, a0, a1, a2, a3, e0, e1, e2, e3, hgb, hgz, hbz]) rfl ⟨.slice (some ⟨g3, 0, none⟩) c.ts.length c3, us3, by simp only [HV.out, Crd.setT], by simp only [HV.out]; exact HDN.out.1, HDN.out.2⟩
  have d3 : (t.st == 4) = false := by simp [hsw]
  by_cases hs1 : t.st = 1
  · have d4 : (t.st == 1) = true := by simp [hs1]
    by_cases hd0 : t.dn = 0
    · have d5 : (t.dn == 0) = true := by simp [hd0]
      have HV : Hid (c.endP s v false = (c.setT k { t with dn := 4 }, 0)) := show _ = _ by rw [HEF.out, if_neg hst, if_neg hsw, if_pos ⟨hs1, .inl hd0⟩]
      have HS2 : Hid (Sc w w.heap.size (w.heap.size + 1) w1.heap.size (c.setT k { t with dn := 4 }) (.slice (some ⟨g3, 0, none⟩) c.ts.length c3) us3 _) := HS.out.set k 6 hk (by omega) { t with dn := 4 } (.int .i64 4) (by rw [HAT.out]; rfl) (by rw [HAT.out])
      have HDN : Hid _ := HS2.out.done c
      unfold put4 at HDN
      clear hst hsw hs1 hd0
      go_wp2
      exact bodyPost_ret (v := .tuple #[.agg #[.int .i64 c.ck, .int .i64 c.nx, .int .i64 c.wt, .slice (some ⟨g3, 0, none⟩) c.ts.length c3], .int .i64 0]) (by simp [results, Try.results28, go_sem, a0, a1, a2, a3, e0, e1, e2, e3, hgb, hgz, hbz]) rfl ⟨.slice (some ⟨g3, 0, none⟩) c.ts.length c3, us3, by simp only [HV.out, Crd.setT], by simp only [HV.out]; exact HDN.out.1, HDN.out.2⟩
    have d5 : (t.dn == 0) = false := by simp [hd0]
    by_cases hdw : t.dn = 4
    · have d6 : (t.dn == 4) = true := by simp [hdw]
      have HV : Hid (c.endP s v false = (c.setT k { t with dn := 4 }, 0)) := show _ = _ by rw [HEF.out, if_neg hst, if_neg hsw, if_pos ⟨hs1, .inr hdw⟩]
      have HS2 : Hid (Sc w w.heap.size (w.heap.size + 1) w1.heap.size (c.setT k { t with dn := 4 }) (.slice (some ⟨g3, 0, none⟩) c.ts.length c3) us3 _) := HS.out.set k 6 hk (by omega) { t with dn := 4 } (.int .i64 4) (by rw [HAT.out]; rfl) (by rw [HAT.out])
      have HDN : Hid _ := HS2.out.done c
      unfold put4 at HDN
      clear hst hsw hs1 hd0
      go_wp2
      exact bodyPost_ret (v := .tuple #[.agg #[.int .i64 c.ck, .int .i64 c.nx, .int .i64 c.wt, .slice (some ⟨g3, 0, none⟩) c.ts.length c3], .int .i64 0]) (by simp [results, Try.results28, go_sem, a0, a1, a2, a3, e0, e1, e2, e3, hgb, hgz, hbz]) rfl ⟨.slice (some ⟨g3, 0, none⟩) c.ts.length c3, us3, by simp only [HV.out, Crd.setT], by simp only [HV.out]; exact HDN.out.1, HDN.out.2⟩
    have d6 : (t.dn == 4) = false := by simp [hdw]
    have HV : Hid (c.endP s v false = (Crd.zero, 12)) := show _ = _ by rw [HEF.out, if_neg hst, if_neg hsw, if_neg (by rintro ⟨_, h | h⟩; exact hd0 h; exact hdw h)]
    have HDN : Hid (FreshC w.heap.size (put4 ((((w3.setCell ⟨w.heap.size, 0, none⟩ (.int .i64 c.ck)).setCell ⟨w.heap.size, 1, none⟩ (.int .i64 c.nx)).setCell ⟨w.heap.size, 2, none⟩ (.int .i64 c.wt)).setCell ⟨w.heap.size, 3, none⟩ (.slice (some ⟨g3, 0, none⟩) c.ts.length c3)) (w.heap.size + 1) Crd.zero (.slice none 0 0)) Crd.zero (.slice none 0 0) (fun _ => .slice none 0 0) ∧ Below w.heap.size w (put4 ((((w3.setCell ⟨w.heap.size, 0, none⟩ (.int .i64 c.ck)).setCell ⟨w.heap.size, 1, none⟩ (.int .i64 c.nx)).setCell ⟨w.heap.size, 2, none⟩ (.int .i64 c.wt)).setCell ⟨w.heap.size, 3, none⟩ (.slice (some ⟨g3, 0, none⟩) c.ts.length c3)) (w.heap.size + 1) Crd.zero (.slice none 0 0))) := ⟨freshC_nil' _ rfl (by rw [put4_size]; exact HBP.out.size), below_put4 HBP.out (by omega) _ _⟩
    unfold put4 at HDN
    clear hst hsw hs1 hd0 hdw
    go_wp2
    exact bodyPost_ret (v := .tuple #[.agg #[.int .i64 0, .int .i64 0, .int .i64 0, .slice none 0 0], .int .i64 12]) (by simp [results, Try.results28, go_sem, e0, e1, e2, e3, hbz, hgz, hgb]) rfl ⟨.slice none 0 0, fun _ => .slice none 0 0, by simp only [HV.out, Crd.zero], by simp only [HV.out]; exact HDN.out.1, HDN.out.2⟩
  · have d4 : (t.st == 1) = false := by simp [hs1]
    have HV : Hid (c.endP s v false = (Crd.zero, 12)) := show _ = _ by rw [HEF.out, if_neg hst, if_neg hsw, if_neg (by rintro ⟨h, _⟩; exact hs1 h)]
    have HDN : Hid (FreshC w.heap.size (put4 ((((w3.setCell ⟨w.heap.size, 0, none⟩ (.int .i64 c.ck)).setCell ⟨w.heap.size, 1, none⟩ (.int .i64 c.nx)).setCell ⟨w.heap.size, 2, none⟩ (.int .i64 c.wt)).setCell ⟨w.heap.size, 3, none⟩ (.slice (some ⟨g3, 0, none⟩) c.ts.length c3)) (w.heap.size + 1) Crd.zero (.slice none 0 0)) Crd.zero (.slice none 0 0) (fun _ => .slice none 0 0) ∧ Below w.heap.size w (put4 ((((w3.setCell ⟨w.heap.size, 0, none⟩ (.int .i64 c.ck)).setCell ⟨w.heap.size, 1, none⟩ (.int .i64 c.nx)).setCell ⟨w.heap.size, 2, none⟩ (.int .i64 c.wt)).setCell ⟨w.heap.size, 3, none⟩ (.slice (some ⟨g3, 0, none⟩) c.ts.length c3)) (w.heap.size + 1) Crd.zero (.slice none 0 0))) := ⟨freshC_nil' _ rfl (by rw [put4_size]; exact HBP.out.size), below_put4 HBP.out (by omega) _ _⟩
    unfold put4 at HDN
    clear hst hsw hs1
    go_wp2
    exact bodyPost_ret (v := .tuple #[.agg #[.int .i64 0, .int .i64 0, .int .i64 0, .slice none 0 0], .int .i64 12]) (by simp [results, Try.results28, go_sem, e0, e1, e2, e3, hbz, hgz, hgb]) rfl ⟨.slice none 0 0, fun _ => .slice none 0 0, by simp only [HV.out, Crd.zero], by simp only [HV.out]; exact HDN.out.1, HDN.out.2⟩

theorem end_any (c : Crd) (s : ByteArray) (v : Int) (b : Bool) (vt : Value) (us : Nat → Value) (w : World) (h : RdC w c vt us) (hf : c.fits) (hn : s.size ≤ maxLen) :
    Calls Try.prog 28 #[.agg #[.int .i64 c.ck, .int .i64 c.nx, .int .i64 c.wt, vt], .string s, .int .i64 v, .bool b] w fun e w' => ∃ vt' us', e = .returned (.tuple #[.agg #[.int .i64 (c.endP s v b).1.ck, .int .i64 (c.endP s v b).1.nx, .int .i64 (c.endP s v b).1.wt, vt'], .int .i64 (c.endP s v b).2]) ∧ FreshC w.heap.size w' (c.endP s v b).1 vt' us' ∧ Below w.heap.size w w' := by
  cases b
  · exact end_false c s v vt us w h hf hn
  · exact end_true c s v vt us w h hf hn

end Go.Proofs.Ytjhpfnogdjpbmaa
