/-
  The walks of coord's renew, enter and Init.
-/
import Derived.Test.YtjhpfnogdjpbmaaCst
namespace Go.Proofs.Ytjhpfnogdjpbmaa
open Go.RowKit
set_option linter.unusedVariables false
set_option linter.unusedSimpArgs false

/-- What renew answers. -/
def Crd.renewP (c : Crd) (k : Nat) : Crd × Int × Int × Int :=
  if (c.at k).endB then (Crd.zero, 0, 0, 12)
  else if (c.at k).v = 1073741824 then (Crd.zero, 0, 0, 2)
  else (c.setT k (c.at k).renew, (c.at k).id, (c.at k).v + 1, 0)

set_option maxRecDepth 100000 in
set_option maxHeartbeats 2000000 in
theorem renew_any (c : Crd) (k : Nat) (vt : Value) (us : Nat → Value) (w : World) (h : RdC w c vt us) (hf : c.fits) (hk : k < c.ts.length) (hv0 : 0 ≤ (c.at k).v) (hv1 : (c.at k).v ≤ 1073741824) :
    Calls Try.prog 54 #[.agg #[.int .i64 c.ck, .int .i64 c.nx, .int .i64 c.wt, vt], .int .i64 k] w fun e w' => ∃ vt' us', e = .returned (.tuple #[.agg #[.int .i64 (c.renewP k).1.ck, .int .i64 (c.renewP k).1.nx, .int .i64 (c.renewP k).1.wt, vt'], .int .i64 (c.renewP k).2.1, .int .i64 (c.renewP k).2.2.1, .int .i64 (c.renewP k).2.2.2]) ∧ FreshC w.heap.size w' (c.renewP k).1 vt' us' ∧ Below w.heap.size w w' := by
  obtain ⟨av, cv, rfl, hl1, hl2⟩ := h.shape
  unfold maxLen at hl2
  have hll : (c.ts.length : Int) ≤ 9223372036854775807 := by omega
  have hkv : (k : Int) < c.ts.length := by omega
  have HR : Hid (∀ W, Below w.heap.size w W → RdC W c (.slice av c.ts.length cv) us) := fun W hW => h.below (Nat.le_refl _) hW
  have HF : Hid c.fits := hf
  have HB0 : Hid (Below w.heap.size w ((w.alloc (.cells #[.int .i64 c.ck, .int .i64 c.nx, .int .i64 c.wt, .slice av c.ts.length cv] 24)).alloc (.cells #[.int .i64 0, .int .i64 0, .int .i64 0, .slice none 0 0] 24))) := bstep (bbox _ _) (bbox _ _)
  have HC0 : Hid (CB ((w.alloc (.cells #[.int .i64 c.ck, .int .i64 c.nx, .int .i64 c.wt, .slice av c.ts.length cv] 24)).alloc (.cells #[.int .i64 0, .int .i64 0, .int .i64 0, .slice none 0 0] 24)) w.heap.size c (.slice av c.ts.length cv)) := (cb_new w c (.slice av c.ts.length cv) 24 w.heap.size rfl).below (C := w.heap.size + 1) (by omega) ((Below.refl _ _).alloc (by simp) _)
  have HZ0 : Hid (CB ((w.alloc (.cells #[.int .i64 c.ck, .int .i64 c.nx, .int .i64 c.wt, .slice av c.ts.length cv] 24)).alloc (.cells #[.int .i64 0, .int .i64 0, .int .i64 0, .slice none 0 0] 24)) (w.heap.size + 1) Crd.zero (.slice none 0 0)) := cb_new _ Crd.zero (.slice none 0 0) 24 (w.heap.size + 1) (by simp)
  have HEE : Hid (c.renewP k = if (c.at k).endB then (Crd.zero, 0, 0, 12) else if (c.at k).v = 1073741824 then (Crd.zero, 0, 0, 2) else (c.setT k (c.at k).renew, (c.at k).id, (c.at k).v + 1, 0)) := show _ = _ from rfl
  clear h hf hl1 hl2
  go_enter Try.func54, Try.ntmps54
  go_upto_region 1 with fail
  generalize (w.alloc (.cells #[.int .i64 c.ck, .int .i64 c.nx, .int .i64 c.wt, .slice av c.ts.length cv] 24)).alloc (.cells #[.int .i64 0, .int .i64 0, .int .i64 0, .slice none 0 0] 24) = W0 at *
  obtain ⟨s1, ⟨a0, a1, a2, a3⟩, f1⟩ := HC0.out
  obtain ⟨z1, ⟨e0, e1, e2, e3⟩, g1⟩ := HZ0.out
  obtain ⟨gg, off, t, au, cu, rfl, HAT, hgg, HQ, q0, q1, q2, q3, q4, q5, q6⟩ := (HR.out W0 HB0.out).txnAt k hk
  rw [HAT.out] at hv0 hv1 HEE
  go_wp2_with fail
  refine (hasMarkers_any t (.slice au t.ps.length cu) _).mono ?_
  rintro e w1 ⟨rfl, hb1⟩
  have HB1 : Hid (Below w.heap.size w w1) := bstep HB0.out hb1
  have HC1 : Hid (CB w1 w.heap.size c _) := HC0.out.below HC0.out.1 hb1
  have HZ1 : Hid (CB w1 (w.heap.size + 1) Crd.zero _) := HZ0.out.below HZ0.out.1 hb1
  have q2' := (hb1.cell (p := ⟨gg, off + k * 7 + 2, none⟩) hgg).trans q2
  clear a0 a1 a2 a3 f1 s1 z1 e0 e1 e2 e3 g1 q0 q1 q2 q3 q4 q5 q6 hb1
  obtain ⟨s1, ⟨a0, a1, a2, a3⟩, f1⟩ := HC1.out
  obtain ⟨z1, ⟨e0, e1, e2, e3⟩, g1⟩ := HZ1.out
  cases he : t.endB with
  | true =>
    have HV : Hid (c.renewP k = (Crd.zero, 0, 0, 12)) := show _ = _ by rw [HEE.out, he]; rfl
    go_wp2
    exact bodyPost_ret (v := .tuple #[.agg #[.int .i64 0, .int .i64 0, .int .i64 0, .slice none 0 0], .int .i64 0, .int .i64 0, .int .i64 12]) (by simp [results, Try.results54, go_sem, e0, e1, e2, e3]) rfl ⟨.slice none 0 0, fun _ => .slice none 0 0, by rw [HV.out]; rfl, by rw [HV.out]; exact freshC_nil' _ rfl (by have := HB1.out.size; simpa using this), below_put4 (c := Crd.zero) (vt := .slice none 0 0) HB1.out (by omega)⟩
  | false =>
    rw [he] at HEE
    by_cases hv : t.v = 1073741824
    · have HV : Hid (c.renewP k = (Crd.zero, 0, 0, 2)) := show _ = _ by rw [HEE.out, if_neg (by simp), if_pos hv]
      have d1 : (t.v == 1073741824) = true := by simp [hv]
      clear hv
      go_wp2
      exact bodyPost_ret (v := .tuple #[.agg #[.int .i64 0, .int .i64 0, .int .i64 0, .slice none 0 0], .int .i64 0, .int .i64 0, .int .i64 2]) (by simp [results, Try.results54, go_sem, e0, e1, e2, e3]) rfl ⟨.slice none 0 0, fun _ => .slice none 0 0, by rw [HV.out]; rfl, by rw [HV.out]; exact freshC_nil' _ rfl (by have := HB1.out.size; simpa using this), below_put4 (c := Crd.zero) (vt := .slice none 0 0) HB1.out (by omega)⟩
    · have HV : Hid (c.renewP k = (c.setT k t.renew, t.id, t.v + 1, 0)) := show _ = _ by rw [HEE.out, if_neg (by simp), if_neg hv]
      have d1 : (t.v == 1073741824) = false := by simp [hv]
      have hv2 : t.v < 1073741824 := by omega
      clear hv
      go_wp2_with fail
      refine (ccopy_any c _ us _ (HR.out _ HB1.out) HF.out).mono ?_
      rintro e w3 ⟨v3, us3, rfl, hf3, hb3⟩
      obtain ⟨g3, c3, rfl⟩ := hf3.form (by omega)
      have HS : Hid (Sc w w.heap.size (w.heap.size + 1) w1.heap.size c (.slice (some ⟨g3, 0, none⟩) c.ts.length c3) us3 (put4 w3 w.heap.size c (.slice (some ⟨g3, 0, none⟩) c.ts.length c3))) := sc_copy HB1.out HC1.out HZ1.out (by omega) (Nat.le_refl _) (by omega) hf3 hb3
      have hC3 := HC1.out.below HC1.out.1 hb3
      have hZ3 := HZ1.out.below HZ1.out.1 hb3
      obtain ⟨hT3, hfz, hg1, hg2⟩ := hf3.cells k hk
      rw [HAT.out] at hT3
      have hgb : w.heap.size ≠ g3 := by have := HB1.out.size; have := HC1.out.1; omega
      have hgz : w.heap.size + 1 ≠ g3 := by have := HZ1.out.1; omega
      have hbz : w.heap.size ≠ w.heap.size + 1 := by omega
      clear a0 a1 a2 a3 f1 s1 z1 e0 e1 e2 e3 g1 q2' hf3 hb3
      obtain ⟨s1, ⟨a0, a1, a2, a3⟩, f1⟩ := hC3
      obtain ⟨z1, ⟨e0, e1, e2, e3⟩, g1⟩ := hZ3
      obtain ⟨q0, q1, q2, q3, q4, q5, q6⟩ := hT3
      unfold put4 at HS
      have HS2 : Hid (Sc w w.heap.size (w.heap.size + 1) w1.heap.size (c.setT k { t with v := t.v + 1 }) (.slice (some ⟨g3, 0, none⟩) c.ts.length c3) us3 _) := HS.out.set k 2 hk (by omega) { t with v := t.v + 1 } (.int .i64 (t.v + 1)) (by rw [HAT.out]; rfl) (by rw [HAT.out])
      by_cases hst : t.st = 2
      · have d2 : (t.st == 2) = true := by simp [hst]
        have HRN : Hid ((c.setT k { t with v := t.v + 1 }).setT k { t with v := t.v + 1, st := 4 } = c.setT k t.renew) := show _ = _ by rw [setT_setT]; unfold Txn.renew; rw [if_pos hst]
        have hs3 := HS2.out.set k 3 (by rw [setT_len]; exact hk) (by omega) { t with v := t.v + 1, st := 4 } (.int .i64 4) (by rw [setT_at hk]; rfl) (by rw [setT_at hk])
        rw [HRN.out] at hs3
        have HDN : Hid _ := hs3.doneD c
        unfold put4 at HDN
        clear hst hs3
        go_wp2
        go_region
        all_goals
          go_wp2
          exact bodyPost_ret (v := .tuple #[.agg #[.int .i64 c.ck, .int .i64 c.nx, .int .i64 c.wt, .slice (some ⟨g3, 0, none⟩) c.ts.length c3], .int .i64 t.id, .int .i64 (t.v + 1), .int .i64 0]) (by simp [results, Try.results54, go_sem, a0, a1, a2, a3, e0, e1, e2, e3, q1, q2, q3, hgb, hgz, hbz]) rfl ⟨.slice (some ⟨g3, 0, none⟩) c.ts.length c3, us3, by simp only [HV.out, Crd.setT], by simp only [HV.out]; exact HDN.out.1, HDN.out.2⟩
      · have d2 : (t.st == 2) = false := by simp [hst]
        have HRN : Hid (c.setT k { t with v := t.v + 1 } = c.setT k t.renew) := show _ = _ by unfold Txn.renew; rw [if_neg hst]
        have hs2 := HS2.out
        rw [HRN.out] at hs2
        have HDN : Hid _ := hs2.doneD c
        unfold put4 at HDN
        clear hs2
        clear hst
        go_wp2
        go_region
        all_goals
          go_wp2
          exact bodyPost_ret (v := .tuple #[.agg #[.int .i64 c.ck, .int .i64 c.nx, .int .i64 c.wt, .slice (some ⟨g3, 0, none⟩) c.ts.length c3], .int .i64 t.id, .int .i64 (t.v + 1), .int .i64 0]) (by simp [results, Try.results54, go_sem, a0, a1, a2, a3, e0, e1, e2, e3, q1, q2, q3, hgb, hgz, hbz]) rfl ⟨.slice (some ⟨g3, 0, none⟩) c.ts.length c3, us3, by simp only [HV.out, Crd.setT], by simp only [HV.out]; exact HDN.out.1, HDN.out.2⟩

/-- What enter answers. -/
def Crd.enterP (c : Crd) (s : ByteArray) : Crd × Int × Int × Int :=
  if 8 ≤ c.ts.length ∨ 1073741824 ≤ c.nx then (Crd.zero, 0, 0, 16) else ({ c with nx := c.nx + 1, ts := c.ts ++ [⟨s, c.nx, 0, 1, [], 0, 0⟩] }, c.nx, 0, 0)

set_option maxRecDepth 100000 in
set_option maxHeartbeats 2000000 in
theorem enter_any (c : Crd) (s : ByteArray) (vt : Value) (us : Nat → Value) (w : World) (h : RdC w c vt us) (hf : c.fits) (hm : MayC c) :
    Calls Try.prog 53 #[.agg #[.int .i64 c.ck, .int .i64 c.nx, .int .i64 c.wt, vt], .string s] w fun e w' => ∃ vt' us', e = .returned (.tuple #[.agg #[.int .i64 (c.enterP s).1.ck, .int .i64 (c.enterP s).1.nx, .int .i64 (c.enterP s).1.wt, vt'], .int .i64 (c.enterP s).2.1, .int .i64 (c.enterP s).2.2.1, .int .i64 (c.enterP s).2.2.2]) ∧ FreshC w.heap.size w' (c.enterP s).1 vt' us' ∧ Below w.heap.size w w' := by
  have hn8 := hm.n8
  have hx0 := hm.x0
  have hx1 := hm.x1
  clear hm
  obtain ⟨av, cv, rfl, hl1, hl2⟩ := h.shape
  unfold maxLen at hl2
  have hll : (c.ts.length : Int) ≤ 9223372036854775807 := by omega
  have HR : Hid (∀ W, Below w.heap.size w W → RdC W c (.slice av c.ts.length cv) us) := fun W hW => h.below (Nat.le_refl _) hW
  have HF : Hid c.fits := hf
  have HB0 : Hid (Below w.heap.size w ((w.alloc (.cells #[.int .i64 c.ck, .int .i64 c.nx, .int .i64 c.wt, .slice av c.ts.length cv] 24)).alloc (.cells #[.int .i64 0, .int .i64 0, .int .i64 0, .slice none 0 0] 24))) := bstep (bbox _ _) (bbox _ _)
  have HC0 : Hid (CB ((w.alloc (.cells #[.int .i64 c.ck, .int .i64 c.nx, .int .i64 c.wt, .slice av c.ts.length cv] 24)).alloc (.cells #[.int .i64 0, .int .i64 0, .int .i64 0, .slice none 0 0] 24)) w.heap.size c (.slice av c.ts.length cv)) := (cb_new w c (.slice av c.ts.length cv) 24 w.heap.size rfl).below (C := w.heap.size + 1) (by omega) ((Below.refl _ _).alloc (by simp) _)
  have HZ0 : Hid (CB ((w.alloc (.cells #[.int .i64 c.ck, .int .i64 c.nx, .int .i64 c.wt, .slice av c.ts.length cv] 24)).alloc (.cells #[.int .i64 0, .int .i64 0, .int .i64 0, .slice none 0 0] 24)) (w.heap.size + 1) Crd.zero (.slice none 0 0)) := cb_new _ Crd.zero (.slice none 0 0) 24 (w.heap.size + 1) (by simp)
  have HEE : Hid (c.enterP s = if 8 ≤ c.ts.length ∨ 1073741824 ≤ c.nx then (Crd.zero, 0, 0, 16) else ({ c with nx := c.nx + 1, ts := c.ts ++ [⟨s, c.nx, 0, 1, [], 0, 0⟩] }, c.nx, 0, 0)) := show _ = _ from rfl
  clear h hf hl1 hl2
  go_enter Try.func53, Try.ntmps53
  go_upto_region 1 with fail
  generalize (w.alloc (.cells #[.int .i64 c.ck, .int .i64 c.nx, .int .i64 c.wt, .slice av c.ts.length cv] 24)).alloc (.cells #[.int .i64 0, .int .i64 0, .int .i64 0, .slice none 0 0] 24) = W0 at *
  obtain ⟨s1, ⟨a0, a1, a2, a3⟩, f1⟩ := HC0.out
  obtain ⟨z1, ⟨e0, e1, e2, e3⟩, g1⟩ := HZ0.out
  have fin : ∀ W, Below W0.heap.size W0 W → c.enterP s = (Crd.zero, 0, 0, 16) → FreshC w.heap.size (put4 W0 (w.heap.size + 1) Crd.zero (.slice none 0 0)) (c.enterP s).1 (.slice none 0 0) (fun _ => .slice none 0 0) ∧ Below w.heap.size w (put4 W0 (w.heap.size + 1) Crd.zero (.slice none 0 0)) := fun W hW e => by
    rw [e]
    exact ⟨freshC_nil' _ rfl (by have := HB0.out.size; rw [put4_size]; exact this), below_put4 HB0.out (by omega) _ _⟩
  have FIN : Hid _ := fin
  clear fin
  by_cases h8 : c.ts.length = 8
  · have HV : Hid (c.enterP s = (Crd.zero, 0, 0, 16)) := show _ = _ by rw [HEE.out, if_pos (.inl (by omega))]
    have d1 : ((c.ts.length : Int) == 8) = true := by simp; omega
    clear h8
    go_wp2
    exact bodyPost_ret (v := .tuple #[.agg #[.int .i64 0, .int .i64 0, .int .i64 0, .slice none 0 0], .int .i64 0, .int .i64 0, .int .i64 16]) (by simp [results, Try.results53, go_sem, e0, e1, e2, e3]) rfl ⟨.slice none 0 0, fun _ => .slice none 0 0, by rw [HV.out]; rfl, FIN.out W0 (Below.refl _ _) HV.out⟩
  have d1 : ((c.ts.length : Int) == 8) = false := by simp; omega
  have hn7 : c.ts.length ≤ 7 := by omega
  clear h8
  by_cases hx : c.nx = 1073741824
  · have HV : Hid (c.enterP s = (Crd.zero, 0, 0, 16)) := show _ = _ by rw [HEE.out, if_pos (.inr (by omega))]
    have d2 : (c.nx == 1073741824) = true := by simp [hx]
    clear hx
    go_wp2
    exact bodyPost_ret (v := .tuple #[.agg #[.int .i64 0, .int .i64 0, .int .i64 0, .slice none 0 0], .int .i64 0, .int .i64 0, .int .i64 16]) (by simp [results, Try.results53, go_sem, e0, e1, e2, e3]) rfl ⟨.slice none 0 0, fun _ => .slice none 0 0, by rw [HV.out]; rfl, FIN.out W0 (Below.refl _ _) HV.out⟩
  have d2 : (c.nx == 1073741824) = false := by simp [hx]
  have hx2 : c.nx < 1073741824 := by omega
  have HV : Hid (c.enterP s = ({ c with nx := c.nx + 1, ts := c.ts ++ [⟨s, c.nx, 0, 1, [], 0, 0⟩] }, c.nx, 0, 0)) := show _ = _ by rw [HEE.out, if_neg (by omega)]
  clear hx
  go_wp2_with fail
  refine (ccopy_any c _ us _ (HR.out _ HB0.out) HF.out).mono ?_
  rintro e w3 ⟨v3, us3, rfl, hf3, hb3⟩
  obtain ⟨a3', c3, rfl⟩ := hf3.shapeOf
  have HS : Hid (Sc w w.heap.size (w.heap.size + 1) W0.heap.size c (.slice a3' c.ts.length c3) us3 (put4 w3 w.heap.size c (.slice a3' c.ts.length c3))) := sc_copy HB0.out HC0.out HZ0.out (by omega) (Nat.le_refl _) (by omega) hf3 hb3
  have hC3 := HC0.out.below HC0.out.1 hb3
  have hZ3 := HZ0.out.below HZ0.out.1 hb3
  have hbz : w.heap.size ≠ w.heap.size + 1 := by omega
  have hww : w.heap.size + 1 < w3.heap.size := hZ3.1
  clear a0 a1 a2 a3 f1 s1 z1 e0 e1 e2 e3 g1 hf3 hb3
  obtain ⟨s1, ⟨a0, a1, a2, a3⟩, f1⟩ := hC3
  obtain ⟨z1, ⟨e0, e1, e2, e3⟩, g1⟩ := hZ3
  unfold put4 at HS
  have HT : Hid (∀ T2 cs, Sc w w.heap.size (w.heap.size + 1) W0.heap.size c (.slice a3' c.ts.length c3) us3 ((World.alloc _ (.cells cs T2)).alloc (.cells #[.string s, .int .i64 c.nx, .int .i64 0, .int .i64 1, .slice none 0 0, .int .i64 0, .int .i64 0] 62))) := fun T2 cs => (HS.out.below (bbox _ _)).below (bbox _ _)
  have HO : Hid (∀ W, W0.heap.size ≤ W.heap.size → OwnV W0.heap.size 3 1 (.slice none 0 0) 0 (ints []) W) := fun W hW => ownV_nil _ _ _ _ hW
  go_wp2_with (at_builtin; go_must (refine wp_rowW txnE 62 22 zeroTV 80 infoTxn Try.underlying22 (by decide) rfl rfl _ _ rfl W0.heap.size (.slice a3' c.ts.length c3) c.ts c.ts.length rfl us3 rfl (HT.out _ _).own _ rfl ⟨s, c.nx, 0, 1, [], 0, 0⟩ (.slice none 0 0) (fun j x hx => lit7 _ _ _ _ _ _ _ _ _ (by simp) j x hx) (HO.out _ (HT.out _ _).own.o.2) (fun b e => by cases e) (fun i hi b e => by cases e) (by omega) (by unfold maxLen; omega) _ rfl ?_))
  intro g' cap' w' ho' hg hat hlt'
  have hsc := HT.out 62 #[.string s, .int .i64 c.nx, .int .i64 0, .int .i64 1, .slice none 0 0, .int .i64 0, .int .i64 0]
  have hrow : ∀ k, (Value.slice a3' c.ts.length c3).ownBlock = some k → W0.heap.size ≤ k ∧ k < w3.heap.size := fun k e => ⟨(hsc.own.o.blk k e).1, by have := (HS.out.own.o.blk k e).2; simpa using this⟩
  have hw0 : w.heap.size + 1 < W0.heap.size := HZ0.out.1
  have nb : (Value.slice a3' c.ts.length c3).ownBlock ≠ some w.heap.size := fun e => by have := (hrow _ e).1; omega
  have nz : (Value.slice a3' c.ts.length c3).ownBlock ≠ some (w.heap.size + 1) := fun e => by have := (hrow _ e).1; omega
  have nt : (Value.slice a3' c.ts.length c3).ownBlock ≠ some w3.heap.size := fun e => by have := (hrow _ e).2; omega
  have hbb := hsc.bb.grown hg nb
  have hzz := hsc.zz.grown hg nz
  have hq1 := (hg.cell_far ⟨w3.heap.size, 1, none⟩ (by simp; omega) (fun e => nt e.symm)).trans (show _ = some (.int .i64 c.nx) by simp [go_sem])
  have hq2 := (hg.cell_far ⟨w3.heap.size, 2, none⟩ (by simp; omega) (fun e => nt e.symm)).trans (show _ = some (.int .i64 0) by simp [go_sem])
  have hgr := hsc.grow ⟨s, c.nx, 0, 1, [], 0, 0⟩ ho' hg
  have HDN : Hid _ := hgr.doneD { c with nx := c.nx + 1 }
  unfold put4 at HDN
  have hne1 : w.heap.size ≠ w3.heap.size := by omega
  have hne2 : w.heap.size + 1 ≠ w3.heap.size := by omega
  clear a0 a1 a2 a3 f1 s1 z1 e0 e1 e2 e3 g1 hsc hrow nb nz nt hgr ho' hg hat
  obtain ⟨s1, ⟨a0, a1, a2, a3⟩, f1⟩ := hbb
  obtain ⟨z1, ⟨e0, e1, e2, e3⟩, g1⟩ := hzz
  go_wp2
  go_region
  all_goals
    go_wp2
    exact bodyPost_ret (v := .tuple #[.agg #[.int .i64 c.ck, .int .i64 (c.nx + 1), .int .i64 c.wt, .slice (some ⟨g', 0, none⟩) (c.ts.length + 1) cap'], .int .i64 c.nx, .int .i64 0, .int .i64 0]) (by simp [results, Try.results53, go_sem, a0, a1, a2, a3, e0, e1, e2, e3, hbz]) rfl ⟨.slice (some ⟨g', 0, none⟩) (c.ts.length + 1) cap', _, by simp only [HV.out], by simp only [HV.out]; exact HDN.out.1, HDN.out.2⟩

set_option maxRecDepth 100000 in
set_option maxHeartbeats 2000000 in
theorem init_any (c : Crd) (s : ByteArray) (vt : Value) (us : Nat → Value) (w : World) (h : RdC w c vt us) (hf : c.fits) (hn : s.size ≤ maxLen) :
    Calls Try.prog 24 #[.agg #[.int .i64 c.ck, .int .i64 c.nx, .int .i64 c.wt, vt], .string s] w fun e w' => ∃ vt' us', e = .returned (.tuple #[.agg #[.int .i64 (c.initP s).1.ck, .int .i64 (c.initP s).1.nx, .int .i64 (c.initP s).1.wt, vt'], .int .i64 (c.initP s).2.1, .int .i64 (c.initP s).2.2.1, .int .i64 (c.initP s).2.2.2]) ∧ FreshC w.heap.size w' (c.initP s).1 vt' us' ∧ Below w.heap.size w w' := by
  obtain ⟨av, cv, rfl, hl1, hl2⟩ := h.shape
  unfold maxLen at hl2
  have hll : (c.ts.length : Int) ≤ 9223372036854775807 := by omega
  have HR : Hid (∀ W, Below w.heap.size w W → RdC W c (.slice av c.ts.length cv) us) := fun W hW => h.below (Nat.le_refl _) hW
  have HF : Hid c.fits := hf
  have HB0 : Hid (Below w.heap.size w ((w.alloc (.cells #[.int .i64 c.ck, .int .i64 c.nx, .int .i64 c.wt, .slice av c.ts.length cv] 24)).alloc (.cells #[.int .i64 0, .int .i64 0, .int .i64 0, .slice none 0 0] 24))) := bstep (bbox _ _) (bbox _ _)
  have HC0 : Hid (CB ((w.alloc (.cells #[.int .i64 c.ck, .int .i64 c.nx, .int .i64 c.wt, .slice av c.ts.length cv] 24)).alloc (.cells #[.int .i64 0, .int .i64 0, .int .i64 0, .slice none 0 0] 24)) w.heap.size c (.slice av c.ts.length cv)) := (cb_new w c (.slice av c.ts.length cv) 24 w.heap.size rfl).below (C := w.heap.size + 1) (by omega) ((Below.refl _ _).alloc (by simp) _)
  have HZ0 : Hid (CB ((w.alloc (.cells #[.int .i64 c.ck, .int .i64 c.nx, .int .i64 c.wt, .slice av c.ts.length cv] 24)).alloc (.cells #[.int .i64 0, .int .i64 0, .int .i64 0, .slice none 0 0] 24)) (w.heap.size + 1) Crd.zero (.slice none 0 0)) := cb_new _ Crd.zero (.slice none 0 0) 24 (w.heap.size + 1) (by simp)
  have HEE : Hid (c.initP s = if c.flt s ≠ 0 then (Crd.zero, 0, 0, c.flt s) else if c.pos s < 0 then c.enterP s else c.renewP (c.pos s).toNat) := show _ = _ from rfl
  have HN : Hid (s.size ≤ maxLen) := hn
  clear h hf hl1 hl2 hn
  go_enter Try.func24, Try.ntmps24
  go_upto_region 1 with fail
  generalize (w.alloc (.cells #[.int .i64 c.ck, .int .i64 c.nx, .int .i64 c.wt, .slice av c.ts.length cv] 24)).alloc (.cells #[.int .i64 0, .int .i64 0, .int .i64 0, .slice none 0 0] 24) = W0 at *
  obtain ⟨s1, ⟨a0, a1, a2, a3⟩, f1⟩ := HC0.out
  obtain ⟨z1, ⟨e0, e1, e2, e3⟩, g1⟩ := HZ0.out
  go_wp2_with fail
  refine (findNamed_any c s _ us _ (HR.out _ HB0.out) HF.out.n HN.out).mono ?_
  rintro e w1 ⟨rfl, hb1⟩
  have HB1 : Hid (Below w.heap.size w w1) := bstep HB0.out hb1
  have HC1 : Hid (CB w1 w.heap.size c _) := HC0.out.below HC0.out.1 hb1
  have HZ1 : Hid (CB w1 (w.heap.size + 1) Crd.zero _) := HZ0.out.below HZ0.out.1 hb1
  clear a0 a1 a2 a3 f1 s1 z1 e0 e1 e2 e3 g1 hb1
  obtain ⟨s1, ⟨a0, a1, a2, a3⟩, f1⟩ := HC1.out
  obtain ⟨z1, ⟨e0, e1, e2, e3⟩, g1⟩ := HZ1.out
  by_cases hf0 : c.flt s = 0
  rotate_left
  · have HV : Hid (c.initP s = (Crd.zero, 0, 0, c.flt s)) := show _ = _ by rw [HEE.out, if_pos hf0]
    have d1 : (c.flt s != 0) = true := by simp [hf0]
    clear hf0
    generalize c.flt s = fl at *
    have HDN : Hid (FreshC w.heap.size (put4 w1 (w.heap.size + 1) Crd.zero (.slice none 0 0)) Crd.zero (.slice none 0 0) (fun _ => .slice none 0 0) ∧ Below w.heap.size w (put4 w1 (w.heap.size + 1) Crd.zero (.slice none 0 0))) := ⟨freshC_nil' _ rfl (by rw [put4_size]; exact HB1.out.size), below_put4 HB1.out (by omega) _ _⟩
    go_wp2
    exact bodyPost_ret (v := .tuple #[.agg #[.int .i64 0, .int .i64 0, .int .i64 0, .slice none 0 0], .int .i64 0, .int .i64 0, .int .i64 fl]) (by simp [results, Try.results24, go_sem, e0, e1, e2, e3]) rfl ⟨.slice none 0 0, fun _ => .slice none 0 0, by simp only [HV.out, Crd.zero], by simp only [HV.out]; exact HDN.out.1, HDN.out.2⟩
  have HFL : Hid (c.flt s = 0) := hf0
  have HFN : Hid (c.fnd s = c.pos s) := show _ = _ by unfold Crd.fnd; rw [if_pos hf0]
  obtain ⟨hmay, hnm⟩ := flt_zero_iff.1 hf0
  have HMY : Hid (MayC c) := hmay
  rw [HFL.out, HFN.out]
  clear hf0 hmay hnm
  rcases pos_cases c s with hp | ⟨k, hk, hp, hnm⟩
  · have HV : Hid (c.initP s = c.enterP s) := show _ = _ by rw [HEE.out, if_neg (by rw [HFL.out]; simp), if_pos (by rw [hp]; decide)]
    rw [hp]
    clear hp
    go_wp2_with fail
    refine (enter_any c s _ us _ (HR.out _ HB1.out) HF.out HMY.out).mono ?_
    rintro e w2 ⟨v2, us2, rfl, hf2, hb2⟩
    obtain ⟨⟨d, pid, ver, er⟩, hX⟩ : ∃ x, c.enterP s = x := ⟨_, rfl⟩
    rw [hX] at hf2 HV ⊢
    obtain ⟨a2', c2, rfl⟩ := hf2.shapeOf
    have hz2 := HZ1.out.below HZ1.out.1 hb2
    have HDN : Hid (FreshC w.heap.size (put4 w2 (w.heap.size + 1) d (.slice a2' d.ts.length c2)) d (.slice a2' d.ts.length c2) us2 ∧ Below w.heap.size w (put4 w2 (w.heap.size + 1) d (.slice a2' d.ts.length c2))) := ⟨OwnW.mono (FreshC.put4 hf2 HZ1.out.1 d _) HB1.out.size, below_put4 (bstep HB1.out hb2) (by omega) _ _⟩
    unfold put4 at HDN
    clear a0 a1 a2 a3 f1 s1 z1 e0 e1 e2 e3 g1 hf2 hb2 hX
    obtain ⟨z1, ⟨e0, e1, e2, e3⟩, g1⟩ := hz2
    go_wp2
    exact bodyPost_ret (v := .tuple #[.agg #[.int .i64 d.ck, .int .i64 d.nx, .int .i64 d.wt, .slice a2' d.ts.length c2], .int .i64 pid, .int .i64 ver, .int .i64 er]) (by simp [results, Try.results24, go_sem, e0, e1, e2, e3]) rfl ⟨.slice a2' d.ts.length c2, us2, by simp only [HV.out], by simp only [HV.out]; exact HDN.out.1, HDN.out.2⟩
  · have HV : Hid (c.initP s = c.renewP k) := show _ = _ by rw [HEE.out, if_neg (by rw [HFL.out]; simp), if_neg (by omega), hp, Int.toNat_natCast]
    have hk1 : ((k : Int) == -1) = false := by simp
    have hkv : (k : Int) < c.ts.length := by omega
    have HOK := HMY.out.ok k hk
    have HV0 : Hid (0 ≤ (c.at k).v ∧ (c.at k).v ≤ 1073741824) := ⟨HOK.v0, HOK.v1⟩
    rw [hp]
    clear hp hnm HOK
    go_wp2_with fail
    refine (renew_any c k _ us _ (HR.out _ HB1.out) HF.out hk HV0.out.1 HV0.out.2).mono ?_
    rintro e w2 ⟨v2, us2, rfl, hf2, hb2⟩
    obtain ⟨⟨d, pid, ver, er⟩, hX⟩ : ∃ x, c.renewP k = x := ⟨_, rfl⟩
    rw [hX] at hf2 HV ⊢
    obtain ⟨a2', c2, rfl⟩ := hf2.shapeOf
    have hz2 := HZ1.out.below HZ1.out.1 hb2
    have HDN : Hid (FreshC w.heap.size (put4 w2 (w.heap.size + 1) d (.slice a2' d.ts.length c2)) d (.slice a2' d.ts.length c2) us2 ∧ Below w.heap.size w (put4 w2 (w.heap.size + 1) d (.slice a2' d.ts.length c2))) := ⟨OwnW.mono (FreshC.put4 hf2 HZ1.out.1 d _) HB1.out.size, below_put4 (bstep HB1.out hb2) (by omega) _ _⟩
    unfold put4 at HDN
    clear a0 a1 a2 a3 f1 s1 z1 e0 e1 e2 e3 g1 hf2 hb2 hX
    obtain ⟨z1, ⟨e0, e1, e2, e3⟩, g1⟩ := hz2
    go_wp2
    exact bodyPost_ret (v := .tuple #[.agg #[.int .i64 d.ck, .int .i64 d.nx, .int .i64 d.wt, .slice a2' d.ts.length c2], .int .i64 pid, .int .i64 ver, .int .i64 er]) (by simp [results, Try.results24, go_sem, e0, e1, e2, e3]) rfl ⟨.slice a2' d.ts.length c2, us2, by simp only [HV.out], by simp only [HV.out]; exact HDN.out.1, HDN.out.2⟩

end Go.Proofs.Ytjhpfnogdjpbmaa
