/-
  The document's InitOf, walked.
-/
import Derived.Test.YtjhpfnogdjpbmaaCdoc
import Derived.Test.YtjhpfnogdjpbmaaCinit
namespace Go.Proofs.Ytjhpfnogdjpbmaa
open Go.RowKit
set_option linter.unusedVariables false
set_option linter.unusedSimpArgs false

set_option maxRecDepth 100000 in
set_option maxHeartbeats 2400000 in
theorem inited_any (c : Crd) (s : ByteArray) (vt : Value) (us : Nat → Value) (w : World) (h : RdC w c vt us) (hf : c.fits) (hn : s.size ≤ maxLen) :
    Calls Try.prog 25 #[.agg #[.int .i64 c.ck, .int .i64 c.nx, .int .i64 c.wt, vt], .string s] w fun e w' => ∃ vt' us', e = .returned (.tuple #[.agg #[.int .i64 (c.initP s).1.ck, .int .i64 (c.initP s).1.nx, .int .i64 (c.initP s).1.wt, vt'], .int .i64 (c.initP s).2.1, .int .i64 (c.initP s).2.2.1, .int .i64 (c.initP s).2.2.2]) ∧ FreshC w.heap.size w' (c.initP s).1 vt' us' ∧ Below w.heap.size w w' := by
  obtain ⟨av, cv, rfl, hl1, hl2⟩ := h.shape
  unfold maxLen at hl2
  have hll : (c.ts.length : Int) ≤ 9223372036854775807 := by omega
  have HR : Hid (∀ W, Below w.heap.size w W → RdC W c (.slice av c.ts.length cv) us) := fun W hW => h.below (Nat.le_refl _) hW
  have HF : Hid c.fits := hf
  have HB0 : Hid (Below w.heap.size w ((w.alloc (.cells #[.int .i64 c.ck, .int .i64 c.nx, .int .i64 c.wt, .slice av c.ts.length cv] 24)).alloc (.cells #[.int .i64 0, .int .i64 0, .int .i64 0, .slice none 0 0] 24))) := bstep (bbox _ _) (bbox _ _)
  have HC0 : Hid (CB ((w.alloc (.cells #[.int .i64 c.ck, .int .i64 c.nx, .int .i64 c.wt, .slice av c.ts.length cv] 24)).alloc (.cells #[.int .i64 0, .int .i64 0, .int .i64 0, .slice none 0 0] 24)) w.heap.size c (.slice av c.ts.length cv)) := (cb_new w c (.slice av c.ts.length cv) 24 w.heap.size rfl).below (C := w.heap.size + 1) (by omega) ((Below.refl _ _).alloc (by simp) _)
  have HZ0 : Hid (CB ((w.alloc (.cells #[.int .i64 c.ck, .int .i64 c.nx, .int .i64 c.wt, .slice av c.ts.length cv] 24)).alloc (.cells #[.int .i64 0, .int .i64 0, .int .i64 0, .slice none 0 0] 24)) (w.heap.size + 1) Crd.zero (.slice none 0 0)) := cb_new _ Crd.zero (.slice none 0 0) 24 (w.heap.size + 1) (by simp)
  have HEE : Hid (c.initP s = if c.flt s ≠ 0 then (Crd.zero, 0, 0, c.flt s) else if c.pos s < 0 then c.enterP s else c.renewP (c.pos s).toNat) := show _ = _ from rfl
  have HN : Hid (s.size ≤ maxLen) := hn
  clear h hf hl1 hl2 hn
  go_enter Try.func25, Try.ntmps25
  go_upto_region 1 with fail
  generalize (w.alloc (.cells #[.int .i64 c.ck, .int .i64 c.nx, .int .i64 c.wt, .slice av c.ts.length cv] 24)).alloc (.cells #[.int .i64 0, .int .i64 0, .int .i64 0, .slice none 0 0] 24) = W0 at *
  obtain ⟨s1, ⟨a0, a1, a2, a3⟩, f1⟩ := HC0.out
  obtain ⟨z1, ⟨e0, e1, e2, e3⟩, g1⟩ := HZ0.out
  go_wp2_with fail
  refine (coordFault_any c s _ us _ (HR.out _ HB0.out) HF.out.n HN.out).mono ?_
  rintro e w1 ⟨rfl, hb1⟩
  have HB1 : Hid (Below w.heap.size w w1) := bstep HB0.out hb1
  have HC1 : Hid (CB w1 w.heap.size c _) := HC0.out.below HC0.out.1 hb1
  have HZ1 : Hid (CB w1 (w.heap.size + 1) Crd.zero _) := HZ0.out.below HZ0.out.1 hb1
  clear a0 a1 a2 a3 f1 s1 z1 e0 e1 e2 e3 g1 hb1
  obtain ⟨s1, ⟨a0, a1, a2, a3⟩, f1⟩ := HC1.out
  obtain ⟨z1, ⟨e0, e1, e2, e3⟩, g1⟩ := HZ1.out
  by_cases hf0 : c.flt s = 0
  rotate_left
  · have HV : Hid (c.initP s = (Crd.zero, 0, 0, c.flt s)) := show _ = _ by rw [HEE.out, if_pos hf0]
    have d1 : (c.flt s != 0) = true := by simp [hf0]
    clear hf0
    generalize c.flt s = fl at *
    have HDN : Hid (FreshC w.heap.size (put4 w1 (w.heap.size + 1) Crd.zero (.slice none 0 0)) Crd.zero (.slice none 0 0) (fun _ => .slice none 0 0) ∧ Below w.heap.size w (put4 w1 (w.heap.size + 1) Crd.zero (.slice none 0 0))) := ⟨freshC_nil' _ rfl (by rw [put4_size]; exact HB1.out.size), below_put4 HB1.out (by omega) _ _⟩
    go_wp2
    exact bodyPost_ret (v := .tuple #[.agg #[.int .i64 0, .int .i64 0, .int .i64 0, .slice none 0 0], .int .i64 0, .int .i64 0, .int .i64 fl]) (by simp [results, Try.results25, go_sem, e0, e1, e2, e3]) rfl ⟨.slice none 0 0, fun _ => .slice none 0 0, by simp only [HV.out, Crd.zero], by simp only [HV.out]; exact HDN.out.1, HDN.out.2⟩
  have HFL : Hid (c.flt s = 0) := hf0
  obtain ⟨hmay, -⟩ := flt_zero_iff.1 hf0
  have HMY : Hid (MayC c) := hmay
  rw [HFL.out]
  have HE2 : Hid (c.initP s = if c.pos s < 0 then c.enterP s else c.renewP (c.pos s).toNat) := show _ = _ by rw [HEE.out, if_neg (by rw [HFL.out]; simp)]
  clear hf0 HEE hmay
  go_wp2_with fail
  refine (coordCopy_any c _ us _ (HR.out _ HB1.out) HF.out).mono ?_
  rintro e w3 ⟨v3, us3, rfl, hf3, hb3⟩
  obtain ⟨g3o, c3, rfl⟩ := hf3.shapeOf
  have HS : Hid (Sd w w3.heap.size w1.heap.size c (.slice av c.ts.length cv) c (.slice g3o c.ts.length c3) us3 (w3.alloc (.cells #[.int .i64 c.ck, .int .i64 c.nx, .int .i64 c.wt, .slice g3o c.ts.length c3] 24))) := sd_new HB1.out HC1.out HZ1.out hf3 hb3
  clear a0 a1 a2 a3 f1 s1 z1 e0 e1 e2 e3 g1
  have hC3 := HC1.out.below HC1.out.1 hb3
  obtain ⟨s1, ⟨a0, a1, a2, a3⟩, f1⟩ := hC3
  clear hf3 hb3
  go_wp2_with fail
  refine (txnOf_any c s _ us _ (HR.out _ HS.out.bel)).mono ?_
  rintro e w5 ⟨rfl, hb5⟩
  have HS5 : Hid (Sd w w3.heap.size w1.heap.size c (.slice av c.ts.length cv) c (.slice g3o c.ts.length c3) us3 w5) := HS.out.below hb5
  generalize w3.heap.size = o at *
  clear a0 a1 a2 a3 f1 s1 hb5 HS
  obtain ⟨s1, ⟨a0, a1, a2, a3⟩, f1⟩ := HS5.out.src
  obtain ⟨z1, ⟨e0, e1, e2, e3⟩, g1⟩ := HS5.out.zz
  obtain ⟨o1, ⟨b0, b1, b2, b3⟩, h1⟩ := HS5.out.out
  have hbz : w.heap.size ≠ w.heap.size + 1 := by omega
  have hob : w.heap.size ≠ o := by have := HS5.out.no; omega
  have hoz : w.heap.size + 1 ≠ o := by have := HS5.out.no; omega
  rcases pos_cases c s with hp | ⟨k, hk, hp, hnm⟩
  · have HEF : Hid (c.initP s = c.enterP s) := show _ = _ by rw [HE2.out, if_pos (by rw [hp]; decide)]
    rw [hp]
    clear hp
    have HEN : Hid (c.enterP s = if 8 ≤ c.ts.length ∨ 1073741824 ≤ c.nx then (Crd.zero, 0, 0, 16) else ({ c with nx := c.nx + 1, ts := c.ts ++ [⟨s, c.nx, 0, 1, [], 0, 0⟩] }, c.nx, 0, 0)) := show _ = _ from rfl
    by_cases h8 : 8 ≤ c.ts.length
    · have hn8 : (8 : Int) ≤ c.ts.length := by omega
      have HV : Hid (c.initP s = (Crd.zero, 0, 0, 16)) := show _ = _ by rw [HEF.out, HEN.out, if_pos (.inl h8)]
      have HDN : Hid _ := HS5.out.nil
      unfold put4 at HDN
      clear h8
      go_wp2
      exact bodyPost_ret (v := .tuple #[.agg #[.int .i64 0, .int .i64 0, .int .i64 0, .slice none 0 0], .int .i64 0, .int .i64 0, .int .i64 16]) (by simp [results, Try.results25, go_sem, e0, e1, e2, e3, hbz, hob, hoz]) rfl ⟨.slice none 0 0, fun _ => .slice none 0 0, by simp only [HV.out, Crd.zero], by simp only [HV.out]; exact HDN.out.1, HDN.out.2⟩
    have hn8 : ¬ (8 : Int) ≤ c.ts.length := by omega
    have hn7 : c.ts.length ≤ 7 := by omega
    by_cases hx : 1073741824 ≤ c.nx
    · have HV : Hid (c.initP s = (Crd.zero, 0, 0, 16)) := show _ = _ by rw [HEF.out, HEN.out, if_pos (.inr hx)]
      have HDN : Hid _ := HS5.out.nil
      unfold put4 at HDN
      clear h8
      go_wp2
      exact bodyPost_ret (v := .tuple #[.agg #[.int .i64 0, .int .i64 0, .int .i64 0, .slice none 0 0], .int .i64 0, .int .i64 0, .int .i64 16]) (by simp [results, Try.results25, go_sem, e0, e1, e2, e3, hbz, hob, hoz]) rfl ⟨.slice none 0 0, fun _ => .slice none 0 0, by simp only [HV.out, Crd.zero], by simp only [HV.out]; exact HDN.out.1, HDN.out.2⟩
    have hx0 := HMY.out.x0
    have hx2 : c.nx < 1073741824 := by omega
    have HV : Hid (c.initP s = ({ c with nx := c.nx + 1, ts := c.ts ++ [⟨s, c.nx, 0, 1, [], 0, 0⟩] }, c.nx, 0, 0)) := show _ = _ by rw [HEF.out, HEN.out, if_neg (by omega)]
    clear h8
    have HS6 : Hid (Sd w o w1.heap.size c (.slice av c.ts.length cv) c (.slice g3o c.ts.length c3) us3 (w5.alloc (.cells #[.string s, .int .i64 c.nx, .int .i64 0, .int .i64 1, .slice none 0 0, .int .i64 0, .int .i64 0] 62))) := HS5.out.below (bbox _ _)
    have HO : Hid (∀ W, w1.heap.size ≤ W.heap.size → OwnV w1.heap.size 3 1 (.slice none 0 0) 0 (ints []) W) := fun W hW => ownV_nil _ _ _ _ hW
    go_wp2_with (at_builtin; go_must (refine wp_rowW txnE 62 22 zeroTV 80 infoTxn Try.underlying22 (by decide) rfl rfl _ _ rfl w1.heap.size (.slice g3o c.ts.length c3) c.ts c.ts.length rfl us3 rfl HS6.out.own _ rfl ⟨s, c.nx, 0, 1, [], 0, 0⟩ (.slice none 0 0) (fun j x hx => lit7 _ _ _ _ _ _ _ _ _ rfl j x hx) (HO.out _ HS6.out.own.o.2) (fun b e => by cases e) (fun i hi b e => by cases e) (by omega) (by unfold maxLen; omega) _ rfl ?_))
    intro g' cap' w' ho' hg hat hlt'
    have hol : o < w5.heap.size := HS5.out.out.1
    have hna : (Value.slice (some ⟨g', 0, none⟩) (c.ts.length + 1) cap').ownBlock ≠ some o := fun e => by
      simp only [Value.ownBlock, Option.some.injEq] at e
      subst e
      rcases hat with h | h
      · exact HS5.out.na h
      · first | omega | (simp at h; omega)
    have hgr := HS6.out.grow ⟨s, c.nx, 0, 1, [], 0, 0⟩ ho' hg hna (fun i hi => by
      by_cases e : i = c.ts.length
      · simp only [e, if_true]; intro e2; cases e2
      · simp only [if_neg e]; exact HS5.out.nu i (by simp at hi; omega))
    have HDN : Hid _ := hgr.doneD { c with nx := c.nx + 1 }
    unfold put4 at HDN
    have hrow : ∀ k, (Value.slice g3o c.ts.length c3).ownBlock = some k → w1.heap.size ≤ k := fun k e => (HS5.out.own.o.blk k e).1
    have nb : (Value.slice g3o c.ts.length c3).ownBlock ≠ some w.heap.size := fun e => by have := hrow _ e; have := HS5.out.lo; omega
    have nz : (Value.slice g3o c.ts.length c3).ownBlock ≠ some (w.heap.size + 1) := fun e => by have := hrow _ e; have := HS5.out.lo; omega
    have hbb := HS6.out.src.grown hg nb
    have hzz := HS6.out.zz.grown hg nz
    have hoo := HS6.out.out.grown hg HS5.out.na
    clear a0 a1 a2 a3 f1 s1 z1 e0 e1 e2 e3 g1 o1 b0 b1 b2 b3 h1 hrow nb nz hgr ho' hg hat hna hol
    obtain ⟨s1, ⟨a0, a1, a2, a3⟩, f1⟩ := hbb
    obtain ⟨z1, ⟨e0, e1, e2, e3⟩, g1⟩ := hzz
    obtain ⟨o1, ⟨b0, b1, b2, b3⟩, h1⟩ := hoo
    go_wp2
    go_region
    all_goals
      go_wp2
      exact bodyPost_ret (v := .tuple #[.agg #[.int .i64 c.ck, .int .i64 (c.nx + 1), .int .i64 c.wt, .slice (some ⟨g', 0, none⟩) (c.ts.length + 1) cap'], .int .i64 c.nx, .int .i64 0, .int .i64 0]) (by simp [results, Try.results25, go_sem, a0, a1, a2, a3, b0, b1, b2, b3, e0, e1, e2, e3, hbz, hob, hoz]) rfl ⟨.slice (some ⟨g', 0, none⟩) (c.ts.length + 1) cap', _, by simp only [HV.out], by simp only [HV.out]; exact HDN.out.1, HDN.out.2⟩
  have HPS : Hid (c.pos s = k) := hp
  have HEF : Hid (c.initP s = if (c.at k).endB then (Crd.zero, 0, 0, 12) else if (c.at k).v = 1073741824 then (Crd.zero, 0, 0, 2) else (c.setT k (c.at k).renew, (c.at k).id, (c.at k).v + 1, 0)) := show _ = _ by rw [HE2.out, if_neg (by omega), hp, Int.toNat_natCast]; rfl
  have hkv : (k : Int) < c.ts.length := by omega
  have hkn : ¬ (k : Int) < 0 := by omega
  have hv0 := (HMY.out.ok k hk).v0
  have hv1 := (HMY.out.ok k hk).v1
  rw [hp]
  clear hp hnm HE2
  obtain ⟨gg, off, t, au, cu, rfl, HAT, hgg, HQ, p0, p1, p2, p3, p4, p5, p6⟩ := (HR.out w5 HS5.out.bel).txnAt k hk
  obtain ⟨g3, cc3, eg3⟩ := HS5.out.own.form (by omega)
  simp only [Value.slice.injEq, true_and] at eg3
  obtain ⟨rfl, rfl⟩ := eg3
  obtain ⟨hT3, hfz, hg1, hg2⟩ := FreshC.cells HS5.out.own k hk
  rw [HAT.out] at hT3
  have hgb : w.heap.size ≠ g3 := by have := HS5.out.lo; omega
  have hgz : w.heap.size + 1 ≠ g3 := by have := HS5.out.lo; omega
  have hgo : o ≠ g3 := fun e => HS5.out.na (by rw [e]; rfl)
  have hgw : gg < w.heap.size := by
    obtain ⟨gg', off', t', au', cu', e, HAT', h0, _⟩ := (HR.out w (Below.refl _ _)).txnAt k hk
    simp only [Option.some.injEq, Addr.mk.injEq, and_true] at e
    omega
  have hgr : gg ≠ g3 := by have := HS5.out.lo; omega
  have hrb : gg ≠ w.heap.size := by omega
  have hrz : gg ≠ w.heap.size + 1 := by omega
  have hro : gg ≠ o := by have := HS5.out.no; omega
  obtain ⟨q0, q1, q2, q3, q4, q5, q6⟩ := hT3
  clear hg1
  rw [HAT.out] at HEF hv0 hv1
  go_wp2_with fail
  refine (ending_any t _ _).mono ?_
  rintro e w6 ⟨rfl, hb6⟩
  have HS6 : Hid (Sd w o w1.heap.size c (.slice (some ⟨gg, off, none⟩) c.ts.length cv) c (.slice (some ⟨g3, 0, none⟩) c.ts.length c3) us3 w6) := HS5.out.below hb6
  have HP6 : Hid (w6.cell? ⟨gg, off + k * 7 + 2, none⟩ = some (.int .i64 t.v) ∧ w6.cell? ⟨gg, off + k * 7 + 3, none⟩ = some (.int .i64 t.st)) := ⟨(hb6.cell (p := ⟨gg, off + k * 7 + 2, none⟩) hgg).trans p2, (hb6.cell (p := ⟨gg, off + k * 7 + 3, none⟩) hgg).trans p3⟩
  clear a0 a1 a2 a3 f1 s1 z1 e0 e1 e2 e3 g1 o1 b0 b1 b2 b3 h1 p0 p1 p2 p3 p4 p5 p6 q0 q1 q2 q3 q4 q5 q6 hfz hg2 hb6
  obtain ⟨hT3, hfz, hg1, hg2⟩ := FreshC.cells HS6.out.own k hk
  rw [HAT.out] at hT3
  clear hg1
  obtain ⟨q0, q1, q2, q3, q4, q5, q6⟩ := hT3
  obtain ⟨s1, ⟨a0, a1, a2, a3⟩, f1⟩ := HS6.out.src
  obtain ⟨z1, ⟨e0, e1, e2, e3⟩, g1⟩ := HS6.out.zz
  obtain ⟨o1, ⟨b0, b1, b2, b3⟩, h1⟩ := HS6.out.out
  obtain ⟨p2, p3⟩ := HP6.out
  cases he : t.endB with
  | true =>
    have HV : Hid (c.initP s = (Crd.zero, 0, 0, 12)) := show _ = _ by rw [HEF.out, he]; rfl
    have HDN : Hid _ := HS6.out.nil
    unfold put4 at HDN
    clear he
    go_wp2
    exact bodyPost_ret (v := .tuple #[.agg #[.int .i64 0, .int .i64 0, .int .i64 0, .slice none 0 0], .int .i64 0, .int .i64 0, .int .i64 12]) (by simp [results, Try.results25, go_sem, e0, e1, e2, e3, hbz, hgz, hgb]) rfl ⟨.slice none 0 0, fun _ => .slice none 0 0, by simp only [HV.out, Crd.zero], by simp only [HV.out]; exact HDN.out.1, HDN.out.2⟩
  | false =>
    rw [he] at HEF
    by_cases hv : t.v = 1073741824
    · have d1 : (t.v == 1073741824) = true := by simp [hv]
      have HV : Hid (c.initP s = (Crd.zero, 0, 0, 2)) := show _ = _ by rw [HEF.out, if_neg (by simp), if_pos hv]
      have HDN : Hid _ := HS6.out.nil
      unfold put4 at HDN
      clear hv he
      go_wp2
      exact bodyPost_ret (v := .tuple #[.agg #[.int .i64 0, .int .i64 0, .int .i64 0, .slice none 0 0], .int .i64 0, .int .i64 0, .int .i64 2]) (by simp [results, Try.results25, go_sem, e0, e1, e2, e3, hbz, hgz, hgb]) rfl ⟨.slice none 0 0, fun _ => .slice none 0 0, by simp only [HV.out, Crd.zero], by simp only [HV.out]; exact HDN.out.1, HDN.out.2⟩
    have HV0 : Hid (c.initP s = (c.setT k t.renew, t.id, t.v + 1, 0)) := show _ = _ by rw [HEF.out, if_neg (by simp), if_neg hv]
    have d1 : (t.v == 1073741824) = false := by simp [hv]
    have hv2 : t.v < 1073741824 := by omega
    clear hv he
    have HS7 : Hid (Sd w o w1.heap.size c (.slice (some ⟨gg, off, none⟩) c.ts.length cv) (c.setT k { t with v := t.v + 1 }) (.slice (some ⟨g3, 0, none⟩) c.ts.length c3) us3 _) := HS6.out.set k 2 hk (by omega) { t with v := t.v + 1 } (.int .i64 (t.v + 1)) (by rw [HAT.out]; rfl) (by rw [HAT.out])
    by_cases hst : t.st = 2
    · have d2 : (t.st == 2) = true := by simp [hst]
      have HRN : Hid ((c.setT k { t with v := t.v + 1 }).setT k { t with v := t.v + 1, st := 4 } = c.setT k t.renew) := show _ = _ by rw [setT_setT]; unfold Txn.renew; rw [if_pos hst]
      have hs3 := HS7.out.set k 3 (by rw [setT_len]; exact hk) (by omega) { t with v := t.v + 1, st := 4 } (.int .i64 4) (by rw [setT_at hk]; rfl) (by rw [setT_at hk])
      rw [HRN.out] at hs3
      have HDN : Hid _ := hs3.doneD c
      unfold put4 at HDN
      have HV := HV0
      clear hst hs3
      go_wp2
      go_region
      all_goals
        go_wp2
        exact bodyPost_ret (v := .tuple #[.agg #[.int .i64 c.ck, .int .i64 c.nx, .int .i64 c.wt, .slice (some ⟨g3, 0, none⟩) c.ts.length c3], .int .i64 t.id, .int .i64 (t.v + 1), .int .i64 0]) (by simp [results, Try.results25, go_sem, a0, a1, a2, a3, b0, b1, b2, b3, e0, e1, e2, e3, q1, q2, q3, hgb, hgz, hgo, hbz, hob, hoz]) rfl ⟨.slice (some ⟨g3, 0, none⟩) c.ts.length c3, us3, by simp only [HV.out, Crd.setT], by simp only [HV.out]; exact HDN.out.1, HDN.out.2⟩
    · have d2 : (t.st == 2) = false := by simp [hst]
      have HRN : Hid (c.setT k { t with v := t.v + 1 } = c.setT k t.renew) := show _ = _ by unfold Txn.renew; rw [if_neg hst]
      have hs2 := HS7.out
      rw [HRN.out] at hs2
      have HDN : Hid _ := hs2.doneD c
      unfold put4 at HDN
      have HV := HV0
      clear hst hs2
      go_wp2
      go_region
      all_goals
        go_wp2
        exact bodyPost_ret (v := .tuple #[.agg #[.int .i64 c.ck, .int .i64 c.nx, .int .i64 c.wt, .slice (some ⟨g3, 0, none⟩) c.ts.length c3], .int .i64 t.id, .int .i64 (t.v + 1), .int .i64 0]) (by simp [results, Try.results25, go_sem, a0, a1, a2, a3, b0, b1, b2, b3, e0, e1, e2, e3, q1, q2, q3, hgb, hgz, hgo, hbz, hob, hoz]) rfl ⟨.slice (some ⟨g3, 0, none⟩) c.ts.length c3, us3, by simp only [HV.out, Crd.setT], by simp only [HV.out]; exact HDN.out.1, HDN.out.2⟩

end Go.Proofs.Ytjhpfnogdjpbmaa
