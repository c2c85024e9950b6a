/-
  group.Join and what the document says of it, walked.
-/
import Derived.Test.YtmkbbhdmfpjfdaaGanew
namespace Go.Proofs.Ytmkbbhdmfpjfdaa
open Go.RowKit
set_option linter.unusedVariables false
set_option linter.unusedSimpArgs false

/-- Can parts be assigned anew? -/
def Grp.canB (g : Grp) (p : Int) : Bool := inR p 0 4 && decide (g.gn < 1073741824)

set_option maxRecDepth 100000 in
set_option maxHeartbeats 1000000 in
theorem canAssign_any (g : Grp) (p : Int) (vm vo : Value) (w : World) (hg : g.gn ≤ 1073741824) :
    Calls Try.prog 62 #[.agg #[.int .i64 g.ck, .int .i64 g.wt, .int .i64 g.gn, vm, vo], .int .i64 p] w fun e w' => e = .returned (.bool (g.canB p)) ∧ Below w.heap.size w w' := by
  have HE : Hid (g.canB p = (inR p 0 4 && (g.gn != 1073741824))) := show _ = _ by
    unfold Grp.canB
    congr 1
    rw [Bool.eq_iff_iff]
    simp
    omega
  go_enter Try.func62, Try.ntmps62
  go_wp2_with (go_at_call 47; refine (cwithin_any _ _ _ _).mono ?_; rintro e w' ⟨rfl, rfl⟩)
  all_goals
    go_ret
    exact ⟨by rw [HE.out]; simp [*], bbox _ _⟩

set_option maxRecDepth 100000 in
set_option maxHeartbeats 1000000 in
theorem partsMay_any (g : Grp) (p : Int) (vm vo : Value) (w : World) :
    Calls Try.prog 65 #[.agg #[.int .i64 g.ck, .int .i64 g.wt, .int .i64 g.gn, vm, vo], .int .i64 p] w fun e w' => e = .returned (.bool (g.canB p)) ∧ Below w.heap.size w w' := by
  have HE : Hid (g.canB p = (inR p 0 4 && decide (g.gn < 1073741824))) := show _ = _ from rfl
  go_enter Try.func65, Try.ntmps65
  go_wp2_with (go_at_call 48; refine (In_any _ _ _ _).mono ?_; rintro e w' ⟨rfl, rfl⟩)
  all_goals
    go_ret
    exact ⟨by rw [HE.out]; simp [*], bbox _ _⟩
def Grp.plus (g : Grp) (s : ByteArray) : Grp := { g with ms := g.ms ++ [⟨s, g.ck, []⟩] }
/-- What is refused to who would join (P6.4). -/
def Grp.jfl (g : Grp) (s : ByteArray) (p : Int) : Int := if g.flt s ≠ 0 then g.flt s else if g.canB p = false then 2 else if 0 ≤ g.pos s then 6 else if 6 ≤ g.ms.length then 16 else 0
def Grp.join (g : Grp) (s : ByteArray) (p : Int) : Grp × Int := if g.jfl s p ≠ 0 then (Grp.zero, g.jfl s p) else ((g.plus s).anew p, 0)
theorem join_flt {g : Grp} {s : ByteArray} {p : Int} (h : g.flt s ≠ 0) : g.join s p = (Grp.zero, g.flt s) := by
  have e : g.jfl s p = g.flt s := by unfold Grp.jfl; rw [if_pos h]
  unfold Grp.join; rw [e, if_pos h]
theorem join_can {g : Grp} {s : ByteArray} {p : Int} (h : g.flt s = 0) (h2 : g.canB p = false) : g.join s p = (Grp.zero, 2) := by
  have e : g.jfl s p = 2 := by unfold Grp.jfl; rw [if_neg (by rw [h]; simp), if_pos h2]
  unfold Grp.join; rw [e]; rfl
theorem join_twice {g : Grp} {s : ByteArray} {p : Int} (h : g.flt s = 0) (h2 : g.canB p = true) (h3 : 0 ≤ g.pos s) : g.join s p = (Grp.zero, 6) := by
  have e : g.jfl s p = 6 := by unfold Grp.jfl; rw [if_neg (by rw [h]; simp), if_neg (by rw [h2]; simp), if_pos h3]
  unfold Grp.join; rw [e]; rfl
theorem join_full {g : Grp} {s : ByteArray} {p : Int} (h : g.flt s = 0) (h2 : g.canB p = true) (h3 : g.pos s < 0) (h4 : 6 ≤ g.ms.length) : g.join s p = (Grp.zero, 16) := by
  have e : g.jfl s p = 16 := by unfold Grp.jfl; rw [if_neg (by rw [h]; simp), if_neg (by rw [h2]; simp), if_neg (by omega), if_pos h4]
  unfold Grp.join; rw [e]; rfl
theorem join_yes {g : Grp} {s : ByteArray} {p : Int} (h : g.flt s = 0) (h2 : g.canB p = true) (h3 : g.pos s < 0) (h4 : ¬ 6 ≤ g.ms.length) : g.join s p = ((g.plus s).anew p, 0) := by
  have e : g.jfl s p = 0 := by unfold Grp.jfl; rw [if_neg (by rw [h]; simp), if_neg (by rw [h2]; simp), if_neg (by omega), if_neg h4]
  unfold Grp.join; rw [e]; rfl
theorem canB_iff {g : Grp} {p : Int} : g.canB p = true ↔ (0 ≤ p ∧ p ≤ 4) ∧ g.gn < 1073741824 := by
  unfold Grp.canB
  rw [Bool.and_eq_true, inR_iff, decide_eq_true_iff]

set_option maxRecDepth 100000 in
set_option maxHeartbeats 2000000 in
theorem gjoin_any (g : Grp) (s : ByteArray) (p : Int) (vm vo : Value) (us : Nat → Value) (w : World) (h : RdG w g vm vo us) (hf : g.fits) (hn : s.size ≤ maxLen) :
    Calls Try.prog 28 #[.agg #[.int .i64 g.ck, .int .i64 g.wt, .int .i64 g.gn, vm, vo], .string s, .int .i64 p] w fun e w' => ∃ vm' vo' us', e = .returned (.tuple #[.agg #[.int .i64 ((g.join s p).1).ck, .int .i64 ((g.join s p).1).wt, .int .i64 ((g.join s p).1).gn, vm', vo'], .int .i64 (g.join s p).2]) ∧ FreshG w.heap.size w' (g.join s p).1 vm' vo' us' ∧ Below w.heap.size w w' := by
  obtain ⟨av, cv, rfl, _, _⟩ := h.m.shape
  obtain ⟨ao, co, rfl, _, _⟩ := h.o.shape
  have HR : Hid (∀ W, Below w.heap.size w W → RdG W g (.slice av g.ms.length cv) (.slice ao g.os.length co) us) := fun W hW => h.below (Nat.le_refl _) hW
  have HF : Hid g.fits := hf
  have HN : Hid (s.size ≤ maxLen) := hn
  have H0 : Hid _ := two_new w g (.slice av g.ms.length cv) (.slice ao g.os.length co)
  clear h hf
  go_enter Try.func28, Try.ntmps28
  go_upto_region 1 with fail
  generalize (w.alloc (.cells #[.int .i64 g.ck, .int .i64 g.wt, .int .i64 g.gn, .slice av g.ms.length cv, .slice ao g.os.length co] 25)).alloc (.cells #[.int .i64 0, .int .i64 0, .int .i64 0, .slice none 0 0, .slice none 0 0] 25) = W0 at *
  have HB0 : Hid (Below w.heap.size w W0) := H0.out.1
  have HC0 : Hid (GB W0 w.heap.size g _ _) := H0.out.2.1
  have HZ0 : Hid (GB W0 (w.heap.size + 1) Grp.zero (.slice none 0 0) (.slice none 0 0)) := H0.out.2.2
  clear H0
  obtain ⟨s1, ⟨a0, a1, a2, a3, a4⟩, f1⟩ := HC0.out
  obtain ⟨z1, ⟨e0, e1, e2, e3, e4⟩, g1⟩ := HZ0.out
  go_wp2_with fail
  refine (gfindNamed_any g s _ _ us _ (HR.out _ HB0.out) HF.out.n HF.out.o HN.out).mono ?_
  rintro e w1 ⟨rfl, hb1⟩
  have HB1 : Hid (Below w.heap.size w w1) := bstep HB0.out hb1
  have HC1 : Hid (GB w1 w.heap.size g _ _) := HC0.out.below HC0.out.1 hb1
  have HZ1 : Hid (GB w1 (w.heap.size + 1) Grp.zero _ _) := HZ0.out.below HZ0.out.1 hb1
  clear a0 a1 a2 a3 a4 f1 s1 z1 e0 e1 e2 e3 e4 g1 hb1
  obtain ⟨s1, ⟨a0, a1, a2, a3, a4⟩, f1⟩ := HC1.out
  obtain ⟨z1, ⟨e0, e1, e2, e3, e4⟩, g1⟩ := HZ1.out
  by_cases hf0 : g.flt s = 0
  rotate_left
  · have HV : Hid (g.join s p = (Grp.zero, g.flt s)) := join_flt hf0
    have d1 : (g.flt s != 0) = true := by simp [hf0]
    clear hf0
    generalize g.flt s = fl at *
    have HDN : Hid (FreshG w.heap.size (put5 w1 (w.heap.size + 1) Grp.zero (.slice none 0 0) (.slice none 0 0)) Grp.zero (.slice none 0 0) (.slice none 0 0) nilS ∧ Below w.heap.size w (put5 w1 (w.heap.size + 1) Grp.zero (.slice none 0 0) (.slice none 0 0))) := zero_done HB1.out
    go_wp2
    exact bodyPost_ret (v := .tuple #[.agg #[.int .i64 0, .int .i64 0, .int .i64 0, .slice none 0 0, .slice none 0 0], .int .i64 fl]) (by simp [results, Try.results28, go_sem, e0, e1, e2, e3, e4]) rfl ⟨.slice none 0 0, .slice none 0 0, nilS, by simp only [HV.out, Grp.zero], by simp only [HV.out]; exact HDN.out.1, HDN.out.2⟩
  have HFL : Hid (g.flt s = 0) := hf0
  have HMY : Hid (MayG g) := (gflt_zero_iff.1 hf0).1
  have HFN : Hid (g.fnd s = g.pos s) := show _ = _ by unfold Grp.fnd; rw [if_pos hf0]
  rw [HFL.out, HFN.out]
  clear hf0
  go_wp2_with fail
  refine (canAssign_any g p _ _ _ HMY.out.g1).mono ?_
  rintro e w2 ⟨rfl, hb2⟩
  have HB2 : Hid (Below w.heap.size w w2) := bstep HB1.out hb2
  have HC2 : Hid (GB w2 w.heap.size g _ _) := HC1.out.below HC1.out.1 hb2
  have HZ2 : Hid (GB w2 (w.heap.size + 1) Grp.zero _ _) := HZ1.out.below HZ1.out.1 hb2
  clear a0 a1 a2 a3 a4 f1 s1 z1 e0 e1 e2 e3 e4 g1 hb2
  obtain ⟨s1, ⟨a0, a1, a2, a3, a4⟩, f1⟩ := HC2.out
  obtain ⟨z1, ⟨e0, e1, e2, e3, e4⟩, g1⟩ := HZ2.out
  cases hcn : g.canB p with
  | false =>
    have HV : Hid (g.join s p = (Grp.zero, 2)) := join_can HFL.out hcn
    have HDN : Hid (FreshG w.heap.size (put5 w2 (w.heap.size + 1) Grp.zero (.slice none 0 0) (.slice none 0 0)) Grp.zero (.slice none 0 0) (.slice none 0 0) nilS ∧ Below w.heap.size w (put5 w2 (w.heap.size + 1) Grp.zero (.slice none 0 0) (.slice none 0 0))) := zero_done HB2.out
    go_wp2
    exact bodyPost_ret (v := .tuple #[.agg #[.int .i64 0, .int .i64 0, .int .i64 0, .slice none 0 0, .slice none 0 0], .int .i64 2]) (by simp [results, Try.results28, go_sem, e0, e1, e2, e3, e4]) rfl ⟨.slice none 0 0, .slice none 0 0, nilS, by simp only [HV.out, Grp.zero], by simp only [HV.out]; exact HDN.out.1, HDN.out.2⟩
  | true =>
    have HCN : Hid (g.canB p = true) := hcn
    obtain ⟨⟨hp0, hp1⟩, hgn⟩ := canB_iff.1 hcn
    clear hcn
    rcases posG_cases g s with hp | ⟨k, hk, hp, -⟩
    rotate_left
    · have HV : Hid (g.join s p = (Grp.zero, 6)) := join_twice HFL.out HCN.out (by rw [hp]; omega)
      have d2 : ((k : Int) != -1) = true := by simp
      rw [hp]
      clear hp
      have HDN : Hid (FreshG w.heap.size (put5 w2 (w.heap.size + 1) Grp.zero (.slice none 0 0) (.slice none 0 0)) Grp.zero (.slice none 0 0) (.slice none 0 0) nilS ∧ Below w.heap.size w (put5 w2 (w.heap.size + 1) Grp.zero (.slice none 0 0) (.slice none 0 0))) := zero_done HB2.out
      go_wp2
      exact bodyPost_ret (v := .tuple #[.agg #[.int .i64 0, .int .i64 0, .int .i64 0, .slice none 0 0, .slice none 0 0], .int .i64 6]) (by simp [results, Try.results28, go_sem, e0, e1, e2, e3, e4]) rfl ⟨.slice none 0 0, .slice none 0 0, nilS, by simp only [HV.out, Grp.zero], by simp only [HV.out]; exact HDN.out.1, HDN.out.2⟩
    have HP : Hid (g.pos s < 0) := show g.pos s < 0 by rw [hp]; decide
    rw [hp]
    clear hp
    have hn6 := HMY.out.n6
    by_cases hl6 : 6 ≤ g.ms.length
    · have HV : Hid (g.join s p = (Grp.zero, 16)) := join_full HFL.out HCN.out HP.out hl6
      have d3 : ((g.ms.length : Int) == 6) = true := by simp; omega
      have HDN : Hid (FreshG w.heap.size (put5 w2 (w.heap.size + 1) Grp.zero (.slice none 0 0) (.slice none 0 0)) Grp.zero (.slice none 0 0) (.slice none 0 0) nilS ∧ Below w.heap.size w (put5 w2 (w.heap.size + 1) Grp.zero (.slice none 0 0) (.slice none 0 0))) := zero_done HB2.out
      go_wp2
      exact bodyPost_ret (v := .tuple #[.agg #[.int .i64 0, .int .i64 0, .int .i64 0, .slice none 0 0, .slice none 0 0], .int .i64 16]) (by simp [results, Try.results28, go_sem, e0, e1, e2, e3, e4]) rfl ⟨.slice none 0 0, .slice none 0 0, nilS, by simp only [HV.out, Grp.zero], by simp only [HV.out]; exact HDN.out.1, HDN.out.2⟩
    have HV : Hid (g.join s p = ((g.plus s).anew p, 0)) := join_yes HFL.out HCN.out HP.out hl6
    have d3 : ((g.ms.length : Int) == 6) = false := by simp; omega
    have hgn0 := HMY.out.g0
    have hgn1 : g.gn ≤ 1073741824 := by omega
    have HPL : Hid ((g.plus s).ms.length = g.ms.length + 1) := show _ = _ by simp [Grp.plus]
    go_wp2_with fail
    refine (gcopy_any g _ _ us _ (HR.out _ HB2.out) HF.out).mono ?_
    rintro e w3 ⟨v3, o3, us3, rfl, hf3, hb3⟩
    obtain ⟨g3, c3, rfl⟩ := hf3.m.o.shape
    obtain ⟨p3, q3, rfl⟩ := hf3.o.o.shape
    have HS : Hid (Sg w w.heap.size (w.heap.size + 1) w2.heap.size 0 w g (.slice g3 g.ms.length c3) (.slice p3 g.os.length q3) us3 (put5 w3 w.heap.size g (.slice g3 g.ms.length c3) (.slice p3 g.os.length q3))) := sg_copy HB2.out HC2.out HZ2.out (by omega) (Nat.le_refl _) (by omega) hf3 hb3
    have hC3 := HC2.out.below HC2.out.1 hb3
    have hB1 := HB2.out.size
    have hw1 := HC2.out.1
    have hz1' := HZ2.out.1
    clear a0 a1 a2 a3 a4 f1 s1 z1 e0 e1 e2 e3 e4 g1 hf3 hb3
    obtain ⟨s1, ⟨a0, a1, a2, a3, a4⟩, f1⟩ := hC3
    unfold put5 at HS
    go_upto_region 11 with fail
    generalize (((((w3.setCell ⟨w.heap.size, 0, none⟩ (.int .i64 g.ck)).setCell ⟨w.heap.size, 1, none⟩ (.int .i64 g.wt)).setCell ⟨w.heap.size, 2, none⟩ (.int .i64 g.gn)).setCell ⟨w.heap.size, 3, none⟩ (.slice g3 g.ms.length c3)).setCell ⟨w.heap.size, 4, none⟩ (.slice p3 g.os.length q3)) = W4 at *
    clear a0 a1 a2 a3 a4 f1 s1
    obtain ⟨s1, ⟨a0, a1, a2, a3, a4⟩, f1⟩ := HS.out.bb
    obtain ⟨z1, ⟨e0, e1, e2, e3, e4⟩, g1⟩ := HS.out.zz
    have hbz : w.heap.size ≠ w.heap.size + 1 := by omega
    have hm6 : g.ms.length < 6 := by omega
    have hck : (g.ms.length + 1) * 48 ≤ 140737488355328 ∧ g.ms.length + 1 ≤ maxLen := by unfold maxLen; omega
    have HHK : Hid _ := hck
    clear hck
    go_wp2_with (at_builtin; go_must (refine wp_rowW memE 55 22 zeroMV 48 infoMem Try.underlying22 (by decide) rfl rfl _ _ rfl w2.heap.size (.slice g3 g.ms.length c3) g.ms g.ms.length rfl us3 rfl (HS.out.own.m.below (Nat.le_refl _) (bbox _ _)) W4.heap.size rfl ⟨s, g.ck, []⟩ (.slice none 0 0) (fun j x hx => lit3 _ _ _ _ _ (by simp) j x hx) (ownV_nil _ _ _ _ (Nat.le_trans HS.out.own.m.o.2 (bbox _ _).size)) (fun b e => by cases e) (fun i hi b e => by cases e) HHK.out.1 HHK.out.2 _ rfl ?_))
    intro g' cap' w6 ho' hg hat hlt'
    have HS6 : Hid (Sg w w.heap.size (w.heap.size + 1) w2.heap.size 0 w (g.plus s) (.slice (some ⟨g', 0, none⟩) (g.ms.length + 1) cap') (.slice p3 g.os.length q3) (fun k => if k = g.ms.length then .slice none 0 0 else us3 k) (w6.setCell ⟨w.heap.size, 3, none⟩ (.slice (some ⟨g', 0, none⟩) (g.ms.length + 1) cap'))) := Sg.rowM (HS.out.below (bbox _ _)) ho' hg (hat_all' hat (by simp)) (fun i hi c e => by
      by_cases h : i = g.ms.length
      · rw [if_pos h] at e
        cases e
      · rw [if_neg h] at e
        exact .inl ⟨i, (by simp at hi; omega), e⟩)
    obtain ⟨y1, ⟨y2, y3, y4, y5, y6⟩, y9⟩ := (HS.out.below (bbox _ (.cells #[.string s, .int .i64 g.ck, .slice none 0 0] 55))).bb.grown hg HS.out.nb.1
    clear ho' hg hat hlt'
    go_upto_region 12 with fail
    generalize w6.setCell ⟨w.heap.size, 3, none⟩ (.slice (some ⟨g', 0, none⟩) (g.ms.length + 1) cap') = W7 at *
    clear y1 y2 y3 y4 y5 y6 y9
    clear a0 a1 a2 a3 a4 f1 s1 z1 e0 e1 e2 e3 e4 g1
    obtain ⟨s1, ⟨a0, a1, a2, a3, a4⟩, f1⟩ := (HS6.out.bb.ren rfl rfl rfl : GB W7 w.heap.size g _ _)
    go_wp2_with fail
    refine (assignAnew_any (g.plus s) p _ _ _ _ _ HS6.out.own (by rw [HPL.out]; omega) (by rw [HPL.out]; omega) (by omega) (by omega) hgn0 hgn1).mono ?_
    rintro e w8 ⟨us8, rfl, hf8, hg8, hn8⟩
    have HCA : Hid _ := HS6.out.call hg8 hf8 ⟨HS6.out.nz.1, HS6.out.nz.2.1, fun i hi e => by
      rw [anew_len] at hi
      have h1 := hn8 i hi _ e
      have h2 := HS6.out.zz.1
      omega⟩ (((g.plus s)).anew p)
    clear a0 a1 a2 a3 a4 f1 s1 hf8 hg8 hn8
    obtain ⟨z1, ⟨e0, e1, e2, e3, e4⟩, g1⟩ := HCA.out.2.2
    have HDN : Hid _ := (show _ ∧ _ from ⟨HCA.out.1, HCA.out.2.1⟩)
    unfold put5 at HDN
    go_wp2
    exact bodyPost_ret (v := .tuple #[.agg #[.int .i64 ((g.plus s)).ck, .int .i64 ((g.plus s)).wt, .int .i64 (((g.plus s)).gn + 1), .slice (some ⟨g', 0, none⟩) (g.ms.length + 1) cap', .slice p3 g.os.length q3], .int .i64 0]) (by simp [results, Try.results28, go_sem, e0, e1, e2, e3, e4, Grp.anew, Grp.plus]) rfl ⟨.slice (some ⟨g', 0, none⟩) (g.ms.length + 1) cap', .slice p3 g.os.length q3, us8, by first | (rw [HV.out]; rfl) | (simp only [HV.out, Grp.anew, Grp.plus]; done), by simp only [HV.out]; exact HDN.out.1, HDN.out.2⟩

set_option maxRecDepth 100000 in
set_option maxHeartbeats 2000000 in
theorem joinedOf_any (g : Grp) (s : ByteArray) (p : Int) (vm vo : Value) (us : Nat → Value) (w : World) (h : RdG w g vm vo us) (hf : g.fits) (hn : s.size ≤ maxLen) :
    Calls Try.prog 29 #[.agg #[.int .i64 g.ck, .int .i64 g.wt, .int .i64 g.gn, vm, vo], .string s, .int .i64 p] w fun e w' => ∃ vm' vo' us', e = .returned (.tuple #[.agg #[.int .i64 ((g.join s p).1).ck, .int .i64 ((g.join s p).1).wt, .int .i64 ((g.join s p).1).gn, vm', vo'], .int .i64 (g.join s p).2]) ∧ FreshG w.heap.size w' (g.join s p).1 vm' vo' us' ∧ Below w.heap.size w w' := by
  obtain ⟨av, cv, rfl, _, _⟩ := h.m.shape
  obtain ⟨ao, co, rfl, _, _⟩ := h.o.shape
  have HR : Hid (∀ W, Below w.heap.size w W → RdG W g (.slice av g.ms.length cv) (.slice ao g.os.length co) us) := fun W hW => h.below (Nat.le_refl _) hW
  have HF : Hid g.fits := hf
  have HN : Hid (s.size ≤ maxLen) := hn
  have H0 : Hid _ := two_new w g (.slice av g.ms.length cv) (.slice ao g.os.length co)
  clear h hf
  go_enter Try.func29, Try.ntmps29
  go_upto_region 1 with fail
  generalize (w.alloc (.cells #[.int .i64 g.ck, .int .i64 g.wt, .int .i64 g.gn, .slice av g.ms.length cv, .slice ao g.os.length co] 25)).alloc (.cells #[.int .i64 0, .int .i64 0, .int .i64 0, .slice none 0 0, .slice none 0 0] 25) = W0 at *
  have HB0 : Hid (Below w.heap.size w W0) := H0.out.1
  have HC0 : Hid (GB W0 w.heap.size g _ _) := H0.out.2.1
  have HZ0 : Hid (GB W0 (w.heap.size + 1) Grp.zero (.slice none 0 0) (.slice none 0 0)) := H0.out.2.2
  clear H0
  obtain ⟨s1, ⟨a0, a1, a2, a3, a4⟩, f1⟩ := HC0.out
  obtain ⟨z1, ⟨e0, e1, e2, e3, e4⟩, g1⟩ := HZ0.out
  go_wp2_with fail
  refine (groupFault_any g s _ _ us _ (HR.out _ HB0.out) HF.out.n HF.out.o HN.out).mono ?_
  rintro e w1 ⟨rfl, hb1⟩
  have HB1 : Hid (Below w.heap.size w w1) := bstep HB0.out hb1
  have HC1 : Hid (GB w1 w.heap.size g _ _) := HC0.out.below HC0.out.1 hb1
  have HZ1 : Hid (GB w1 (w.heap.size + 1) Grp.zero _ _) := HZ0.out.below HZ0.out.1 hb1
  clear a0 a1 a2 a3 a4 f1 s1 z1 e0 e1 e2 e3 e4 g1 hb1
  obtain ⟨s1, ⟨a0, a1, a2, a3, a4⟩, f1⟩ := HC1.out
  obtain ⟨z1, ⟨e0, e1, e2, e3, e4⟩, g1⟩ := HZ1.out
  by_cases hf0 : g.flt s = 0
  rotate_left
  · have HV : Hid (g.join s p = (Grp.zero, g.flt s)) := join_flt hf0
    have d1 : (g.flt s == 0) = false := by simp [hf0]
    have d2 : (g.flt s != 0) = true := by simp [hf0]
    clear hf0
    generalize g.flt s = fl at *
    have HDN : Hid (FreshG w.heap.size (put5 w1 (w.heap.size + 1) Grp.zero (.slice none 0 0) (.slice none 0 0)) Grp.zero (.slice none 0 0) (.slice none 0 0) nilS ∧ Below w.heap.size w (put5 w1 (w.heap.size + 1) Grp.zero (.slice none 0 0) (.slice none 0 0))) := zero_done HB1.out
    go_wp2
    exact bodyPost_ret (v := .tuple #[.agg #[.int .i64 0, .int .i64 0, .int .i64 0, .slice none 0 0, .slice none 0 0], .int .i64 fl]) (by simp [results, Try.results29, go_sem, e0, e1, e2, e3, e4]) rfl ⟨.slice none 0 0, .slice none 0 0, nilS, by simp only [HV.out, Grp.zero], by simp only [HV.out]; exact HDN.out.1, HDN.out.2⟩
  have HFL : Hid (g.flt s = 0) := hf0
  have HMY : Hid (MayG g) := (gflt_zero_iff.1 hf0).1
  rw [HFL.out]
  clear hf0
  go_wp2_with fail
  refine (partsMay_any g p _ _ _).mono ?_
  rintro e w2 ⟨rfl, hb2⟩
  have HB2 : Hid (Below w.heap.size w w2) := bstep HB1.out hb2
  have HC2 : Hid (GB w2 w.heap.size g _ _) := HC1.out.below HC1.out.1 hb2
  have HZ2 : Hid (GB w2 (w.heap.size + 1) Grp.zero _ _) := HZ1.out.below HZ1.out.1 hb2
  clear a0 a1 a2 a3 a4 f1 s1 z1 e0 e1 e2 e3 e4 g1 hb2
  obtain ⟨s1, ⟨a0, a1, a2, a3, a4⟩, f1⟩ := HC2.out
  obtain ⟨z1, ⟨e0, e1, e2, e3, e4⟩, g1⟩ := HZ2.out
  cases hcn : g.canB p with
  | false =>
    have HV : Hid (g.join s p = (Grp.zero, 2)) := join_can HFL.out hcn
    have HDN : Hid (FreshG w.heap.size (put5 w2 (w.heap.size + 1) Grp.zero (.slice none 0 0) (.slice none 0 0)) Grp.zero (.slice none 0 0) (.slice none 0 0) nilS ∧ Below w.heap.size w (put5 w2 (w.heap.size + 1) Grp.zero (.slice none 0 0) (.slice none 0 0))) := zero_done HB2.out
    go_wp2
    exact bodyPost_ret (v := .tuple #[.agg #[.int .i64 0, .int .i64 0, .int .i64 0, .slice none 0 0, .slice none 0 0], .int .i64 2]) (by simp [results, Try.results29, go_sem, e0, e1, e2, e3, e4]) rfl ⟨.slice none 0 0, .slice none 0 0, nilS, by simp only [HV.out, Grp.zero], by simp only [HV.out]; exact HDN.out.1, HDN.out.2⟩
  | true =>
    have HCN : Hid (g.canB p = true) := hcn
    obtain ⟨⟨hp0, hp1⟩, hgn⟩ := canB_iff.1 hcn
    clear hcn
    go_wp2_with fail
    refine (memberOf_any g s _ _ us _ (HR.out _ HB2.out)).mono ?_
    rintro e w3 ⟨rfl, hb3⟩
    have HB3 : Hid (Below w.heap.size w w3) := bstep HB2.out hb3
    have HC3 : Hid (GB w3 w.heap.size g _ _) := HC2.out.below HC2.out.1 hb3
    have HZ3 : Hid (GB w3 (w.heap.size + 1) Grp.zero _ _) := HZ2.out.below HZ2.out.1 hb3
    clear a0 a1 a2 a3 a4 f1 s1 z1 e0 e1 e2 e3 e4 g1 hb3
    obtain ⟨s1, ⟨a0, a1, a2, a3, a4⟩, f1⟩ := HC3.out
    obtain ⟨z1, ⟨e0, e1, e2, e3, e4⟩, g1⟩ := HZ3.out
    rcases posG_cases g s with hp | ⟨k, hk, hp, -⟩
    rotate_left
    · have HV : Hid (g.join s p = (Grp.zero, 6)) := join_twice HFL.out HCN.out (by rw [hp]; omega)
      have d2 : (0 : Int) ≤ (k : Int) := by omega
      rw [hp]
      clear hp
      have HDN : Hid (FreshG w.heap.size (put5 w3 (w.heap.size + 1) Grp.zero (.slice none 0 0) (.slice none 0 0)) Grp.zero (.slice none 0 0) (.slice none 0 0) nilS ∧ Below w.heap.size w (put5 w3 (w.heap.size + 1) Grp.zero (.slice none 0 0) (.slice none 0 0))) := zero_done HB3.out
      go_wp2
      exact bodyPost_ret (v := .tuple #[.agg #[.int .i64 0, .int .i64 0, .int .i64 0, .slice none 0 0, .slice none 0 0], .int .i64 6]) (by simp [results, Try.results29, go_sem, e0, e1, e2, e3, e4]) rfl ⟨.slice none 0 0, .slice none 0 0, nilS, by simp only [HV.out, Grp.zero], by simp only [HV.out]; exact HDN.out.1, HDN.out.2⟩
    have HP : Hid (g.pos s < 0) := show g.pos s < 0 by rw [hp]; decide
    rw [hp]
    clear hp
    have hn6 := HMY.out.n6
    by_cases hl6 : 6 ≤ g.ms.length
    · have HV : Hid (g.join s p = (Grp.zero, 16)) := join_full HFL.out HCN.out HP.out hl6
      have d3 : (6 : Int) ≤ (g.ms.length : Int) := by omega
      have HDN : Hid (FreshG w.heap.size (put5 w3 (w.heap.size + 1) Grp.zero (.slice none 0 0) (.slice none 0 0)) Grp.zero (.slice none 0 0) (.slice none 0 0) nilS ∧ Below w.heap.size w (put5 w3 (w.heap.size + 1) Grp.zero (.slice none 0 0) (.slice none 0 0))) := zero_done HB3.out
      go_wp2
      exact bodyPost_ret (v := .tuple #[.agg #[.int .i64 0, .int .i64 0, .int .i64 0, .slice none 0 0, .slice none 0 0], .int .i64 16]) (by simp [results, Try.results29, go_sem, e0, e1, e2, e3, e4]) rfl ⟨.slice none 0 0, .slice none 0 0, nilS, by simp only [HV.out, Grp.zero], by simp only [HV.out]; exact HDN.out.1, HDN.out.2⟩
    have HV : Hid (g.join s p = ((g.plus s).anew p, 0)) := join_yes HFL.out HCN.out HP.out hl6
    have d3 : ¬ (6 : Int) ≤ (g.ms.length : Int) := by omega
    have hgn0 := HMY.out.g0
    have hgn1 : g.gn ≤ 1073741824 := by omega
    have HPL : Hid ((g.plus s).ms.length = g.ms.length + 1) := show _ = _ by simp [Grp.plus]
    go_wp2_with fail
    refine (groupCopy_any g _ _ us _ (HR.out _ HB3.out) HF.out).mono ?_
    rintro e w4 ⟨v3, o3, us3, rfl, hf3, hb3⟩
    obtain ⟨g3, c3, rfl⟩ := hf3.m.o.shape
    obtain ⟨p3, q3, rfl⟩ := hf3.o.o.shape
    have HS : Hid (Sg w w4.heap.size (w.heap.size + 1) w3.heap.size w3.heap.size w3 g (.slice g3 g.ms.length c3) (.slice p3 g.os.length q3) us3 (w4.alloc (.cells #[.int .i64 g.ck, .int .i64 g.wt, .int .i64 g.gn, .slice g3 g.ms.length c3, .slice p3 g.os.length q3] 25))) := sg_new HB3.out HZ3.out (by omega) hf3 hb3
    have HLW : Hid (w3.heap.size ≤ w4.heap.size) := hb3.size
    clear a0 a1 a2 a3 a4 f1 s1 z1 e0 e1 e2 e3 e4 g1 hf3 hb3
    go_upto_region 11 with fail
    generalize w4.alloc (.cells #[.int .i64 g.ck, .int .i64 g.wt, .int .i64 g.gn, .slice g3 g.ms.length c3, .slice p3 g.os.length q3] 25) = W4 at *
    have hlw := HLW.out
    have hw1 := HC3.out.1
    have hz1' := HZ3.out.1
    generalize w4.heap.size = o at *
    have HC4 : Hid (GB W4 w.heap.size g _ _) := HS.out.src HC3.out hw1 (by omega)
    have hB1 := HB3.out.size
    have hbz : w.heap.size ≠ w.heap.size + 1 := by omega
    have hob : w.heap.size ≠ o := by omega
    have hoz : w.heap.size + 1 ≠ o := by omega
    obtain ⟨s1, ⟨a0, a1, a2, a3, a4⟩, f1⟩ := HC4.out
    obtain ⟨z1, ⟨e0, e1, e2, e3, e4⟩, g1⟩ := HS.out.zz
    obtain ⟨o1, ⟨b0, b1, b2, b3, b4⟩, h1⟩ := HS.out.bb
    have hm6 : g.ms.length < 6 := by omega
    have hck : (g.ms.length + 1) * 48 ≤ 140737488355328 ∧ g.ms.length + 1 ≤ maxLen := by unfold maxLen; omega
    have HHK : Hid _ := hck
    clear hck
    go_wp2_with (at_builtin; go_must (refine wp_rowW memE 55 22 zeroMV 48 infoMem Try.underlying22 (by decide) rfl rfl _ _ rfl w3.heap.size (.slice g3 g.ms.length c3) g.ms g.ms.length rfl us3 rfl (HS.out.own.m.below (Nat.le_refl _) (bbox _ _)) W4.heap.size rfl ⟨s, g.ck, []⟩ (.slice none 0 0) (fun j x hx => lit3 _ _ _ _ _ (by simp) j x hx) (ownV_nil _ _ _ _ (Nat.le_trans HS.out.own.m.o.2 (bbox _ _).size)) (fun b e => by cases e) (fun i hi b e => by cases e) HHK.out.1 HHK.out.2 _ rfl ?_))
    intro g' cap' w6 ho' hg hat hlt'
    have HS6 : Hid (Sg w o (w.heap.size + 1) w3.heap.size w3.heap.size w3 (g.plus s) (.slice (some ⟨g', 0, none⟩) (g.ms.length + 1) cap') (.slice p3 g.os.length q3) (fun k => if k = g.ms.length then .slice none 0 0 else us3 k) (w6.setCell ⟨o, 3, none⟩ (.slice (some ⟨g', 0, none⟩) (g.ms.length + 1) cap'))) := Sg.rowM (HS.out.below (bbox _ _)) ho' hg (hat_all' hat (by simp)) (fun i hi c e => by
      by_cases h : i = g.ms.length
      · rw [if_pos h] at e
        cases e
      · rw [if_neg h] at e
        exact .inl ⟨i, (by simp at hi; omega), e⟩)
    obtain ⟨y1, ⟨y2, y3, y4, y5, y6⟩, y9⟩ := (HS.out.below (bbox _ (.cells #[.string s, .int .i64 g.ck, .slice none 0 0] 55))).bb.grown hg HS.out.nb.1
    clear ho' hg hat hlt'
    go_upto_region 12 with fail
    generalize w6.setCell ⟨o, 3, none⟩ (.slice (some ⟨g', 0, none⟩) (g.ms.length + 1) cap') = W7 at *
    clear y1 y2 y3 y4 y5 y6 y9
    clear a0 a1 a2 a3 a4 f1 s1 z1 e0 e1 e2 e3 e4 g1 o1 b0 b1 b2 b3 b4 h1
    obtain ⟨s1, ⟨a0, a1, a2, a3, a4⟩, f1⟩ := (HS6.out.bb.ren rfl rfl rfl : GB W7 o g _ _)
    go_wp2_with fail
    refine (anew_any (g.plus s) p _ _ _ _ _ HS6.out.own (by rw [HPL.out]; omega) (by rw [HPL.out]; omega) (by omega) (by omega) hgn0 hgn1).mono ?_
    rintro e w8 ⟨us8, rfl, hf8, hg8, hn8⟩
    have HCA : Hid _ := HS6.out.call hg8 hf8 ⟨HS6.out.nz.1, HS6.out.nz.2.1, fun i hi e => by
      rw [anew_len] at hi
      have h1 := hn8 i hi _ e
      have h2 := HS6.out.zz.1
      omega⟩ (((g.plus s)).anew p)
    clear a0 a1 a2 a3 a4 f1 s1 hf8 hg8 hn8
    obtain ⟨z1, ⟨e0, e1, e2, e3, e4⟩, g1⟩ := HCA.out.2.2
    have HDN : Hid _ := (show _ ∧ _ from ⟨HCA.out.1, HCA.out.2.1⟩)
    unfold put5 at HDN
    go_wp2
    exact bodyPost_ret (v := .tuple #[.agg #[.int .i64 ((g.plus s)).ck, .int .i64 ((g.plus s)).wt, .int .i64 (((g.plus s)).gn + 1), .slice (some ⟨g', 0, none⟩) (g.ms.length + 1) cap', .slice p3 g.os.length q3], .int .i64 0]) (by simp [results, Try.results29, go_sem, e0, e1, e2, e3, e4, Grp.anew, Grp.plus]) rfl ⟨.slice (some ⟨g', 0, none⟩) (g.ms.length + 1) cap', .slice p3 g.os.length q3, us8, by first | (rw [HV.out]; rfl) | (simp only [HV.out, Grp.anew, Grp.plus]; done), by simp only [HV.out]; exact HDN.out.1, HDN.out.2⟩

end Go.Proofs.Ytmkbbhdmfpjfdaa
