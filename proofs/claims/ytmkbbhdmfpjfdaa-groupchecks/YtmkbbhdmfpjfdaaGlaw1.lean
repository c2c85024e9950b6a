/-
  The exact laws of group.Check and group.Copy, walked.
-/
import Derived.Test.YtmkbbhdmfpjfdaaGsame
import Derived.Test.YtmkbbhdmfpjfdaaGmay2
namespace Go.Proofs.Ytmkbbhdmfpjfdaa
open Go.RowKit
set_option linter.unusedVariables false
set_option linter.unusedSimpArgs false

set_option maxRecDepth 100000 in
set_option maxHeartbeats 2000000 in
theorem groupChecks_core (g : Grp) (vm vo : Value) (us : Nat → Value) (w : World) (h : RdG w g vm vo us) (hf : g.fits) :
    Calls Try.prog 5 #[.agg #[.int .i64 g.ck, .int .i64 g.wt, .int .i64 g.gn, vm, vo]] w fun e w' => e = .returned (.bool true) ∧ Below w.heap.size w w' := by
  obtain ⟨av, cv, rfl, _, _⟩ := h.m.shape
  obtain ⟨ao, co, rfl, _, _⟩ := h.o.shape
  have HR : Hid (∀ W, Below w.heap.size w W → RdG W g (.slice av g.ms.length cv) (.slice ao g.os.length co) us) := fun W hW => h.below (Nat.le_refl _) hW
  have HS : Hid g.small := hf.n
  have HO : Hid (g.os.length * 16 ≤ 140737488355328) := hf.o
  have HC0 : Hid (GB _ w.heap.size g _ _) := gb_new w g (.slice av g.ms.length cv) (.slice ao g.os.length co) w.heap.size rfl
  have HB0 : Hid (Below w.heap.size w _) := bbox w (.cells #[.int .i64 g.ck, .int .i64 g.wt, .int .i64 g.gn, .slice av g.ms.length cv, .slice ao g.os.length co] 25)
  clear h hf
  go_enter Try.func5, Try.ntmps5
  go_wp2_with fail
  refine (gcheck_any g _ _ us _ (HR.out _ HB0.out) HS.out HO.out).mono ?_
  rintro e w1 ⟨rfl, hb1⟩
  have HB1 : Hid (Below w.heap.size w w1) := bstep HB0.out hb1
  obtain ⟨s1, ⟨a0, a1, a2, a3, a4⟩, f1⟩ := HC0.out.below HC0.out.1 hb1
  clear hb1
  go_wp2_with fail
  refine (groupMay_any g _ _ us _ (HR.out _ HB1.out) HS.out HO.out).mono ?_
  rintro e w2 ⟨rfl, hb2⟩
  have HB2 : Hid (Below w.heap.size w w2) := bstep HB1.out hb2
  clear hb2 a0 a1 a2 a3 a4 s1 f1
  cases hm : g.mayB with
  | true =>
    rw [gfl_yes hm]
    go_wp2
    go_ret
    exact ⟨rfl, HB2.out⟩
  | false =>
    rw [gfl_no hm]
    go_wp2
    go_ret
    exact ⟨rfl, HB2.out⟩

set_option maxRecDepth 100000 in
set_option maxHeartbeats 2000000 in
theorem groupCopies_core (g : Grp) (vm vo : Value) (us : Nat → Value) (w : World) (h : RdG w g vm vo us) (hf : g.fits) :
    Calls Try.prog 6 #[.agg #[.int .i64 g.ck, .int .i64 g.wt, .int .i64 g.gn, vm, vo]] w fun e w' => e = .returned (.bool true) ∧ Below w.heap.size w w' := by
  obtain ⟨av, cv, rfl, _, _⟩ := h.m.shape
  obtain ⟨ao, co, rfl, _, _⟩ := h.o.shape
  have HR : Hid (∀ W, Below w.heap.size w W → RdG W g (.slice av g.ms.length cv) (.slice ao g.os.length co) us) := fun W hW => h.below (Nat.le_refl _) hW
  have HF : Hid g.fits := hf
  have HC0 : Hid (GB _ w.heap.size g _ _) := gb_new w g (.slice av g.ms.length cv) (.slice ao g.os.length co) w.heap.size rfl
  have HB0 : Hid (Below w.heap.size w _) := bbox w (.cells #[.int .i64 g.ck, .int .i64 g.wt, .int .i64 g.gn, .slice av g.ms.length cv, .slice ao g.os.length co] 25)
  clear h hf
  go_enter Try.func6, Try.ntmps6
  go_wp2_with fail
  refine (gcopy_any g _ _ us _ (HR.out _ HB0.out) HF.out).mono ?_
  rintro e w1 ⟨v1, o1, us1, rfl, hf1, hb1⟩
  obtain ⟨a1', c1, rfl⟩ := hf1.m.o.shape
  obtain ⟨a2', c2, rfl⟩ := hf1.o.o.shape
  have HB1 : Hid (Below w.heap.size w w1) := bstep HB0.out hb1
  have HF1 : Hid (∀ W, Below w1.heap.size w1 W → RdG W g (.slice a1' g.ms.length c1) (.slice a2' g.os.length c2) us1) := fun W hW => hf1.rd.below (Nat.le_refl _) hW
  obtain ⟨s1, ⟨a0, a1, a2, a3, a4⟩, f1⟩ := HC0.out.below HC0.out.1 hb1
  clear hb1 hf1
  go_wp2_with fail
  refine (sameGroup_same g _ _ _ _ us1 us _ (HF1.out _ (bbox _ _)) (HR.out _ (bstep HB1.out (bbox _ _)))).mono ?_
  rintro e w3 ⟨rfl, hb3⟩
  have HB3 : Hid (Below w.heap.size w w3) := bstep (bstep HB1.out (bbox _ _)) hb3
  clear hb3
  go_wp2
  go_ret
  exact ⟨rfl, HB3.out⟩

end Go.Proofs.Ytmkbbhdmfpjfdaa
