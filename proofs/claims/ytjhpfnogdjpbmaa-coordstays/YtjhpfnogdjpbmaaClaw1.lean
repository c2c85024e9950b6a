/-
  coord.New, and what the document says of it; the laws CoordNew, CoordChecks, CoordCopies, walked.
-/
import Derived.Test.YtjhpfnogdjpbmaaCsame
import Derived.Test.YtjhpfnogdjpbmaaCmay
namespace Go.Proofs.Ytjhpfnogdjpbmaa
open Go.RowKit
set_option linter.unusedVariables false
set_option linter.unusedSimpArgs false

theorem rdC_zero (w : World) : RdC w Crd.zero (.slice none 0 0) (fun _ => .slice none 0 0) := ⟨none, 0, rfl, by simp [Crd.zero], by simp [maxLen], fun _ => rfl, fun h => by simp [Crd.zero] at h⟩
theorem freshC_nil (w : World) (c : Crd) (h : c.ts = []) : FreshC w.heap.size w c (.slice none 0 0) (fun _ => .slice none 0 0) := by
  have := ownW_nil txnE 62 w.heap.size w (Nat.le_refl _)
  rw [← h] at this
  exact this
theorem freshC_nil' {B : Nat} {w : World} (c : Crd) (h : c.ts = []) (hB : B ≤ w.heap.size) : FreshC B w c (.slice none 0 0) (fun _ => .slice none 0 0) := by
  have := ownW_nil txnE 62 B w hB
  rw [← h] at this
  exact this

set_option maxRecDepth 100000 in
set_option maxHeartbeats 1000000 in
theorem cnew_any (n : Int) (w : World) :
    Calls Try.prog 17 #[.int .i64 n] w fun e w' => e = .returned (.tuple #[.agg #[.int .i64 (newC n).1.ck, .int .i64 (newC n).1.nx, .int .i64 (newC n).1.wt, .slice none 0 0], .int .i64 (newC n).2]) ∧ Below w.heap.size w w' := by
  cases h : inR n 1 1000 with
  | true =>
    have H : Hid (newC n = (⟨0, 1, n, []⟩, 0)) := show _ = _ by unfold newC; rw [h]; rfl
    go_enter Try.func17, Try.ntmps17
    go_wp2_with (go_at_call 41; refine (cwithin_any _ _ _ _).mono ?_; rintro e w' ⟨rfl, rfl⟩; rw [h])
    exact bodyPost_ret (v := .tuple #[.agg #[.int .i64 0, .int .i64 1, .int .i64 n, .slice none 0 0], .int .i64 0]) (by simp [results, Try.results17, go_sem]) rfl ⟨by rw [H.out], (Below.refl _ _).alloc (Nat.le_refl _) _⟩
  | false =>
    have H : Hid (newC n = (Crd.zero, 2)) := show _ = _ by unfold newC; rw [h]; rfl
    go_enter Try.func17, Try.ntmps17
    go_wp2_with (go_at_call 41; refine (cwithin_any _ _ _ _).mono ?_; rintro e w' ⟨rfl, rfl⟩; rw [h])
    exact bodyPost_ret (v := .tuple #[.agg #[.int .i64 0, .int .i64 0, .int .i64 0, .slice none 0 0], .int .i64 2]) (by simp [results, Try.results17, go_sem]) rfl ⟨by rw [H.out]; rfl, (Below.refl _ _).alloc (Nat.le_refl _) _⟩

set_option maxRecDepth 100000 in
set_option maxHeartbeats 1000000 in
theorem coordNewRef_any (n : Int) (w : World) :
    Calls Try.prog 18 #[.int .i64 n] w fun e w' => e = .returned (.tuple #[.agg #[.int .i64 (newC n).1.ck, .int .i64 (newC n).1.nx, .int .i64 (newC n).1.wt, .slice none 0 0], .int .i64 (newC n).2]) ∧ Below w.heap.size w w' := by
  cases h : inR n 1 1000 with
  | true =>
    have H : Hid (newC n = (⟨0, 1, n, []⟩, 0)) := show _ = _ by unfold newC; rw [h]; rfl
    go_enter Try.func18, Try.ntmps18
    go_wp2_with (go_at_call 42; refine (In_any _ _ _ _).mono ?_; rintro e w' ⟨rfl, rfl⟩; rw [h])
    exact bodyPost_ret (v := .tuple #[.agg #[.int .i64 0, .int .i64 1, .int .i64 n, .slice none 0 0], .int .i64 0]) (by simp [results, Try.results18, go_sem]) rfl ⟨by rw [H.out], (Below.refl _ _).alloc (Nat.le_refl _) _⟩
  | false =>
    have H : Hid (newC n = (Crd.zero, 2)) := show _ = _ by unfold newC; rw [h]; rfl
    go_enter Try.func18, Try.ntmps18
    go_wp2_with (go_at_call 42; refine (In_any _ _ _ _).mono ?_; rintro e w' ⟨rfl, rfl⟩; rw [h])
    exact bodyPost_ret (v := .tuple #[.agg #[.int .i64 0, .int .i64 0, .int .i64 0, .slice none 0 0], .int .i64 2]) (by simp [results, Try.results18, go_sem]) rfl ⟨by rw [H.out]; rfl, (Below.refl _ _).alloc (Nat.le_refl _) _⟩
theorem newC_ts (n : Int) : (newC n).1.ts = [] := by unfold newC; split <;> rfl

set_option maxRecDepth 100000 in
set_option maxHeartbeats 1000000 in
theorem coordNew_core (n : Int) (w : World) :
    Calls Try.prog 3 #[.int .i64 n] w fun e w' => e = .returned (.bool true) ∧ Below w.heap.size w w' := by
  have HR : Hid (∀ W, RdC W (newC n).1 (.slice none 0 0) (fun _ => .slice none 0 0)) := fun W => by
    refine ⟨none, 0, by rw [newC_ts]; rfl, by rw [newC_ts]; simp, by simp [maxLen], fun _ => rfl, fun h => by rw [newC_ts] at h; simp at h⟩
  go_enter Try.func3, Try.ntmps3
  go_wp2_with fail
  refine (cnew_any n _).mono ?_
  rintro e w1 ⟨rfl, hb1⟩
  obtain ⟨⟨c, er⟩, hc⟩ : ∃ x, newC n = x := ⟨_, rfl⟩
  rw [hc] at HR ⊢
  have HC : Hid (newC n = (c, er)) := hc
  have HB1 : Hid (Below w.heap.size w w1) := hb1
  clear hc hb1
  go_wp2_with fail
  refine (coordNewRef_any n _).mono ?_
  rintro e w2 ⟨rfl, hb2⟩
  rw [HC.out]
  have HB2 : Hid (Below w.heap.size w w2) := bstep (bstep HB1.out (bbox _ _)) hb2
  have k0 := (hb2.cell (p := ⟨w1.heap.size, 0, none⟩) (by simp)).trans (by simp [go_sem] : (w1.alloc (.cells #[.int .i64 c.ck, .int .i64 c.nx, .int .i64 c.wt, .slice none 0 0] 24)).cell? ⟨w1.heap.size, 0, none⟩ = some (.int .i64 c.ck))
  have k1 := (hb2.cell (p := ⟨w1.heap.size, 1, none⟩) (by simp)).trans (by simp [go_sem] : (w1.alloc (.cells #[.int .i64 c.ck, .int .i64 c.nx, .int .i64 c.wt, .slice none 0 0] 24)).cell? ⟨w1.heap.size, 1, none⟩ = some (.int .i64 c.nx))
  have k2 := (hb2.cell (p := ⟨w1.heap.size, 2, none⟩) (by simp)).trans (by simp [go_sem] : (w1.alloc (.cells #[.int .i64 c.ck, .int .i64 c.nx, .int .i64 c.wt, .slice none 0 0] 24)).cell? ⟨w1.heap.size, 2, none⟩ = some (.int .i64 c.wt))
  have k3 := (hb2.cell (p := ⟨w1.heap.size, 3, none⟩) (by simp)).trans (by simp [go_sem] : (w1.alloc (.cells #[.int .i64 c.ck, .int .i64 c.nx, .int .i64 c.wt, .slice none 0 0] 24)).cell? ⟨w1.heap.size, 3, none⟩ = some (.slice none 0 0))
  have hz : w1.heap.size < w2.heap.size := by have := hb2.size; simp at this; omega
  have hee : (er == er) = true := by simp
  clear hb2
  go_wp2_with fail
  refine (sameCoord_same c _ _ _ _ _ (HR.out _) (HR.out _)).mono ?_
  rintro e w3 ⟨rfl, hb3⟩
  have HB3 : Hid (Below w.heap.size w w3) := bstep (bstep HB2.out (bbox _ _)) hb3
  clear hb3 k0 k1 k2 k3
  go_wp2
  go_ret
  exact ⟨rfl, HB3.out⟩

set_option maxRecDepth 100000 in
set_option maxHeartbeats 1000000 in
theorem coordChecks_core (c : Crd) (vt : Value) (us : Nat → Value) (w : World) (h : RdC w c vt us) (hf : c.fits) :
    Calls Try.prog 4 #[.agg #[.int .i64 c.ck, .int .i64 c.nx, .int .i64 c.wt, vt]] w fun e w' => e = .returned (.bool true) ∧ Below w.heap.size w w' := by
  obtain ⟨av, cv, rfl, _, _⟩ := h.shape
  have HR : Hid (∀ W, Below w.heap.size w W → RdC W c (.slice av c.ts.length cv) us) := fun W hW => h.below (Nat.le_refl _) hW
  have HS : Hid c.small := hf.n
  have HC0 : Hid (CB _ w.heap.size c _) := cb_new w c (.slice av c.ts.length cv) 24 w.heap.size rfl
  have HB0 : Hid (Below w.heap.size w _) := bbox w (.cells #[.int .i64 c.ck, .int .i64 c.nx, .int .i64 c.wt, .slice av c.ts.length cv] 24)
  clear h hf
  go_enter Try.func4, Try.ntmps4
  go_wp2_with fail
  refine (ccheck_any c _ us _ (HR.out _ HB0.out) HS.out).mono ?_
  rintro e w1 ⟨rfl, hb1⟩
  have HB1 : Hid (Below w.heap.size w w1) := bstep HB0.out hb1
  obtain ⟨s1, ⟨a0, a1, a2, a3⟩, f1⟩ := HC0.out.below HC0.out.1 hb1
  have HFL : Hid (c.cfl = if c.mayB then 0 else 12) := show _ = _ from rfl
  clear hb1
  go_wp2_with fail
  refine (coordMay_any c _ us _ (HR.out _ HB1.out) HS.out).mono ?_
  rintro e w2 ⟨rfl, hb2⟩
  have HB2 : Hid (Below w.heap.size w w2) := bstep HB1.out hb2
  clear hb2 a0 a1 a2 a3 s1 f1
  cases hm : c.mayB with
  | true =>
    have HF : Hid (c.cfl = 0) := show _ = _ by rw [HFL.out, hm]; rfl
    rw [HF.out]
    go_wp2
    go_ret
    exact ⟨rfl, HB2.out⟩
  | false =>
    have HF : Hid (c.cfl = 12) := show _ = _ by rw [HFL.out, hm]; rfl
    rw [HF.out]
    go_wp2
    go_ret
    exact ⟨rfl, HB2.out⟩

set_option maxRecDepth 100000 in
set_option maxHeartbeats 1000000 in
theorem coordCopies_core (c : Crd) (vt : Value) (us : Nat → Value) (w : World) (h : RdC w c vt us) (hf : c.fits) :
    Calls Try.prog 5 #[.agg #[.int .i64 c.ck, .int .i64 c.nx, .int .i64 c.wt, vt]] w fun e w' => e = .returned (.bool true) ∧ Below w.heap.size w w' := by
  obtain ⟨av, cv, rfl, _, _⟩ := h.shape
  have HR : Hid (∀ W, Below w.heap.size w W → RdC W c (.slice av c.ts.length cv) us) := fun W hW => h.below (Nat.le_refl _) hW
  have HF : Hid c.fits := hf
  have HC0 : Hid (CB _ w.heap.size c _) := cb_new w c (.slice av c.ts.length cv) 24 w.heap.size rfl
  have HB0 : Hid (Below w.heap.size w _) := bbox w (.cells #[.int .i64 c.ck, .int .i64 c.nx, .int .i64 c.wt, .slice av c.ts.length cv] 24)
  clear h hf
  go_enter Try.func5, Try.ntmps5
  go_wp2_with fail
  refine (ccopy_any c _ us _ (HR.out _ HB0.out) HF.out).mono ?_
  rintro e w1 ⟨v1, us1, rfl, hf1, hb1⟩
  obtain ⟨a1', c1, rfl⟩ := hf1.o.shape
  have HB1 : Hid (Below w.heap.size w w1) := bstep HB0.out hb1
  have HF1 : Hid (∀ W, Below w1.heap.size w1 W → RdC W c (.slice a1' c.ts.length c1) us1) := fun W hW => hf1.rd.below (Nat.le_refl _) hW
  obtain ⟨s1, ⟨a0, a1, a2, a3⟩, f1⟩ := HC0.out.below HC0.out.1 hb1
  clear hb1 hf1
  go_wp2_with fail
  refine (sameCoord_same c _ _ us1 us _ (HF1.out _ (bbox _ _)) (HR.out _ (bstep HB1.out (bbox _ _)))).mono ?_
  rintro e w3 ⟨rfl, hb3⟩
  have HB3 : Hid (Below w.heap.size w w3) := bstep (bstep HB1.out (bbox _ _)) hb3
  clear hb3
  go_wp2
  go_ret
  exact ⟨rfl, HB3.out⟩

end Go.Proofs.Ytjhpfnogdjpbmaa
