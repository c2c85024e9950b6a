/-
  group.Beat and what the document says of it, walked.
-/
import Derived.Test.YtmkbbhdmfpjfdaaGbin
namespace Go.Proofs.Ytmkbbhdmfpjfdaa
open Go.RowKit
set_option linter.unusedVariables false
set_option linter.unusedSimpArgs false

theorem two_new (w : World) (g : Grp) (vm vo : Value) : Below w.heap.size w ((w.alloc (.cells #[.int .i64 g.ck, .int .i64 g.wt, .int .i64 g.gn, vm, vo] 25)).alloc (.cells #[.int .i64 0, .int .i64 0, .int .i64 0, .slice none 0 0, .slice none 0 0] 25)) ∧ GB ((w.alloc (.cells #[.int .i64 g.ck, .int .i64 g.wt, .int .i64 g.gn, vm, vo] 25)).alloc (.cells #[.int .i64 0, .int .i64 0, .int .i64 0, .slice none 0 0, .slice none 0 0] 25)) w.heap.size g vm vo ∧ GB ((w.alloc (.cells #[.int .i64 g.ck, .int .i64 g.wt, .int .i64 g.gn, vm, vo] 25)).alloc (.cells #[.int .i64 0, .int .i64 0, .int .i64 0, .slice none 0 0, .slice none 0 0] 25)) (w.heap.size + 1) Grp.zero (.slice none 0 0) (.slice none 0 0) := by
  have e1 : (w.alloc (.cells #[.int .i64 g.ck, .int .i64 g.wt, .int .i64 g.gn, vm, vo] 25)).heap.size = w.heap.size + 1 := by simp
  have s0 := gb_new w g vm vo w.heap.size rfl
  have z0 : GB ((w.alloc (.cells #[.int .i64 g.ck, .int .i64 g.wt, .int .i64 g.gn, vm, vo] 25)).alloc (.cells #[.int .i64 0, .int .i64 0, .int .i64 0, .slice none 0 0, .slice none 0 0] 25)) (w.heap.size + 1) Grp.zero (.slice none 0 0) (.slice none 0 0) := gb_new (w.alloc (.cells #[.int .i64 g.ck, .int .i64 g.wt, .int .i64 g.gn, vm, vo] 25)) Grp.zero (.slice none 0 0) (.slice none 0 0) (w.heap.size + 1) e1.symm
  exact ⟨bstep (bbox _ _) (bbox _ _), s0.below s0.1 (bbox _ _), z0⟩
theorem zero_done {w W : World} (h : Below w.heap.size w W) : FreshG w.heap.size (put5 W (w.heap.size + 1) Grp.zero (.slice none 0 0) (.slice none 0 0)) Grp.zero (.slice none 0 0) (.slice none 0 0) nilS ∧ Below w.heap.size w (put5 W (w.heap.size + 1) Grp.zero (.slice none 0 0) (.slice none 0 0)) :=
  ⟨freshG_nil _ rfl rfl (by rw [put5_size]; exact h.size), below_put5 h (by omega) _ _ _⟩
theorem FreshG.memCells {B : Nat} {W : World} {g : Grp} {gr n cap : Nat} {vo : Value} {us : Nat → Value} (h : FreshG B W g (.slice (some ⟨gr, 0, none⟩) n cap) vo us) (i : Nat) (hi : i < g.ms.length) : MBox W gr (i * 3) (g.at i) (us i) ∧ (∀ o, W.frozen? ⟨gr, o, none⟩ = false) ∧ B ≤ gr ∧ gr < W.heap.size := by
  obtain ⟨g', off, e, _, hc⟩ := h.m.rd.mem i hi
  simp only [Option.some.injEq, Addr.mk.injEq, and_true] at e
  obtain ⟨rfl, rfl⟩ := e
  obtain ⟨g2, cap2, e2, _, _, _, _, hfz, _⟩ := h.m.o.form (by omega)
  simp only [Value.slice.injEq, Option.some.injEq, Addr.mk.injEq, and_true] at e2
  obtain ⟨rfl, _, _⟩ := e2
  rw [at_mem_g hi]
  rw [Nat.zero_add] at hc
  exact ⟨hc, hfz, h.m.o.blk _ rfl⟩
theorem FreshG.ofsCells {B : Nat} {W : World} {g : Grp} {gr n cap : Nat} {vm : Value} {us : Nat → Value} (h : FreshG B W g vm (.slice (some ⟨gr, 0, none⟩) n cap) us) (i : Nat) (hi : i < g.os.length) : OBox W gr (i * 2) (g.off i) ∧ (∀ o, W.frozen? ⟨gr, o, none⟩ = false) ∧ B ≤ gr ∧ gr < W.heap.size := by
  obtain ⟨g', off, e, hc⟩ := h.o.rd.ofs i hi
  simp only [Option.some.injEq, Addr.mk.injEq, and_true] at e
  obtain ⟨rfl, rfl⟩ := e
  obtain ⟨g2, cap2, e2, _, _, _, _, hfz, _⟩ := h.o.o.form (by omega)
  simp only [Value.slice.injEq, Option.some.injEq, Addr.mk.injEq, and_true] at e2
  obtain ⟨rfl, _, _⟩ := e2
  rw [at_off_g hi]
  rw [Nat.zero_add] at hc
  exact ⟨hc, hfz, h.o.o.blk _ rfl⟩
def HoldG (w : World) (b : Nat) (g : Grp) (vm vo : Value) (us : Nat → Value) : Prop := GB w b g vm vo ∧ RdG w g vm vo us
theorem HoldG.below {w w' : World} {b : Nat} {g : Grp} {vm vo : Value} {us : Nat → Value} (h : HoldG w b g vm vo us) (hb : Below w.heap.size w w') : HoldG w' b g vm vo us := ⟨h.1.below h.1.1 hb, h.2.below (Nat.le_refl _) hb⟩
theorem holdg_new {w : World} {g : Grp} {vm vo : Value} {us : Nat → Value} (h : RdG w g vm vo us) : HoldG (w.alloc (.cells #[.int .i64 g.ck, .int .i64 g.wt, .int .i64 g.gn, vm, vo] 25)) w.heap.size g vm vo us := ⟨gb_new _ _ _ _ _ rfl, h.below (Nat.le_refl _) (bbox _ _)⟩
/-- A member is heard of (P6.5). -/
def Grp.beat (g : Grp) (s : ByteArray) (n : Int) : Grp × Int := if g.hfl s n ≠ 0 then (Grp.zero, g.hfl s n) else (g.setM (g.pos s).toNat { g.at (g.pos s).toNat with hd := g.ck }, 0)
theorem beat_no {g : Grp} {s : ByteArray} {n : Int} (h : g.hfl s n ≠ 0) : g.beat s n = (Grp.zero, g.hfl s n) := by unfold Grp.beat; rw [if_pos h]
theorem beat_yes {g : Grp} {s : ByteArray} {n : Int} {k : Nat} (h : g.hfl s n = 0) (hp : g.pos s = k) : g.beat s n = (g.setM k { g.at k with hd := g.ck }, 0) := by unfold Grp.beat; rw [if_neg (by rw [h]; simp), hp, Int.toNat_natCast]

set_option maxRecDepth 100000 in
set_option maxHeartbeats 2000000 in
theorem gbeat_any (g : Grp) (s : ByteArray) (n : Int) (vm vo : Value) (us : Nat → Value) (w : World) (h : RdG w g vm vo us) (hf : g.fits) (hn : s.size ≤ maxLen) :
    Calls Try.prog 32 #[.agg #[.int .i64 g.ck, .int .i64 g.wt, .int .i64 g.gn, vm, vo], .string s, .int .i64 n] w fun e w' => ∃ vm' vo' us', e = .returned (.tuple #[.agg #[.int .i64 ((g.beat s n).1).ck, .int .i64 ((g.beat s n).1).wt, .int .i64 ((g.beat s n).1).gn, vm', vo'], .int .i64 (g.beat s n).2]) ∧ FreshG w.heap.size w' (g.beat s n).1 vm' vo' us' ∧ Below w.heap.size w w' := by
  obtain ⟨av, cv, rfl, _, _⟩ := h.m.shape
  obtain ⟨ao, co, rfl, _, _⟩ := h.o.shape
  have HR : Hid (∀ W, Below w.heap.size w W → RdG W g (.slice av g.ms.length cv) (.slice ao g.os.length co) us) := fun W hW => h.below (Nat.le_refl _) hW
  have HF : Hid g.fits := hf
  have HN : Hid (s.size ≤ maxLen) := hn
  have H0 : Hid _ := two_new w g (.slice av g.ms.length cv) (.slice ao g.os.length co)
  clear h hf
  go_enter Try.func32, Try.ntmps32
  go_upto_region 1 with fail
  generalize (w.alloc (.cells #[.int .i64 g.ck, .int .i64 g.wt, .int .i64 g.gn, .slice av g.ms.length cv, .slice ao g.os.length co] 25)).alloc (.cells #[.int .i64 0, .int .i64 0, .int .i64 0, .slice none 0 0, .slice none 0 0] 25) = W0 at *
  have HB0 : Hid (Below w.heap.size w W0) := H0.out.1
  have HC0 : Hid (GB W0 w.heap.size g _ _) := H0.out.2.1
  have HZ0 : Hid (GB W0 (w.heap.size + 1) Grp.zero (.slice none 0 0) (.slice none 0 0)) := H0.out.2.2
  clear H0
  obtain ⟨s1, ⟨a0, a1, a2, a3, a4⟩, f1⟩ := HC0.out
  obtain ⟨z1, ⟨e0, e1, e2, e3, e4⟩, g1⟩ := HZ0.out
  go_wp2_with fail
  refine (gfindOfGen_any g s n _ _ us _ (HR.out _ HB0.out) HF.out.n HF.out.o HN.out).mono ?_
  rintro e w1 ⟨rfl, hb1⟩
  have HB1 : Hid (Below w.heap.size w w1) := bstep HB0.out hb1
  have HC1 : Hid (GB w1 w.heap.size g _ _) := HC0.out.below HC0.out.1 hb1
  have HZ1 : Hid (GB w1 (w.heap.size + 1) Grp.zero _ _) := HZ0.out.below HZ0.out.1 hb1
  clear a0 a1 a2 a3 a4 f1 s1 z1 e0 e1 e2 e3 e4 g1 hb1
  obtain ⟨s1, ⟨a0, a1, a2, a3, a4⟩, f1⟩ := HC1.out
  obtain ⟨z1, ⟨e0, e1, e2, e3, e4⟩, g1⟩ := HZ1.out
  by_cases hf0 : g.hfl s n = 0
  rotate_left
  · have HV : Hid (g.beat s n = (Grp.zero, g.hfl s n)) := beat_no hf0
    have d1 : (g.hfl s n != 0) = true := by simp [hf0]
    clear hf0
    generalize g.hfl s n = fl at *
    have HDN : Hid (FreshG w.heap.size (put5 w1 (w.heap.size + 1) Grp.zero (.slice none 0 0) (.slice none 0 0)) Grp.zero (.slice none 0 0) (.slice none 0 0) nilS ∧ Below w.heap.size w (put5 w1 (w.heap.size + 1) Grp.zero (.slice none 0 0) (.slice none 0 0))) := zero_done HB1.out
    go_wp2
    exact bodyPost_ret (v := .tuple #[.agg #[.int .i64 0, .int .i64 0, .int .i64 0, .slice none 0 0, .slice none 0 0], .int .i64 fl]) (by simp [results, Try.results32, go_sem, e0, e1, e2, e3, e4]) rfl ⟨.slice none 0 0, .slice none 0 0, nilS, by simp only [HV.out, Grp.zero], by simp only [HV.out]; exact HDN.out.1, HDN.out.2⟩
  have HFL : Hid (g.hfl s n = 0) := hf0
  obtain ⟨hmay, -, ⟨k, hk, hp, -⟩, -, hfg⟩ := hfl_zero hf0
  rw [HFL.out, hfg, hp]
  have HV : Hid (g.beat s n = (g.setM k { g.at k with hd := g.ck }, 0)) := beat_yes hf0 hp
  have hkv : (k : Int) < g.ms.length := by omega
  clear hf0 hp hfg hmay
  go_wp2_with fail
  refine (gcopy_any g _ _ us _ (HR.out _ HB1.out) HF.out).mono ?_
  rintro e w3 ⟨v3, o3, us3, rfl, hf3, hb3⟩
  obtain ⟨g3, c3, rfl, -⟩ := hf3.m.o.form (by omega)
  obtain ⟨p3, q3, rfl⟩ := hf3.o.o.shape
  have HS : Hid (Sg w w.heap.size (w.heap.size + 1) w1.heap.size 0 w g (.slice (some ⟨g3, 0, none⟩) g.ms.length c3) (.slice p3 g.os.length q3) us3 (put5 w3 w.heap.size g (.slice (some ⟨g3, 0, none⟩) g.ms.length c3) (.slice p3 g.os.length q3))) := sg_copy HB1.out HC1.out HZ1.out (by omega) (Nat.le_refl _) (by omega) hf3 hb3
  have hC3 := HC1.out.below HC1.out.1 hb3
  have hZ3 := HZ1.out.below HZ1.out.1 hb3
  obtain ⟨hT3, hfz, hg1, hg2⟩ := hf3.memCells k hk
  have hgb : w.heap.size ≠ g3 := by have := HB1.out.size; have := HC1.out.1; omega
  have hgz : w.heap.size + 1 ≠ g3 := by have := HZ1.out.1; omega
  have hbz : w.heap.size ≠ w.heap.size + 1 := by omega
  clear a0 a1 a2 a3 a4 f1 s1 z1 e0 e1 e2 e3 e4 g1 hf3 hb3
  obtain ⟨s1, ⟨a0, a1, a2, a3, a4⟩, f1⟩ := hC3
  obtain ⟨z1, ⟨e0, e1, e2, e3, e4⟩, g1⟩ := hZ3
  obtain ⟨q0, q1, q2⟩ := hT3
  unfold put5 at HS
  have HS2 : Hid (Sg w w.heap.size (w.heap.size + 1) w1.heap.size 0 w (g.setM k { g.at k with hd := g.ck }) (.slice (some ⟨g3, 0, none⟩) g.ms.length c3) (.slice p3 g.os.length q3) us3 _) := HS.out.setHd k hk g.ck
  have HDN : Hid _ := HS2.out.done g
  unfold put5 at HDN
  go_wp2
  exact bodyPost_ret (v := .tuple #[.agg #[.int .i64 g.ck, .int .i64 g.wt, .int .i64 g.gn, .slice (some ⟨g3, 0, none⟩) g.ms.length c3, .slice p3 g.os.length q3], .int .i64 0]) (by simp [results, Try.results32, go_sem, a0, a1, a2, a3, a4, e0, e1, e2, e3, e4, hgb, hgz, hbz]) rfl ⟨.slice (some ⟨g3, 0, none⟩) g.ms.length c3, .slice p3 g.os.length q3, us3, by simp only [HV.out, Grp.setM, Grp.setO], by simp only [HV.out]; exact HDN.out.1, HDN.out.2⟩

set_option maxRecDepth 100000 in
set_option maxHeartbeats 2000000 in
theorem beatenOf_any (g : Grp) (s : ByteArray) (n : Int) (vm vo : Value) (us : Nat → Value) (w : World) (h : RdG w g vm vo us) (hf : g.fits) (hn : s.size ≤ maxLen) :
    Calls Try.prog 33 #[.agg #[.int .i64 g.ck, .int .i64 g.wt, .int .i64 g.gn, vm, vo], .string s, .int .i64 n] w fun e w' => ∃ vm' vo' us', e = .returned (.tuple #[.agg #[.int .i64 ((g.beat s n).1).ck, .int .i64 ((g.beat s n).1).wt, .int .i64 ((g.beat s n).1).gn, vm', vo'], .int .i64 (g.beat s n).2]) ∧ FreshG w.heap.size w' (g.beat s n).1 vm' vo' us' ∧ Below w.heap.size w w' := by
  obtain ⟨av, cv, rfl, _, _⟩ := h.m.shape
  obtain ⟨ao, co, rfl, _, _⟩ := h.o.shape
  have HR : Hid (∀ W, Below w.heap.size w W → RdG W g (.slice av g.ms.length cv) (.slice ao g.os.length co) us) := fun W hW => h.below (Nat.le_refl _) hW
  have HF : Hid g.fits := hf
  have HN : Hid (s.size ≤ maxLen) := hn
  have H0 : Hid _ := two_new w g (.slice av g.ms.length cv) (.slice ao g.os.length co)
  clear h hf
  go_enter Try.func33, Try.ntmps33
  go_upto_region 1 with fail
  generalize (w.alloc (.cells #[.int .i64 g.ck, .int .i64 g.wt, .int .i64 g.gn, .slice av g.ms.length cv, .slice ao g.os.length co] 25)).alloc (.cells #[.int .i64 0, .int .i64 0, .int .i64 0, .slice none 0 0, .slice none 0 0] 25) = W0 at *
  have HB0 : Hid (Below w.heap.size w W0) := H0.out.1
  have HC0 : Hid (GB W0 w.heap.size g _ _) := H0.out.2.1
  have HZ0 : Hid (GB W0 (w.heap.size + 1) Grp.zero (.slice none 0 0) (.slice none 0 0)) := H0.out.2.2
  clear H0
  obtain ⟨s1, ⟨a0, a1, a2, a3, a4⟩, f1⟩ := HC0.out
  obtain ⟨z1, ⟨e0, e1, e2, e3, e4⟩, g1⟩ := HZ0.out
  go_wp2_with fail
  refine (hereFault_any g s n _ _ us _ (HR.out _ HB0.out) HF.out.n HF.out.o HN.out).mono ?_
  rintro e w1 ⟨rfl, hb1⟩
  have HB1 : Hid (Below w.heap.size w w1) := bstep HB0.out hb1
  have HC1 : Hid (GB w1 w.heap.size g _ _) := HC0.out.below HC0.out.1 hb1
  have HZ1 : Hid (GB w1 (w.heap.size + 1) Grp.zero _ _) := HZ0.out.below HZ0.out.1 hb1
  clear a0 a1 a2 a3 a4 f1 s1 z1 e0 e1 e2 e3 e4 g1 hb1
  obtain ⟨s1, ⟨a0, a1, a2, a3, a4⟩, f1⟩ := HC1.out
  obtain ⟨z1, ⟨e0, e1, e2, e3, e4⟩, g1⟩ := HZ1.out
  by_cases hf0 : g.hfl s n = 0
  rotate_left
  · have HV : Hid (g.beat s n = (Grp.zero, g.hfl s n)) := beat_no hf0
    have d1 : (g.hfl s n != 0) = true := by simp [hf0]
    clear hf0
    generalize g.hfl s n = fl at *
    have HDN : Hid (FreshG w.heap.size (put5 w1 (w.heap.size + 1) Grp.zero (.slice none 0 0) (.slice none 0 0)) Grp.zero (.slice none 0 0) (.slice none 0 0) nilS ∧ Below w.heap.size w (put5 w1 (w.heap.size + 1) Grp.zero (.slice none 0 0) (.slice none 0 0))) := zero_done HB1.out
    go_wp2
    exact bodyPost_ret (v := .tuple #[.agg #[.int .i64 0, .int .i64 0, .int .i64 0, .slice none 0 0, .slice none 0 0], .int .i64 fl]) (by simp [results, Try.results33, go_sem, e0, e1, e2, e3, e4]) rfl ⟨.slice none 0 0, .slice none 0 0, nilS, by simp only [HV.out, Grp.zero], by simp only [HV.out]; exact HDN.out.1, HDN.out.2⟩
  have HFL : Hid (g.hfl s n = 0) := hf0
  obtain ⟨hmay, -, ⟨k, hk, hp, -⟩, -, hfg⟩ := hfl_zero hf0
  rw [HFL.out]
  have HP : Hid (g.pos s = k) := hp
  have HV : Hid (g.beat s n = (g.setM k { g.at k with hd := g.ck }, 0)) := beat_yes hf0 hp
  have hkv : (k : Int) < g.ms.length := by omega
  clear hf0 hp hfg hmay
  go_wp2_with fail
  refine (groupCopy_any g _ _ us _ (HR.out _ HB1.out) HF.out).mono ?_
  rintro e w3 ⟨v3, o3, us3, rfl, hf3, hb3⟩
  obtain ⟨g3, c3, rfl, -⟩ := hf3.m.o.form (by omega)
  obtain ⟨p3, q3, rfl⟩ := hf3.o.o.shape
  have HS : Hid (Sg w w3.heap.size (w.heap.size + 1) w1.heap.size w1.heap.size w1 g (.slice (some ⟨g3, 0, none⟩) g.ms.length c3) (.slice p3 g.os.length q3) us3 (w3.alloc (.cells #[.int .i64 g.ck, .int .i64 g.wt, .int .i64 g.gn, .slice (some ⟨g3, 0, none⟩) g.ms.length c3, .slice p3 g.os.length q3] 25))) := sg_new HB1.out HZ1.out (by omega) hf3 hb3
  have HLW : Hid (w1.heap.size ≤ w3.heap.size) := hb3.size
  clear a0 a1 a2 a3 a4 f1 s1 z1 e0 e1 e2 e3 e4 g1 hf3 hb3
  go_upto_region 5 with fail
  generalize w3.alloc (.cells #[.int .i64 g.ck, .int .i64 g.wt, .int .i64 g.gn, .slice (some ⟨g3, 0, none⟩) g.ms.length c3, .slice p3 g.os.length q3] 25) = W4 at *
  have hlw := HLW.out
  have hw1 := HC1.out.1
  have hz1' := HZ1.out.1
  generalize w3.heap.size = o at *
  have HC4 : Hid (GB W4 w.heap.size g _ _) := HS.out.src HC1.out hw1 (by omega)
  have hB1 := HB1.out.size
  obtain ⟨hT3, hfz, hg1, hg2⟩ := HS.out.own.memCells k hk
  have hgb : w.heap.size ≠ g3 := by omega
  have hgz : w.heap.size + 1 ≠ g3 := by omega
  have hbz : w.heap.size ≠ w.heap.size + 1 := by omega
  have hob : w.heap.size ≠ o := by omega
  have hoz : w.heap.size + 1 ≠ o := by omega
  have hog : o ≠ g3 := fun e => HS.out.nb.1 (by rw [e]; rfl)
  obtain ⟨s1, ⟨a0, a1, a2, a3, a4⟩, f1⟩ := HC4.out
  obtain ⟨z1, ⟨e0, e1, e2, e3, e4⟩, g1⟩ := HS.out.zz
  obtain ⟨o1, ⟨b0, b1, b2, b3, b4⟩, h1⟩ := HS.out.bb
  obtain ⟨q0, q1, q2⟩ := hT3
  go_cut [] (fun W => Sg w o (w.heap.size + 1) w1.heap.size w1.heap.size w1 (g.setM k { g.at k with hd := g.ck }) (.slice (some ⟨g3, 0, none⟩) g.ms.length c3) (.slice p3 g.os.length q3) us3 W)
  case first =>
    go_region_with (go_at_call 66; refine (memberOf_any g s _ _ us _ (HR.out _ (bstep HS.out.bel (by repeat (first | exact Below.refl _ _ | refine Below.drew ?_))))).mono ?_; rintro e w6 ⟨rfl, hb6⟩; rw [HP.out]; have hB6 : Below W4.heap.size W4 w6 := bstep (by repeat (first | exact Below.refl _ _ | refine Below.drew ?_)) hb6; obtain ⟨m3, m4⟩ := bcell hB6; clear hb6)
    all_goals
      have HX : Hid _ := (HS.out.below hB6).setHd k hk g.ck
      go_wp2_with fail
      go_meet
      exact HX.out
  case rest =>
    rename World => W6
    have HS6 : Hid _ := hcut
    clear a0 a1 a2 a3 a4 f1 s1 z1 e0 e1 e2 e3 e4 g1 o1 b0 b1 b2 b3 b4 h1 q0 q1 q2 hcut
    obtain ⟨z1, ⟨e0, e1, e2, e3, e4⟩, g1⟩ := HS6.out.zz
    obtain ⟨o1, ⟨b0, b1, b2, b3, b4⟩, h1⟩ := (HS6.out.bb.ren rfl rfl rfl : GB W6 o g _ _)
    have HDN : Hid _ := HS6.out.done g
    unfold put5 at HDN
    go_wp2
    exact bodyPost_ret (v := .tuple #[.agg #[.int .i64 g.ck, .int .i64 g.wt, .int .i64 g.gn, .slice (some ⟨g3, 0, none⟩) g.ms.length c3, .slice p3 g.os.length q3], .int .i64 0]) (by simp [results, Try.results33, go_sem, b0, b1, b2, b3, b4, e0, e1, e2, e3, e4, hgb, hgz, hbz, hob, hoz]) rfl ⟨.slice (some ⟨g3, 0, none⟩) g.ms.length c3, .slice p3 g.os.length q3, by simp only [HV.out, Grp.setM, Grp.setO], ⟨us3, by simp only [HV.out]; exact HDN.out.1⟩, HDN.out.2⟩

end Go.Proofs.Ytmkbbhdmfpjfdaa
