/-
  group.Leave and what the document says of it, walked.
-/
import Derived.Test.YtmkbbhdmfpjfdaaGjoin
import Derived.Test.YtmkbbhdmfpjfdaaGdel
import Derived.Test.YtmkbbhdmfpjfdaaGwo
namespace Go.Proofs.Ytmkbbhdmfpjfdaa
open Go.RowKit
set_option linter.unusedVariables false
set_option linter.unusedSimpArgs false

/-- Without who bears the name. -/
def Grp.less (g : Grp) (s : ByteArray) : Grp := g.keep (fun m => sameN m.nm s)
def Grp.vfl (g : Grp) (s : ByteArray) (p : Int) : Int := if g.flt s ≠ 0 then g.flt s else if g.canB p = false then 2 else if g.pos s < 0 then 5 else 0
def Grp.leave (g : Grp) (s : ByteArray) (p : Int) : Grp × Int := if g.vfl s p ≠ 0 then (Grp.zero, g.vfl s p) else ((g.less s).anew p, 0)
theorem leave_flt {g : Grp} {s : ByteArray} {p : Int} (h : g.flt s ≠ 0) : g.leave s p = (Grp.zero, g.flt s) := by
  have e : g.vfl s p = g.flt s := by unfold Grp.vfl; rw [if_pos h]
  unfold Grp.leave; rw [e, if_pos h]
theorem leave_can {g : Grp} {s : ByteArray} {p : Int} (h : g.flt s = 0) (h2 : g.canB p = false) : g.leave s p = (Grp.zero, 2) := by
  have e : g.vfl s p = 2 := by unfold Grp.vfl; rw [if_neg (by rw [h]; simp), if_pos h2]
  unfold Grp.leave; rw [e]; rfl
theorem leave_none {g : Grp} {s : ByteArray} {p : Int} (h : g.flt s = 0) (h2 : g.canB p = true) (h3 : g.pos s < 0) : g.leave s p = (Grp.zero, 5) := by
  have e : g.vfl s p = 5 := by unfold Grp.vfl; rw [if_neg (by rw [h]; simp), if_neg (by rw [h2]; simp), if_pos h3]
  unfold Grp.leave; rw [e]; rfl
theorem leave_yes {g : Grp} {s : ByteArray} {p : Int} (h : g.flt s = 0) (h2 : g.canB p = true) (h3 : 0 ≤ g.pos s) : g.leave s p = ((g.less s).anew p, 0) := by
  have e : g.vfl s p = 0 := by unfold Grp.vfl; rw [if_neg (by rw [h]; simp), if_neg (by rw [h2]; simp), if_neg (by omega)]
  unfold Grp.leave; rw [e]; rfl
/-- Where one alone is dropped, the rest is what a cut leaves. -/
theorem filter_cut (q : Mem → Bool) (l : List Mem) (k : Nat) (hk : k < l.length) (h : q (l[k]'hk) = true) (ho : ∀ i, (hi : i < l.length) → i ≠ k → q (l[i]'hi) = false) : l.filter (fun m => !q m) = cut1 l k := by
  unfold cut1
  conv => lhs; rw [← List.take_append_drop k l]
  rw [List.filter_append, List.drop_eq_getElem_cons hk, List.filter_cons_of_neg (by simp [h])]
  congr 1
  · rw [List.filter_eq_self]
    intro a ha
    obtain ⟨i, hi, rfl⟩ := List.mem_iff_getElem.1 ha
    rw [List.length_take] at hi
    rw [List.getElem_take]
    rw [ho i (by omega) (by omega)]
    rfl
  · rw [List.filter_eq_self]
    intro a ha
    obtain ⟨i, hi, rfl⟩ := List.mem_iff_getElem.1 ha
    rw [List.length_drop] at hi
    rw [List.getElem_drop]
    rw [ho (k + 1 + i) (by omega) (by omega)]
    rfl
theorem less_cut {g : Grp} {s : ByteArray} {k : Nat} (h : MayG g) (hk : k < g.ms.length) (hn : (g.at k).nm = s) : (g.less s).ms = cut1 g.ms k := by
  refine filter_cut (fun m => sameN m.nm s) g.ms k hk (sameN_iff.2 (by rw [← at_mem_g hk]; exact hn)) (fun i hi hne => ?_)
  rw [sameN_no, ← at_mem_g hi, ← hn]
  rcases Nat.lt_or_gt_of_ne hne with h1 | h1
  · exact h.fr k i hk h1
  · exact fun e => h.fr i k hi h1 e.symm
theorem less_len {g : Grp} {s : ByteArray} : (g.less s).ms.length ≤ g.ms.length := List.length_filter_le _ _
theorem three_new (w : World) (g : Grp) (vm vo x : Value) : Below w.heap.size w (((w.alloc (.cells #[.int .i64 g.ck, .int .i64 g.wt, .int .i64 g.gn, vm, vo] 25)).alloc (.cells #[x] 9)).alloc (.cells #[.int .i64 0, .int .i64 0, .int .i64 0, .slice none 0 0, .slice none 0 0] 25)) ∧ GB (((w.alloc (.cells #[.int .i64 g.ck, .int .i64 g.wt, .int .i64 g.gn, vm, vo] 25)).alloc (.cells #[x] 9)).alloc (.cells #[.int .i64 0, .int .i64 0, .int .i64 0, .slice none 0 0, .slice none 0 0] 25)) w.heap.size g vm vo ∧ GB (((w.alloc (.cells #[.int .i64 g.ck, .int .i64 g.wt, .int .i64 g.gn, vm, vo] 25)).alloc (.cells #[x] 9)).alloc (.cells #[.int .i64 0, .int .i64 0, .int .i64 0, .slice none 0 0, .slice none 0 0] 25)) (w.heap.size + 2) Grp.zero (.slice none 0 0) (.slice none 0 0) ∧ (w.heap.size + 1 < (((w.alloc (.cells #[.int .i64 g.ck, .int .i64 g.wt, .int .i64 g.gn, vm, vo] 25)).alloc (.cells #[x] 9)).alloc (.cells #[.int .i64 0, .int .i64 0, .int .i64 0, .slice none 0 0, .slice none 0 0] 25)).heap.size ∧ (((w.alloc (.cells #[.int .i64 g.ck, .int .i64 g.wt, .int .i64 g.gn, vm, vo] 25)).alloc (.cells #[x] 9)).alloc (.cells #[.int .i64 0, .int .i64 0, .int .i64 0, .slice none 0 0, .slice none 0 0] 25)).cell? ⟨w.heap.size + 1, 0, none⟩ = some x) := by
  have e1 : ((w.alloc (.cells #[.int .i64 g.ck, .int .i64 g.wt, .int .i64 g.gn, vm, vo] 25)).alloc (.cells #[x] 9)).heap.size = w.heap.size + 2 := by simp
  have s0 := gb_new w g vm vo w.heap.size rfl
  have z0 := gb_new ((w.alloc (.cells #[.int .i64 g.ck, .int .i64 g.wt, .int .i64 g.gn, vm, vo] 25)).alloc (.cells #[x] 9)) Grp.zero (.slice none 0 0) (.slice none 0 0) (w.heap.size + 2) e1.symm
  refine ⟨bstep (bstep (bbox _ _) (bbox _ _)) (bbox _ _), (s0.below s0.1 (bbox _ _)).below (s0.below s0.1 (bbox _ _)).1 (bbox _ _), z0, by simp, ?_⟩
  have e2 : ((w.alloc (.cells #[.int .i64 g.ck, .int .i64 g.wt, .int .i64 g.gn, vm, vo] 25)).alloc (.cells #[x] 9)).cell? ⟨w.heap.size + 1, 0, none⟩ = some x := by simp [go_sem]
  exact ((bbox ((w.alloc (.cells #[.int .i64 g.ck, .int .i64 g.wt, .int .i64 g.gn, vm, vo] 25)).alloc (.cells #[x] 9)) (.cells #[.int .i64 0, .int .i64 0, .int .i64 0, .slice none 0 0, .slice none 0 0] 25)).cell (p := ⟨w.heap.size + 1, 0, none⟩) (by rw [e1]; show w.heap.size + 1 < w.heap.size + 2; omega)).trans e2
theorem strbox_below {w w' : World} {b : Nat} {x : Value} (h : b < w.heap.size ∧ w.cell? ⟨b, 0, none⟩ = some x) (hb : Below w.heap.size w w') : b < w'.heap.size ∧ w'.cell? ⟨b, 0, none⟩ = some x :=
  ⟨Nat.lt_of_lt_of_le h.1 hb.size, (hb.cell (p := ⟨b, 0, none⟩) h.1).trans h.2⟩
theorem zero_done2 {w W : World} (h : Below w.heap.size w W) : FreshG w.heap.size (put5 W (w.heap.size + 2) Grp.zero (.slice none 0 0) (.slice none 0 0)) Grp.zero (.slice none 0 0) (.slice none 0 0) nilS ∧ Below w.heap.size w (put5 W (w.heap.size + 2) Grp.zero (.slice none 0 0) (.slice none 0 0)) :=
  ⟨freshG_nil _ rfl rfl (by rw [put5_size]; exact h.size), below_put5 h (by omega) _ _ _⟩
/-- Behind two calls, the second on what the first left: what is answered. -/
theorem fresh_call {w W W5 W8 : World} {z : Nat} {g5 g8 : Grp} {vm vo : Value} {us5 us8 : Nat → Value} (hb : Below w.heap.size w W) (hz : GB W z Grp.zero (.slice none 0 0) (.slice none 0 0)) (wz : w.heap.size ≤ z) (hf5 : FreshG W.heap.size W5 g5 vm vo us5) (hb5 : Below W.heap.size W W5) (hg : W5.grownBy W8 vm.ownBlock) (hf8 : FreshG W.heap.size W8 g8 vm vo us8) (d : Grp) :
    FreshG w.heap.size (put5 W8 z d vm vo) g8 vm vo us8 ∧ Below w.heap.size w (put5 W8 z d vm vo) ∧ GB W8 z Grp.zero (.slice none 0 0) (.slice none 0 0) := by
  have hrow : ∀ k, vm.ownBlock = some k → W.heap.size ≤ k := fun k e => (hf5.m.o.blk k e).1
  have h5 := bstep hb hb5
  refine ⟨(hf8.put (off_lt hf8 hz.1) d vm vo).mono hb.size, below_put5 (below_grown h5 hg h5.size (fun k e => ?_)) wz d vm vo, (hz.below hz.1 hb5).grown hg (fun e => ?_)⟩
  · have := hrow k e
    have := hb.size
    omega
  · have := hrow z e
    have := hz.1
    omega

set_option maxRecDepth 100000 in
set_option maxHeartbeats 1000000 in
theorem left_fn (B : Nat) (s : ByteArray) (w : World) (hB : B < w.heap.size) (hx : w.cell? ⟨B, 0, none⟩ = some (.string s)) : PredW (fun W => Below w.heap.size w W) 70 #[.pointer (some ⟨B, 0, none⟩)] (fun m => sameN m.nm s) := by
  intro W y u hbel
  have x0 := (hbel.cell (p := ⟨B, 0, none⟩) hB).trans hx
  have hBW : B < W.heap.size := Nat.lt_of_lt_of_le hB hbel.size
  have hne := Nat.ne_of_lt hBW
  clear hx hbel
  have HE : Hid (sameN y.nm s = (y.nm.toList == s.toList)) := show _ = _ from rfl
  show Calls Try.prog 70 #[.agg #[.string y.nm, .int .i64 y.hd, u], .pointer (some ⟨B, 0, none⟩)] W fun e w' => e = .returned (.bool (sameN y.nm s)) ∧ Below W.heap.size W w'
  go_enter Try.func70, Try.ntmps70
  go_wp2
  all_goals
    go_ret
    exact ⟨by rw [HE.out]; simp [*], bbox _ _⟩

set_option maxRecDepth 100000 in
set_option maxHeartbeats 2000000 in
theorem gleave_any (g : Grp) (s : ByteArray) (p : Int) (vm vo : Value) (us : Nat → Value) (w : World) (h : RdG w g vm vo us) (hf : g.fits) (hn : s.size ≤ maxLen) :
    Calls Try.prog 30 #[.agg #[.int .i64 g.ck, .int .i64 g.wt, .int .i64 g.gn, vm, vo], .string s, .int .i64 p] w fun e w' => ∃ vm' vo' us', e = .returned (.tuple #[.agg #[.int .i64 ((g.leave s p).1).ck, .int .i64 ((g.leave s p).1).wt, .int .i64 ((g.leave s p).1).gn, vm', vo'], .int .i64 (g.leave s p).2]) ∧ FreshG w.heap.size w' (g.leave s p).1 vm' vo' us' ∧ Below w.heap.size w w' := by
  obtain ⟨av, cv, rfl, _, _⟩ := h.m.shape
  obtain ⟨ao, co, rfl, _, _⟩ := h.o.shape
  have HR : Hid (∀ W, Below w.heap.size w W → RdG W g (.slice av g.ms.length cv) (.slice ao g.os.length co) us) := fun W hW => h.below (Nat.le_refl _) hW
  have HF : Hid g.fits := hf
  have HN : Hid (s.size ≤ maxLen) := hn
  have H0 : Hid _ := two_new w g (.slice av g.ms.length cv) (.slice ao g.os.length co)
  clear h hf
  go_enter Try.func30, Try.ntmps30
  go_upto_region 1 with fail
  generalize (w.alloc (.cells #[.int .i64 g.ck, .int .i64 g.wt, .int .i64 g.gn, .slice av g.ms.length cv, .slice ao g.os.length co] 25)).alloc (.cells #[.int .i64 0, .int .i64 0, .int .i64 0, .slice none 0 0, .slice none 0 0] 25) = W0 at *
  have HB0 : Hid (Below w.heap.size w W0) := H0.out.1
  have HC0 : Hid (GB W0 w.heap.size g _ _) := H0.out.2.1
  have HZ0 : Hid (GB W0 (w.heap.size + 1) Grp.zero (.slice none 0 0) (.slice none 0 0)) := H0.out.2.2
  clear H0
  obtain ⟨s1, ⟨a0, a1, a2, a3, a4⟩, f1⟩ := HC0.out
  obtain ⟨z1, ⟨e0, e1, e2, e3, e4⟩, g1⟩ := HZ0.out
  go_wp2_with fail
  refine (gfindNamed_any g s _ _ us _ (HR.out _ HB0.out) HF.out.n HF.out.o HN.out).mono ?_
  rintro e w1 ⟨rfl, hb1⟩
  have HB1 : Hid (Below w.heap.size w w1) := bstep HB0.out hb1
  have HC1 : Hid (GB w1 w.heap.size g _ _) := HC0.out.below HC0.out.1 hb1
  have HZ1 : Hid (GB w1 (w.heap.size + 1) Grp.zero _ _) := HZ0.out.below HZ0.out.1 hb1
  clear a0 a1 a2 a3 a4 f1 s1 z1 e0 e1 e2 e3 e4 g1 hb1
  obtain ⟨s1, ⟨a0, a1, a2, a3, a4⟩, f1⟩ := HC1.out
  obtain ⟨z1, ⟨e0, e1, e2, e3, e4⟩, g1⟩ := HZ1.out
  by_cases hf0 : g.flt s = 0
  rotate_left
  · have HV : Hid (g.leave s p = (Grp.zero, g.flt s)) := leave_flt hf0
    have d1 : (g.flt s != 0) = true := by simp [hf0]
    clear hf0
    generalize g.flt s = fl at *
    have HDN : Hid (FreshG w.heap.size (put5 w1 (w.heap.size + 1) Grp.zero (.slice none 0 0) (.slice none 0 0)) Grp.zero (.slice none 0 0) (.slice none 0 0) nilS ∧ Below w.heap.size w (put5 w1 (w.heap.size + 1) Grp.zero (.slice none 0 0) (.slice none 0 0))) := zero_done HB1.out
    go_wp2
    exact bodyPost_ret (v := .tuple #[.agg #[.int .i64 0, .int .i64 0, .int .i64 0, .slice none 0 0, .slice none 0 0], .int .i64 fl]) (by simp [results, Try.results30, go_sem, e0, e1, e2, e3, e4]) rfl ⟨.slice none 0 0, .slice none 0 0, nilS, by simp only [HV.out, Grp.zero], by simp only [HV.out]; exact HDN.out.1, HDN.out.2⟩
  have HFL : Hid (g.flt s = 0) := hf0
  have HMY : Hid (MayG g) := (gflt_zero_iff.1 hf0).1
  have HFN : Hid (g.fnd s = g.pos s) := show _ = _ by unfold Grp.fnd; rw [if_pos hf0]
  rw [HFL.out, HFN.out]
  clear hf0
  go_wp2_with fail
  refine (canAssign_any g p _ _ _ HMY.out.g1).mono ?_
  rintro e w2 ⟨rfl, hb2⟩
  have HB2 : Hid (Below w.heap.size w w2) := bstep HB1.out hb2
  have HC2 : Hid (GB w2 w.heap.size g _ _) := HC1.out.below HC1.out.1 hb2
  have HZ2 : Hid (GB w2 (w.heap.size + 1) Grp.zero _ _) := HZ1.out.below HZ1.out.1 hb2
  clear a0 a1 a2 a3 a4 f1 s1 z1 e0 e1 e2 e3 e4 g1 hb2
  obtain ⟨s1, ⟨a0, a1, a2, a3, a4⟩, f1⟩ := HC2.out
  obtain ⟨z1, ⟨e0, e1, e2, e3, e4⟩, g1⟩ := HZ2.out
  cases hcn : g.canB p with
  | false =>
    have HV : Hid (g.leave s p = (Grp.zero, 2)) := leave_can HFL.out hcn
    have HDN : Hid (FreshG w.heap.size (put5 w2 (w.heap.size + 1) Grp.zero (.slice none 0 0) (.slice none 0 0)) Grp.zero (.slice none 0 0) (.slice none 0 0) nilS ∧ Below w.heap.size w (put5 w2 (w.heap.size + 1) Grp.zero (.slice none 0 0) (.slice none 0 0))) := zero_done HB2.out
    go_wp2
    exact bodyPost_ret (v := .tuple #[.agg #[.int .i64 0, .int .i64 0, .int .i64 0, .slice none 0 0, .slice none 0 0], .int .i64 2]) (by simp [results, Try.results30, go_sem, e0, e1, e2, e3, e4]) rfl ⟨.slice none 0 0, .slice none 0 0, nilS, by simp only [HV.out, Grp.zero], by simp only [HV.out]; exact HDN.out.1, HDN.out.2⟩
  | true =>
    have HCN : Hid (g.canB p = true) := hcn
    obtain ⟨⟨hp0, hp1⟩, hgn⟩ := canB_iff.1 hcn
    clear hcn
    rcases posG_cases g s with hp | ⟨k, hk, hp, hnm⟩
    · have HV : Hid (g.leave s p = (Grp.zero, 5)) := leave_none HFL.out HCN.out (by rw [hp]; decide)
      rw [hp]
      clear hp
      have HDN : Hid (FreshG w.heap.size (put5 w2 (w.heap.size + 1) Grp.zero (.slice none 0 0) (.slice none 0 0)) Grp.zero (.slice none 0 0) (.slice none 0 0) nilS ∧ Below w.heap.size w (put5 w2 (w.heap.size + 1) Grp.zero (.slice none 0 0) (.slice none 0 0))) := zero_done HB2.out
      go_wp2
      exact bodyPost_ret (v := .tuple #[.agg #[.int .i64 0, .int .i64 0, .int .i64 0, .slice none 0 0, .slice none 0 0], .int .i64 5]) (by simp [results, Try.results30, go_sem, e0, e1, e2, e3, e4]) rfl ⟨.slice none 0 0, .slice none 0 0, nilS, by simp only [HV.out, Grp.zero], by simp only [HV.out]; exact HDN.out.1, HDN.out.2⟩
    have HV : Hid (g.leave s p = ((g.less s).anew p, 0)) := leave_yes HFL.out HCN.out (by rw [hp]; omega)
    have HCU : Hid ((g.less s).ms = cut1 g.ms k) := less_cut HMY.out hk hnm
    rw [hp]
    clear hp hnm
    have hn6 := HMY.out.n6
    have d3 : ((k : Int) == -1) = false := by simp
    have hgn0 := HMY.out.g0
    have hgn1 : g.gn ≤ 1073741824 := by omega
    have hll := less_len (g := g) (s := s)
    have hwr : IntKind.i64.wrap ((k : Int) + 1) = (k : Int) + 1 := by rw [IntKind.wrap_i64]; omega
    go_wp2_with fail
    refine (gcopy_any g _ _ us _ (HR.out _ HB2.out) HF.out).mono ?_
    rintro e w3 ⟨v3, o3, us3, rfl, hf3, hb3⟩
    obtain ⟨g3, c3, rfl⟩ := hf3.m.o.shape
    obtain ⟨p3, q3, rfl⟩ := hf3.o.o.shape
    have HS : Hid (Sg w w.heap.size (w.heap.size + 1) w2.heap.size 0 w g (.slice g3 g.ms.length c3) (.slice p3 g.os.length q3) us3 (put5 w3 w.heap.size g (.slice g3 g.ms.length c3) (.slice p3 g.os.length q3))) := sg_copy HB2.out HC2.out HZ2.out (by omega) (Nat.le_refl _) (by omega) hf3 hb3
    have hC3 := HC2.out.below HC2.out.1 hb3
    have hB1 := HB2.out.size
    have hw1 := HC2.out.1
    have hz1' := HZ2.out.1
    clear a0 a1 a2 a3 a4 f1 s1 z1 e0 e1 e2 e3 e4 g1 hf3 hb3
    obtain ⟨s1, ⟨a0, a1, a2, a3, a4⟩, f1⟩ := hC3
    unfold put5 at HS
    go_upto_region 9 with fail
    generalize (((((w3.setCell ⟨w.heap.size, 0, none⟩ (.int .i64 g.ck)).setCell ⟨w.heap.size, 1, none⟩ (.int .i64 g.wt)).setCell ⟨w.heap.size, 2, none⟩ (.int .i64 g.gn)).setCell ⟨w.heap.size, 3, none⟩ (.slice g3 g.ms.length c3)).setCell ⟨w.heap.size, 4, none⟩ (.slice p3 g.os.length q3)) = W4 at *
    clear a0 a1 a2 a3 a4 f1 s1
    obtain ⟨s1, ⟨a0, a1, a2, a3, a4⟩, f1⟩ := HS.out.bb
    obtain ⟨z1, ⟨e0, e1, e2, e3, e4⟩, g1⟩ := HS.out.zz
    have hbz : w.heap.size ≠ w.heap.size + 1 := by omega
    obtain ⟨y, yc, hy, -, -, -, -, -, -⟩ := HS.out.own.m.o.form (by omega)
    simp only [Value.slice.injEq, true_and] at hy
    obtain ⟨rfl, rfl⟩ := hy
    go_wp2_with fail
    refine (delete_any g.ms us3 w2.heap.size y c3 k _ HS.out.own.m hk (by omega)).mono ?_
    rintro e w6 ⟨rfl, ho', hg⟩
    have HS6 : Hid (Sg w w.heap.size (w.heap.size + 1) w2.heap.size 0 w (g.less s) (.slice (some ⟨y, 0, none⟩) (g.ms.length - 1) c3) (.slice p3 g.os.length q3) (usCut us3 k) (w6.setCell ⟨w.heap.size, 3, none⟩ (.slice (some ⟨y, 0, none⟩) (g.ms.length - 1) c3))) := (Sg.rowM HS.out ho' hg (fun c e => .inl e) (fun i hi c e => by
      rw [cut1_len hk] at hi
      unfold usCut at e
      by_cases h : i < k
      · rw [if_pos h] at e
        exact .inl ⟨i, by omega, e⟩
      · rw [if_neg h] at e
        exact .inl ⟨i + 1, by omega, e⟩)).ren (by
      have e := HCU.out
      unfold Grp.less Grp.keep at e ⊢
      dsimp only at e
      rw [← e])
    obtain ⟨y1, ⟨y2, y3, y4, y5, y6⟩, y9⟩ := HS.out.bb.grown hg HS.out.nb.1
    clear ho' hg
    go_upto_region 10 with fail
    generalize w6.setCell ⟨w.heap.size, 3, none⟩ (.slice (some ⟨y, 0, none⟩) (g.ms.length - 1) c3) = W7 at *
    clear y1 y2 y3 y4 y5 y6 y9
    clear a0 a1 a2 a3 a4 f1 s1 z1 e0 e1 e2 e3 e4 g1
    obtain ⟨s1, ⟨a0, a1, a2, a3, a4⟩, f1⟩ := (HS6.out.bb.ren rfl rfl rfl : GB W7 w.heap.size g _ _)
    go_wp2_with fail
    refine (assignAnew_any (g.less s) p _ _ _ _ _ HS6.out.own (by omega) (by omega) (by omega) (by omega) hgn0 hgn1).mono ?_
    rintro e w8 ⟨us8, rfl, hf8, hg8, hn8⟩
    have HCA : Hid _ := HS6.out.call hg8 hf8 ⟨HS6.out.nz.1, HS6.out.nz.2.1, fun i hi e => by
      rw [anew_len] at hi
      have h1 := hn8 i hi _ e
      have h2 := HS6.out.zz.1
      omega⟩ (((g.less s)).anew p)
    clear a0 a1 a2 a3 a4 f1 s1 hf8 hg8 hn8
    obtain ⟨z1, ⟨e0, e1, e2, e3, e4⟩, g1⟩ := HCA.out.2.2
    have HDN : Hid _ := (show _ ∧ _ from ⟨HCA.out.1, HCA.out.2.1⟩)
    unfold put5 at HDN
    go_wp2
    exact bodyPost_ret (v := .tuple #[.agg #[.int .i64 ((g.less s)).ck, .int .i64 ((g.less s)).wt, .int .i64 (((g.less s)).gn + 1), .slice (some ⟨y, 0, none⟩) (g.ms.length - 1) c3, .slice p3 g.os.length q3], .int .i64 0]) (by simp [results, Try.results30, go_sem, e0, e1, e2, e3, e4, Grp.anew, Grp.less, Grp.keep]) rfl ⟨.slice (some ⟨y, 0, none⟩) (g.ms.length - 1) c3, .slice p3 g.os.length q3, us8, by first | (rw [HV.out]; rfl) | (simp only [HV.out, Grp.anew, Grp.less, Grp.keep]; done), by simp only [HV.out]; exact HDN.out.1, HDN.out.2⟩

set_option maxRecDepth 100000 in
set_option maxHeartbeats 2000000 in
theorem leftOf_any (g : Grp) (s : ByteArray) (p : Int) (vm vo : Value) (us : Nat → Value) (w : World) (h : RdG w g vm vo us) (hf : g.fits) (hn : s.size ≤ maxLen) :
    Calls Try.prog 31 #[.agg #[.int .i64 g.ck, .int .i64 g.wt, .int .i64 g.gn, vm, vo], .string s, .int .i64 p] w fun e w' => ∃ vm' vo' us', e = .returned (.tuple #[.agg #[.int .i64 ((g.leave s p).1).ck, .int .i64 ((g.leave s p).1).wt, .int .i64 ((g.leave s p).1).gn, vm', vo'], .int .i64 (g.leave s p).2]) ∧ FreshG w.heap.size w' (g.leave s p).1 vm' vo' us' ∧ Below w.heap.size w w' := by
  obtain ⟨av, cv, rfl, _, _⟩ := h.m.shape
  obtain ⟨ao, co, rfl, _, _⟩ := h.o.shape
  have HR : Hid (∀ W, Below w.heap.size w W → RdG W g (.slice av g.ms.length cv) (.slice ao g.os.length co) us) := fun W hW => h.below (Nat.le_refl _) hW
  have HF : Hid g.fits := hf
  have HN : Hid (s.size ≤ maxLen) := hn
  have H0 : Hid _ := three_new w g (.slice av g.ms.length cv) (.slice ao g.os.length co) (.string s)
  clear h hf
  go_enter Try.func31, Try.ntmps31
  go_upto_region 1 with fail
  generalize ((w.alloc (.cells #[.int .i64 g.ck, .int .i64 g.wt, .int .i64 g.gn, .slice av g.ms.length cv, .slice ao g.os.length co] 25)).alloc (.cells #[.string s] 9)).alloc (.cells #[.int .i64 0, .int .i64 0, .int .i64 0, .slice none 0 0, .slice none 0 0] 25) = W0 at *
  have HB0 : Hid (Below w.heap.size w W0) := H0.out.1
  have HC0 : Hid (GB W0 w.heap.size g _ _) := H0.out.2.1
  have HZ0 : Hid (GB W0 (w.heap.size + 2) Grp.zero (.slice none 0 0) (.slice none 0 0)) := H0.out.2.2.1
  have HX0 : Hid (w.heap.size + 1 < W0.heap.size ∧ W0.cell? ⟨w.heap.size + 1, 0, none⟩ = some (.string s)) := H0.out.2.2.2
  clear H0
  obtain ⟨s1, ⟨a0, a1, a2, a3, a4⟩, f1⟩ := HC0.out
  obtain ⟨z1, ⟨e0, e1, e2, e3, e4⟩, g1⟩ := HZ0.out
  obtain ⟨sx, x0⟩ := HX0.out
  go_wp2_with fail
  refine (groupFault_any g s _ _ us _ (HR.out _ HB0.out) HF.out.n HF.out.o HN.out).mono ?_
  rintro e w1 ⟨rfl, hb1⟩
  have HB1 : Hid (Below w.heap.size w w1) := bstep HB0.out hb1
  have HC1 : Hid (GB w1 w.heap.size g _ _) := HC0.out.below HC0.out.1 hb1
  have HZ1 : Hid (GB w1 (w.heap.size + 2) Grp.zero _ _) := HZ0.out.below HZ0.out.1 hb1
  have HX1 : Hid _ := strbox_below HX0.out hb1
  clear sx x0 a0 a1 a2 a3 a4 f1 s1 z1 e0 e1 e2 e3 e4 g1 hb1
  obtain ⟨s1, ⟨a0, a1, a2, a3, a4⟩, f1⟩ := HC1.out
  obtain ⟨z1, ⟨e0, e1, e2, e3, e4⟩, g1⟩ := HZ1.out
  obtain ⟨sx, x0⟩ := HX1.out
  by_cases hf0 : g.flt s = 0
  rotate_left
  · have HV : Hid (g.leave s p = (Grp.zero, g.flt s)) := leave_flt hf0
    have d1 : (g.flt s == 0) = false := by simp [hf0]
    have d2 : (g.flt s != 0) = true := by simp [hf0]
    clear hf0
    generalize g.flt s = fl at *
    have HDN : Hid (FreshG w.heap.size (put5 w1 (w.heap.size + 2) Grp.zero (.slice none 0 0) (.slice none 0 0)) Grp.zero (.slice none 0 0) (.slice none 0 0) nilS ∧ Below w.heap.size w (put5 w1 (w.heap.size + 2) Grp.zero (.slice none 0 0) (.slice none 0 0))) := zero_done2 HB1.out
    go_wp2
    exact bodyPost_ret (v := .tuple #[.agg #[.int .i64 0, .int .i64 0, .int .i64 0, .slice none 0 0, .slice none 0 0], .int .i64 fl]) (by simp [results, Try.results31, go_sem, e0, e1, e2, e3, e4]) rfl ⟨.slice none 0 0, .slice none 0 0, nilS, by simp only [HV.out, Grp.zero], by simp only [HV.out]; exact HDN.out.1, HDN.out.2⟩
  have HFL : Hid (g.flt s = 0) := hf0
  have HMY : Hid (MayG g) := (gflt_zero_iff.1 hf0).1
  rw [HFL.out]
  clear hf0
  go_wp2_with fail
  refine (partsMay_any g p _ _ _).mono ?_
  rintro e w2 ⟨rfl, hb2⟩
  have HB2 : Hid (Below w.heap.size w w2) := bstep HB1.out hb2
  have HC2 : Hid (GB w2 w.heap.size g _ _) := HC1.out.below HC1.out.1 hb2
  have HZ2 : Hid (GB w2 (w.heap.size + 2) Grp.zero _ _) := HZ1.out.below HZ1.out.1 hb2
  have HX2 : Hid _ := strbox_below HX1.out hb2
  clear sx x0 a0 a1 a2 a3 a4 f1 s1 z1 e0 e1 e2 e3 e4 g1 hb2
  obtain ⟨s1, ⟨a0, a1, a2, a3, a4⟩, f1⟩ := HC2.out
  obtain ⟨z1, ⟨e0, e1, e2, e3, e4⟩, g1⟩ := HZ2.out
  obtain ⟨sx, x0⟩ := HX2.out
  cases hcn : g.canB p with
  | false =>
    have HV : Hid (g.leave s p = (Grp.zero, 2)) := leave_can HFL.out hcn
    have HDN : Hid (FreshG w.heap.size (put5 w2 (w.heap.size + 2) Grp.zero (.slice none 0 0) (.slice none 0 0)) Grp.zero (.slice none 0 0) (.slice none 0 0) nilS ∧ Below w.heap.size w (put5 w2 (w.heap.size + 2) Grp.zero (.slice none 0 0) (.slice none 0 0))) := zero_done2 HB2.out
    go_wp2
    exact bodyPost_ret (v := .tuple #[.agg #[.int .i64 0, .int .i64 0, .int .i64 0, .slice none 0 0, .slice none 0 0], .int .i64 2]) (by simp [results, Try.results31, go_sem, e0, e1, e2, e3, e4]) rfl ⟨.slice none 0 0, .slice none 0 0, nilS, by simp only [HV.out, Grp.zero], by simp only [HV.out]; exact HDN.out.1, HDN.out.2⟩
  | true =>
    have HCN : Hid (g.canB p = true) := hcn
    obtain ⟨⟨hp0, hp1⟩, hgn⟩ := canB_iff.1 hcn
    clear hcn
    go_wp2_with fail
    refine (memberOf_any g s _ _ us _ (HR.out _ HB2.out)).mono ?_
    rintro e w3 ⟨rfl, hb3⟩
    have HB3 : Hid (Below w.heap.size w w3) := bstep HB2.out hb3
    have HC3 : Hid (GB w3 w.heap.size g _ _) := HC2.out.below HC2.out.1 hb3
    have HZ3 : Hid (GB w3 (w.heap.size + 2) Grp.zero _ _) := HZ2.out.below HZ2.out.1 hb3
    have HX3 : Hid _ := strbox_below HX2.out hb3
    clear sx x0 a0 a1 a2 a3 a4 f1 s1 z1 e0 e1 e2 e3 e4 g1 hb3
    obtain ⟨s1, ⟨a0, a1, a2, a3, a4⟩, f1⟩ := HC3.out
    obtain ⟨z1, ⟨e0, e1, e2, e3, e4⟩, g1⟩ := HZ3.out
    obtain ⟨sx, x0⟩ := HX3.out
    rcases posG_cases g s with hp | ⟨k, hk, hp, -⟩
    · have HV : Hid (g.leave s p = (Grp.zero, 5)) := leave_none HFL.out HCN.out (by rw [hp]; decide)
      rw [hp]
      clear hp
      have HDN : Hid (FreshG w.heap.size (put5 w3 (w.heap.size + 2) Grp.zero (.slice none 0 0) (.slice none 0 0)) Grp.zero (.slice none 0 0) (.slice none 0 0) nilS ∧ Below w.heap.size w (put5 w3 (w.heap.size + 2) Grp.zero (.slice none 0 0) (.slice none 0 0))) := zero_done2 HB3.out
      go_wp2
      exact bodyPost_ret (v := .tuple #[.agg #[.int .i64 0, .int .i64 0, .int .i64 0, .slice none 0 0, .slice none 0 0], .int .i64 5]) (by simp [results, Try.results31, go_sem, e0, e1, e2, e3, e4]) rfl ⟨.slice none 0 0, .slice none 0 0, nilS, by simp only [HV.out, Grp.zero], by simp only [HV.out]; exact HDN.out.1, HDN.out.2⟩
    have HV : Hid (g.leave s p = ((g.less s).anew p, 0)) := leave_yes HFL.out HCN.out (by rw [hp]; omega)
    rw [hp]
    clear hp
    have d3 : ¬ (k : Int) < 0 := by omega
    have hn6 := HMY.out.n6
    have hgn0 := HMY.out.g0
    have hgn1 : g.gn ≤ 1073741824 := by omega
    have hll := less_len (g := g) (s := s)
    go_wp2_with fail
    refine (without_any g 70 _ (fun m => sameN m.nm s) (enters_of Try.func70 (by kernel_rfl) rfl) _ _ us _ (HR.out _ HB3.out) HF.out (left_fn _ s _ HX3.out.1 HX3.out.2)).mono ?_
    rintro e w5 ⟨v5, o5, us5, rfl, hf5, hb5⟩
    obtain ⟨k5, c5, rfl⟩ := hf5.m.o.shape
    obtain ⟨l5, lc5, rfl⟩ := hf5.o.o.shape
    have HF5 : Hid (FreshG w3.heap.size w5 (g.less s) (.slice k5 (g.less s).ms.length c5) (.slice l5 (g.less s).os.length lc5) us5) := hf5
    have HB5 : Hid (Below w3.heap.size w3 w5) := hb5
    clear hf5 hb5 a0 a1 a2 a3 a4 f1 s1 z1 e0 e1 e2 e3 e4 g1 sx x0
    go_wp2_with fail
    refine (anew_any (g.less s) p _ _ _ _ _ HF5.out (by omega) (by omega) (by omega) (by omega) hgn0 hgn1).mono ?_
    rintro e w8 ⟨us8, rfl, hf8, hg8, hn8⟩
    have HCA : Hid _ := fresh_call HB3.out HZ3.out (by omega) HF5.out HB5.out hg8 hf8 ((g.less s).anew p)
    clear hf8 hg8 hn8
    obtain ⟨z1, ⟨e0, e1, e2, e3, e4⟩, g1⟩ := HCA.out.2.2
    have HDN : Hid _ := (show _ ∧ _ from ⟨HCA.out.1, HCA.out.2.1⟩)
    unfold put5 at HDN
    go_wp2
    exact bodyPost_ret (v := .tuple #[.agg #[.int .i64 g.ck, .int .i64 g.wt, .int .i64 (g.gn + 1), .slice k5 (g.less s).ms.length c5, .slice l5 (g.less s).os.length lc5], .int .i64 0]) (by simp [results, Try.results31, go_sem, e0, e1, e2, e3, e4, Grp.anew, Grp.less, Grp.keep]) rfl ⟨.slice k5 (g.less s).ms.length c5, .slice l5 (g.less s).os.length lc5, us8, by first | (rw [HV.out]; rfl) | (simp only [HV.out, Grp.anew, Grp.less, Grp.keep]; done), by simp only [HV.out]; exact HDN.out.1, HDN.out.2⟩

end Go.Proofs.Ytmkbbhdmfpjfdaa
