/-
  group.Tick and what the document says of it, walked.
-/
import Derived.Test.YtmkbbhdmfpjfdaaGleave
import Derived.Test.YtmkbbhdmfpjfdaaGdelf
namespace Go.Proofs.Ytmkbbhdmfpjfdaa
open Go.RowKit
set_option linter.unusedVariables false
set_option linter.unusedSimpArgs false

/-- Was a member silent for too long, n later? -/
def Grp.silB (g : Grp) (n : Int) (m : Mem) : Bool := decide (m.hd + g.wt ≤ g.ck + n)
/-- Who is left, n later. -/
def Grp.stay (g : Grp) (n : Int) : Grp := { g.keep (g.silB n) with ck := g.ck + n }
def Grp.tk (g : Grp) (n : Int) : Grp := { g with ck := g.ck + n }
def Grp.tick (g : Grp) (n p : Int) : Grp × Int := if g.mayB = false then (Grp.zero, 12) else if inR n 0 1000 = false then (Grp.zero, 2) else if 1073741824 < g.ck + n then (Grp.zero, 2) else if g.canB p = false then (Grp.zero, 2) else if (g.stay n).ms.length < g.ms.length then ((g.stay n).anew p, 0) else (g.stay n, 0)
section
variable {g : Grp} {n p : Int}
theorem tick_may (h : g.mayB = false) : g.tick n p = (Grp.zero, 12) := by unfold Grp.tick; rw [if_pos h]
theorem tick_n (h : g.mayB = true) (h2 : inR n 0 1000 = false) : g.tick n p = (Grp.zero, 2) := by unfold Grp.tick; rw [if_neg (by rw [h]; simp), if_pos h2]
theorem tick_big (h : g.mayB = true) (h2 : inR n 0 1000 = true) (h3 : 1073741824 < g.ck + n) : g.tick n p = (Grp.zero, 2) := by unfold Grp.tick; rw [if_neg (by rw [h]; simp), if_neg (by rw [h2]; simp), if_pos h3]
theorem tick_can (h : g.mayB = true) (h2 : inR n 0 1000 = true) (h3 : g.ck + n ≤ 1073741824) (h4 : g.canB p = false) : g.tick n p = (Grp.zero, 2) := by unfold Grp.tick; rw [if_neg (by rw [h]; simp), if_neg (by rw [h2]; simp), if_neg (by omega), if_pos h4]
theorem tick_out (h : g.mayB = true) (h2 : inR n 0 1000 = true) (h3 : g.ck + n ≤ 1073741824) (h4 : g.canB p = true) (h5 : (g.stay n).ms.length < g.ms.length) : g.tick n p = ((g.stay n).anew p, 0) := by unfold Grp.tick; rw [if_neg (by rw [h]; simp), if_neg (by rw [h2]; simp), if_neg (by omega), if_neg (by rw [h4]; simp), if_pos h5]
theorem tick_in (h : g.mayB = true) (h2 : inR n 0 1000 = true) (h3 : g.ck + n ≤ 1073741824) (h4 : g.canB p = true) (h5 : ¬ (g.stay n).ms.length < g.ms.length) : g.tick n p = (g.stay n, 0) := by unfold Grp.tick; rw [if_neg (by rw [h]; simp), if_neg (by rw [h2]; simp), if_neg (by omega), if_neg (by rw [h4]; simp), if_neg h5]
theorem stay_len : (g.stay n).ms.length ≤ g.ms.length := List.length_filter_le _ _
theorem keep_same {q q' : Mem → Bool} (h : ∀ m ∈ g.ms, q m = q' m) : g.ms.filter (fun m => !q m) = g.ms.filter (fun m => !q' m) := List.filter_congr (fun m hm => by rw [h m hm])
theorem may_mem (h : MayG g) {m : Mem} (hm : m ∈ g.ms) : MemOk g.ck m := by
  obtain ⟨i, hi, rfl⟩ := List.mem_iff_getElem.1 hm
  rw [← at_mem_g hi]
  exact h.ok i hi
end
def silC (ck wt : Int) (m : Mem) : Bool := decide (wt ≤ wrap64 (ck - m.hd))
def silD (g : Grp) (n : Int) (m : Mem) : Bool := decide (wrap64 (m.hd + g.wt) ≤ wrap64 (g.ck + n))
theorem silC_eq {g : Grp} {n : Int} (h : MayG g) (h0 : 0 ≤ n) (h1 : n ≤ 1000) {m : Mem} (hm : m ∈ g.ms) : silC (g.ck + n) g.wt m = g.silB n m := by
  have ho := may_mem h hm
  have h2 := ho.h0
  have h3 := ho.h1
  have h4 := h.c1
  unfold silC Grp.silB
  rw [w64 (g.ck + n - m.hd) (by omega)]
  exact decide_eq_decide.2 (by omega)
theorem silD_eq {g : Grp} {n : Int} (h : MayG g) (h0 : 0 ≤ n) (h1 : n ≤ 1000) {m : Mem} (hm : m ∈ g.ms) : silD g n m = g.silB n m := by
  have ho := may_mem h hm
  have h2 := ho.h0
  have h3 := ho.h1
  have h4 := h.c1
  have h5 := h.w0
  have h6 := h.w1
  unfold silD Grp.silB
  rw [w64 (m.hd + g.wt) (by omega), w64 (g.ck + n) (by omega)]

set_option maxRecDepth 100000 in
set_option maxHeartbeats 1000000 in
theorem silent_any (g : Grp) (vm vo : Value) (w : World) :
    Calls Try.prog 77 #[.agg #[.int .i64 g.ck, .int .i64 g.wt, .int .i64 g.gn, vm, vo]] w fun e w' => e = .returned (.func (.func 92) #[] #[.pointer (some ⟨w.heap.size, 0, none⟩)]) ∧ GB w' w.heap.size g vm vo ∧ Below w.heap.size w w' := by
  have HT : Hid (GB _ w.heap.size g vm vo) := gb_new w g vm vo w.heap.size rfl
  go_enter Try.func77, Try.ntmps77
  go_wp2
  go_ret
  exact ⟨rfl, HT.out, bbox _ _⟩

set_option maxRecDepth 100000 in
set_option maxHeartbeats 1000000 in
theorem silent_fn (b : Nat) (r : Option Nat) (g : Grp) (vm vo : Value) (w : World) (hb : GB w b g vm vo) (hne : r ≠ some b) : PredW (fun W => w.grownBy W r) 92 #[.pointer (some ⟨b, 0, none⟩)] (silC g.ck g.wt) := by
  intro W y u hg
  obtain ⟨hbW, ⟨a0, a1, -, -, -⟩, -⟩ := hb.grown hg hne
  have hne' := Nat.ne_of_lt hbW
  have HE : Hid (silC g.ck g.wt y = decide (g.wt ≤ wrap64 (g.ck - y.hd))) := show _ = _ by rfl
  clear hb hne hg
  show Calls Try.prog 92 #[.agg #[.string y.nm, .int .i64 y.hd, u], .pointer (some ⟨b, 0, none⟩)] W fun e w' => e = .returned (.bool (silC g.ck g.wt y)) ∧ Below W.heap.size W w'
  go_enter Try.func92, Try.ntmps92
  go_wp2
  all_goals
    go_ret
    exact ⟨by rw [HE.out]; first | (simp [*]; done) | (simp [*]; omega), bbox _ _⟩

set_option maxRecDepth 100000 in
set_option maxHeartbeats 1000000 in
theorem tick_fn (b c : Nat) (g : Grp) (vm vo : Value) (n : Int) (w : World) (hb : GB w b g vm vo) (hx : c < w.heap.size ∧ w.cell? ⟨c, 0, none⟩ = some (.int .i64 n)) : PredW (fun W => Below w.heap.size w W) 78 #[.pointer (some ⟨b, 0, none⟩), .pointer (some ⟨c, 0, none⟩)] (silD g n) := by
  intro W y u hbel
  obtain ⟨hbW, ⟨a0, a1, -, -, -⟩, -⟩ := hb.below hb.1 hbel
  obtain ⟨hcW, x0⟩ := strbox_below hx hbel
  have hne' := Nat.ne_of_lt hbW
  have hnc' := Nat.ne_of_lt hcW
  have HE : Hid (silD g n y = decide (wrap64 (y.hd + g.wt) ≤ wrap64 (g.ck + n))) := show _ = _ by rfl
  clear hb hx hbel
  show Calls Try.prog 78 #[.agg #[.string y.nm, .int .i64 y.hd, u], .pointer (some ⟨b, 0, none⟩), .pointer (some ⟨c, 0, none⟩)] W fun e w' => e = .returned (.bool (silD g n y)) ∧ Below W.heap.size W w'
  go_enter Try.func78, Try.ntmps78
  go_wp2
  all_goals
    go_ret
    exact ⟨by rw [HE.out]; first | (simp [*]; done) | (simp [*]; omega), bbox _ _⟩
theorem three_newT (t : TypeId) (w : World) (g : Grp) (vm vo x : Value) : Below w.heap.size w (((w.alloc (.cells #[.int .i64 g.ck, .int .i64 g.wt, .int .i64 g.gn, vm, vo] 25)).alloc (.cells #[x] t)).alloc (.cells #[.int .i64 0, .int .i64 0, .int .i64 0, .slice none 0 0, .slice none 0 0] 25)) ∧ GB (((w.alloc (.cells #[.int .i64 g.ck, .int .i64 g.wt, .int .i64 g.gn, vm, vo] 25)).alloc (.cells #[x] t)).alloc (.cells #[.int .i64 0, .int .i64 0, .int .i64 0, .slice none 0 0, .slice none 0 0] 25)) w.heap.size g vm vo ∧ GB (((w.alloc (.cells #[.int .i64 g.ck, .int .i64 g.wt, .int .i64 g.gn, vm, vo] 25)).alloc (.cells #[x] t)).alloc (.cells #[.int .i64 0, .int .i64 0, .int .i64 0, .slice none 0 0, .slice none 0 0] 25)) (w.heap.size + 2) Grp.zero (.slice none 0 0) (.slice none 0 0) ∧ (w.heap.size + 1 < (((w.alloc (.cells #[.int .i64 g.ck, .int .i64 g.wt, .int .i64 g.gn, vm, vo] 25)).alloc (.cells #[x] t)).alloc (.cells #[.int .i64 0, .int .i64 0, .int .i64 0, .slice none 0 0, .slice none 0 0] 25)).heap.size ∧ (((w.alloc (.cells #[.int .i64 g.ck, .int .i64 g.wt, .int .i64 g.gn, vm, vo] 25)).alloc (.cells #[x] t)).alloc (.cells #[.int .i64 0, .int .i64 0, .int .i64 0, .slice none 0 0, .slice none 0 0] 25)).cell? ⟨w.heap.size + 1, 0, none⟩ = some x) := by
  have e1 : ((w.alloc (.cells #[.int .i64 g.ck, .int .i64 g.wt, .int .i64 g.gn, vm, vo] 25)).alloc (.cells #[x] t)).heap.size = w.heap.size + 2 := by simp
  have s0 := gb_new w g vm vo w.heap.size rfl
  have z0 := gb_new ((w.alloc (.cells #[.int .i64 g.ck, .int .i64 g.wt, .int .i64 g.gn, vm, vo] 25)).alloc (.cells #[x] t)) Grp.zero (.slice none 0 0) (.slice none 0 0) (w.heap.size + 2) e1.symm
  refine ⟨bstep (bstep (bbox _ _) (bbox _ _)) (bbox _ _), (s0.below s0.1 (bbox _ _)).below (s0.below s0.1 (bbox _ _)).1 (bbox _ _), z0, by simp, ?_⟩
  have e2 : ((w.alloc (.cells #[.int .i64 g.ck, .int .i64 g.wt, .int .i64 g.gn, vm, vo] 25)).alloc (.cells #[x] t)).cell? ⟨w.heap.size + 1, 0, none⟩ = some x := by simp [go_sem]
  exact ((bbox ((w.alloc (.cells #[.int .i64 g.ck, .int .i64 g.wt, .int .i64 g.gn, vm, vo] 25)).alloc (.cells #[x] t)) (.cells #[.int .i64 0, .int .i64 0, .int .i64 0, .slice none 0 0, .slice none 0 0] 25)).cell (p := ⟨w.heap.size + 1, 0, none⟩) (by rw [e1]; show w.heap.size + 1 < w.heap.size + 2; omega)).trans e2
/-- The group was handed on, and what comes back is put into its box. -/
theorem Sg.take {w : World} {b z B R : Nat} {W0 : World} {g g' : Grp} {vm vo : Value} {us us' : Nat → Value} {W W' : World} (h : Sg w b z B R W0 g vm vo us W) (hg : W.grownBy W' vm.ownBlock) (hf : FreshG B W' g' vm vo us') (nb : Off g' vm vo us' b) (nz : Off g' vm vo us' z) : Sg w b z B 0 w g' vm vo us' (put5 W' b g' vm vo) :=
  ⟨below_put5 (below_grown h.bel hg h.bel.size (fun k e => by have := (h.own.m.o.blk k e).1; have := h.wB; omega)) h.wb _ _ _, (h.bb.grown hg h.nb.1).put g' vm vo, (h.zz.grown hg h.nz.1).put5 (fun e => h.bz e.symm), hf.put nb _ _ _, nb, nz, h.bz, h.wb, h.wz, h.wB, Nat.zero_le _, fun k hk => by omega⟩
theorem Sg.offBox {w : World} {b z B R : Nat} {W0 : World} {g g' : Grp} {vm vo : Value} {us us' : Nat → Value} {W : World} (h : Sg w b z B R W0 g vm vo us W) (hn : ∀ i, i < g'.ms.length → ∀ c, (us' i).ownBlock = some c → W.heap.size ≤ c) : Off g' vm vo us' b ∧ Off g' vm vo us' z :=
  ⟨⟨h.nb.1, h.nb.2.1, fun i hi e => by have := hn i hi b e; have := h.bb.1; omega⟩, ⟨h.nz.1, h.nz.2.1, fun i hi e => by have := hn i hi z e; have := h.zz.1; omega⟩⟩

set_option maxRecDepth 100000 in
set_option maxHeartbeats 2000000 in
theorem gtick_any (g : Grp) (n : Int) (p : Int) (vm vo : Value) (us : Nat → Value) (w : World) (h : RdG w g vm vo us) (hf : g.fits) :
    Calls Try.prog 38 #[.agg #[.int .i64 g.ck, .int .i64 g.wt, .int .i64 g.gn, vm, vo], .int .i64 n, .int .i64 p] w fun e w' => ∃ vm' vo' us', e = .returned (.tuple #[.agg #[.int .i64 ((g.tick n p).1).ck, .int .i64 ((g.tick n p).1).wt, .int .i64 ((g.tick n p).1).gn, vm', vo'], .int .i64 (g.tick n p).2]) ∧ FreshG w.heap.size w' (g.tick n p).1 vm' vo' us' ∧ Below w.heap.size w w' := by
  obtain ⟨av, cv, rfl, _, _⟩ := h.m.shape
  obtain ⟨ao, co, rfl, _, _⟩ := h.o.shape
  have HR : Hid (∀ W, Below w.heap.size w W → RdG W g (.slice av g.ms.length cv) (.slice ao g.os.length co) us) := fun W hW => h.below (Nat.le_refl _) hW
  have HF : Hid g.fits := hf
  have H0 : Hid _ := two_new w g (.slice av g.ms.length cv) (.slice ao g.os.length co)
  clear h hf
  go_enter Try.func38, Try.ntmps38
  go_upto_region 1 with fail
  generalize (w.alloc (.cells #[.int .i64 g.ck, .int .i64 g.wt, .int .i64 g.gn, .slice av g.ms.length cv, .slice ao g.os.length co] 25)).alloc (.cells #[.int .i64 0, .int .i64 0, .int .i64 0, .slice none 0 0, .slice none 0 0] 25) = W0 at *
  have HB0 : Hid (Below w.heap.size w W0) := H0.out.1
  have HC0 : Hid (GB W0 w.heap.size g _ _) := H0.out.2.1
  have HZ0 : Hid (GB W0 (w.heap.size + 1) Grp.zero (.slice none 0 0) (.slice none 0 0)) := H0.out.2.2
  clear H0
  obtain ⟨s1, ⟨a0, a1, a2, a3, a4⟩, f1⟩ := HC0.out
  obtain ⟨z1, ⟨e0, e1, e2, e3, e4⟩, g1⟩ := HZ0.out
  go_wp2_with fail
  refine (gcheck_any g _ _ us _ (HR.out _ HB0.out) HF.out.n HF.out.o).mono ?_
  rintro e w1 ⟨rfl, hb1⟩
  have HB1 : Hid (Below w.heap.size w w1) := bstep HB0.out hb1
  have HC1 : Hid (GB w1 w.heap.size g _ _) := HC0.out.below HC0.out.1 hb1
  have HZ1 : Hid (GB w1 (w.heap.size + 1) Grp.zero _ _) := HZ0.out.below HZ0.out.1 hb1
  clear a0 a1 a2 a3 a4 f1 s1 z1 e0 e1 e2 e3 e4 g1 hb1
  obtain ⟨s1, ⟨a0, a1, a2, a3, a4⟩, f1⟩ := HC1.out
  obtain ⟨z1, ⟨e0, e1, e2, e3, e4⟩, g1⟩ := HZ1.out
  cases hmb : g.mayB with
  | false =>
    have HV : Hid (g.tick n p = (Grp.zero, 12)) := tick_may hmb
    rw [show g.gfl = 12 by unfold Grp.gfl; rw [hmb]; rfl]
    have HDN : Hid (FreshG w.heap.size (put5 w1 (w.heap.size + 1) Grp.zero (.slice none 0 0) (.slice none 0 0)) Grp.zero (.slice none 0 0) (.slice none 0 0) nilS ∧ Below w.heap.size w (put5 w1 (w.heap.size + 1) Grp.zero (.slice none 0 0) (.slice none 0 0))) := zero_done HB1.out
    go_wp2
    exact bodyPost_ret (v := .tuple #[.agg #[.int .i64 0, .int .i64 0, .int .i64 0, .slice none 0 0, .slice none 0 0], .int .i64 12]) (by simp [results, Try.results38, go_sem, e0, e1, e2, e3, e4]) rfl ⟨.slice none 0 0, .slice none 0 0, nilS, by simp only [HV.out, Grp.zero], by simp only [HV.out]; exact HDN.out.1, HDN.out.2⟩
  | true =>
    have HMB : Hid (g.mayB = true) := hmb
    have HMY : Hid (MayG g) := mayG_iff.1 hmb
    rw [show g.gfl = 0 by unfold Grp.gfl; rw [HMB.out]; rfl]
    clear hmb
    cases hin : inR n 0 1000 with
    | false =>
      have HV : Hid (g.tick n p = (Grp.zero, 2)) := tick_n HMB.out hin
      have HDN : Hid (FreshG w.heap.size (put5 w1 (w.heap.size + 1) Grp.zero (.slice none 0 0) (.slice none 0 0)) Grp.zero (.slice none 0 0) (.slice none 0 0) nilS ∧ Below w.heap.size w (put5 w1 (w.heap.size + 1) Grp.zero (.slice none 0 0) (.slice none 0 0))) := zero_done HB1.out
      go_wp2_with (go_at_call 47; refine (cwithin_any _ _ _ _).mono ?_; rintro e w' ⟨rfl, rfl⟩; rw [hin])
      exact bodyPost_ret (v := .tuple #[.agg #[.int .i64 0, .int .i64 0, .int .i64 0, .slice none 0 0, .slice none 0 0], .int .i64 2]) (by simp [results, Try.results38, go_sem, e0, e1, e2, e3, e4]) rfl ⟨.slice none 0 0, .slice none 0 0, nilS, by simp only [HV.out, Grp.zero], by simp only [HV.out]; exact HDN.out.1, HDN.out.2⟩
    | true =>
      have HIN : Hid (inR n 0 1000 = true) := hin
      obtain ⟨hn0, hn1⟩ := inR_iff.1 hin
      have hc0 := HMY.out.c0
      have hc1 := HMY.out.c1
      by_cases hbig : 1073741824 < g.ck + n
      · have HV : Hid (g.tick n p = (Grp.zero, 2)) := tick_big HMB.out HIN.out hbig
        have HDN : Hid (FreshG w.heap.size (put5 w1 (w.heap.size + 1) Grp.zero (.slice none 0 0) (.slice none 0 0)) Grp.zero (.slice none 0 0) (.slice none 0 0) nilS ∧ Below w.heap.size w (put5 w1 (w.heap.size + 1) Grp.zero (.slice none 0 0) (.slice none 0 0))) := zero_done HB1.out
        go_wp2_with (go_at_call 47; refine (cwithin_any _ _ _ _).mono ?_; rintro e w' ⟨rfl, rfl⟩; rw [hin])
        exact bodyPost_ret (v := .tuple #[.agg #[.int .i64 0, .int .i64 0, .int .i64 0, .slice none 0 0, .slice none 0 0], .int .i64 2]) (by simp [results, Try.results38, go_sem, e0, e1, e2, e3, e4]) rfl ⟨.slice none 0 0, .slice none 0 0, nilS, by simp only [HV.out, Grp.zero], by simp only [HV.out]; exact HDN.out.1, HDN.out.2⟩
      have HBG : Hid (g.ck + n ≤ 1073741824) := show _ ≤ _ by omega
      go_wp2_with (go_at_call 47; refine (cwithin_any _ _ _ _).mono ?_; rintro e w' ⟨rfl, rfl⟩; rw [hin])
      refine (canAssign_any g p _ _ _ HMY.out.g1).mono ?_
      rintro e w2 ⟨rfl, hb2⟩
      have HB2 : Hid (Below w.heap.size w w2) := bstep HB1.out hb2
      have HC2 : Hid (GB w2 w.heap.size g _ _) := HC1.out.below HC1.out.1 hb2
      have HZ2 : Hid (GB w2 (w.heap.size + 1) Grp.zero _ _) := HZ1.out.below HZ1.out.1 hb2
      clear a0 a1 a2 a3 a4 f1 s1 z1 e0 e1 e2 e3 e4 g1 hb2
      obtain ⟨s1, ⟨a0, a1, a2, a3, a4⟩, f1⟩ := HC2.out
      obtain ⟨z1, ⟨e0, e1, e2, e3, e4⟩, g1⟩ := HZ2.out
      clear hin
      cases hcn : g.canB p with
      | false =>
        have HV : Hid (g.tick n p = (Grp.zero, 2)) := tick_can HMB.out HIN.out HBG.out hcn
        have HDN : Hid (FreshG w.heap.size (put5 w2 (w.heap.size + 1) Grp.zero (.slice none 0 0) (.slice none 0 0)) Grp.zero (.slice none 0 0) (.slice none 0 0) nilS ∧ Below w.heap.size w (put5 w2 (w.heap.size + 1) Grp.zero (.slice none 0 0) (.slice none 0 0))) := zero_done HB2.out
        go_wp2
        exact bodyPost_ret (v := .tuple #[.agg #[.int .i64 0, .int .i64 0, .int .i64 0, .slice none 0 0, .slice none 0 0], .int .i64 2]) (by simp [results, Try.results38, go_sem, e0, e1, e2, e3, e4]) rfl ⟨.slice none 0 0, .slice none 0 0, nilS, by simp only [HV.out, Grp.zero], by simp only [HV.out]; exact HDN.out.1, HDN.out.2⟩
      | true =>
        have HCN : Hid (g.canB p = true) := hcn
        obtain ⟨⟨hp0, hp1⟩, hgn⟩ := canB_iff.1 hcn
        clear hcn
        have hn6 := HMY.out.n6
        have hgn0 := HMY.out.g0
        have hgn1 : g.gn ≤ 1073741824 := by omega
        have hll := stay_len (g := g) (n := n)

        go_wp2_with fail
        refine (gcopy_any g _ _ us _ (HR.out _ HB2.out) HF.out).mono ?_
        rintro e w3 ⟨v3, o3, us3, rfl, hf3, hb3⟩
        obtain ⟨g3, c3, rfl⟩ := hf3.m.o.shape
        obtain ⟨p3, q3, rfl⟩ := hf3.o.o.shape
        have HS : Hid (Sg w w.heap.size (w.heap.size + 1) w2.heap.size 0 w g (.slice g3 g.ms.length c3) (.slice p3 g.os.length q3) us3 (put5 w3 w.heap.size g (.slice g3 g.ms.length c3) (.slice p3 g.os.length q3))) := sg_copy HB2.out HC2.out HZ2.out (by omega) (Nat.le_refl _) (by omega) hf3 hb3
        have hC3 := HC2.out.below HC2.out.1 hb3
        have hB1 := HB2.out.size
        have hw1 := HC2.out.1
        have hz1' := HZ2.out.1
        clear a0 a1 a2 a3 a4 f1 s1 z1 e0 e1 e2 e3 e4 g1 hf3 hb3
        obtain ⟨s1, ⟨a0, a1, a2, a3, a4⟩, f1⟩ := hC3
        unfold put5 at HS
        go_upto_region 7 with fail
        generalize (((((w3.setCell ⟨w.heap.size, 0, none⟩ (.int .i64 g.ck)).setCell ⟨w.heap.size, 1, none⟩ (.int .i64 g.wt)).setCell ⟨w.heap.size, 2, none⟩ (.int .i64 g.gn)).setCell ⟨w.heap.size, 3, none⟩ (.slice g3 g.ms.length c3)).setCell ⟨w.heap.size, 4, none⟩ (.slice p3 g.os.length q3)) = W4 at *
        clear a0 a1 a2 a3 a4 f1 s1
        obtain ⟨s1, ⟨a0, a1, a2, a3, a4⟩, f1⟩ := HS.out.bb
        obtain ⟨z1, ⟨e0, e1, e2, e3, e4⟩, g1⟩ := HS.out.zz
        have hbz : w.heap.size ≠ w.heap.size + 1 := by omega
        have HFE : Hid (g.ms.filter (fun m => !silC (g.ck + n) g.wt m) = (g.stay n).ms) := keep_same (fun m hm => silC_eq HMY.out hn0 hn1 hm)
        have HS5 : Hid (Sg w w.heap.size (w.heap.size + 1) w2.heap.size 0 w (g.tk n) (.slice g3 g.ms.length c3) (.slice p3 g.os.length q3) us3 (W4.setCell ⟨w.heap.size, 0, none⟩ (.int .i64 (g.ck + n)))) := HS.out.setCk (g.ck + n)
        go_upto_region 9 with fail
        generalize W4.setCell ⟨w.heap.size, 0, none⟩ (.int .i64 (g.ck + n)) = W5 at *
        clear a0 a1 a2 a3 a4 f1 s1 z1 e0 e1 e2 e3 e4 g1
        obtain ⟨s1, ⟨a0, a1, a2, a3, a4⟩, f1⟩ := (HS5.out.bb.ren rfl rfl rfl : GB W5 w.heap.size (g.tk n) _ _)
        go_cut [] (fun W => Hid (∃ v7 us7, Sg w w.heap.size (w.heap.size + 1) w2.heap.size 0 w (g.stay n) v7 (.slice p3 g.os.length q3) us7 W))
        case first =>
          simp only [Grp.tk] at a0 a1 a2
          go_region_with (first | (go_at_call 77; refine (silent_any (g.tk n) _ _ _).mono ?_; rintro e w6 ⟨rfl, hs6, hb6⟩; have hB6 : Below W5.heap.size W5 w6 := bstep (by repeat (first | exact Below.refl _ _ | refine Below.drew ?_)) hb6; obtain ⟨s16, ⟨-, -, -, a36, -⟩, f16⟩ := HS5.out.bb.below HS5.out.bb.1 hB6) | (go_at_call 76; go_must (refine (deleteFunc_any g.ms us3 w2.heap.size _ _ (silC (g.ck + n) g.wt) (enters_of Try.func92 (by kernel_rfl) rfl) (.slice g3 g.ms.length c3) _ (HS5.out.own.m.below (Nat.le_refl _) (bstep hB6 (by repeat (first | exact Below.refl _ _ | refine Below.drew ?_)))) (by omega) (silent_fn _ _ (g.tk n) _ _ _ hs6 (fun e => by have h9 := (HS5.out.own.m.o.blk _ e).2; simp at h9))).mono ?_; rw [HFE.out]; rintro e w7 ⟨k7, c7, us7, rfl, hob7, ho7, hg7, hix7⟩; have hB6' := HS5.out.below hB6; obtain ⟨r1, ⟨-, -, -, r5, -⟩, r6⟩ := hB6'.bb.grown hg7 hB6'.nb.1)))
          all_goals
            have HX : Hid (∃ v7 us7, Sg w w.heap.size (w.heap.size + 1) w2.heap.size 0 w (g.stay n) v7 (.slice p3 g.os.length q3) us7 (w7.setCell ⟨w.heap.size, 3, none⟩ (.slice k7 (g.stay n).ms.length c7))) := ⟨_, us7, (Sg.rowM hB6' ho7 hg7 (fun c e => .inl (hob7.trans e)) (fun i hi c e => by
              obtain ⟨j, hj, h⟩ := hix7 i hi
              exact .inl ⟨j, hj, h ▸ e⟩)).ren rfl⟩
            go_wp2_with fail
            go_meet
            exact HX
        case rest =>
          rename World => W6
          obtain ⟨v7, us7, hs7⟩ := hcut.out
          obtain ⟨k7, c7, rfl⟩ := hs7.own.m.o.shape
          have HS7 : Hid _ := hs7
          clear a0 a1 a2 a3 a4 f1 s1 hs7 hcut
          obtain ⟨s1, ⟨a0, a1, a2, a3, a4⟩, f1⟩ := HS7.out.bb
          obtain ⟨z1, ⟨e0, e1, e2, e3, e4⟩, g1⟩ := HS7.out.zz
          simp only [Grp.stay, Grp.keep] at a0 a1 a2
          by_cases hlt : (g.stay n).ms.length < g.ms.length
          · have HV : Hid (g.tick n p = ((g.stay n).anew p, 0)) := tick_out HMB.out HIN.out HBG.out HCN.out hlt
            have d5 : (((g.stay n).ms.length : Int) == (g.ms.length : Int)) = false := by simp; omega
            go_wp2_with fail
            refine (assignAnew_any (g.stay n) p _ _ _ _ _ HS7.out.own (by omega) (by omega) (by omega) (by omega) hgn0 hgn1).mono ?_
            rintro e w8 ⟨us8, rfl, hf8, hg8, hn8⟩
            have HCA : Hid _ := HS7.out.call hg8 hf8 ⟨HS7.out.nz.1, HS7.out.nz.2.1, fun i hi e => by
              rw [anew_len] at hi
              have h1 := hn8 i hi _ e
              have h2 := HS7.out.zz.1
              omega⟩ (((g.stay n)).anew p)
            clear a0 a1 a2 a3 a4 f1 s1 z1 e0 e1 e2 e3 e4 g1 hf8 hg8 hn8
            obtain ⟨z1, ⟨e0, e1, e2, e3, e4⟩, g1⟩ := HCA.out.2.2
            have HDN : Hid _ := (show _ ∧ _ from ⟨HCA.out.1, HCA.out.2.1⟩)
            unfold put5 at HDN
            go_wp2
            exact bodyPost_ret (v := .tuple #[.agg #[.int .i64 ((g.stay n)).ck, .int .i64 ((g.stay n)).wt, .int .i64 (((g.stay n)).gn + 1), .slice k7 (g.stay n).ms.length c7, .slice p3 g.os.length q3], .int .i64 0]) (by simp [results, Try.results38, go_sem, e0, e1, e2, e3, e4, Grp.anew, Grp.stay, Grp.keep]) rfl ⟨.slice k7 (g.stay n).ms.length c7, .slice p3 g.os.length q3, us8, by first | (rw [HV.out]; rfl) | (simp only [HV.out, Grp.anew, Grp.stay, Grp.keep]; done), by simp only [HV.out]; exact HDN.out.1, HDN.out.2⟩
          · have HV : Hid (g.tick n p = (g.stay n, 0)) := tick_in HMB.out HIN.out HBG.out HCN.out hlt
            have d5 : (((g.stay n).ms.length : Int) == (g.ms.length : Int)) = true := by simp; omega
            have HDN : Hid _ := HS7.out.done (g.stay n)
            unfold put5 at HDN
            go_wp2
            exact bodyPost_ret (v := .tuple #[.agg #[.int .i64 (g.ck + n), .int .i64 g.wt, .int .i64 g.gn, .slice k7 (g.stay n).ms.length c7, .slice p3 g.os.length q3], .int .i64 0]) (by simp [results, Try.results38, go_sem, a0, a1, a2, a3, a4, e0, e1, e2, e3, e4, Grp.stay, Grp.keep]) rfl ⟨.slice k7 (g.stay n).ms.length c7, .slice p3 g.os.length q3, us7, by first | (rw [HV.out]; rfl) | (simp only [HV.out, Grp.stay, Grp.keep]; done), by simp only [HV.out]; exact HDN.out.1, HDN.out.2⟩

end Go.Proofs.Ytmkbbhdmfpjfdaa
