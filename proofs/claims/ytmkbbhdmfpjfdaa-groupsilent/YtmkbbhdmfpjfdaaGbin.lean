/-
  cmp.Compare of numbers; slices.BinarySearchFunc over offsets; group.findOffset.
-/
import Derived.Test.YtmkbbhdmfpjfdaaGfind
import Derived.Shelf.Abstract
namespace Go.Proofs.Ytmkbbhdmfpjfdaa
open Go.RowKit
set_option linter.unusedVariables false
set_option linter.unusedSimpArgs false

/-- Is the number among them? -/
def hasI (l : List Int) (p : Int) : Bool := l.contains p
def cmpV (a b : Int) : Int := if a < b then -1 else if b < a then 1 else 0

set_option maxRecDepth 100000 in
set_option maxHeartbeats 1000000 in
theorem isNaN_any (a : Int) (w : World) : Calls Try.prog 96 #[.int .i64 a] w fun e w' => e = .returned (.bool false) ∧ w' = w := by
  have h : (a != a) = false := by simp
  go_enter Try.func96, Try.ntmps96
  go_wp2
  go_ret
  exact ⟨rfl, rfl⟩

set_option maxRecDepth 100000 in
set_option maxHeartbeats 1000000 in
theorem cmpInt_any (a b : Int) (w : World) : Calls Try.prog 89 #[.int .i64 a, .int .i64 b] w fun e w' => e = .returned (.int .i64 (cmpV a b)) ∧ w' = w := by
  rcases Int.lt_trichotomy a b with h | h | h
  · have HE : Hid (cmpV a b = -1) := show _ = _ by unfold cmpV; rw [if_pos h]
    go_enter Try.func89, Try.ntmps89
    go_wp2_with (go_at_call 96; refine (isNaN_any _ _).mono ?_; rintro e w' ⟨rfl, rfl⟩)
    go_ret
    exact ⟨by rw [HE.out]; rfl, rfl⟩
  · subst h
    have HE : Hid (cmpV a a = 0) := show _ = _ by unfold cmpV; rw [if_neg (by omega), if_neg (by omega)]
    have d1 : ¬ a < a := by omega
    go_enter Try.func89, Try.ntmps89
    go_wp2_with (go_at_call 96; refine (isNaN_any _ _).mono ?_; rintro e w' ⟨rfl, rfl⟩)
    go_ret
    exact ⟨by rw [HE.out]; rfl, rfl⟩
  · have HE : Hid (cmpV a b = 1) := show _ = _ by unfold cmpV; rw [if_neg (by omega), if_pos h]
    have d1 : ¬ a < b := by omega
    go_enter Try.func89, Try.ntmps89
    go_wp2_with (go_at_call 96; refine (isNaN_any _ _).mono ?_; rintro e w' ⟨rfl, rfl⟩)
    go_ret
    exact ⟨by rw [HE.out]; rfl, rfl⟩

set_option maxRecDepth 100000 in
set_option maxHeartbeats 1000000 in
theorem cmpO_any (x : Ofs) (p : Int) (w : World) : Calls Try.prog 88 #[.agg #[.int .i64 x.pt, .int .i64 x.pl], .int .i64 p] w fun e w' => e = .returned (.int .i64 (cmpV x.pt p)) ∧ Below w.heap.size w w' := by
  go_enter Try.func88, Try.ntmps88
  go_wp2_with (go_at_call 89; refine (cmpInt_any _ _ _).mono ?_; rintro e w' ⟨rfl, rfl⟩)
  go_ret
  exact ⟨rfl, bbox _ _⟩

theorem below_eq {l : List Int} {p : Int} {i : Nat} (hi : i ≤ l.length) (h1 : ∀ j, j < i → l.getD j 0 < p) (h2 : ∀ j, i ≤ j → j < l.length → ¬ l.getD j 0 < p) : below l p = i := by
  unfold below
  rw [← List.take_append_drop i l, List.filter_append, List.length_append]
  have e1 : (l.take i).filter (fun q => decide (q < p)) = l.take i := by
    rw [List.filter_eq_self]
    intro q hq
    obtain ⟨j, hj, rfl⟩ := List.mem_iff_getElem.1 hq
    rw [List.length_take] at hj
    have := h1 j (by omega)
    rw [List.getElem_take]
    simpa [List.getD, show j < l.length by omega] using this
  have e2 : (l.drop i).filter (fun q => decide (q < p)) = [] := by
    rw [List.filter_eq_nil_iff]
    intro q hq
    obtain ⟨j, hj, rfl⟩ := List.mem_iff_getElem.1 hq
    rw [List.length_drop] at hj
    have := h2 (i + j) (by omega) (by omega)
    rw [List.getElem_drop]
    simpa [List.getD, show i + j < l.length by omega] using this
  rw [e1, e2, List.length_take]
  simp
  omega
theorem below_has {l : List Int} {p : Int} (h : riseB l = true) : l.contains p = (decide (below l p < l.length) && (l.getD (below l p) 0 == p)) := by
  cases hc : l.contains p with
  | true =>
    rw [List.contains_iff_mem] at hc
    have := rise_cases h
    simp only [List.mem_cons, List.not_mem_nil, or_false] at this
    rcases this with rfl | rfl | rfl | rfl | rfl | rfl | rfl | rfl | rfl | rfl | rfl | rfl | rfl | rfl | rfl | rfl <;> simp only [List.mem_cons, List.not_mem_nil, or_false] at hc
    all_goals first | (exact hc.elim) | (rcases hc with rfl | rfl | rfl | rfl <;> decide) | (rcases hc with rfl | rfl | rfl <;> decide) | (rcases hc with rfl | rfl <;> decide) | (subst hc; decide)
  | false =>
    symm
    rw [Bool.and_eq_false_iff]
    by_cases h1 : below l p < l.length
    · right
      rw [beq_eq_false_iff_ne]
      intro e
      have : l.contains p = true := by
        rw [List.contains_iff_mem, ← e]
        simp [List.getD, h1]
      rw [this] at hc
      cases hc
    · left
      exact decide_eq_false h1
theorem rise_sorted {l : List Int} (h : riseB l = true) : l.Pairwise (· ≤ ·) := by
  have := rise_cases h
  simp only [List.mem_cons, List.not_mem_nil, or_false] at this
  rcases this with rfl | rfl | rfl | rfl | rfl | rfl | rfl | rfl | rfl | rfl | rfl | rfl | rfl | rfl | rfl | rfl <;> decide
theorem rise_mono {l : List Int} (h : riseB l = true) {i j : Nat} (hij : i ≤ j) (hj : j < l.length) : l.getD i 0 ≤ l.getD j 0 := by
  have := rise_sorted h
  rw [List.pairwise_iff_getElem] at this
  rcases Nat.lt_or_ge i j with h1 | h1
  · have h2 := this i j (by omega) hj h1
    simpa [List.getD, show i < l.length by omega, hj] using h2
  · have : i = j := by omega
    subst this
    exact Int.le_refl _
theorem pts_get (os : List Ofs) (i : Nat) (h : i < os.length) : (os.map Ofs.pt).getD i 0 = (os.getD i zeroO).pt := by
  simp [List.getD, h]
theorem mids {i j : Nat} (h : i < j) (hj : j ≤ 4) : (i = 0 ∧ j = 1) ∨ (i = 0 ∧ j = 2) ∨ (i = 0 ∧ j = 3) ∨ (i = 0 ∧ j = 4) ∨ (i = 1 ∧ j = 2) ∨ (i = 1 ∧ j = 3) ∨ (i = 1 ∧ j = 4) ∨ (i = 2 ∧ j = 3) ∨ (i = 2 ∧ j = 4) ∨ (i = 3 ∧ j = 4) := by omega
theorem cmpV_lt (a b : Int) : decide (cmpV a b < 0) = decide (a < b) := by
  unfold cmpV
  by_cases h : a < b
  · rw [if_pos h]; simp [h]
  · rw [if_neg h]
    by_cases h2 : b < a
    · rw [if_pos h2]; simp; omega
    · rw [if_neg h2]; simp; omega
theorem cmpV_eq (a b : Int) : (cmpV a b == 0) = (a == b) := by
  unfold cmpV
  by_cases h : a < b
  · rw [if_pos h]; simp; omega
  · rw [if_neg h]
    by_cases h2 : b < a
    · rw [if_pos h2]; simp; omega
    · rw [if_neg h2]; simp; omega
/-- In the midst of the search. -/
def Mid (ps : List Int) (p : Int) (i j : Nat) : Prop := i ≤ j ∧ j ≤ ps.length ∧ (∀ k, k < i → ps.getD k 0 < p) ∧ (∀ k, j ≤ k → k < ps.length → ¬ ps.getD k 0 < p)
theorem mid_up {ps : List Int} {p : Int} {i j h : Nat} (hm : Mid ps p i j) (hr : riseB ps = true) (h1 : i ≤ h) (h2 : h < j) (hl : ps.getD h 0 < p) : Mid ps p (h + 1) j :=
  ⟨by omega, hm.2.1, fun k hk => Int.lt_of_le_of_lt (rise_mono hr (show k ≤ h by omega) (by have := hm.2.1; omega)) hl, hm.2.2.2⟩
theorem mid_down {ps : List Int} {p : Int} {i j h : Nat} (hm : Mid ps p i j) (hr : riseB ps = true) (h1 : i ≤ h) (h2 : h < j) (hl : ¬ ps.getD h 0 < p) : Mid ps p i h :=
  ⟨h1, by have := hm.2.1; omega, hm.2.2.1, fun k hk hkl e => hl (Int.lt_of_le_of_lt (rise_mono hr hk hkl) e)⟩

set_option maxRecDepth 100000 in
set_option maxHeartbeats 4000000 in
theorem binO_any (os : List Ofs) (p : Int) (v : Value) (w : World) (h : RdW ofsE w v os nilS) (hr : riseB (os.map Ofs.pt) = true) :
    Calls Try.prog 87 #[v, .int .i64 p, .func (.func 88) #[] #[]] w fun e w' => e = .returned (.tuple #[.int .i64 (below (os.map Ofs.pt) p : Nat), .bool (hasI (os.map Ofs.pt) p)]) ∧ Below w.heap.size w w' := by
  obtain ⟨ao, cap, rfl, h1, h2⟩ := h.shape
  have H : Hid (∀ W, Below w.heap.size w W → RdW ofsE W (.slice ao os.length cap) os nilS) := fun W hW => RdW.below (E := ofsE) (by decide) h (Nat.le_refl _) hW
  have HRI : Hid (riseB (os.map Ofs.pt) = true) := hr
  have hl4 : os.length ≤ 4 := by have := rise_len hr; rwa [List.length_map] at this
  have HPL : Hid ((os.map Ofs.pt).length = os.length) := show _ = _ from List.length_map ..
  have HPG : Hid (∀ i, i < os.length → (os.map Ofs.pt).getD i 0 = (os.getD i zeroO).pt) := fun i hi => pts_get os i hi
  generalize hps : os.map Ofs.pt = ps at *
  clear h hr h1 h2 hps
  go_enter Try.func87, Try.ntmps87
  go_wp2
  go_loopw [9, 10] (fun iv jv wr => ∃ i j : Nat, iv = .int .i64 i ∧ jv = .int .i64 j ∧ Hid (Mid ps p i j) ∧ Hid (Below w.heap.size w wr)) (fun iv jv _ => (intOf jv).toNat - (intOf iv).toNat)
  case atStart => exact ⟨0, os.length, rfl, rfl, ⟨by omega, by rw [HPL.out]; exact Nat.le_refl _, fun k hk => by omega, fun k hk hkl => by rw [HPL.out] at hkl; omega⟩, Below.refl _ _⟩
  case round =>
    obtain ⟨i, j, rfl, rfl, HM, HB⟩ := hrel
    have hij : i ≤ j := HM.out.1
    have hjl : j ≤ os.length := by have := HM.out.2.1; rwa [HPL.out] at this
    by_cases hlt : i < j
    · obtain ⟨h, hh1, hh2, hmid⟩ : ∃ h : Nat, i ≤ h ∧ h < j ∧ h = (i + j) / 2 := ⟨(i + j) / 2, by omega, by omega, rfl⟩
      have hhl : h < os.length := by omega
      obtain ⟨b, off, x, rfl, HX, -, q0, q1⟩ : ∃ b off x, ao = some ⟨b, off, none⟩ ∧ Hid (os.getD h zeroO = x) ∧ b < wr.heap.size ∧ OBox wr b (off + h * 2) x := by
        obtain ⟨b, off, e, hb⟩ := RdW.ofs (H.out wr HB.out) h hhl
        exact ⟨b, off, _, e, (show _ = _ by simp [List.getD, hhl]), cell_lt hb.1, hb⟩
      have HXP : Hid (ps.getD h 0 = x.pt) := show _ = _ by rw [HPG.out h hhl, HX.out]
      by_cases hc : x.pt < p
      · have HN : Hid (Mid ps p (h + 1) j) := mid_up HM.out HRI.out hh1 hh2 (by rw [HXP.out]; exact hc)
        have d1 : decide (cmpV x.pt p < 0) = true := by rw [cmpV_lt]; simp [hc]
        clear hc
        rcases mids hlt (by omega) with ⟨rfl, rfl⟩ | ⟨rfl, rfl⟩ | ⟨rfl, rfl⟩ | ⟨rfl, rfl⟩ | ⟨rfl, rfl⟩ | ⟨rfl, rfl⟩ | ⟨rfl, rfl⟩ | ⟨rfl, rfl⟩ | ⟨rfl, rfl⟩ | ⟨rfl, rfl⟩
        all_goals
          simp at hmid
          subst hmid
          simp at q0 q1
          have hhv : (0 : Int) < os.length := by omega
          go_wp2_with fail
          refine (cmpO_any x p _).mono ?_
          rintro e w5 ⟨rfl, hb5⟩
          have HB5 : Hid (Below w.heap.size w w5) := bstep HB.out hb5
          clear hb5 q0 q1
          go_wp2
          go_roundw
          case rel => exact ⟨_, _, by go_num, by go_num, HN, HB5⟩
          case measure => simp [intOf]
      · have HN : Hid (Mid ps p i h) := mid_down HM.out HRI.out hh1 hh2 (by rw [HXP.out]; exact hc)
        have d1 : decide (cmpV x.pt p < 0) = false := by rw [cmpV_lt]; simp; omega
        clear hc
        rcases mids hlt (by omega) with ⟨rfl, rfl⟩ | ⟨rfl, rfl⟩ | ⟨rfl, rfl⟩ | ⟨rfl, rfl⟩ | ⟨rfl, rfl⟩ | ⟨rfl, rfl⟩ | ⟨rfl, rfl⟩ | ⟨rfl, rfl⟩ | ⟨rfl, rfl⟩ | ⟨rfl, rfl⟩
        all_goals
          simp at hmid
          subst hmid
          simp at q0 q1
          have hhv : (0 : Int) < os.length := by omega
          go_wp2_with fail
          refine (cmpO_any x p _).mono ?_
          rintro e w5 ⟨rfl, hb5⟩
          have HB5 : Hid (Below w.heap.size w w5) := bstep HB.out hb5
          clear hb5 q0 q1
          go_wp2
          go_roundw
          case rel => exact ⟨_, _, by go_num, by go_num, HN, HB5⟩
          case measure => simp [intOf]
    · have hje : j = i := by omega
      subst hje
      have HBE : Hid (below ps p = j) := below_eq (by rw [HPL.out]; exact hjl) HM.out.2.2.1 HM.out.2.2.2
      have HC : Hid (hasI ps p = (decide (j < ps.length) && (ps.getD j 0 == p))) := show _ = _ by unfold hasI; rw [below_has HRI.out, HBE.out]
      by_cases hjn : j < os.length
      · obtain ⟨b, off, x, rfl, HX, -, q0, q1⟩ : ∃ b off x, ao = some ⟨b, off, none⟩ ∧ Hid (os.getD j zeroO = x) ∧ b < wr.heap.size ∧ OBox wr b (off + j * 2) x := by
          obtain ⟨b, off, e, hb⟩ := RdW.ofs (H.out wr HB.out) j hjn
          exact ⟨b, off, _, e, (show _ = _ by simp [List.getD, hjn]), cell_lt hb.1, hb⟩
        have HF : Hid (hasI ps p = (cmpV x.pt p == 0)) := show _ = _ by
          rw [HC.out, HPL.out, decide_eq_true hjn, Bool.true_and, HPG.out j hjn, HX.out, cmpV_eq]
        have hjv : (j : Int) < os.length := by omega
        have d0 : decide ((j : Int) < os.length) = true := by simp; omega
        go_wp2_with fail
        refine (cmpO_any x p _).mono ?_
        rintro e w5 ⟨rfl, hb5⟩
        have HB5 : Hid (Below w.heap.size w w5) := bstep HB.out hb5
        clear hb5 q0 q1
        go_wp2
        go_ret2
        exact ⟨by rw [HBE.out, HF.out]; rfl, HB5.out⟩
      · have HF : Hid (hasI ps p = false) := show _ = _ by rw [HC.out, HPL.out, decide_eq_false hjn]; rfl
        have d0 : decide ((j : Int) < os.length) = false := by simp; omega
        have hjv : ¬ (j : Int) < os.length := by omega
        go_wp2
        go_ret2
        exact ⟨by rw [HBE.out, HF.out]; rfl, HB.out⟩

set_option maxRecDepth 100000 in
set_option maxHeartbeats 1000000 in
theorem findOffset_any (g : Grp) (p : Int) (vm vo : Value) (us : Nat → Value) (w : World) (h : RdG w g vm vo us) (hr : riseB (g.os.map Ofs.pt) = true) :
    Calls Try.prog 73 #[.agg #[.int .i64 g.ck, .int .i64 g.wt, .int .i64 g.gn, vm, vo], .int .i64 p] w fun e w' => e = .returned (.tuple #[.int .i64 (below (g.os.map Ofs.pt) p : Nat), .bool (hasI (g.os.map Ofs.pt) p)]) ∧ Below w.heap.size w w' := by
  obtain ⟨av, cv, rfl, _, _⟩ := h.m.shape
  obtain ⟨ao, co, rfl, _, _⟩ := h.o.shape
  have HR : Hid (∀ W, Below w.heap.size w W → RdG W g (.slice av g.ms.length cv) (.slice ao g.os.length co) us) := fun W hW => h.below (Nat.le_refl _) hW
  have HRI : Hid _ := hr
  clear h hr
  go_enter Try.func73, Try.ntmps73
  go_wp2_with fail
  refine (binO_any g.os p _ _ (HR.out _ (bbox _ _)).o HRI.out).mono ?_
  rintro e w1 ⟨rfl, hb1⟩
  have HB1 : Hid (Below w.heap.size w w1) := bstep (bbox _ _) hb1
  clear hb1
  obtain ⟨bb, hbb⟩ : ∃ b, hasI (g.os.map Ofs.pt) p = b := ⟨_, rfl⟩
  obtain ⟨bn, hbn⟩ : ∃ b, below (g.os.map Ofs.pt) p = b := ⟨_, rfl⟩
  have HBB : Hid (hasI (g.os.map Ofs.pt) p = bb) := hbb
  have HBN : Hid (below (g.os.map Ofs.pt) p = bn) := hbn
  rw [hbb, hbn]
  clear hbb hbn
  go_wp2
  go_ret2
  exact ⟨by rw [HBB.out, HBN.out]; rfl, HB1.out⟩

end Go.Proofs.Ytmkbbhdmfpjfdaa
