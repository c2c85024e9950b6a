/-
  Where a member stands, and what is refused to one that is none: the code's findNamed and findOfGen, the document's groupFault, memberOf and hereFault; slices.Index and Contains of numbers.
-/
import Derived.Test.YtmkbbhdmfpjfdaaGsame
import Derived.Test.YtmkbbhdmfpjfdaaGmay2
namespace Go.Proofs.Ytmkbbhdmfpjfdaa
open Go.RowKit
set_option linter.unusedVariables false
set_option linter.unusedSimpArgs false

def posI (l : List Int) (p : Int) : Int := scan (fun i => l.getD i 0 = p) l.length 0
theorem posI_no {l : List Int} {p : Int} (h : l.contains p = false) : posI l p = -1 := by
  unfold posI
  rcases scan_cases (P := fun i => l.getD i 0 = p) l.length 0 with e | ⟨k, _, h2, h3, _⟩
  · exact e
  · exfalso
    have hk : k < l.length := by omega
    rw [← h3, List.getD_eq_getElem?_getD, List.getElem?_eq_getElem hk] at h
    simp at h
theorem posI_yes {l : List Int} {p : Int} (h : l.contains p = true) : ∃ k, k < l.length ∧ posI l p = (k : Int) ∧ l.getD k 0 = p := by
  unfold posI
  rcases scan_cases (P := fun i => l.getD i 0 = p) l.length 0 with e | ⟨k, _, h2, h3, _, h5⟩
  · exfalso
    have hn := scan_none.1 (show scan (fun i => l.getD i 0 = p) l.length 0 < 0 by omega)
    rw [List.contains_iff_mem] at h
    obtain ⟨i, hi, he⟩ := List.getElem_of_mem h
    refine hn i (Nat.zero_le _) (by omega) ?_
    simp [List.getD, hi, he]
  · exact ⟨k, by omega, h5, h3⟩
theorem rise_len {l : List Int} (h : riseB l = true) : l.length ≤ 4 := by
  have := rise_cases h
  simp only [List.mem_cons, List.not_mem_nil, or_false] at this
  rcases this with rfl | rfl | rfl | rfl | rfl | rfl | rfl | rfl | rfl | rfl | rfl | rfl | rfl | rfl | rfl | rfl <;> decide

set_option maxRecDepth 100000 in
set_option maxHeartbeats 1000000 in
theorem index_any (l : List Int) (p : Int) (v : Value) (w : World) (hr : RdV w v (ints l)) (hl : l.length ≤ 4) :
    Calls Try.prog 79 #[v, .int .i64 p] w fun e w' => e = .returned (.int .i64 (posI l p)) ∧ Below w.heap.size w w' := by
  obtain ⟨ao, cap, hv, h1, h2, h4, h3⟩ := hr
  rw [ints_len] at hv h1
  subst hv
  have HG : Hid (0 < l.length → ∃ g off, ao = some ⟨g, off, none⟩ ∧ ∀ i, (h : i < l.length) → w.cell? ⟨g, off + i, none⟩ = some (.int .i64 (l.getD i 0))) := fun h0 => by
    obtain ⟨g, off, e, hg⟩ := h3 (by rw [ints_len]; exact h0)
    refine ⟨g, off, e, fun i hi => ?_⟩
    rw [hg i (by rw [ints_len]; exact hi)]
    simp [ints, List.getD, hi]
  clear h1 h2 h3 h4
  go_enter Try.func79, Try.ntmps79
  go_wp2
  go_loopw [8] (fun i wr => ∃ k : Nat, k ≤ l.length ∧ i = .int .i64 k ∧ Hid (∀ j, j < k → ¬ l.getD j 0 = p) ∧ Hid (Below w.heap.size w wr)) (fun i _ => l.length - (intOf i).toNat)
  case atStart => exact ⟨0, Nat.zero_le _, rfl, (fun j hj => by omega), Below.refl _ _⟩
  case round =>
    obtain ⟨k, hk, rfl, HN, HB⟩ := hrel
    by_cases hlt : k < l.length
    · obtain ⟨g, off, rfl, hg⟩ := HG.out (by omega)
      have hkv : (k : Int) < l.length := by omega
      have c0 := (HB.out.cell (p := ⟨g, off + k, none⟩) (cell_lt (hg k hlt))).trans (hg k hlt)
      clear hg
      by_cases he : l.getD k 0 = p
      · have HV : Hid (posI l p = k) := scan_some (by omega) (by omega) he (fun j _ hj => HN.out j hj)
        have d1 : (p == l.getD k 0) = true := by rw [he]; simp
        clear he
        generalize l.getD k 0 = y at *
        go_wp2
        all_goals
          go_ret
          exact ⟨by rw [HV.out]; rfl, HB.out⟩
      · have HM : Hid (∀ j, j < k + 1 → ¬ l.getD j 0 = p) := fun j hj => by
          by_cases e : j = k
          · rw [e]; exact he
          · exact HN.out j (by omega)
        have d1 : (p == l.getD k 0) = false := by rw [beq_eq_false_iff_ne]; exact fun h => he h.symm
        clear he
        generalize l.getD k 0 = y at *
        go_wp2
        all_goals
          go_roundw
          case rel => exact ⟨k + 1, by omega, by go_num, HM, HB⟩
          case measure => simp [intOf]; omega
    · have hke : k = l.length := by omega
      have HV : Hid (posI l p = -1) := show _ = _ by
        unfold posI
        rcases scan_cases (P := fun i => l.getD i 0 = p) l.length 0 with h0 | ⟨j, _, j2, j3, _⟩
        · exact h0
        · exact absurd j3 (HN.out j (by omega))
      clear hke
      go_wp2
      all_goals
        go_ret
        exact ⟨by rw [HV.out]; rfl, HB.out⟩

set_option maxRecDepth 100000 in
set_option maxHeartbeats 1000000 in
theorem containsI_any (l : List Int) (p : Int) (v : Value) (w : World) (h : RdV w v (ints l)) (hl : l.length ≤ 4) :
    Calls Try.prog 46 #[v, .int .i64 p] w fun e w' => e = .returned (.bool (decide (0 ≤ posI l p))) ∧ Below w.heap.size w w' := by
  have HI := index_any l p v w h hl
  generalize posI l p = n at *
  obtain ⟨ao, cap, rfl, hll⟩ := h.intShape
  clear h
  go_enter Try.func46, Try.ntmps46
  go_wp2_with fail
  refine HI.mono ?_
  rintro e w' ⟨rfl, hb⟩
  by_cases h : 0 ≤ n
  · go_wp2
    go_ret
    exact ⟨by simp [h], hb⟩
  · go_wp2
    go_ret
    exact ⟨by simp [h], hb⟩
theorem posI_has (l : List Int) (p : Int) : decide (0 ≤ posI l p) = l.contains p := by
  cases h : l.contains p with
  | false => rw [posI_no h]; rfl
  | true =>
    obtain ⟨k, _, e, _⟩ := posI_yes h
    rw [e]; simp

theorem posG_cases (g : Grp) (s : ByteArray) : g.pos s = -1 ∨ ∃ k, k < g.ms.length ∧ g.pos s = (k : Int) ∧ (g.at k).nm = s := by
  unfold Grp.pos
  rcases scan_cases (P := fun i => sameN (g.at i).nm s = true) g.ms.length 0 with h | ⟨k, _, h2, h3, _, h4⟩
  · exact .inl h
  · exact .inr ⟨k, by omega, h4, sameN_iff.1 h3⟩
/-- Where a name is found; -1 where it is refused. -/
def Grp.fnd (g : Grp) (s : ByteArray) : Int := if g.flt s = 0 then g.pos s else -1
/-- What is refused to who is no member of the generation. -/
def Grp.hfl (g : Grp) (s : ByteArray) (n : Int) : Int := if g.flt s ≠ 0 then g.flt s else if g.pos s < 0 then 5 else if g.gn = n then 0 else 10
def Grp.fndG (g : Grp) (s : ByteArray) (n : Int) : Int := if g.hfl s n = 0 then g.pos s else -1
theorem gflt_may {g : Grp} {s : ByteArray} (h : g.mayB = false) : g.flt s = 12 := by unfold Grp.flt; rw [h]; rfl
theorem gflt_name {g : Grp} {s : ByteArray} (h : g.mayB = true) (h2 : nameB s = false) : g.flt s = 4 := by unfold Grp.flt; rw [h, h2]; rfl
theorem gflt_ok {g : Grp} {s : ByteArray} (h : g.mayB = true) (h2 : nameB s = true) : g.flt s = 0 := by unfold Grp.flt; rw [h, h2]; rfl
theorem hfl_flt {g : Grp} {s : ByteArray} {n : Int} (h : g.flt s ≠ 0) : g.hfl s n = g.flt s ∧ g.fndG s n = -1 := by
  have e : g.hfl s n = g.flt s := by unfold Grp.hfl; rw [if_pos h]
  exact ⟨e, by unfold Grp.fndG; rw [e, if_neg h]⟩
theorem hfl_none {g : Grp} {s : ByteArray} {n : Int} (h : g.flt s = 0) (h2 : g.pos s < 0) : g.hfl s n = 5 ∧ g.fndG s n = -1 := by
  have e : g.hfl s n = 5 := by unfold Grp.hfl; rw [if_neg (by rw [h]; simp), if_pos h2]
  exact ⟨e, by unfold Grp.fndG; rw [e]; rfl⟩
theorem hfl_gen {g : Grp} {s : ByteArray} {n : Int} (h : g.flt s = 0) (h2 : 0 ≤ g.pos s) (h3 : g.gn ≠ n) : g.hfl s n = 10 ∧ g.fndG s n = -1 := by
  have e : g.hfl s n = 10 := by unfold Grp.hfl; rw [if_neg (by rw [h]; simp), if_neg (by omega), if_neg h3]
  exact ⟨e, by unfold Grp.fndG; rw [e]; rfl⟩
theorem hfl_ok {g : Grp} {s : ByteArray} {n : Int} (h : g.flt s = 0) (h2 : 0 ≤ g.pos s) (h3 : g.gn = n) : g.hfl s n = 0 ∧ g.fndG s n = g.pos s := by
  have e : g.hfl s n = 0 := by unfold Grp.hfl; rw [if_neg (by rw [h]; simp), if_neg (by omega), if_pos h3]
  exact ⟨e, by unfold Grp.fndG; rw [e]; rfl⟩
theorem hfl_zero {g : Grp} {s : ByteArray} {n : Int} (h : g.hfl s n = 0) : MayG g ∧ nameB s = true ∧ (∃ k, k < g.ms.length ∧ g.pos s = (k : Int) ∧ (g.at k).nm = s) ∧ g.gn = n ∧ g.fndG s n = g.pos s := by
  unfold Grp.hfl at h
  by_cases h1 : g.flt s ≠ 0
  · rw [if_pos h1] at h
    exact absurd h h1
  · rw [if_neg h1] at h
    have h1' : g.flt s = 0 := by simpa using h1
    by_cases h2 : g.pos s < 0
    · rw [if_pos h2] at h; cases h
    · rw [if_neg h2] at h
      by_cases h3 : g.gn = n
      · obtain ⟨m1, m2⟩ := gflt_zero_iff.1 h1'
        refine ⟨m1, m2, ?_, h3, (hfl_ok h1' (by omega) h3).2⟩
        rcases posG_cases g s with e | e
        · omega
        · exact e
      · rw [if_neg h3] at h; cases h

set_option maxRecDepth 100000 in
set_option maxHeartbeats 2000000 in
theorem gfindNamed_any (g : Grp) (s : ByteArray) (vm vo : Value) (us : Nat → Value) (w : World) (h : RdG w g vm vo us) (hs : g.small) (hf : g.os.length * 16 ≤ 140737488355328) (hn : s.size ≤ maxLen) :
    Calls Try.prog 61 #[.agg #[.int .i64 g.ck, .int .i64 g.wt, .int .i64 g.gn, vm, vo], .string s] w fun e w' => e = .returned (.tuple #[.int .i64 (g.fnd s), .int .i64 (g.flt s)]) ∧ Below w.heap.size w w' := by
  obtain ⟨av, cv, rfl, _, _⟩ := h.m.shape
  obtain ⟨ao, co, rfl, _, _⟩ := h.o.shape
  have HR : Hid (∀ W, Below w.heap.size w W → RdG W g (.slice av g.ms.length cv) (.slice ao g.os.length co) us) := fun W hW => h.below (Nat.le_refl _) hW
  have HS : Hid g.small := hs
  have HO : Hid (g.os.length * 16 ≤ 140737488355328) := hf
  have HN : Hid (s.size ≤ maxLen) := hn
  have HC0 : Hid (GB _ w.heap.size g _ _) := gb_new w g (.slice av g.ms.length cv) (.slice ao g.os.length co) w.heap.size rfl
  have HB0 : Hid (Below w.heap.size w _) := bbox w (.cells #[.int .i64 g.ck, .int .i64 g.wt, .int .i64 g.gn, .slice av g.ms.length cv, .slice ao g.os.length co] 25)
  clear h hs hn hf
  go_enter Try.func61, Try.ntmps61
  go_wp2_with fail
  refine (gcheck_any g _ _ us _ (HR.out _ HB0.out) HS.out HO.out).mono ?_
  rintro e w1 ⟨rfl, hb1⟩
  have HB1 : Hid (Below w.heap.size w w1) := bstep HB0.out hb1
  have HC1 : Hid (GB w1 w.heap.size g _ _) := HC0.out.below HC0.out.1 hb1
  obtain ⟨s1, ⟨a0, a1, a2, a3, a4⟩, f1⟩ := HC1.out
  clear hb1
  cases hm : g.mayB with
  | false =>
    have HF : Hid (g.flt s = 12 ∧ g.fnd s = -1 ∧ g.gfl = 12) := ⟨gflt_may hm, by unfold Grp.fnd; rw [gflt_may hm]; rfl, gfl_no hm⟩
    rw [HF.out.2.2]
    go_wp2
    go_ret2
    exact ⟨by rw [HF.out.1, HF.out.2.1]; rfl, HB1.out⟩
  | true =>
    rw [gfl_yes hm]
    have HM : Hid (g.mayB = true) := hm
    clear hm
    cases hnm : nameB s with
    | false =>
      have HF : Hid (g.flt s = 4 ∧ g.fnd s = -1) := ⟨gflt_name HM.out hnm, by unfold Grp.fnd; rw [gflt_name HM.out hnm]; rfl⟩
      go_wp2_with (go_at_call 83; refine (isName_any _ _ HN.out).mono ?_; rintro e w1 ⟨rfl, rfl⟩; rw [hnm])
      go_ret2
      exact ⟨by rw [HF.out.1, HF.out.2]; rfl, HB1.out⟩
    | true =>
      have HF : Hid (g.flt s = 0 ∧ g.fnd s = g.pos s) := ⟨gflt_ok HM.out hnm, by unfold Grp.fnd; rw [gflt_ok HM.out hnm]; rfl⟩
      go_wp2_with (go_at_call 83; refine (isName_any _ _ HN.out).mono ?_; rintro e w1 ⟨rfl, rfl⟩; rw [hnm])
      clear hnm
      have HRW : Hid (∀ W, Below w1.heap.size w1 W → RdG W g (.slice av g.ms.length cv) (.slice ao g.os.length co) us) := fun W hW => HR.out W (bstep HB1.out hW)
      go_region_with (first | (go_at_call 85; refine (named_any s _).mono ?_; rintro e w6 ⟨rfl, hl6, ht6, hb6⟩; have hB6 : Below w1.heap.size w1 w6 := bstep (by repeat (first | exact Below.refl _ _ | refine Below.drew ?_)) hb6; obtain ⟨m3, m4⟩ := bcell hB6; clear hb6) | (go_at_call 43; go_must (refine (indexM_any _ _ (fun y => sameN y.nm s) (enters_of Try.func95 (by kernel_rfl) rfl) g.ms _ us _ (HRW.out _ (by repeat (first | exact Below.refl _ _ | exact hB6 | refine Below.drew ?_))).m (named_fn _ s _ hl6 ht6)).mono ?_; rintro e w7 ⟨rfl, hb7⟩)))
      all_goals
        have HX : Hid (Below w.heap.size w w7) := bstep HB1.out (hB6.trans (hb7.mono hB6.size))
        clear hb7 hB6 m3 m4 ht6 hl6
        go_wp2
        go_ret2
        exact ⟨by rw [HF.out.1, HF.out.2]; rfl, HX.out⟩

set_option maxRecDepth 100000 in
set_option maxHeartbeats 2000000 in
theorem gfindOfGen_any (g : Grp) (s : ByteArray) (n : Int) (vm vo : Value) (us : Nat → Value) (w : World) (h : RdG w g vm vo us) (hs : g.small) (hf : g.os.length * 16 ≤ 140737488355328) (hn : s.size ≤ maxLen) :
    Calls Try.prog 71 #[.agg #[.int .i64 g.ck, .int .i64 g.wt, .int .i64 g.gn, vm, vo], .string s, .int .i64 n] w fun e w' => e = .returned (.tuple #[.int .i64 (g.fndG s n), .int .i64 (g.hfl s n)]) ∧ Below w.heap.size w w' := by
  obtain ⟨av, cv, rfl, _, _⟩ := h.m.shape
  obtain ⟨ao, co, rfl, _, _⟩ := h.o.shape
  have HR : Hid (∀ W, Below w.heap.size w W → RdG W g (.slice av g.ms.length cv) (.slice ao g.os.length co) us) := fun W hW => h.below (Nat.le_refl _) hW
  have HS : Hid g.small := hs
  have HO : Hid (g.os.length * 16 ≤ 140737488355328) := hf
  have HN : Hid (s.size ≤ maxLen) := hn
  have HC0 : Hid (GB _ w.heap.size g _ _) := gb_new w g (.slice av g.ms.length cv) (.slice ao g.os.length co) w.heap.size rfl
  have HB0 : Hid (Below w.heap.size w _) := bbox w (.cells #[.int .i64 g.ck, .int .i64 g.wt, .int .i64 g.gn, .slice av g.ms.length cv, .slice ao g.os.length co] 25)
  clear h hs hn hf
  go_enter Try.func71, Try.ntmps71
  go_wp2_with fail
  refine (gfindNamed_any g s _ _ us _ (HR.out _ HB0.out) HS.out HO.out HN.out).mono ?_
  rintro e w1 ⟨rfl, hb1⟩
  have HB1 : Hid (Below w.heap.size w w1) := bstep HB0.out hb1
  have HC1 : Hid (GB w1 w.heap.size g _ _) := HC0.out.below HC0.out.1 hb1
  obtain ⟨s1, ⟨a0, a1, a2, a3, a4⟩, f1⟩ := HC1.out
  clear hb1
  by_cases hf : g.flt s = 0
  rotate_left
  · have d1 : (g.flt s != 0) = true := by simp [hf]
    have HF : Hid (g.hfl s n = g.flt s ∧ g.fndG s n = -1) := hfl_flt hf
    clear hf
    generalize g.flt s = fl at *
    go_wp2
    go_ret2
    exact ⟨by rw [HF.out.1, HF.out.2]; rfl, HB1.out⟩
  have HFL : Hid (g.flt s = 0) := hf
  have HFN : Hid (g.fnd s = g.pos s) := show _ = _ by unfold Grp.fnd; rw [if_pos hf]
  rw [HFL.out, HFN.out]
  clear hf
  rcases posG_cases g s with hp | ⟨k, hk, hp, hnm⟩
  · have HF : Hid (g.hfl s n = 5 ∧ g.fndG s n = -1) := hfl_none HFL.out (by rw [hp]; decide)
    rw [hp]
    clear hp
    go_wp2
    go_ret2
    exact ⟨by rw [HF.out.1, HF.out.2]; rfl, HB1.out⟩
  · have HP : Hid (g.pos s = k) := hp
    have hk1 : ((k : Int) == -1) = false := by simp
    rw [hp]
    clear hp hnm
    by_cases hv : g.gn = n
    · have d1 : (g.gn != n) = false := by simp [hv]
      have HF : Hid (g.hfl s n = 0 ∧ g.fndG s n = k) := by
        have := hfl_ok HFL.out (by rw [HP.out]; omega) hv
        exact ⟨this.1, this.2.trans HP.out⟩
      clear hv
      go_wp2
      go_ret2
      exact ⟨by rw [HF.out.1, HF.out.2]; rfl, HB1.out⟩
    · have d1 : (g.gn != n) = true := by simp [hv]
      have HF : Hid (g.hfl s n = 10 ∧ g.fndG s n = -1) := hfl_gen HFL.out (by rw [HP.out]; omega) hv
      clear hv
      go_wp2
      go_ret2
      exact ⟨by rw [HF.out.1, HF.out.2]; rfl, HB1.out⟩

set_option maxRecDepth 100000 in
set_option maxHeartbeats 1000000 in
theorem groupFault_any (g : Grp) (s : ByteArray) (vm vo : Value) (us : Nat → Value) (w : World) (h : RdG w g vm vo us) (hs : g.small) (hf : g.os.length * 16 ≤ 140737488355328) (hn : s.size ≤ maxLen) :
    Calls Try.prog 64 #[.agg #[.int .i64 g.ck, .int .i64 g.wt, .int .i64 g.gn, vm, vo], .string s] w fun e w' => e = .returned (.int .i64 (g.flt s)) ∧ Below w.heap.size w w' := by
  obtain ⟨av, cv, rfl, hl1, hl2⟩ := h.m.shape
  obtain ⟨ao, co, rfl, _, _⟩ := h.o.shape
  have HR : Hid (∀ W, Below w.heap.size w W → RdG W g (.slice av g.ms.length cv) (.slice ao g.os.length co) us) := fun W hW => h.below (Nat.le_refl _) hW
  have HS : Hid g.small := hs
  have HO : Hid (g.os.length * 16 ≤ 140737488355328) := hf
  have HN : Hid (s.size ≤ maxLen) := hn
  have HB0 : Hid (Below w.heap.size w _) := bbox w (.cells #[.int .i64 g.ck, .int .i64 g.wt, .int .i64 g.gn, .slice av g.ms.length cv, .slice ao g.os.length co] 25)
  clear h hs hn hl1 hl2 hf
  go_enter Try.func64, Try.ntmps64
  go_wp2_with fail
  refine (groupMay_any g _ _ us _ (HR.out _ HB0.out) HS.out HO.out).mono ?_
  rintro e w1 ⟨rfl, hb1⟩
  have HB1 : Hid (Below w.heap.size w w1) := bstep HB0.out hb1
  clear hb1
  cases hm : g.mayB with
  | false =>
    have HF : Hid (g.flt s = 12) := gflt_may hm
    go_wp2
    go_ret
    exact ⟨by rw [HF.out]; rfl, HB1.out⟩
  | true =>
    cases hn : nameB s with
    | false =>
      have HF : Hid (g.flt s = 4) := gflt_name hm hn
      go_wp2_with (go_at_call 55; refine (nameMay_any _ _ HN.out).mono ?_; rintro e w1 ⟨rfl, rfl⟩; rw [hn])
      go_ret
      exact ⟨by rw [HF.out]; rfl, HB1.out⟩
    | true =>
      have HF : Hid (g.flt s = 0) := gflt_ok hm hn
      go_wp2_with (go_at_call 55; refine (nameMay_any _ _ HN.out).mono ?_; rintro e w1 ⟨rfl, rfl⟩; rw [hn])
      go_ret
      exact ⟨by rw [HF.out]; rfl, HB1.out⟩

set_option maxRecDepth 100000 in
set_option maxHeartbeats 1000000 in
theorem memberOf_any (g : Grp) (s : ByteArray) (vm vo : Value) (us : Nat → Value) (w : World) (h : RdG w g vm vo us) :
    Calls Try.prog 66 #[.agg #[.int .i64 g.ck, .int .i64 g.wt, .int .i64 g.gn, vm, vo], .string s] w fun e w' => e = .returned (.int .i64 (g.pos s)) ∧ Below w.heap.size w w' := by
  obtain ⟨av, cv, rfl, hl1, hl2⟩ := h.m.shape
  obtain ⟨ao, co, rfl, _, _⟩ := h.o.shape
  unfold maxLen at hl2
  have hll : (g.ms.length : Int) ≤ 9223372036854775807 := by omega
  have HR : Hid (∀ W, Below w.heap.size w W → RdG W g (.slice av g.ms.length cv) (.slice ao g.os.length co) us) := fun W hW => h.below (Nat.le_refl _) hW
  have HB0 : Hid (Below w.heap.size w _) := bbox w (.cells #[.int .i64 g.ck, .int .i64 g.wt, .int .i64 g.gn, .slice av g.ms.length cv, .slice ao g.os.length co] 25)
  have HC0 : Hid (GB _ w.heap.size g _ _) := gb_new w g (.slice av g.ms.length cv) (.slice ao g.os.length co) w.heap.size rfl
  clear h hl1 hl2
  go_enter Try.func66, Try.ntmps66
  go_wp2
  generalize w.alloc (.cells #[.int .i64 g.ck, .int .i64 g.wt, .int .i64 g.gn, .slice av g.ms.length cv, .slice ao g.os.length co] 25) = W0 at *
  obtain ⟨s1, ⟨a0, a1, a2, a3, a4⟩, f1⟩ := HC0.out
  go_loop [5] (fun i => ∃ k : Nat, k ≤ g.ms.length ∧ i = .int .i64 k ∧ Hid (∀ j, j < k → sameN (g.at j).nm s = false)) (fun i => g.ms.length - (intOf i).toNat)
  case atStart => exact ⟨0, by omega, rfl, fun j hj => by omega⟩
  case round =>
    obtain ⟨k, hk, rfl, HN⟩ := hrel
    by_cases hlt : k < g.ms.length
    · have hltv : (k : Int) < g.ms.length := by omega
      obtain ⟨gg, off, t, au, cu, rfl, HAT, -, -, -, -, q0, -⟩ := (HR.out W0 HB0.out).memAt k hlt
      cases hb : (t.nm.toList == s.toList) with
      | true =>
        have HV : Hid (g.pos s = k) := scan_some (by omega) (by omega) (by rw [HAT.out]; exact hb) (fun j _ hj => by rw [HN.out j hj]; decide)
        go_wp2
        go_ret
        exact ⟨by rw [HV.out]; rfl, HB0.out⟩
      | false =>
        have HV : Hid (∀ j, j < k + 1 → sameN (g.at j).nm s = false) := fun j hj => by
          by_cases e : j = k
          · rw [e, HAT.out]; exact hb
          · exact HN.out j (by omega)
        go_wp2
        go_round
        case rel => exact ⟨k + 1, by omega, by go_num, HV⟩
        case measure => simp [intOf]; omega
    · have HV : Hid (g.pos s = -1) := by
        rcases posG_cases g s with h | ⟨j, h1, h2, h3⟩
        · exact h
        · have := HN.out j (by omega)
          rw [h3, sameN_iff.2 rfl] at this
          cases this
      go_wp2
      go_ret
      exact ⟨by rw [HV.out]; rfl, HB0.out⟩

set_option maxRecDepth 100000 in
set_option maxHeartbeats 2000000 in
theorem hereFault_any (g : Grp) (s : ByteArray) (n : Int) (vm vo : Value) (us : Nat → Value) (w : World) (h : RdG w g vm vo us) (hs : g.small) (hf : g.os.length * 16 ≤ 140737488355328) (hn : s.size ≤ maxLen) :
    Calls Try.prog 72 #[.agg #[.int .i64 g.ck, .int .i64 g.wt, .int .i64 g.gn, vm, vo], .string s, .int .i64 n] w fun e w' => e = .returned (.int .i64 (g.hfl s n)) ∧ Below w.heap.size w w' := by
  obtain ⟨av, cv, rfl, hl1, hl2⟩ := h.m.shape
  obtain ⟨ao, co, rfl, _, _⟩ := h.o.shape
  have HR : Hid (∀ W, Below w.heap.size w W → RdG W g (.slice av g.ms.length cv) (.slice ao g.os.length co) us) := fun W hW => h.below (Nat.le_refl _) hW
  have HS : Hid g.small := hs
  have HO : Hid (g.os.length * 16 ≤ 140737488355328) := hf
  have HN : Hid (s.size ≤ maxLen) := hn
  have HC0 : Hid (GB _ w.heap.size g _ _) := gb_new w g (.slice av g.ms.length cv) (.slice ao g.os.length co) w.heap.size rfl
  have HB0 : Hid (Below w.heap.size w _) := bbox w (.cells #[.int .i64 g.ck, .int .i64 g.wt, .int .i64 g.gn, .slice av g.ms.length cv, .slice ao g.os.length co] 25)
  clear h hs hn hl1 hl2 hf
  go_enter Try.func72, Try.ntmps72
  go_wp2_with fail
  refine (groupFault_any g s _ _ us _ (HR.out _ HB0.out) HS.out HO.out HN.out).mono ?_
  rintro e w1 ⟨rfl, hb1⟩
  have HB1 : Hid (Below w.heap.size w w1) := bstep HB0.out hb1
  have HC1 : Hid (GB w1 w.heap.size g _ _) := HC0.out.below HC0.out.1 hb1
  obtain ⟨s1, ⟨a0, a1, a2, a3, a4⟩, f1⟩ := HC1.out
  clear hb1
  by_cases hf : g.flt s = 0
  rotate_left
  · have d1 : (g.flt s == 0) = false := by simp [hf]
    have HF : Hid (g.hfl s n = g.flt s ∧ g.fndG s n = -1) := hfl_flt hf
    clear hf
    generalize g.flt s = fl at *
    go_wp2
    go_ret
    exact ⟨by rw [HF.out.1]; rfl, HB1.out⟩
  have HFL : Hid (g.flt s = 0) := hf
  rw [HFL.out]
  clear hf
  go_wp2_with fail
  refine (memberOf_any g s _ _ us _ (HR.out _ HB1.out)).mono ?_
  rintro e w2 ⟨rfl, hb2⟩
  have HB2 : Hid (Below w.heap.size w w2) := bstep HB1.out hb2
  have HC2 : Hid (GB w2 w.heap.size g _ _) := HC1.out.below HC1.out.1 hb2
  clear a0 a1 a2 a3 a4 f1 s1 hb2
  obtain ⟨s1, ⟨a0, a1, a2, a3, a4⟩, f1⟩ := HC2.out
  rcases posG_cases g s with hp | ⟨k, hk, hp, hnm⟩
  · have HF : Hid (g.hfl s n = 5 ∧ g.fndG s n = -1) := hfl_none HFL.out (by rw [hp]; decide)
    rw [hp]
    clear hp
    go_wp2
    go_ret
    exact ⟨by rw [HF.out.1]; rfl, HB2.out⟩
  · have HP : Hid (g.pos s = k) := hp
    rw [hp]
    clear hp hnm
    by_cases hv : g.gn = n
    · have d1 : (g.gn != n) = false := by simp [hv]
      have HF : Hid (g.hfl s n = 0) := (hfl_ok HFL.out (by rw [HP.out]; omega) hv).1
      clear hv
      go_wp2
      go_ret
      exact ⟨by rw [HF.out]; rfl, HB2.out⟩
    · have d1 : (g.gn != n) = true := by simp [hv]
      have HF : Hid (g.hfl s n = 10) := (hfl_gen HFL.out (by rw [HP.out]; omega) hv).1
      clear hv
      go_wp2
      go_ret
      exact ⟨by rw [HF.out]; rfl, HB2.out⟩

end Go.Proofs.Ytmkbbhdmfpjfdaa
