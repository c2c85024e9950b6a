/-
  group.Where and what the document says of it, walked.
-/
import Derived.Test.YtmkbbhdmfpjfdaaGbin
import Derived.BigQuiet
namespace Go.Proofs.Ytmkbbhdmfpjfdaa
open Go.RowKit
set_option linter.unusedVariables false
set_option linter.unusedSimpArgs false

/-- Where a member goes on (P6.6). -/
def Grp.whr (g : Grp) (s : ByteArray) (p : Int) : Int × Int :=
  if g.flt s ≠ 0 then (0, g.flt s) else if g.pos s < 0 then (0, 5) else if hasI (g.at (g.pos s).toNat).ps p = false then (0, 12)
  else if hasI (g.os.map Ofs.pt) p then ((g.off (below (g.os.map Ofs.pt) p)).pl, 0) else (0, 0)
theorem whr_flt {g : Grp} {s : ByteArray} {p : Int} (h : g.flt s ≠ 0) : g.whr s p = (0, g.flt s) := by unfold Grp.whr; rw [if_pos h]
theorem whr_none {g : Grp} {s : ByteArray} {p : Int} (h : g.flt s = 0) (h2 : g.pos s < 0) : g.whr s p = (0, 5) := by unfold Grp.whr; rw [if_neg (by rw [h]; simp), if_pos h2]
theorem whr_own {g : Grp} {s : ByteArray} {p : Int} {k : Nat} (h : g.flt s = 0) (h2 : g.pos s = k) (h3 : hasI (g.at k).ps p = false) : g.whr s p = (0, 12) := by
  unfold Grp.whr; rw [if_neg (by rw [h]; simp), if_neg (by omega), h2, Int.toNat_natCast, if_pos h3]
theorem whr_yes {g : Grp} {s : ByteArray} {p : Int} {k : Nat} (h : g.flt s = 0) (h2 : g.pos s = k) (h3 : hasI (g.at k).ps p = true) (h4 : hasI (g.os.map Ofs.pt) p = true) : g.whr s p = ((g.off (below (g.os.map Ofs.pt) p)).pl, 0) := by
  unfold Grp.whr; rw [if_neg (by rw [h]; simp), if_neg (by omega), h2, Int.toNat_natCast, if_neg (by rw [h3]; simp), if_pos h4]
theorem whr_no {g : Grp} {s : ByteArray} {p : Int} {k : Nat} (h : g.flt s = 0) (h2 : g.pos s = k) (h3 : hasI (g.at k).ps p = true) (h4 : hasI (g.os.map Ofs.pt) p = false) : g.whr s p = (0, 0) := by
  unfold Grp.whr; rw [if_neg (by rw [h]; simp), if_neg (by omega), h2, Int.toNat_natCast, if_neg (by rw [h3]; simp), if_neg (by rw [h4]; simp)]
theorem hasI_below {l : List Int} {p : Int} (hr : riseB l = true) (h : hasI l p = true) : below l p < l.length ∧ l.getD (below l p) 0 = p := by
  unfold hasI at h
  rw [below_has hr] at h
  simpa using h
theorem hasI_at {l : List Int} {p : Int} {k : Nat} (hk : k < l.length) (h : l.getD k 0 = p) : hasI l p = true := by
  unfold hasI
  rw [List.contains_iff_mem, ← h]
  simp [List.getD, hk]
theorem hasI_no {l : List Int} {p : Int} (h : ∀ k, k < l.length → l.getD k 0 ≠ p) : hasI l p = false := by
  cases e : hasI l p with
  | false => rfl
  | true =>
    unfold hasI at e
    rw [List.contains_iff_mem] at e
    obtain ⟨i, hi, he⟩ := List.getElem_of_mem e
    exact absurd (by simp [List.getD, hi, he]) (h i hi)
theorem below_first {l : List Int} {p : Int} {k : Nat} (hr : riseB l = true) (hk : k < l.length) (h : l.getD k 0 = p) (hn : ∀ j, j < k → l.getD j 0 ≠ p) : below l p = k :=
  below_eq (by omega) (fun j hj => by
    have h1 := rise_mono hr (show j ≤ k by omega) hk
    have h2 := hn j hj
    omega) (fun j hj hjl => by
    have h1 := rise_mono hr hj hjl
    omega)

set_option maxRecDepth 100000 in
set_option maxHeartbeats 2000000 in
theorem ownsPart_any (m : Mem) (u : Value) (p : Int) (w : World) (h : RdV w u (ints m.ps)) :
    Calls Try.prog 75 #[.agg #[.string m.nm, .int .i64 m.hd, u], .int .i64 p] w fun e w' => e = .returned (.bool (hasI m.ps p)) ∧ Below w.heap.size w w' := by
  obtain ⟨au, cu, rfl, hll⟩ := h.intShape
  have H : Hid (∀ W, Below w.heap.size w W → RdV W (.slice au m.ps.length cu) (ints m.ps)) := fun W hW => h.below (Nat.le_refl _) hW
  have HB0 : Hid (Below w.heap.size w _) := bbox w (.cells #[.string m.nm, .int .i64 m.hd, .slice au m.ps.length cu] 55)
  have HM0 : Hid (MBox _ w.heap.size 0 m _) := mbox_new w m (.slice au m.ps.length cu) w.heap.size rfl
  clear h
  go_enter Try.func75, Try.ntmps75
  go_wp2
  generalize w.alloc (.cells #[.string m.nm, .int .i64 m.hd, .slice au m.ps.length cu] 55) = W0 at *
  obtain ⟨q0, q1, q2⟩ := HM0.out
  go_loop [5] (fun i => ∃ k : Nat, k ≤ m.ps.length ∧ i = .int .i64 k ∧ Hid (∀ j, j < k → m.ps.getD j 0 ≠ p)) (fun i => m.ps.length - (intOf i).toNat)
  case atStart => exact ⟨0, by omega, rfl, fun j hj => by omega⟩
  case round =>
    obtain ⟨k, hk, rfl, HN⟩ := hrel
    by_cases hlt : k < m.ps.length
    · have hltv : (k : Int) < m.ps.length := by omega
      obtain ⟨g, off, x, rfl, HX, c0⟩ := rd_at (H.out W0 HB0.out) k hlt
      by_cases he : x = p
      · have d1 : (x == p) = true := by simp [he]
        have HF : Hid (hasI m.ps p = true) := hasI_at hlt (HX.out.trans he)
        clear he
        go_wp2
        go_ret
        exact ⟨by rw [HF.out]; rfl, HB0.out⟩
      · have d1 : (x == p) = false := by simp [he]
        have HV : Hid (∀ j, j < k + 1 → m.ps.getD j 0 ≠ p) := fun j hj => by
          by_cases e : j = k
          · rw [e, HX.out]; exact he
          · exact HN.out j (by omega)
        clear he
        go_wp2
        go_round
        case rel => exact ⟨k + 1, by omega, by go_num, HV⟩
        case measure => simp [intOf]; omega
    · have HF : Hid (hasI m.ps p = false) := hasI_no (fun j hj => HN.out j (by omega))
      have hkv : ¬ (k : Int) < m.ps.length := by omega
      go_wp2
      go_ret
      exact ⟨by rw [HF.out]; rfl, HB0.out⟩

set_option maxRecDepth 100000 in
set_option maxHeartbeats 2000000 in
theorem gwhere_any (g : Grp) (s : ByteArray) (p : Int) (vm vo : Value) (us : Nat → Value) (w : World) (h : RdG w g vm vo us) (hf : g.fits) (hn : s.size ≤ maxLen) :
    Calls Try.prog 36 #[.agg #[.int .i64 g.ck, .int .i64 g.wt, .int .i64 g.gn, vm, vo], .string s, .int .i64 p] w fun e w' => e = .returned (.tuple #[.int .i64 (g.whr s p).1, .int .i64 (g.whr s p).2]) ∧ Below w.heap.size w w' := by
  obtain ⟨av, cv, rfl, _, _⟩ := h.m.shape
  obtain ⟨ao, co, rfl, _, _⟩ := h.o.shape
  have HR : Hid (∀ W, Below w.heap.size w W → RdG W g (.slice av g.ms.length cv) (.slice ao g.os.length co) us) := fun W hW => h.below (Nat.le_refl _) hW
  have HS : Hid g.small := hf.n
  have HO : Hid (g.os.length * 16 ≤ 140737488355328) := hf.o
  have HN : Hid (s.size ≤ maxLen) := hn
  have HC0 : Hid (GB _ w.heap.size g _ _) := gb_new w g (.slice av g.ms.length cv) (.slice ao g.os.length co) w.heap.size rfl
  have HB0 : Hid (Below w.heap.size w _) := bbox w (.cells #[.int .i64 g.ck, .int .i64 g.wt, .int .i64 g.gn, .slice av g.ms.length cv, .slice ao g.os.length co] 25)
  clear h hn hf
  go_enter Try.func36, Try.ntmps36
  go_wp2_with fail
  refine (gfindNamed_any g s _ _ us _ (HR.out _ HB0.out) HS.out HO.out HN.out).mono ?_
  rintro e w1 ⟨rfl, hb1⟩
  have HB1 : Hid (Below w.heap.size w w1) := bstep HB0.out hb1
  have HC1 : Hid (GB w1 w.heap.size g _ _) := HC0.out.below HC0.out.1 hb1
  obtain ⟨s1, ⟨a0, a1, a2, a3, a4⟩, f1⟩ := HC1.out
  clear hb1
  by_cases hf : g.flt s = 0
  rotate_left
  · have d1 : (g.flt s != 0) = true := by simp [hf]
    have HF : Hid (g.whr s p = (0, g.flt s)) := whr_flt hf
    clear hf
    generalize g.flt s = fl at *
    go_wp2
    go_ret2
    exact ⟨by rw [HF.out]; rfl, HB1.out⟩
  have HFL : Hid (g.flt s = 0) := hf
  have HMY : Hid (MayG g) := (gflt_zero_iff.1 hf).1
  have HFN : Hid (g.fnd s = g.pos s) := show _ = _ by unfold Grp.fnd; rw [if_pos hf]
  rw [HFL.out, HFN.out]
  clear hf
  rcases posG_cases g s with hp | ⟨k, hk, hp, hnm⟩
  · have HF : Hid (g.whr s p = (0, 5)) := whr_none HFL.out (by rw [hp]; decide)
    rw [hp]
    clear hp
    go_wp2
    go_ret2
    exact ⟨by rw [HF.out]; rfl, HB1.out⟩
  have HP : Hid (g.pos s = k) := hp
  have hk1 : ((k : Int) == -1) = false := by simp
  have hkv : (k : Int) < g.ms.length := by omega
  rw [hp]
  clear hp hnm
  obtain ⟨gg, off, m, au, cu, rfl, HAT, -, HQR, -, HME, q0, q1, q2⟩ := (HR.out w1 HB1.out).memAt k hk
  have HP4 : Hid (m.ps.length ≤ 4) := by
    have := (HMY.out.ok k hk).ps
    rw [HAT.out] at this
    exact rise_len this
  go_wp2_with fail
  refine (containsI_any m.ps p _ _ HQR.out HP4.out).mono ?_
  rintro e w2 ⟨rfl, hb2⟩
  have HB2 : Hid (Below w.heap.size w w2) := bstep HB1.out hb2
  have HC2 : Hid (GB w2 w.heap.size g _ _) := HC1.out.below HC1.out.1 hb2
  have HHI : Hid (hasI (g.at k).ps p = decide (0 ≤ posI m.ps p)) := show _ = _ by rw [HAT.out, posI_has]; rfl
  clear a0 a1 a2 a3 a4 f1 s1 hb2 q0 q1 q2 HQR
  obtain ⟨s1, ⟨a0, a1, a2, a3, a4⟩, f1⟩ := HC2.out
  cases hh : decide (0 ≤ posI m.ps p) with
  | false =>
    have HF : Hid (g.whr s p = (0, 12)) := whr_own HFL.out HP.out (by rw [HHI.out, hh])
    go_wp2
    go_ret2
    exact ⟨by rw [HF.out]; rfl, HB2.out⟩
  | true =>
    have HH : Hid (hasI (g.at k).ps p = true) := show _ = _ by rw [HHI.out, hh]
    clear hh
    go_wp2_with fail
    refine (findOffset_any g p _ _ us _ (HR.out _ HB2.out) HMY.out.up).mono ?_
    rintro e w3 ⟨rfl, hb3⟩
    have HB3 : Hid (Below w.heap.size w w3) := bstep HB2.out hb3
    have HC3 : Hid (GB w3 w.heap.size g _ _) := HC2.out.below HC2.out.1 hb3
    clear a0 a1 a2 a3 a4 f1 s1 hb3
    obtain ⟨s1, ⟨a0, a1, a2, a3, a4⟩, f1⟩ := HC3.out
    cases hb : hasI (g.os.map Ofs.pt) p with
    | false =>
      have HF : Hid (g.whr s p = (0, 0)) := whr_no HFL.out HP.out HH.out hb
      obtain ⟨bn, hbn⟩ : ∃ b, below (g.os.map Ofs.pt) p = b := ⟨_, rfl⟩
      rw [hbn]
      clear hbn
      go_wp2
      go_ret2
      exact ⟨by rw [HF.out]; rfl, HB3.out⟩
    | true =>
      have HF : Hid (g.whr s p = ((g.off (below (g.os.map Ofs.pt) p)).pl, 0)) := whr_yes HFL.out HP.out HH.out hb
      have hbl := (hasI_below HMY.out.up hb).1
      rw [List.length_map] at hbl
      obtain ⟨bn, hbn⟩ : ∃ b, below (g.os.map Ofs.pt) p = b := ⟨_, rfl⟩
      rw [hbn] at hbl HF ⊢
      clear hbn hb
      have hbv : (bn : Int) < g.os.length := by omega
      obtain ⟨bx, ox, x, rfl, HX, -, r0, r1⟩ := (HR.out w3 HB3.out).ofsAt bn hbl
      go_wp2
      go_ret2
      exact ⟨by rw [HF.out, HX.out]; rfl, HB3.out⟩

set_option maxRecDepth 100000 in
set_option maxHeartbeats 2000000 in
theorem whereOf_any (g : Grp) (s : ByteArray) (p : Int) (vm vo : Value) (us : Nat → Value) (w : World) (h : RdG w g vm vo us) (hf : g.fits) (hn : s.size ≤ maxLen) :
    Calls Try.prog 37 #[.agg #[.int .i64 g.ck, .int .i64 g.wt, .int .i64 g.gn, vm, vo], .string s, .int .i64 p] w fun e w' => e = .returned (.tuple #[.int .i64 (g.whr s p).1, .int .i64 (g.whr s p).2]) ∧ Below w.heap.size w w' := by
  obtain ⟨av, cv, rfl, _, _⟩ := h.m.shape
  obtain ⟨ao, co, rfl, hlo1, hlo2⟩ := h.o.shape
  unfold maxLen at hlo2
  have hlo : (g.os.length : Int) ≤ 9223372036854775807 := by omega
  have HR : Hid (∀ W, Below w.heap.size w W → RdG W g (.slice av g.ms.length cv) (.slice ao g.os.length co) us) := fun W hW => h.below (Nat.le_refl _) hW
  have HS : Hid g.small := hf.n
  have HO : Hid (g.os.length * 16 ≤ 140737488355328) := hf.o
  have HN : Hid (s.size ≤ maxLen) := hn
  have HC0 : Hid (GB _ w.heap.size g _ _) := gb_new w g (.slice av g.ms.length cv) (.slice ao g.os.length co) w.heap.size rfl
  have HB0 : Hid (Below w.heap.size w _) := bbox w (.cells #[.int .i64 g.ck, .int .i64 g.wt, .int .i64 g.gn, .slice av g.ms.length cv, .slice ao g.os.length co] 25)
  clear h hn hf hlo1 hlo2
  go_enter Try.func37, Try.ntmps37
  go_wp2_with fail
  refine (groupFault_any g s _ _ us _ (HR.out _ HB0.out) HS.out HO.out HN.out).mono ?_
  rintro e w1 ⟨rfl, hb1⟩
  have HB1 : Hid (Below w.heap.size w w1) := bstep HB0.out hb1
  have HC1 : Hid (GB w1 w.heap.size g _ _) := HC0.out.below HC0.out.1 hb1
  obtain ⟨s1, ⟨a0, a1, a2, a3, a4⟩, f1⟩ := HC1.out
  clear hb1
  by_cases hf : g.flt s = 0
  rotate_left
  · have d1 : (g.flt s == 0) = false := by simp [hf]
    have d2 : (g.flt s != 0) = true := by simp [hf]
    have HF : Hid (g.whr s p = (0, g.flt s)) := whr_flt hf
    clear hf
    generalize g.flt s = fl at *
    go_wp2
    go_quiet (fail)
    go_wp2
    go_ret2
    exact ⟨by rw [HF.out]; rfl, below_drewN HB1.out _⟩
  have HFL : Hid (g.flt s = 0) := hf
  have HMY : Hid (MayG g) := (gflt_zero_iff.1 hf).1
  rw [HFL.out]
  clear hf
  go_wp2_with fail
  refine (memberOf_any g s _ _ us _ (HR.out _ HB1.out)).mono ?_
  rintro e w2 ⟨rfl, hb2⟩
  have HB2 : Hid (Below w.heap.size w w2) := bstep HB1.out hb2
  have HC2 : Hid (GB w2 w.heap.size g _ _) := HC1.out.below HC1.out.1 hb2
  clear a0 a1 a2 a3 a4 f1 s1 hb2
  obtain ⟨s1, ⟨a0, a1, a2, a3, a4⟩, f1⟩ := HC2.out
  rcases posG_cases g s with hp | ⟨k, hk, hp, hnm⟩
  · have HF : Hid (g.whr s p = (0, 5)) := whr_none HFL.out (by rw [hp]; decide)
    rw [hp]
    clear hp
    go_wp2
    go_quiet (fail)
    go_wp2
    go_ret2
    exact ⟨by rw [HF.out]; rfl, below_drewN HB2.out _⟩
  have HP : Hid (g.pos s = k) := hp
  have hkv : (k : Int) < g.ms.length := by omega
  rw [hp]
  clear hp hnm
  obtain ⟨gg, off, m, au, cu, rfl, HAT, hgg, HQR, -, HME, q0, q1, q2⟩ := (HR.out w2 HB2.out).memAt k hk
  have HQ : Hid (∀ W, Below w2.heap.size w2 W → RdV W (.slice au m.ps.length cu) (ints m.ps)) := fun W hW => HQR.out.below (Nat.le_refl _) hW
  clear HQR
  go_wp2
  go_cut [34] (fun r W => r = .bool (!hasI m.ps p) ∧ Below w2.heap.size w2 W)
  case first =>
    go_region_with (first | (go_at_call 66; refine (memberOf_any g s _ _ us _ (HR.out _ (bstep HB2.out (by repeat (first | exact Below.refl _ _ | refine Below.drew ?_))))).mono ?_; rintro e w6 ⟨rfl, hb6⟩; rw [HP.out]; have hB6 : Below w2.heap.size w2 w6 := bstep (by repeat (first | exact Below.refl _ _ | refine Below.drew ?_)) hb6; obtain ⟨m3, m4⟩ := bcell hB6; clear hb6) | (go_at_call 75; go_must (refine (ownsPart_any m _ p _ (HQ.out _ (by repeat (first | exact Below.refl _ _ | exact hB6 | refine Below.drew ?_)))).mono ?_; rintro e w7 ⟨rfl, hb7⟩; have hB7 : Below w2.heap.size w2 w7 := bstep (by repeat (first | exact Below.refl _ _ | exact hB6 | refine Below.drew ?_)) hb7; clear hb7)))
    all_goals
      go_wp2_with fail
      go_meet
      exact ⟨rfl, hB7⟩
  case rest =>
    obtain ⟨hv, hbl⟩ := hcut
    subst hv
    rename World => W6
    have HB6 : Hid (Below w.heap.size w W6) := bstep HB2.out hbl
    have HC6 : Hid (GB W6 w.heap.size g _ _) := HC2.out.below HC2.out.1 hbl
    clear a0 a1 a2 a3 a4 f1 s1 hbl q0 q1 q2
    obtain ⟨s1, ⟨a0, a1, a2, a3, a4⟩, f1⟩ := HC6.out
    cases hh : hasI m.ps p with
    | false =>
      have HF : Hid (g.whr s p = (0, 12)) := whr_own HFL.out HP.out (by rw [HAT.out, hh])
      go_at_K
      go_wp2
      go_ret2
      exact ⟨by rw [HF.out]; rfl, HB6.out⟩
    | true =>
      have HH : Hid (hasI (g.at k).ps p = true) := show _ = _ by rw [HAT.out, hh]
      clear hh
      rw [Bool.not_true]
      go_at_K
      go_wp2
      go_loop [9] (fun i => ∃ n : Nat, n ≤ g.os.length ∧ i = .int .i64 n ∧ Hid (∀ j, j < n → (g.os.map Ofs.pt).getD j 0 ≠ p)) (fun i => g.os.length - (intOf i).toNat)
      case atStart => exact ⟨0, by omega, rfl, fun j hj => by omega⟩
      case round =>
        obtain ⟨n, hn, rfl, HNN⟩ := hrel
        by_cases hlt : n < g.os.length
        · have hltv : (n : Int) < g.os.length := by omega
          obtain ⟨bx, ox, x, rfl, HX, -, r0, r1⟩ := (HR.out W6 HB6.out).ofsAt n hlt
          have HXP : Hid ((g.os.map Ofs.pt).getD n 0 = x.pt) := show _ = _ by rw [pts_get _ _ hlt]; exact congrArg Ofs.pt HX.out
          have HL : Hid (n < (g.os.map Ofs.pt).length) := show n < _ by rw [List.length_map]; exact hlt
          by_cases he : x.pt = p
          · have d1 : (x.pt == p) = true := by simp [he]
            have HF : Hid (g.whr s p = (x.pl, 0)) := show _ = _ by
              rw [whr_yes HFL.out HP.out HH.out (hasI_at HL.out (HXP.out.trans he)), below_first HMY.out.up HL.out (HXP.out.trans he) HNN.out, HX.out]
            clear he
            go_wp2
            go_ret2
            exact ⟨by rw [HF.out]; rfl, HB6.out⟩
          · have d1 : (x.pt == p) = false := by simp [he]
            have HV : Hid (∀ j, j < n + 1 → (g.os.map Ofs.pt).getD j 0 ≠ p) := fun j hj => by
              by_cases e : j = n
              · rw [e, HXP.out]; exact he
              · exact HNN.out j (by omega)
            clear he
            go_wp2
            go_round
            case rel => exact ⟨n + 1, by omega, by go_num, HV⟩
            case measure => simp [intOf]; omega
        · have HF : Hid (g.whr s p = (0, 0)) := whr_no HFL.out HP.out HH.out (hasI_no (fun j hj => HNN.out j (by rw [List.length_map] at hj; omega)))
          have hnv : ¬ (n : Int) < g.os.length := by omega
          go_wp2
          go_ret2
          exact ⟨by rw [HF.out]; rfl, HB6.out⟩

set_option maxRecDepth 100000 in
set_option maxHeartbeats 2000000 in
theorem groupWhere_core (g : Grp) (s : ByteArray) (p : Int) (vm vo : Value) (us : Nat → Value) (w : World) (h : RdG w g vm vo us) (hf : g.fits) (hn : s.size ≤ maxLen) :
    Calls Try.prog 11 #[.agg #[.int .i64 g.ck, .int .i64 g.wt, .int .i64 g.gn, vm, vo], .string s, .int .i64 p] w fun e w' => e = .returned (.bool true) ∧ Below w.heap.size w w' := by
  obtain ⟨av, cv, rfl, _, _⟩ := h.m.shape
  obtain ⟨ao, co, rfl, _, _⟩ := h.o.shape
  have HR : Hid (∀ W, Below w.heap.size w W → RdG W g (.slice av g.ms.length cv) (.slice ao g.os.length co) us) := fun W hW => h.below (Nat.le_refl _) hW
  have HF : Hid g.fits := hf
  have HN : Hid (s.size ≤ maxLen) := hn
  have HC0 : Hid (GB _ w.heap.size g _ _) := gb_new w g (.slice av g.ms.length cv) (.slice ao g.os.length co) w.heap.size rfl
  have HB0 : Hid (Below w.heap.size w _) := bbox w (.cells #[.int .i64 g.ck, .int .i64 g.wt, .int .i64 g.gn, .slice av g.ms.length cv, .slice ao g.os.length co] 25)
  clear h hn hf
  go_enter Try.func11, Try.ntmps11
  go_wp2_with fail
  refine (gwhere_any g s p _ _ us _ (HR.out _ HB0.out) HF.out HN.out).mono ?_
  rintro e w1 ⟨rfl, hb1⟩
  have HB1 : Hid (Below w.heap.size w w1) := bstep HB0.out hb1
  obtain ⟨s1, ⟨a0, a1, a2, a3, a4⟩, f1⟩ := HC0.out.below HC0.out.1 hb1
  obtain ⟨⟨r1, r2⟩, hr⟩ : ∃ r, g.whr s p = r := ⟨_, rfl⟩
  rw [hr]
  have HRR : Hid (g.whr s p = (r1, r2)) := hr
  have h1 : (r1 == r1) = true := by simp
  have h2 : (r2 == r2) = true := by simp
  clear hb1 hr
  go_wp2_with fail
  refine (whereOf_any g s p _ _ us _ (HR.out _ HB1.out) HF.out HN.out).mono ?_
  rintro e w2 ⟨rfl, hb2⟩
  have HB2 : Hid (Below w.heap.size w w2) := bstep HB1.out hb2
  rw [HRR.out]
  clear hb2
  go_wp2
  go_ret
  exact ⟨rfl, HB2.out⟩

end Go.Proofs.Ytmkbbhdmfpjfdaa
