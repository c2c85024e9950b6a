/-
  Where a producer stands, and what is refused to one that is not known: the code's findNamed and findVersion, the document's coordFault, txnOf and knownFault.
-/
import Derived.Test.YtjhpfnogdjpbmaaClaw1
namespace Go.Proofs.Ytjhpfnogdjpbmaa
open Go.RowKit
set_option linter.unusedVariables false
set_option linter.unusedSimpArgs false

theorem pos_cases (c : Crd) (s : ByteArray) : c.pos s = -1 ∨ ∃ k, k < c.ts.length ∧ c.pos s = (k : Int) ∧ (c.at k).nm = s := by
  unfold Crd.pos
  rcases scan_cases (P := fun i => sameN (c.at i).nm s = true) c.ts.length 0 with h | ⟨k, _, h2, h3, _, h4⟩
  · exact .inl h
  · exact .inr ⟨k, by omega, h4, sameN_iff.1 h3⟩
/-- Where a name is found; -1 where it is refused. -/
def Crd.fnd (c : Crd) (s : ByteArray) : Int := if c.flt s = 0 then c.pos s else -1
def Crd.fndV (c : Crd) (s : ByteArray) (v : Int) : Int := if c.kfl s v = 0 then c.pos s else -1
theorem flt_may {c : Crd} {s : ByteArray} (h : c.mayB = false) : c.flt s = 12 := by unfold Crd.flt; rw [h]; rfl
theorem flt_name {c : Crd} {s : ByteArray} (h : c.mayB = true) (h2 : nameB s = false) : c.flt s = 4 := by unfold Crd.flt; rw [h, h2]; rfl
theorem flt_ok {c : Crd} {s : ByteArray} (h : c.mayB = true) (h2 : nameB s = true) : c.flt s = 0 := by unfold Crd.flt; rw [h, h2]; rfl

set_option maxRecDepth 100000 in
set_option maxHeartbeats 2000000 in
theorem findNamed_any (c : Crd) (s : ByteArray) (vt : Value) (us : Nat → Value) (w : World) (h : RdC w c vt us) (hs : c.small) (hn : s.size ≤ maxLen) :
    Calls Try.prog 52 #[.agg #[.int .i64 c.ck, .int .i64 c.nx, .int .i64 c.wt, vt], .string s] w fun e w' => e = .returned (.tuple #[.int .i64 (c.fnd s), .int .i64 (c.flt s)]) ∧ Below w.heap.size w w' := by
  obtain ⟨av, cv, rfl, _, _⟩ := h.shape
  have HR : Hid (∀ W, Below w.heap.size w W → RdC W c (.slice av c.ts.length cv) us) := fun W hW => h.below (Nat.le_refl _) hW
  have HS : Hid c.small := hs
  have HN : Hid (s.size ≤ maxLen) := hn
  have HC0 : Hid (CB _ w.heap.size c _) := cb_new w c (.slice av c.ts.length cv) 24 w.heap.size rfl
  have HB0 : Hid (Below w.heap.size w _) := bbox w (.cells #[.int .i64 c.ck, .int .i64 c.nx, .int .i64 c.wt, .slice av c.ts.length cv] 24)
  clear h hs hn
  go_enter Try.func52, Try.ntmps52
  go_wp2_with fail
  refine (ccheck_any c _ us _ (HR.out _ HB0.out) HS.out).mono ?_
  rintro e w1 ⟨rfl, hb1⟩
  have HB1 : Hid (Below w.heap.size w w1) := bstep HB0.out hb1
  have HC1 : Hid (CB w1 w.heap.size c _) := HC0.out.below HC0.out.1 hb1
  obtain ⟨s1, ⟨a0, a1, a2, a3⟩, f1⟩ := HC1.out
  clear hb1
  cases hm : c.mayB with
  | false =>
    have HF : Hid (c.flt s = 12 ∧ c.fnd s = -1 ∧ c.cfl = 12) := ⟨flt_may hm, by unfold Crd.fnd; rw [flt_may hm]; rfl, ccfl_no hm⟩
    rw [HF.out.2.2]
    go_wp2
    go_ret2
    exact ⟨by rw [HF.out.1, HF.out.2.1]; rfl, HB1.out⟩
  | true =>
    rw [ccfl_yes hm]
    have HM : Hid (c.mayB = true) := hm
    clear hm
    cases hnm : nameB s with
    | false =>
      have HF : Hid (c.flt s = 4 ∧ c.fnd s = -1) := ⟨flt_name HM.out hnm, by unfold Crd.fnd; rw [flt_name HM.out hnm]; rfl⟩
      go_wp2_with (go_at_call 72; refine (isName_any _ _ HN.out).mono ?_; rintro e w1 ⟨rfl, rfl⟩; rw [hnm])
      go_ret2
      exact ⟨by rw [HF.out.1, HF.out.2]; rfl, HB1.out⟩
    | true =>
      have HF : Hid (c.flt s = 0 ∧ c.fnd s = c.pos s) := ⟨flt_ok HM.out hnm, by unfold Crd.fnd; rw [flt_ok HM.out hnm]; rfl⟩
      go_wp2_with (go_at_call 72; refine (isName_any _ _ HN.out).mono ?_; rintro e w1 ⟨rfl, rfl⟩; rw [hnm])
      clear hnm
      have HRW : Hid (∀ W, Below w1.heap.size w1 W → RdC W c (.slice av c.ts.length cv) us) := fun W hW => HR.out W (bstep HB1.out hW)
      go_region_with (first | (go_at_call 75; refine (named_any s _).mono ?_; rintro e w6 ⟨rfl, hl6, ht6, hb6⟩; have hB6 : Below w1.heap.size w1 w6 := bstep (by repeat (first | exact Below.refl _ _ | refine Below.drew ?_)) hb6; obtain ⟨m3, m4⟩ := bcell hB6; clear hb6) | (go_at_call 63; go_must (refine (indexT_any _ _ (fun y => sameN y.nm s) (enters_of Try.func92 (by kernel_rfl) rfl) c.ts _ us _ (HRW.out _ (by repeat (first | exact Below.refl _ _ | exact hB6 | refine Below.drew ?_))) (named_fn _ s _ hl6 ht6)).mono ?_; rintro e w7 ⟨rfl, hb7⟩)))
      all_goals
        have HX : Hid (Below w.heap.size w w7) := bstep HB1.out (hB6.trans (hb7.mono hB6.size))
        clear hb7 hB6 m3 m4 ht6 hl6
        go_wp2
        go_ret2
        exact ⟨by rw [HF.out.1, HF.out.2]; rfl, HX.out⟩

theorem kfl_flt {c : Crd} {s : ByteArray} {v : Int} (h : c.flt s ≠ 0) : c.kfl s v = c.flt s ∧ c.fndV s v = -1 := by
  have e : c.kfl s v = c.flt s := by unfold Crd.kfl; rw [if_pos h]
  exact ⟨e, by unfold Crd.fndV; rw [e, if_neg h]⟩
theorem kfl_none {c : Crd} {s : ByteArray} {v : Int} (h : c.flt s = 0) (h2 : c.pos s < 0) : c.kfl s v = 5 ∧ c.fndV s v = -1 := by
  have e : c.kfl s v = 5 := by unfold Crd.kfl; rw [if_neg (by rw [h]; simp), if_pos h2]
  exact ⟨e, by unfold Crd.fndV; rw [e]; rfl⟩
theorem kfl_ver {c : Crd} {s : ByteArray} {v : Int} {k : Nat} (h : c.flt s = 0) (h2 : c.pos s = k) (h3 : (c.at k).v ≠ v) : c.kfl s v = 10 ∧ c.fndV s v = -1 := by
  have e : c.kfl s v = 10 := by unfold Crd.kfl; rw [if_neg (by rw [h]; simp), if_neg (by omega), h2, Int.toNat_natCast, if_neg h3]
  exact ⟨e, by unfold Crd.fndV; rw [e]; rfl⟩
theorem kfl_ok {c : Crd} {s : ByteArray} {v : Int} {k : Nat} (h : c.flt s = 0) (h2 : c.pos s = k) (h3 : (c.at k).v = v) : c.kfl s v = 0 ∧ c.fndV s v = k := by
  have e : c.kfl s v = 0 := by unfold Crd.kfl; rw [if_neg (by rw [h]; simp), if_neg (by omega), h2, Int.toNat_natCast, if_pos h3]
  exact ⟨e, by unfold Crd.fndV; rw [e, h2]; rfl⟩

set_option maxRecDepth 100000 in
set_option maxHeartbeats 2000000 in
theorem findVersion_any (c : Crd) (s : ByteArray) (v : Int) (vt : Value) (us : Nat → Value) (w : World) (h : RdC w c vt us) (hs : c.small) (hn : s.size ≤ maxLen) :
    Calls Try.prog 58 #[.agg #[.int .i64 c.ck, .int .i64 c.nx, .int .i64 c.wt, vt], .string s, .int .i64 v] w fun e w' => e = .returned (.tuple #[.int .i64 (c.fndV s v), .int .i64 (c.kfl s v)]) ∧ Below w.heap.size w w' := by
  obtain ⟨av, cv, rfl, hl1, hl2⟩ := h.shape
  unfold maxLen at hl2
  have hll : (c.ts.length : Int) ≤ 9223372036854775807 := by omega
  have HR : Hid (∀ W, Below w.heap.size w W → RdC W c (.slice av c.ts.length cv) us) := fun W hW => h.below (Nat.le_refl _) hW
  have HS : Hid c.small := hs
  have HN : Hid (s.size ≤ maxLen) := hn
  have HC0 : Hid (CB _ w.heap.size c _) := cb_new w c (.slice av c.ts.length cv) 24 w.heap.size rfl
  have HB0 : Hid (Below w.heap.size w _) := bbox w (.cells #[.int .i64 c.ck, .int .i64 c.nx, .int .i64 c.wt, .slice av c.ts.length cv] 24)
  clear h hs hn hl1 hl2
  go_enter Try.func58, Try.ntmps58
  go_wp2_with fail
  refine (findNamed_any c s _ us _ (HR.out _ HB0.out) HS.out HN.out).mono ?_
  rintro e w1 ⟨rfl, hb1⟩
  have HB1 : Hid (Below w.heap.size w w1) := bstep HB0.out hb1
  have HC1 : Hid (CB w1 w.heap.size c _) := HC0.out.below HC0.out.1 hb1
  obtain ⟨s1, ⟨a0, a1, a2, a3⟩, f1⟩ := HC1.out
  clear hb1
  by_cases hf : c.flt s = 0
  rotate_left
  · have d1 : (c.flt s != 0) = true := by simp [hf]
    have HF : Hid (c.kfl s v = c.flt s ∧ c.fndV s v = -1) := kfl_flt hf
    clear hf
    generalize c.flt s = fl at *
    go_wp2
    go_ret2
    exact ⟨by rw [HF.out.1, HF.out.2]; rfl, HB1.out⟩
  have HFL : Hid (c.flt s = 0) := hf
  have HFN : Hid (c.fnd s = c.pos s) := show _ = _ by unfold Crd.fnd; rw [if_pos hf]
  rw [HFL.out, HFN.out]
  clear hf
  rcases pos_cases c s with hp | ⟨k, hk, hp, hnm⟩
  · have HF : Hid (c.kfl s v = 5 ∧ c.fndV s v = -1) := kfl_none HFL.out (by rw [hp]; decide)
    rw [hp]
    clear hp
    go_wp2
    go_ret2
    exact ⟨by rw [HF.out.1, HF.out.2]; rfl, HB1.out⟩
  · have HP : Hid (c.pos s = k) := hp
    have HAT : Hid (c.at k = c.ts[k]'hk) := show _ = _ from at_txn hk
    have hkv : (k : Int) < c.ts.length := by omega
    have hk1 : ((k : Int) == -1) = false := by simp
    rw [hp]
    clear hp hnm
    obtain ⟨gg, off, rfl, -, q0, q1, q2, -⟩ := (HR.out w1 HB1.out).txn k hk
    obtain ⟨t, ht⟩ : ∃ t, c.ts[k]'hk = t := ⟨_, rfl⟩
    rw [ht] at q0 q1 q2 HAT
    clear ht
    by_cases hv : t.v = v
    · have d1 : (t.v != v) = false := by simp [hv]
      have HF : Hid (c.kfl s v = 0 ∧ c.fndV s v = k) := kfl_ok HFL.out HP.out (by rw [HAT.out]; exact hv)
      clear hv
      go_wp2
      go_ret2
      exact ⟨by rw [HF.out.1, HF.out.2]; rfl, HB1.out⟩
    · have d1 : (t.v != v) = true := by simp [hv]
      have HF : Hid (c.kfl s v = 10 ∧ c.fndV s v = -1) := kfl_ver HFL.out HP.out (by rw [HAT.out]; exact hv)
      clear hv
      go_wp2
      go_ret2
      exact ⟨by rw [HF.out.1, HF.out.2]; rfl, HB1.out⟩

set_option maxRecDepth 100000 in
set_option maxHeartbeats 1000000 in
theorem coordFault_any (c : Crd) (s : ByteArray) (vt : Value) (us : Nat → Value) (w : World) (h : RdC w c vt us) (hs : c.small) (hn : s.size ≤ maxLen) :
    Calls Try.prog 55 #[.agg #[.int .i64 c.ck, .int .i64 c.nx, .int .i64 c.wt, vt], .string s] w fun e w' => e = .returned (.int .i64 (c.flt s)) ∧ Below w.heap.size w w' := by
  obtain ⟨av, cv, rfl, hl1, hl2⟩ := h.shape
  have HR : Hid (∀ W, Below w.heap.size w W → RdC W c (.slice av c.ts.length cv) us) := fun W hW => h.below (Nat.le_refl _) hW
  have HS : Hid c.small := hs
  have HN : Hid (s.size ≤ maxLen) := hn
  have HB0 : Hid (Below w.heap.size w _) := bbox w (.cells #[.int .i64 c.ck, .int .i64 c.nx, .int .i64 c.wt, .slice av c.ts.length cv] 24)
  have HE : Hid (c.flt s = if c.mayB then (if nameB s then 0 else 4) else 12) := show _ = _ from rfl
  clear h hs hn hl1 hl2
  go_enter Try.func55, Try.ntmps55
  go_wp2_with fail
  refine (coordMay_any c _ us _ (HR.out _ HB0.out) HS.out).mono ?_
  rintro e w1 ⟨rfl, hb1⟩
  have HB1 : Hid (Below w.heap.size w w1) := bstep HB0.out hb1
  clear hb1
  cases hm : c.mayB with
  | false =>
    have HF : Hid (c.flt s = 12) := flt_may hm
    go_wp2
    go_ret
    exact ⟨by rw [HF.out]; rfl, HB1.out⟩
  | true =>
    cases hn : nameB s with
    | false =>
      have HF : Hid (c.flt s = 4) := flt_name hm hn
      go_wp2_with (go_at_call 48; refine (nameMay_any _ _ HN.out).mono ?_; rintro e w1 ⟨rfl, rfl⟩; rw [hn])
      go_ret
      exact ⟨by rw [HF.out]; rfl, HB1.out⟩
    | true =>
      have HF : Hid (c.flt s = 0) := flt_ok hm hn
      go_wp2_with (go_at_call 48; refine (nameMay_any _ _ HN.out).mono ?_; rintro e w1 ⟨rfl, rfl⟩; rw [hn])
      go_ret
      exact ⟨by rw [HF.out]; rfl, HB1.out⟩

set_option maxRecDepth 100000 in
set_option maxHeartbeats 1000000 in
theorem txnOf_any (c : Crd) (s : ByteArray) (vt : Value) (us : Nat → Value) (w : World) (h : RdC w c vt us) :
    Calls Try.prog 56 #[.agg #[.int .i64 c.ck, .int .i64 c.nx, .int .i64 c.wt, vt], .string s] w fun e w' => e = .returned (.int .i64 (c.pos s)) ∧ Below w.heap.size w w' := by
  obtain ⟨av, cv, rfl, hl1, hl2⟩ := h.shape
  unfold maxLen at hl2
  have hll : (c.ts.length : Int) ≤ 9223372036854775807 := by omega
  have HR : Hid (∀ W, Below w.heap.size w W → RdC W c (.slice av c.ts.length cv) us) := fun W hW => h.below (Nat.le_refl _) hW
  have HB0 : Hid (Below w.heap.size w _) := bbox w (.cells #[.int .i64 c.ck, .int .i64 c.nx, .int .i64 c.wt, .slice av c.ts.length cv] 24)
  have HC0 : Hid (CB _ w.heap.size c _) := cb_new w c (.slice av c.ts.length cv) 24 w.heap.size rfl
  clear h hl1 hl2
  go_enter Try.func56, Try.ntmps56
  go_wp2
  generalize w.alloc (.cells #[.int .i64 c.ck, .int .i64 c.nx, .int .i64 c.wt, .slice av c.ts.length cv] 24) = W0 at *
  obtain ⟨s1, ⟨a0, a1, a2, a3⟩, f1⟩ := HC0.out
  go_loop [5] (fun i => ∃ k : Nat, k ≤ c.ts.length ∧ i = .int .i64 k ∧ Hid (∀ j, j < k → sameN (c.at j).nm s = false)) (fun i => c.ts.length - (intOf i).toNat)
  case atStart => exact ⟨0, by omega, rfl, fun j hj => by omega⟩
  case round =>
    obtain ⟨k, hk, rfl, HN⟩ := hrel
    by_cases hlt : k < c.ts.length
    · have hltv : (k : Int) < c.ts.length := by omega
      obtain ⟨gg, off, rfl, -, q0, -⟩ := (HR.out W0 HB0.out).txn k hlt
      have HAT : Hid (c.at k = c.ts[k]'hlt) := show _ = _ from at_txn hlt
      obtain ⟨t, ht⟩ : ∃ t, c.ts[k]'hlt = t := ⟨_, rfl⟩
      rw [ht] at q0 HAT
      clear ht
      cases hb : (t.nm.toList == s.toList) with
      | true =>
        have HV : Hid (c.pos s = k) := scan_some (by omega) (by omega) (by rw [HAT.out]; exact hb) (fun j _ hj => by rw [HN.out j hj]; decide)
        go_wp2
        go_ret
        exact ⟨by rw [HV.out]; rfl, HB0.out⟩
      | false =>
        have HV : Hid (∀ j, j < k + 1 → sameN (c.at j).nm s = false) := fun j hj => by
          by_cases e : j = k
          · rw [e, HAT.out]; exact hb
          · exact HN.out j (by omega)
        go_wp2
        go_round
        case rel => exact ⟨k + 1, by omega, by go_num, HV⟩
        case measure => simp [intOf]; omega
    · have HV : Hid (c.pos s = -1) := by
        rcases pos_cases c s with h | ⟨j, h1, h2, h3⟩
        · exact h
        · have := HN.out j (by omega)
          rw [h3, sameN_iff.2 rfl] at this
          cases this
      go_wp2
      go_ret
      exact ⟨by rw [HV.out]; rfl, HB0.out⟩

set_option maxRecDepth 100000 in
set_option maxHeartbeats 2000000 in
theorem knownFault_any (c : Crd) (s : ByteArray) (v : Int) (vt : Value) (us : Nat → Value) (w : World) (h : RdC w c vt us) (hs : c.small) (hn : s.size ≤ maxLen) :
    Calls Try.prog 62 #[.agg #[.int .i64 c.ck, .int .i64 c.nx, .int .i64 c.wt, vt], .string s, .int .i64 v] w fun e w' => e = .returned (.int .i64 (c.kfl s v)) ∧ Below w.heap.size w w' := by
  obtain ⟨av, cv, rfl, hl1, hl2⟩ := h.shape
  unfold maxLen at hl2
  have hll : (c.ts.length : Int) ≤ 9223372036854775807 := by omega
  have HR : Hid (∀ W, Below w.heap.size w W → RdC W c (.slice av c.ts.length cv) us) := fun W hW => h.below (Nat.le_refl _) hW
  have HS : Hid c.small := hs
  have HN : Hid (s.size ≤ maxLen) := hn
  have HC0 : Hid (CB _ w.heap.size c _) := cb_new w c (.slice av c.ts.length cv) 24 w.heap.size rfl
  have HB0 : Hid (Below w.heap.size w _) := bbox w (.cells #[.int .i64 c.ck, .int .i64 c.nx, .int .i64 c.wt, .slice av c.ts.length cv] 24)
  clear h hs hn hl1 hl2
  go_enter Try.func62, Try.ntmps62
  go_wp2_with fail
  refine (coordFault_any c s _ us _ (HR.out _ HB0.out) HS.out HN.out).mono ?_
  rintro e w1 ⟨rfl, hb1⟩
  have HB1 : Hid (Below w.heap.size w w1) := bstep HB0.out hb1
  have HC1 : Hid (CB w1 w.heap.size c _) := HC0.out.below HC0.out.1 hb1
  obtain ⟨s1, ⟨a0, a1, a2, a3⟩, f1⟩ := HC1.out
  clear hb1
  by_cases hf : c.flt s = 0
  rotate_left
  · have d1 : (c.flt s == 0) = false := by simp [hf]
    have HF : Hid (c.kfl s v = c.flt s ∧ c.fndV s v = -1) := kfl_flt hf
    clear hf
    generalize c.flt s = fl at *
    go_wp2
    go_quiet (fail)
    go_wp2
    go_ret
    exact ⟨by rw [HF.out.1]; rfl, below_drewN HB1.out _⟩
  have HFL : Hid (c.flt s = 0) := hf
  rw [HFL.out]
  clear hf
  go_wp2_with fail
  refine (txnOf_any c s _ us _ (HR.out _ HB1.out)).mono ?_
  rintro e w2 ⟨rfl, hb2⟩
  have HB2 : Hid (Below w.heap.size w w2) := bstep HB1.out hb2
  have HC2 : Hid (CB w2 w.heap.size c _) := HC1.out.below HC1.out.1 hb2
  clear a0 a1 a2 a3 f1 s1 hb2
  obtain ⟨s1, ⟨a0, a1, a2, a3⟩, f1⟩ := HC2.out
  rcases pos_cases c s with hp | ⟨k, hk, hp, hnm⟩
  · have HF : Hid (c.kfl s v = 5 ∧ c.fndV s v = -1) := kfl_none HFL.out (by rw [hp]; decide)
    rw [hp]
    clear hp
    go_wp2
    go_quiet (fail)
    go_wp2
    go_ret
    exact ⟨by rw [HF.out.1]; rfl, below_drewN HB2.out _⟩
  · have HP : Hid (c.pos s = k) := hp
    have HAT : Hid (c.at k = c.ts[k]'hk) := show _ = _ from at_txn hk
    have hkv : (k : Int) < c.ts.length := by omega
    rw [hp]
    clear hp hnm
    obtain ⟨gg, off, rfl, -, q0, q1, q2, -⟩ := (HR.out w2 HB2.out).txn k hk
    obtain ⟨t, ht⟩ : ∃ t, c.ts[k]'hk = t := ⟨_, rfl⟩
    rw [ht] at q0 q1 q2 HAT
    have hgg := cell_lt q2
    clear ht
    go_wp2
    go_cut [32] (fun r W => r = .bool (t.v != v) ∧ Below w2.heap.size w2 W)
    case first =>
      go_region_with (go_at_call 56; refine (txnOf_any c s _ us _ (HR.out _ (bstep HB2.out (by repeat (first | exact Below.refl _ _ | refine Below.drew ?_))))).mono ?_; rintro e w6 ⟨rfl, hb6⟩; rw [HP.out]; have hB6 : Below w2.heap.size w2 w6 := bstep (by repeat (first | exact Below.refl _ _ | refine Below.drew ?_)) hb6; obtain ⟨m3, m4⟩ := bcell hB6; clear hb6)
      all_goals
        go_wp2_with fail
        go_meet
        exact ⟨rfl, hB6⟩
    case rest =>
      obtain ⟨hv, hbl⟩ := hcut
      subst hv
      rename World => W6
      have HBW : Hid (Below w.heap.size w W6) := bstep HB2.out hbl
      obtain ⟨bv, hbv⟩ : ∃ b, (t.v != v) = b := ⟨_, rfl⟩
      rw [hbv]
      cases bv with
      | true =>
        have HF : Hid (c.kfl s v = 10 ∧ c.fndV s v = -1) := kfl_ver HFL.out HP.out (by rw [HAT.out]; simpa using hbv)
        clear hbv
        go_at_K
        go_wp2
        go_ret
        exact ⟨by rw [HF.out.1]; rfl, HBW.out⟩
      | false =>
        have HF : Hid (c.kfl s v = 0 ∧ c.fndV s v = k) := kfl_ok HFL.out HP.out (by rw [HAT.out]; simpa using hbv)
        clear hbv
        go_at_K
        go_wp2
        go_ret
        exact ⟨by rw [HF.out.1]; rfl, HBW.out⟩

end Go.Proofs.Ytjhpfnogdjpbmaa
