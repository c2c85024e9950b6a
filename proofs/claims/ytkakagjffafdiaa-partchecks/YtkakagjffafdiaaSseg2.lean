/-
  The walks of seg.Sync and seg.Crash.
-/
import Derived.Test.YtkakagjffafdiaaSseg
namespace Go.Proofs.Ytkakagjffafdiaa
open Go.RowKit
set_option linter.unusedVariables false
set_option linter.unusedSimpArgs false

theorem Rd.cuts {w : World} {u : Value} {l : List Int} (h : Rd w u l) : ∃ ao cap, u = .slice ao l.length cap ∧ l.length ≤ cap ∧ cap ≤ maxLen ∧ (ao = none → cap = 0) ∧ ∀ n, n ≤ l.length → Rd w (.slice ao n cap) (l.take n) := by
  obtain ⟨hb, ao, cap, rfl, h1, h2, h3, hc⟩ := h
  refine ⟨ao, cap, rfl, h1, h2, h3, fun n hn => ?_⟩
  by_cases h0 : 0 < l.length
  · obtain ⟨b, off, rfl, hc'⟩ := hc h0
    have h1' := rd_cut hb h1 h2 hc' 0 n (by omega)
    rw [if_neg (by omega)] at h1'
    simpa using h1'
  · have hl : l = [] := List.eq_nil_of_length_eq_zero (by omega)
    subst hl
    have : n = 0 := by simpa using hn
    subst this
    exact ⟨by simpa using hb, ao, cap, by simp, by simp, h2, h3, fun h => by simp at h⟩

set_option maxRecDepth 100000 in
set_option maxHeartbeats 2000000 in
theorem segSync_any (l : List Int) (u : Value) (y : Int) (w : World) (hl : l.length ≤ 140737488355328) (h : Rd w u l) :
    Calls Try.prog 83 #[.agg #[u, .int .i64 y]] w fun e w' => Below w.heap.size w w' ∧
      (lft l y ≠ 0 → e = .returned (.tuple #[noLog, .int .i64 (lft l y)])) ∧
      (lft l y = 0 → ∃ v, e = .returned (.tuple #[.agg #[v, .int .i64 l.length], .int .i64 0]) ∧ Own w.heap.size v l w') := by
  have H : Hid (Rd w u l) := h
  have HC : Hid (∀ w, Rd w u l → _) := fun w h => segCheck_any l u y w hl h
  obtain ⟨au, cu, rfl⟩ : ∃ au cu, u = .slice au l.length cu := by obtain ⟨_, au, cu, e, _⟩ := h; exact ⟨au, cu, e⟩
  clear h
  go_enter Try.func83, Try.ntmps83
  go_wp2_with fail
  have B0 : Below w.heap.size w ((w.alloc (.cells #[.slice au l.length cu, .int .i64 y] 61)).alloc (.cells #[.slice none 0 0, .int .i64 0] 61)) := bstep (bbox _ _) (bbox _ _)
  have L0 := (lbox_new w (.slice au l.length cu) y 61).alloc (.cells #[.slice none 0 0, .int .i64 0] 61)
  have R0 := lbox_new' (w.alloc (.cells #[.slice au l.length cu, .int .i64 y] 61)) (.slice none 0 0) 0 61 (w.heap.size + 1) (by simp)
  refine (HC.out _ (H.out.below (Nat.le_refl _) B0)).mono ?_
  rintro e w1 ⟨rfl, hb1⟩
  have B1 := bstep B0 hb1
  have L1 := L0.below hb1
  have R1 := R0.below hb1
  have hl1 := H.out.below (Nat.le_refl _) B1
  have HL1 : Hid (LBox w1 w.heap.size (.slice au l.length cu) y) := L1
  have HR1 : Hid (LBox w1 (w.heap.size + 1) (.slice none 0 0) 0) := R1
  obtain ⟨l1, l2, l3, l4⟩ := L1
  obtain ⟨r1, r2, r3, r4⟩ := R1
  clear B0 L0 R0 hb1 HC H
  by_cases h0 : lft l y = 0
  · rw [h0]
    have E : Hid _ := h0
    clear h0
    go_wp2
    go_region_with (go_at_call 72; refine (bclone_any l _ _ hl (hl1.below (Nat.le_refl _) (by repeat (first | exact Below.refl _ _ | refine Below.drew ?_ | refine Below.alloc ?_ (Nat.le_refl _) _)))).mono ?_; rintro e w5 ⟨v5, rfl, ho5, hb5⟩; have hB5 : Below w1.heap.size w1 w5 := bstep (by repeat (first | exact Below.refl _ _ | refine Below.drew ?_ | refine Below.alloc ?_ (Nat.le_refl _) _)) hb5; obtain ⟨a5, c5, rfl⟩ := ho5.shape; obtain ⟨m1, m2, m3, m4⟩ := LBox.below HL1.out hB5; obtain ⟨n1, n2, n3, n4⟩ := LBox.below HR1.out hB5)
    all_goals
      go_wp2
      refine bodyPost_ret (v := .tuple #[.agg #[.slice a5 l.length c5, .int .i64 l.length], .int .i64 0]) (by simp [results, Try.results83, go_sem, n1, n2, n3, n4]) rfl ⟨below_two (k := 1) (bstep B1 hB5), fun h => absurd E.out h, fun _ => ⟨_, rfl, ?_⟩⟩
      exact ((ho5.mono (C := w1.heap.size) (by simp)).setCell r1 _ _ |>.setCell r1 _ _).mono (by omega)
  · have h0' : (lft l y != 0) = true := by simp [h0]
    go_wp2
    refine bodyPost_ret (v := .tuple #[noLog, .int .i64 (lft l y)]) (by simp [results, Try.results83, go_sem, noLog, r1, r2, r3, r4]) rfl ⟨below_two (k := 1) B1, fun _ => rfl, fun h => absurd h h0⟩

/-- What P2.5 refuses. -/
def crf (l : List Int) (y k : Int) : Int := if lft l y ≠ 0 then lft l y else if k < 0 then 2 else 0
/-- How many bytes stay. -/
def leftOf (l : List Int) (y k : Int) : Nat := if k < (l.length : Int) - y then (y + k).toNat else l.length

set_option maxRecDepth 100000 in
set_option maxHeartbeats 2000000 in
theorem segCrash_any (l : List Int) (u : Value) (y k : Int) (w : World) (hl : l.length ≤ 140737488355328) (h : Rd w u l) :
    Calls Try.prog 93 #[.agg #[u, .int .i64 y], .int .i64 k] w fun e w' => Below w.heap.size w w' ∧
      (crf l y k ≠ 0 → e = .returned (.tuple #[noLog, .int .i64 (crf l y k)])) ∧
      (crf l y k = 0 → ∃ v, e = .returned (.tuple #[.agg #[v, .int .i64 (decL (l.take (leftOf l y k))).2], .int .i64 0]) ∧ Own w.heap.size v (l.take (decL (l.take (leftOf l y k))).2) w') := by
  have H : Hid (Rd w u l) := h
  have HC : Hid (∀ w, Rd w u l → _) := fun w h => segCheck_any l u y w hl h
  have hbs := h.1
  obtain ⟨au, cu, rfl, hcu1, hcu2, hcu3, _⟩ := h.cuts
  have HQ : Hid (∀ W, Rd W (.slice au l.length cu) l → ∀ n, n ≤ l.length → Rd W (.slice au n cu) (l.take n)) := fun W h n hn => by
    obtain ⟨au', cu', e, _, _, _, h'⟩ := h.cuts
    simp only [Value.slice.injEq] at e
    obtain ⟨rfl, _, rfl⟩ := e
    exact h' n hn
  unfold maxLen at hcu2
  clear h
  go_enter Try.func93, Try.ntmps93
  go_wp2_with fail
  have B0 : Below w.heap.size w ((w.alloc (.cells #[.slice au l.length cu, .int .i64 y] 61)).alloc (.cells #[.slice none 0 0, .int .i64 0] 61)) := bstep (bbox _ _) (bbox _ _)
  have L0 := (lbox_new w (.slice au l.length cu) y 61).alloc (.cells #[.slice none 0 0, .int .i64 0] 61)
  have R0 := lbox_new' (w.alloc (.cells #[.slice au l.length cu, .int .i64 y] 61)) (.slice none 0 0) 0 61 (w.heap.size + 1) (by simp)
  refine (HC.out _ (H.out.below (Nat.le_refl _) B0)).mono ?_
  rintro e w1 ⟨rfl, hb1⟩
  have B1 := bstep B0 hb1
  have L1 := L0.below hb1
  have R1 := R0.below hb1
  have hl1 := H.out.below (Nat.le_refl _) B1
  clear B0 L0 R0 hb1 HC H
  by_cases h0 : lft l y = 0
  · by_cases hk : k < 0
    · have E : Hid (crf l y k = 2) := show _ = _ by unfold crf; rw [if_neg (by simp [h0]), if_pos hk]
      obtain ⟨r1, r2, r3, r4⟩ := R1
      rw [h0]
      clear h0 hcu1 hl
      go_wp2
      refine bodyPost_ret (v := .tuple #[noLog, .int .i64 2]) (by simp [results, Try.results93, go_sem, noLog, r1, r2, r3, r4]) rfl ⟨below_two (k := 1) B1, fun _ => by rw [E.out], fun h => by rw [E.out] at h; simp at h⟩
    · obtain ⟨hq1, hq2, hq3, hq4, hq5, hq6⟩ := lft_ok h0
      have E : Hid (crf l y k = 0) := show _ = _ by unfold crf; rw [if_neg (by simp [h0]), if_neg hk]
      have hlb : leftOf l y k ≤ l.length := by unfold leftOf; split <;> omega
      have hlv : ((leftOf l y k : Nat) : Int) = if k < (l.length : Int) - y then y + k else l.length := by unfold leftOf; split <;> omega
      have HT : Hid (Rd w1 (.slice au (leftOf l y k) cu) (l.take (leftOf l y k))) := HQ.out w1 hl1 _ hlb
      rw [h0]
      obtain ⟨l1, l2, l3, l4⟩ := L1
      have hl' : (l.length : Int) ≤ 40000 := by omega
      have hcu1' : (l.length : Int) ≤ cu := by omega
      clear h0 hl hcu1 hq1 hq2 hq3 hq6
      have HLE : Hid (leftOf l y k ≤ l.length ∧ l.length ≤ 40000) := ⟨hlb, by omega⟩
      have hz : (decL (l.take (leftOf l y k))).2 ≤ l.length := by
        have := (decP_len (l.take (leftOf l y k)).length (l.take (leftOf l y k)) (bytes_take hbs _)).2
        unfold decL
        exact Nat.le_trans this (by simp only [List.length_take]; omega)
      clear hlv
      by_cases hkl : k ≤ (l.length : Int) - y
      · have hX : Hid ((y + k).toNat = leftOf l y k) := show _ = _ by unfold leftOf; split <;> omega
        clear hlb
        go_wp2_with fail
        rw [hX.out]
        refine (decode_any (l.take (leftOf l y k)) _ _ (by have := HLE.out; simp; omega) HT.out).mono ?_
        rintro e w2 ⟨va, rfl, hva, hb2⟩
        obtain ⟨ae, ce, rfl⟩ := hva.shape
        have B2 := bstep B1 hb2
        have L2 := LBox.below ⟨l1, l2, l3, l4⟩ hb2
        have R2 := R1.below hb2
        have HL2 : Hid (LBox w2 w.heap.size (.slice au l.length cu) y) := L2
        have HR2 : Hid (LBox w2 (w.heap.size + 1) (.slice none 0 0) 0) := R2
        have HT2 : Hid (Rd w2 (.slice au (decL (l.take (leftOf l y k))).2 cu) (l.take (decL (l.take (leftOf l y k))).2)) := HQ.out w2 (hl1.below (Nat.le_refl _) hb2) (decL (l.take (leftOf l y k))).2 hz
        clear l1 l2 l3 l4 hb2 B1 R1 hl1 HT hva HQ
        obtain ⟨l1, l2, l3, l4⟩ := L2
        obtain ⟨r1, r2, r3, r4⟩ := R2
        generalize hzz : (decL (l.take (leftOf l y k))).2 = z at *
        have HZ : Hid ((decL (l.take (leftOf l y k))).2 = z) := hzz
        have hz' : (z : Int) ≤ l.length := by omega
        clear hz hzz
        go_wp2_with fail
        refine (bclone_any (l.take z) _ _ (by have := HLE.out; simp; omega) (HT2.out.below (Nat.le_refl _) (by repeat (first | exact Below.refl _ _ | refine Below.drew ?_ | refine Below.alloc ?_ (Nat.le_refl _) _)))).mono ?_
        rintro e w5 ⟨v5, rfl, ho5, hb5⟩
        have hB5 : Below w2.heap.size w2 w5 := bstep (by repeat (first | exact Below.refl _ _ | refine Below.drew ?_ | refine Below.alloc ?_ (Nat.le_refl _) _)) hb5
        obtain ⟨a5, c5, rfl⟩ := ho5.shape
        obtain ⟨m1, m2, m3, m4⟩ := LBox.below HL2.out hB5
        obtain ⟨n1, n2, n3, n4⟩ := LBox.below HR2.out hB5
        go_wp2
        refine bodyPost_ret (v := .tuple #[.agg #[.slice a5 (l.take z).length c5, .int .i64 z], .int .i64 0]) (by simp [results, Try.results93, go_sem, n1, n2, n3, n4]) rfl ⟨below_two (k := 1) (bstep B2 hB5), fun h => absurd E.out h, fun _ => ?_⟩
        rw [HZ.out]
        refine ⟨_, rfl, ?_⟩
        exact ((ho5.mono (C := w2.heap.size) (by simp)).setCell r1 _ _ |>.setCell r1 _ _).mono (by omega)
      · have hX : Hid ((y + ((l.length : Int) - y)).toNat = leftOf l y k) := show _ = _ by unfold leftOf; split <;> omega
        clear hlb
        go_wp2_with fail
        rw [hX.out]
        refine (decode_any (l.take (leftOf l y k)) _ _ (by have := HLE.out; simp; omega) HT.out).mono ?_
        rintro e w2 ⟨va, rfl, hva, hb2⟩
        obtain ⟨ae, ce, rfl⟩ := hva.shape
        have B2 := bstep B1 hb2
        have L2 := LBox.below ⟨l1, l2, l3, l4⟩ hb2
        have R2 := R1.below hb2
        have HL2 : Hid (LBox w2 w.heap.size (.slice au l.length cu) y) := L2
        have HR2 : Hid (LBox w2 (w.heap.size + 1) (.slice none 0 0) 0) := R2
        have HT2 : Hid (Rd w2 (.slice au (decL (l.take (leftOf l y k))).2 cu) (l.take (decL (l.take (leftOf l y k))).2)) := HQ.out w2 (hl1.below (Nat.le_refl _) hb2) (decL (l.take (leftOf l y k))).2 hz
        clear l1 l2 l3 l4 hb2 B1 R1 hl1 HT hva HQ
        obtain ⟨l1, l2, l3, l4⟩ := L2
        obtain ⟨r1, r2, r3, r4⟩ := R2
        generalize hzz : (decL (l.take (leftOf l y k))).2 = z at *
        have HZ : Hid ((decL (l.take (leftOf l y k))).2 = z) := hzz
        have hz' : (z : Int) ≤ l.length := by omega
        clear hz hzz
        go_wp2_with fail
        refine (bclone_any (l.take z) _ _ (by have := HLE.out; simp; omega) (HT2.out.below (Nat.le_refl _) (by repeat (first | exact Below.refl _ _ | refine Below.drew ?_ | refine Below.alloc ?_ (Nat.le_refl _) _)))).mono ?_
        rintro e w5 ⟨v5, rfl, ho5, hb5⟩
        have hB5 : Below w2.heap.size w2 w5 := bstep (by repeat (first | exact Below.refl _ _ | refine Below.drew ?_ | refine Below.alloc ?_ (Nat.le_refl _) _)) hb5
        obtain ⟨a5, c5, rfl⟩ := ho5.shape
        obtain ⟨m1, m2, m3, m4⟩ := LBox.below HL2.out hB5
        obtain ⟨n1, n2, n3, n4⟩ := LBox.below HR2.out hB5
        go_wp2
        refine bodyPost_ret (v := .tuple #[.agg #[.slice a5 (l.take z).length c5, .int .i64 z], .int .i64 0]) (by simp [results, Try.results93, go_sem, n1, n2, n3, n4]) rfl ⟨below_two (k := 1) (bstep B2 hB5), fun h => absurd E.out h, fun _ => ?_⟩
        rw [HZ.out]
        refine ⟨_, rfl, ?_⟩
        exact ((ho5.mono (C := w2.heap.size) (by simp)).setCell r1 _ _ |>.setCell r1 _ _).mono (by omega)
  · have h0' : (lft l y != 0) = true := by simp [h0]
    have E : Hid (crf l y k = lft l y) := show _ = _ by unfold crf; rw [if_pos h0]
    obtain ⟨r1, r2, r3, r4⟩ := R1
    clear hcu1 hl
    go_wp2
    refine bodyPost_ret (v := .tuple #[noLog, .int .i64 (lft l y)]) (by simp [results, Try.results93, go_sem, noLog, r1, r2, r3, r4]) rfl ⟨below_two (k := 1) B1, fun _ => by rw [E.out], fun h => absurd (E.out ▸ h) h0⟩

end Go.Proofs.Ytkakagjffafdiaa
