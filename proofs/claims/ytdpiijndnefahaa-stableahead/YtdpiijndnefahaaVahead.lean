/-
  The walk of StableAhead, given what view.Check and view.Stable answer.
-/
import Derived.Test.YtdpiijndnefahaaVtwiceC
import Derived.Test.YtdpiijndnefahaaVpure
import Derived.Test.YtdpiijndnefahaaVstab
namespace Go.Proofs.Ytdpiijndnefahaa
open Go.RowKit
set_option linter.unusedVariables false
set_option linter.unusedSimpArgs false

theorem scan_shut (es : List Ent) (x : Ent) (k lo : Nat) (hlo : lo ≤ es.length) (h : ∃ j, k ≤ j ∧ j < lo ∧ isMark es x.b j) :
    decide (0 ≤ scan (fun i => (fun y : Ent => y.b == x.b && y.k != 1) (Ent.at ((es.take lo).drop k) i) = true) ((es.take lo).drop k).length 0) = true := by
  obtain ⟨j, h1, h2, h3, h4⟩ := h
  rw [decide_eq_true_eq]
  apply Classical.byContradiction
  intro hc
  have hn := scan_none (P := fun i => (fun y : Ent => y.b == x.b && y.k != 1) (Ent.at ((es.take lo).drop k) i) = true) (f := ((es.take lo).drop k).length) (i := 0)
  refine hn.1 (by omega) (j - k) (by omega) (by simp; omega) ?_
  simp only [at_drop]
  rw [show k + (j - k) = j by omega, at_take es lo j h2]
  simp [h3, h4]
theorem RdX.mid {w : World} {g off cap : Nat} {es : List Ent} (h : RdX w (.slice (some ⟨g, off, none⟩) es.length cap) es) (k lo : Nat) (hk : k < lo) (hl : lo ≤ es.length) : RdX w (.slice (some ⟨g, off + k * 7, none⟩) (lo - k) (cap - k)) ((es.take lo).drop k) := by
  have e : (es.take lo).length = lo := by simp; omega
  have h1 : RdX w (.slice (some ⟨g, off, none⟩) (es.take lo).length cap) (es.take lo) := by rw [e]; exact h.take lo hl
  have h2 := h1.drop k (by rw [e]; exact hk)
  rw [e] at h2
  exact h2

set_option maxRecDepth 100000 in
set_option maxHeartbeats 2000000 in
theorem stableAhead_core (HV : CheckC) (HS : StableC) (rs : List Raw4) (v : Value) (a b : Int) (w : World) (hl : (rs.length : Int) ≤ 9223372036854775807) (ha : I64 a) (hb : I64 b) (h : RdR w v rs) :
    Calls Try.prog 8 #[v, .int .i64 a, .int .i64 b] w fun e w' => e = .returned (.bool true) ∧ Below w.heap.size w w' := by
  have HSS : Hid StableC := HS
  have HR : Hid (RdR w v rs) := h
  have HL : Hid ((rs.length : Int) ≤ 9223372036854775807) := hl
  have HSent : Hid (∀ v1 w1, RdX w1 v1 (manyL rs 50) → _) := fun v1 w1 h1 => sent_any HV (manyL rs 50) v1 w1 (by simp [manyL]; omega) (manyL_plain rs 50) h1
  have HPl : Hid (Plain (sentL rs 50)) := sentL_plain rs 50
  have HTx : Hid _ := sentL_txn rs 50
  have hln := sentL_len rs 50
  clear h hl HV HS
  go_enter Try.func8, Try.ntmps8
  go_wp2_with fail
  refine (many_any rs v 50 w (by omega) HL.out HR.out).mono ?_
  rintro e w1 ⟨v1, rfl, hv1, hb1⟩
  go_wp2_with fail
  refine (HSent.out v1 w1 hv1.rdX).mono ?_
  rintro e w2 ⟨u, rfl, hu, hb2⟩
  have B2 := bstep hb1 hb2
  have HU : Hid (RdX w2 u (sentL rs 50)) := hu.rdX
  clear HR HL HSent hv1 hb1 hb2 hu
  generalize sentL rs 50 = es at *
  obtain ⟨ao, cap, rfl, h1, h2, h4, h3⟩ := HU.out
  have H3 : Hid _ := h3
  clear h3 h2
  go_wp2_with fail
  refine (picked_any a (es.length + 1) _ ha (by omega)).mono ?_
  rintro e w3 ⟨rfl, rfl⟩
  have hpa := pick_bd a (es.length + 1) (by omega)
  go_wp2_with fail
  refine (picked_any b (es.length + 1) _ hb (by omega)).mono ?_
  rintro e w4 ⟨rfl, rfl⟩
  have hpb := pick_bd b (es.length + 1) (by omega)
  obtain ⟨i, hi⟩ : ∃ i : Nat, pick a (es.length + 1) = i := ⟨(pick a (es.length + 1)).toNat, by omega⟩
  obtain ⟨j, hj⟩ : ∃ j : Nat, pick b (es.length + 1) = j := ⟨(pick b (es.length + 1)).toNat, by omega⟩
  rw [hi] at hpa ⊢
  rw [hj] at hpb ⊢
  have HB2 : Hid _ := B2
  clear hi hj ha hb B2
  rcases Nat.lt_trichotomy i j with hij | hij | hij
  · have hij' : (i : Int) < j := by omega
    have hlo : i ≤ es.length := by omega
    have hhi : j ≤ es.length := by omega
    have f1 : stf es (i : Nat) = ((stb es i : Int), 0) := by unfold stf; rw [if_neg (by omega)]; simp
    have f2 : stf es (j : Nat) = ((stb es j : Int), 0) := by unfold stf; rw [if_neg (by omega)]; simp
    have f3 : stf es ((es.length : Int) + 1) = (0, 2) := by unfold stf; rw [if_pos (by omega)]
    have g1 := stb_high es i
    have g2 := stb_mono es (h1 := i) (h2 := j) (by omega)
    have HSH : Hid (∀ k, k < stb es i → _) := fun k hk => stb_shut HTx.out hlo hk
    go_wp2_with fail
    refine (HSS.out es _ (i : Nat) _ (by omega) HPl.out HU.out).mono ?_
    rintro e w5 ⟨rfl, hb5⟩
    rw [f1]
    have HU5 : Hid _ := RdX.below HU.out (Nat.le_refl _) hb5
    have HB5 : Hid _ := bstep HB2.out hb5
    clear hb5 f1
    go_wp2_with fail
    refine (HSS.out es _ (j : Nat) _ (by omega) HPl.out HU5.out).mono ?_
    rintro e w6 ⟨rfl, hb6⟩
    rw [f2]
    have HU6 : Hid _ := RdX.below HU5.out (Nat.le_refl _) hb6
    have HB6 : Hid _ := bstep HB5.out hb6
    clear hb6 f2 HU5 HB5
    go_wp2_with fail
    refine (HSS.out es _ ((es.length : Int) + 1) _ (by omega) HPl.out HU6.out).mono ?_
    rintro e w7 ⟨rfl, hb7⟩
    rw [f3]
    have HU7 : Hid _ := RdX.below HU6.out (Nat.le_refl _) hb7
    have HB7 : Hid _ := bstep HB6.out hb7
    clear hb7 f3 HU6 HB6
    generalize stb es i = x at *
    generalize stb es j = y at *
    have g1' : (x : Int) ≤ (i : Nat) := by omega
    have g2' : (x : Int) ≤ y := by omega
    have g3' : (x : Int) ≤ cap := by omega
    have d1 : decide (i < x) = false := by simp; omega
    have d2 : decide (y < x) = false := by simp <;> omega
    go_wp2
    go_loopw [81] (fun i wr => ∃ k : Nat, k ≤ x ∧ i = .int .i64 k ∧ Below w7.heap.size w7 wr) (fun i _ => x - (intOf i).toNat)
    case atStart => exact ⟨0, by omega, rfl, Below.refl _ _⟩
    case round =>
      obtain ⟨k, hk, rfl, hb⟩ := hrel
      have HBr : Hid _ := HB7.out.trans (hb.mono HB7.out.size)
      by_cases hlt : k < x
      · have hkx : (k : Int) < x := by omega
        have hke : k < es.length := by omega
        have hke' : (k : Int) < es.length := by omega
        have hklo : (k : Int) ≤ (i : Nat) := by omega
        have hloc : ((i : Nat) : Int) ≤ cap := by omega
        have hRr := RdX.below HU7.out (Nat.le_refl _) hb
        have hRc := hRr
        obtain ⟨ao', cap', e0, _, _, _, h3⟩ := hRc
        simp only [Value.slice.injEq] at e0
        obtain ⟨rfl, _, rfl⟩ := e0
        obtain ⟨g, off, rfl, hc⟩ := h3 (by omega)
        obtain ⟨q0, q1, q2, q3, q4, q5, q6⟩ := RdX.cells hc k hke
        have HMID : Hid _ := hRr.mid k i (by omega) hlo
        have HSC : Hid _ := scan_shut es (Ent.at es k) k i hlo
        have HSHk : Hid _ := HSH.out k hlt
        clear hc h3 hRr
        generalize Ent.at es k = z at *
        have hB0 := bbox wr (.cells #[.int .i64 z.a, .int .i64 z.b, .int .i64 z.c, .int .i64 z.d, .int .i64 z.k, .bool z.t, .string z.s] 24)
        have hS0 := seven_new wr z 24 _ rfl
        have HS0 : Hid (Seven _ wr.heap.size z) := hS0
        have HB0 : Hid (Below wr.heap.size wr _) := hB0
        have hlt0 : wr.heap.size < (wr.alloc (.cells #[.int .i64 z.a, .int .i64 z.b, .int .i64 z.c, .int .i64 z.d, .int .i64 z.k, .bool z.t, .string z.s] 24)).heap.size := by simp
        have HLT0 : Hid (wr.heap.size < _) := hlt0
        clear hS0 hB0 hlt0
        by_cases hk1 : z.k = 1
        · have hk1' : (z.k == 1) = true := by simp [hk1]
          cases ht : z.t with
          | true =>
            rw [ht] at q5
            have HY : Hid _ := HSC.out (HSHk.out hk1 ht)
            have HMD : Hid _ := RdX.below HMID.out (Nat.le_refl _) HB0.out
            have HCC0 : Hid _ := containsFunc_any 27 #[.pointer (some ⟨wr.heap.size, 0, none⟩)] (fun y => y.b == z.b && y.k != 1) (enters_of Try.func27 (by kernel_rfl) rfl) ((es.take i).drop k) _ _ (by simp; omega) HMD.out (stableAhead_fn wr.heap.size z _ HLT0.out HS0.out)
            rw [HY.out, ht] at HCC0
            rw [ht] at HB0
            clear hk1 ht HSC HSHk HY HMD HMID HS0
            go_wp2_with fail
            refine Calls.mono HCC0.out ?_
            rintro e w8 ⟨rfl, hb8⟩
            have hB8 := hb.trans ((bstep HB0.out hb8).mono hb.size)
            clear HCC0 HB0 hb8
            go_wp2
            go_roundw
            case rel => exact ⟨k + 1, by omega, by go_num, hB8⟩
            case measure => simp [intOf]; omega
          | false =>
            rw [ht] at q5 HB0
            clear hk1 ht HSC HSHk HMID HS0
            go_wp2
            go_roundw
            case rel => exact ⟨k + 1, by omega, by go_num, hb.trans (HB0.out.mono hb.size)⟩
            case measure => simp [intOf]; omega
        · have hk1' : (z.k == 1) = false := by simp [hk1]
          clear hk1 HSC HSHk HMID HS0
          go_wp2
          go_roundw
          case rel => exact ⟨k + 1, by omega, by go_num, hb.trans (HB0.out.mono hb.size)⟩
          case measure => simp [intOf]; omega
      · go_wp2
        go_ret
        exact ⟨rfl, HBr.out⟩
  · subst hij
    have hlo : i ≤ es.length := by omega
    have hhi : i ≤ es.length := by omega
    have f1 : stf es (i : Nat) = ((stb es i : Int), 0) := by unfold stf; rw [if_neg (by omega)]; simp
    have f2 : stf es (i : Nat) = ((stb es i : Int), 0) := by unfold stf; rw [if_neg (by omega)]; simp
    have f3 : stf es ((es.length : Int) + 1) = (0, 2) := by unfold stf; rw [if_pos (by omega)]
    have g1 := stb_high es i
    have g2 := stb_mono es (h1 := i) (h2 := i) (by omega)
    have HSH : Hid (∀ k, k < stb es i → _) := fun k hk => stb_shut HTx.out hlo hk
    go_wp2_with fail
    refine (HSS.out es _ (i : Nat) _ (by omega) HPl.out HU.out).mono ?_
    rintro e w5 ⟨rfl, hb5⟩
    rw [f1]
    have HU5 : Hid _ := RdX.below HU.out (Nat.le_refl _) hb5
    have HB5 : Hid _ := bstep HB2.out hb5
    clear hb5 f1
    go_wp2_with fail
    refine (HSS.out es _ (i : Nat) _ (by omega) HPl.out HU5.out).mono ?_
    rintro e w6 ⟨rfl, hb6⟩
    rw [f2]
    have HU6 : Hid _ := RdX.below HU5.out (Nat.le_refl _) hb6
    have HB6 : Hid _ := bstep HB5.out hb6
    clear hb6 f2 HU5 HB5
    go_wp2_with fail
    refine (HSS.out es _ ((es.length : Int) + 1) _ (by omega) HPl.out HU6.out).mono ?_
    rintro e w7 ⟨rfl, hb7⟩
    rw [f3]
    have HU7 : Hid _ := RdX.below HU6.out (Nat.le_refl _) hb7
    have HB7 : Hid _ := bstep HB6.out hb7
    clear hb7 f3 HU6 HB6
    generalize stb es i = x at *
    have g1' : (x : Int) ≤ (i : Nat) := by omega
    have g2' : (x : Int) ≤ x := by omega
    have g3' : (x : Int) ≤ cap := by omega
    have d1 : decide (i < x) = false := by simp; omega
    have d2 : decide (x < x) = false := by simp <;> omega
    go_wp2
    go_loopw [81] (fun i wr => ∃ k : Nat, k ≤ x ∧ i = .int .i64 k ∧ Below w7.heap.size w7 wr) (fun i _ => x - (intOf i).toNat)
    case atStart => exact ⟨0, by omega, rfl, Below.refl _ _⟩
    case round =>
      obtain ⟨k, hk, rfl, hb⟩ := hrel
      have HBr : Hid _ := HB7.out.trans (hb.mono HB7.out.size)
      by_cases hlt : k < x
      · have hkx : (k : Int) < x := by omega
        have hke : k < es.length := by omega
        have hke' : (k : Int) < es.length := by omega
        have hklo : (k : Int) ≤ (i : Nat) := by omega
        have hloc : ((i : Nat) : Int) ≤ cap := by omega
        have hRr := RdX.below HU7.out (Nat.le_refl _) hb
        have hRc := hRr
        obtain ⟨ao', cap', e0, _, _, _, h3⟩ := hRc
        simp only [Value.slice.injEq] at e0
        obtain ⟨rfl, _, rfl⟩ := e0
        obtain ⟨g, off, rfl, hc⟩ := h3 (by omega)
        obtain ⟨q0, q1, q2, q3, q4, q5, q6⟩ := RdX.cells hc k hke
        have HMID : Hid _ := hRr.mid k i (by omega) hlo
        have HSC : Hid _ := scan_shut es (Ent.at es k) k i hlo
        have HSHk : Hid _ := HSH.out k hlt
        clear hc h3 hRr
        generalize Ent.at es k = z at *
        have hB0 := bbox wr (.cells #[.int .i64 z.a, .int .i64 z.b, .int .i64 z.c, .int .i64 z.d, .int .i64 z.k, .bool z.t, .string z.s] 24)
        have hS0 := seven_new wr z 24 _ rfl
        have HS0 : Hid (Seven _ wr.heap.size z) := hS0
        have HB0 : Hid (Below wr.heap.size wr _) := hB0
        have hlt0 : wr.heap.size < (wr.alloc (.cells #[.int .i64 z.a, .int .i64 z.b, .int .i64 z.c, .int .i64 z.d, .int .i64 z.k, .bool z.t, .string z.s] 24)).heap.size := by simp
        have HLT0 : Hid (wr.heap.size < _) := hlt0
        clear hS0 hB0 hlt0
        by_cases hk1 : z.k = 1
        · have hk1' : (z.k == 1) = true := by simp [hk1]
          cases ht : z.t with
          | true =>
            rw [ht] at q5
            have HY : Hid _ := HSC.out (HSHk.out hk1 ht)
            have HMD : Hid _ := RdX.below HMID.out (Nat.le_refl _) HB0.out
            have HCC0 : Hid _ := containsFunc_any 27 #[.pointer (some ⟨wr.heap.size, 0, none⟩)] (fun y => y.b == z.b && y.k != 1) (enters_of Try.func27 (by kernel_rfl) rfl) ((es.take i).drop k) _ _ (by simp; omega) HMD.out (stableAhead_fn wr.heap.size z _ HLT0.out HS0.out)
            rw [HY.out, ht] at HCC0
            rw [ht] at HB0
            clear hk1 ht HSC HSHk HY HMD HMID HS0
            go_wp2_with fail
            refine Calls.mono HCC0.out ?_
            rintro e w8 ⟨rfl, hb8⟩
            have hB8 := hb.trans ((bstep HB0.out hb8).mono hb.size)
            clear HCC0 HB0 hb8
            go_wp2
            go_roundw
            case rel => exact ⟨k + 1, by omega, by go_num, hB8⟩
            case measure => simp [intOf]; omega
          | false =>
            rw [ht] at q5 HB0
            clear hk1 ht HSC HSHk HMID HS0
            go_wp2
            go_roundw
            case rel => exact ⟨k + 1, by omega, by go_num, hb.trans (HB0.out.mono hb.size)⟩
            case measure => simp [intOf]; omega
        · have hk1' : (z.k == 1) = false := by simp [hk1]
          clear hk1 HSC HSHk HMID HS0
          go_wp2
          go_roundw
          case rel => exact ⟨k + 1, by omega, by go_num, hb.trans (HB0.out.mono hb.size)⟩
          case measure => simp [intOf]; omega
      · go_wp2
        go_ret
        exact ⟨rfl, HBr.out⟩
  · have hij' : (j : Int) < i := by omega
    have hlo : j ≤ es.length := by omega
    have hhi : i ≤ es.length := by omega
    have f1 : stf es (j : Nat) = ((stb es j : Int), 0) := by unfold stf; rw [if_neg (by omega)]; simp
    have f2 : stf es (i : Nat) = ((stb es i : Int), 0) := by unfold stf; rw [if_neg (by omega)]; simp
    have f3 : stf es ((es.length : Int) + 1) = (0, 2) := by unfold stf; rw [if_pos (by omega)]
    have g1 := stb_high es j
    have g2 := stb_mono es (h1 := j) (h2 := i) (by omega)
    have HSH : Hid (∀ k, k < stb es j → _) := fun k hk => stb_shut HTx.out hlo hk
    go_wp2_with fail
    refine (HSS.out es _ (j : Nat) _ (by omega) HPl.out HU.out).mono ?_
    rintro e w5 ⟨rfl, hb5⟩
    rw [f1]
    have HU5 : Hid _ := RdX.below HU.out (Nat.le_refl _) hb5
    have HB5 : Hid _ := bstep HB2.out hb5
    clear hb5 f1
    go_wp2_with fail
    refine (HSS.out es _ (i : Nat) _ (by omega) HPl.out HU5.out).mono ?_
    rintro e w6 ⟨rfl, hb6⟩
    rw [f2]
    have HU6 : Hid _ := RdX.below HU5.out (Nat.le_refl _) hb6
    have HB6 : Hid _ := bstep HB5.out hb6
    clear hb6 f2 HU5 HB5
    go_wp2_with fail
    refine (HSS.out es _ ((es.length : Int) + 1) _ (by omega) HPl.out HU6.out).mono ?_
    rintro e w7 ⟨rfl, hb7⟩
    rw [f3]
    have HU7 : Hid _ := RdX.below HU6.out (Nat.le_refl _) hb7
    have HB7 : Hid _ := bstep HB6.out hb7
    clear hb7 f3 HU6 HB6
    generalize stb es j = x at *
    generalize stb es i = y at *
    have g1' : (x : Int) ≤ (j : Nat) := by omega
    have g2' : (x : Int) ≤ y := by omega
    have g3' : (x : Int) ≤ cap := by omega
    have d1 : decide (j < x) = false := by simp; omega
    have d2 : decide (y < x) = false := by simp <;> omega
    go_wp2
    go_loopw [81] (fun i wr => ∃ k : Nat, k ≤ x ∧ i = .int .i64 k ∧ Below w7.heap.size w7 wr) (fun i _ => x - (intOf i).toNat)
    case atStart => exact ⟨0, by omega, rfl, Below.refl _ _⟩
    case round =>
      obtain ⟨k, hk, rfl, hb⟩ := hrel
      have HBr : Hid _ := HB7.out.trans (hb.mono HB7.out.size)
      by_cases hlt : k < x
      · have hkx : (k : Int) < x := by omega
        have hke : k < es.length := by omega
        have hke' : (k : Int) < es.length := by omega
        have hklo : (k : Int) ≤ (j : Nat) := by omega
        have hloc : ((j : Nat) : Int) ≤ cap := by omega
        have hRr := RdX.below HU7.out (Nat.le_refl _) hb
        have hRc := hRr
        obtain ⟨ao', cap', e0, _, _, _, h3⟩ := hRc
        simp only [Value.slice.injEq] at e0
        obtain ⟨rfl, _, rfl⟩ := e0
        obtain ⟨g, off, rfl, hc⟩ := h3 (by omega)
        obtain ⟨q0, q1, q2, q3, q4, q5, q6⟩ := RdX.cells hc k hke
        have HMID : Hid _ := hRr.mid k j (by omega) hlo
        have HSC : Hid _ := scan_shut es (Ent.at es k) k j hlo
        have HSHk : Hid _ := HSH.out k hlt
        clear hc h3 hRr
        generalize Ent.at es k = z at *
        have hB0 := bbox wr (.cells #[.int .i64 z.a, .int .i64 z.b, .int .i64 z.c, .int .i64 z.d, .int .i64 z.k, .bool z.t, .string z.s] 24)
        have hS0 := seven_new wr z 24 _ rfl
        have HS0 : Hid (Seven _ wr.heap.size z) := hS0
        have HB0 : Hid (Below wr.heap.size wr _) := hB0
        have hlt0 : wr.heap.size < (wr.alloc (.cells #[.int .i64 z.a, .int .i64 z.b, .int .i64 z.c, .int .i64 z.d, .int .i64 z.k, .bool z.t, .string z.s] 24)).heap.size := by simp
        have HLT0 : Hid (wr.heap.size < _) := hlt0
        clear hS0 hB0 hlt0
        by_cases hk1 : z.k = 1
        · have hk1' : (z.k == 1) = true := by simp [hk1]
          cases ht : z.t with
          | true =>
            rw [ht] at q5
            have HY : Hid _ := HSC.out (HSHk.out hk1 ht)
            have HMD : Hid _ := RdX.below HMID.out (Nat.le_refl _) HB0.out
            have HCC0 : Hid _ := containsFunc_any 27 #[.pointer (some ⟨wr.heap.size, 0, none⟩)] (fun y => y.b == z.b && y.k != 1) (enters_of Try.func27 (by kernel_rfl) rfl) ((es.take j).drop k) _ _ (by simp; omega) HMD.out (stableAhead_fn wr.heap.size z _ HLT0.out HS0.out)
            rw [HY.out, ht] at HCC0
            rw [ht] at HB0
            clear hk1 ht HSC HSHk HY HMD HMID HS0
            go_wp2_with fail
            refine Calls.mono HCC0.out ?_
            rintro e w8 ⟨rfl, hb8⟩
            have hB8 := hb.trans ((bstep HB0.out hb8).mono hb.size)
            clear HCC0 HB0 hb8
            go_wp2
            go_roundw
            case rel => exact ⟨k + 1, by omega, by go_num, hB8⟩
            case measure => simp [intOf]; omega
          | false =>
            rw [ht] at q5 HB0
            clear hk1 ht HSC HSHk HMID HS0
            go_wp2
            go_roundw
            case rel => exact ⟨k + 1, by omega, by go_num, hb.trans (HB0.out.mono hb.size)⟩
            case measure => simp [intOf]; omega
        · have hk1' : (z.k == 1) = false := by simp [hk1]
          clear hk1 HSC HSHk HMID HS0
          go_wp2
          go_roundw
          case rel => exact ⟨k + 1, by omega, by go_num, hb.trans (HB0.out.mono hb.size)⟩
          case measure => simp [intOf]; omega
      · go_wp2
        go_ret
        exact ⟨rfl, HBr.out⟩

end Go.Proofs.Ytdpiijndnefahaa
