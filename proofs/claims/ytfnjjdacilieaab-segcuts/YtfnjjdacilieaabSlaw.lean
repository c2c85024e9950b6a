/-
  The walks of the law's own helpers for logs (logs: a copy; sameLog: of one log twice), and of SegChecks, SegEntries, SegSyncs.
-/
import Derived.Test.YtfnjjdacilieaabSref4
import Derived.Test.YtfnjjdacilieaabLsame
namespace Go.Proofs.Ytfnjjdacilieaab
open Go.RowKit
set_option linter.unusedVariables false
set_option linter.unusedSimpArgs false

set_option maxHeartbeats 1000000 in
theorem logs_any (l : List Int) (u : Value) (y : Int) (w : World) (hl : l.length ≤ 140737488355328) (h : Rd w u l) :
    Calls Try.prog 10 #[.agg #[u, .int .i64 y]] w fun e w' => ∃ v, e = .returned (.agg #[v, .int .i64 y]) ∧ Own w.heap.size v l w' ∧ Below w.heap.size w w' := by
  have H : Hid (Rd w u l) := h
  obtain ⟨au, cu, rfl⟩ : ∃ au cu, u = .slice au l.length cu := by obtain ⟨_, au, cu, e, _⟩ := h; exact ⟨au, cu, e⟩
  clear h
  have B0 : Below w.heap.size w ((w.alloc (.cells #[.slice au l.length cu, .int .i64 y] 24)).alloc (.cells #[.slice none 0 0, .int .i64 0] 24)) := bstep (bbox _ _) (bbox _ _)
  have L0 := (lbox_new w (.slice au l.length cu) y 24).alloc (.cells #[.slice none 0 0, .int .i64 0] 24)
  have R0 := lbox_new' (w.alloc (.cells #[.slice au l.length cu, .int .i64 y] 24)) (.slice none 0 0) 0 24 (w.heap.size + 1) (by simp)
  have HB0 : Hid _ := B0
  have HL0 : Hid _ := L0
  have HR0 : Hid _ := R0
  clear B0 L0 R0
  go_enter Try.func10, Try.ntmps10
  go_wp2
  go_region_with (go_at_call 24; refine (octets_any l _ _ (by omega) (H.out.below (Nat.le_refl _) (by repeat (first | exact Below.refl _ _ | refine Below.drew ?_ | refine Below.alloc ?_ (by simp) _)))).mono ?_; rintro e w5 ⟨v5, rfl, ho5, hb5⟩; have hB5 : Below ((w.alloc (.cells #[.slice au l.length cu, .int .i64 y] 24)).alloc (.cells #[.slice none 0 0, .int .i64 0] 24)).heap.size ((w.alloc (.cells #[.slice au l.length cu, .int .i64 y] 24)).alloc (.cells #[.slice none 0 0, .int .i64 0] 24)) w5 := bstep (by repeat (first | exact Below.refl _ _ | refine Below.drew ?_)) hb5; obtain ⟨a5, c5, rfl⟩ := ho5.shape; obtain ⟨m1, m2, m3, m4⟩ := LBox.below HL0.out hB5; obtain ⟨n1, n2, n3, n4⟩ := LBox.below HR0.out hB5)
  all_goals
    go_wp2
    refine bodyPost_ret (v := .agg #[.slice a5 l.length c5, .int .i64 y]) (by simp [results, Try.results10, go_sem, n1, n2, n3, n4]) rfl ⟨_, rfl, ?_, below_two (k := 1) (bstep HB0.out hB5)⟩
    exact ((ho5.mono (C := w.heap.size + 1 + 1) (by simp)).setCell (by omega) _ _ |>.setCell (by omega) _ _).mono (by omega)

set_option maxHeartbeats 1000000 in
theorem sameLog_true (l : List Int) (u v : Value) (y : Int) (w : World) (h1 : Rd w u l) (h2 : Rd w v l) :
    Calls Try.prog 17 #[.agg #[u, .int .i64 y], .agg #[v, .int .i64 y]] w fun e w' => e = .returned (.bool true) ∧ Below w.heap.size w w' := by
  obtain ⟨a1, c1, rfl⟩ : ∃ au cu, u = .slice au l.length cu := by obtain ⟨_, au, cu, e, _⟩ := h1; exact ⟨au, cu, e⟩
  obtain ⟨a2, c2, rfl⟩ : ∃ au cu, v = .slice au l.length cu := by obtain ⟨_, au, cu, e, _⟩ := h2; exact ⟨au, cu, e⟩
  have k1 := conv_str ((h1.below (Nat.le_refl _) (bstep (bbox _ (.cells #[.slice a1 l.length c1, .int .i64 y] 24)) (bbox _ (.cells #[.slice a2 l.length c2, .int .i64 y] 24)))))
  have k2 := conv_str ((h2.below (Nat.le_refl _) (bstep (bbox _ (.cells #[.slice a1 l.length c1, .int .i64 y] 24)) (bbox _ (.cells #[.slice a2 l.length c2, .int .i64 y] 24)))))
  have hyy : (y == y) = true := by simp
  clear h1 h2
  go_enter Try.func17, Try.ntmps17
  go_wp2
  go_ret
  exact ⟨rfl, bstep (bbox _ _) (bbox _ _)⟩

set_option maxHeartbeats 1000000 in
theorem segChecks_core (l : List Int) (u : Value) (y : Int) (w : World) (hl : l.length ≤ 140737488355328) (h : Rd w u l) :
    Calls Try.prog 3 #[.agg #[u, .int .i64 y]] w fun e w' => e = .returned (.bool true) ∧ Below w.heap.size w w' := by
  have H : Hid (Rd w u l) := h
  obtain ⟨au, cu, rfl⟩ : ∃ au cu, u = .slice au l.length cu := by obtain ⟨_, au, cu, e, _⟩ := h; exact ⟨au, cu, e⟩
  clear h
  go_enter Try.func3, Try.ntmps3
  go_wp2_with fail
  refine (logs_any l _ y _ hl (H.out.below (Nat.le_refl _) (bbox _ _))).mono ?_
  rintro e w1 ⟨v1, rfl, ho1, hb1⟩
  have B1 := bstep (bbox _ _) hb1
  have L1 := (lbox_new w (.slice au l.length cu) y 24).below hb1
  have HL1 : Hid _ := L1
  clear hb1 L1
  go_wp2_with fail
  refine (segCheck_any l _ y _ hl ho1.rd).mono ?_
  rintro e w2 ⟨rfl, hb2⟩
  have B2 := bstep B1 hb2
  obtain ⟨l1, l2, l3, l4⟩ := LBox.below HL1.out hb2
  clear hb2 B1 HL1 ho1
  go_wp2_with fail
  refine (logFault_any l _ y _ hl (H.out.below (Nat.le_refl _) B2)).mono ?_
  rintro e w3 ⟨rfl, hb3⟩
  have B3 := bstep B2 hb3
  have heq : (lft l y == lft l y) = true := by simp
  clear hb3 B2 l1 l2 l3 l4 H
  go_wp2
  go_ret
  exact ⟨rfl, B3⟩

set_option maxHeartbeats 1000000 in
theorem segEntries_core (l : List Int) (u : Value) (y : Int) (w : World) (hl : l.length ≤ 140737488355328) (h : Rd w u l) :
    Calls Try.prog 4 #[.agg #[u, .int .i64 y]] w fun e w' => e = .returned (.bool true) ∧ Below w.heap.size w w' := by
  have H : Hid (Rd w u l) := h
  obtain ⟨au, cu, rfl⟩ : ∃ au cu, u = .slice au l.length cu := by obtain ⟨_, au, cu, e, _⟩ := h; exact ⟨au, cu, e⟩
  clear h
  go_enter Try.func4, Try.ntmps4
  go_wp2_with fail
  refine (logs_any l _ y _ hl (H.out.below (Nat.le_refl _) (bbox _ _))).mono ?_
  rintro e w1 ⟨v1, rfl, ho1, hb1⟩
  have B1 := bstep (bbox _ _) hb1
  have L1 := (lbox_new w (.slice au l.length cu) y 24).below hb1
  have HL1 : Hid _ := L1
  clear hb1 L1
  by_cases h0 : lft l y = 0
  · have HL : Hid ((decL l).1.length ≤ 400) := (lft_ok h0).2.2.1
    go_wp2_with fail
    refine (segEntries_ok l _ y _ hl ho1.rd h0).mono ?_
    rintro e w2 ⟨va, rfl, hva, hb2⟩
    have B2 := bstep B1 hb2
    obtain ⟨l1, l2, l3, l4⟩ := LBox.below HL1.out hb2
    clear hb2 B1 HL1 ho1
    go_wp2_with fail
    refine (entriesOf_ok l _ y _ hl (H.out.below (Nat.le_refl _) B2) h0).mono ?_
    rintro e w3 ⟨vb, rfl, hvb, hb3⟩
    have B3 := bstep B2 hb3
    have hva3 := hva.below (Nat.le_refl _) hb3
    have heq : (((decL (l.take y.toNat)).1.length : Int) == ((decL (l.take y.toNat)).1.length : Int)) = true := by simp
    clear hb3 B2 l1 l2 l3 l4 H h0 hva
    go_wp2_with fail
    refine (sameEntries_any (decL l).1 _ _ _ (by have := HL.out; omega) hva3.rd hvb.rd).mono ?_
    rintro e w4 ⟨rfl, hb4⟩
    have B4 := bstep B3 hb4
    clear hb4 B3 hva3 hvb
    go_wp2_with fail
    go_ret
    exact ⟨rfl, B4⟩
  · go_wp2_with fail
    refine (segEntries_bad l _ y _ hl ho1.rd h0).mono ?_
    rintro e w2 ⟨rfl, hb2⟩
    have B2 := bstep B1 hb2
    obtain ⟨l1, l2, l3, l4⟩ := LBox.below HL1.out hb2
    clear hb2 B1 HL1 ho1
    go_wp2_with fail
    refine (entriesOf_bad l _ y _ hl (H.out.below (Nat.le_refl _) B2) h0).mono ?_
    rintro e w3 ⟨rfl, hb3⟩
    have B3 := bstep B2 hb3
    have heq : (lft l y == lft l y) = true := by simp
    clear hb3 B2 l1 l2 l3 l4 H h0
    go_wp2_with fail
    refine (sameEntries_none none none 0 0 _).mono ?_
    rintro e w4 ⟨rfl, hb4⟩
    have B4 := bstep B3 hb4
    clear hb4 B3
    go_wp2_with fail
    go_ret
    exact ⟨rfl, B4⟩

end Go.Proofs.Ytfnjjdacilieaab
