/-
  The walks of the laws SegSyncs, SegCuts, SegCrashes and SegAppends.
-/
import Derived.Test.YtknipikmbfdcnaaAdoc
namespace Go.Proofs.Ytknipikmbfdcnaa
open Go.RowKit
set_option linter.unusedVariables false
set_option linter.unusedSimpArgs false

def uY (R Y : Int) : Int := if R = 0 then Y else 0
def uL (R : Int) (L : List Int) : List Int := if R = 0 then L else []
/-- A call's answer in one form, refused or not. -/
theorem uni {w w' : World} {e : Ending} {R Y : Int} {L : List Int} (h : Below w.heap.size w w' ∧ (R ≠ 0 → e = .returned (.tuple #[noLog, .int .i64 R])) ∧ (R = 0 → ∃ v, e = .returned (.tuple #[.agg #[v, .int .i64 Y], .int .i64 0]) ∧ Own w.heap.size v L w')) :
    ∃ a c, e = .returned (.tuple #[.agg #[.slice a (uL R L).length c, .int .i64 (uY R Y)], .int .i64 R]) ∧ Own w.heap.size (.slice a (uL R L).length c) (uL R L) w' ∧ Below w.heap.size w w' := by
  obtain ⟨hb, h1, h2⟩ := h
  unfold uY uL
  by_cases h0 : R = 0
  · rw [if_pos h0, if_pos h0]
    obtain ⟨v, e1, e2⟩ := h2 h0
    obtain ⟨a, c, rfl⟩ := e2.shape
    exact ⟨a, c, by rw [e1, h0], e2, hb⟩
  · rw [if_neg h0, if_neg h0]
    exact ⟨none, 0, by rw [h1 h0]; rfl, own_nil _ _ hb.size, hb⟩

set_option maxRecDepth 100000 in
set_option maxHeartbeats 1000000 in
theorem segSyncs_core (l : List Int) (u : Value) (y : Int) (w : World) (hl : l.length ≤ 140737488355328) (h : Rd w u l) :
    Calls Try.prog 12 #[.agg #[u, .int .i64 y]] w fun e w' => e = .returned (.bool true) ∧ Below w.heap.size w w' := by
  have H : Hid (Rd w u l) := h
  obtain ⟨au, cu, rfl⟩ : ∃ au cu, u = .slice au l.length cu := by obtain ⟨_, au, cu, e, _⟩ := h; exact ⟨au, cu, e⟩
  clear h
  go_enter Try.func12, Try.ntmps12
  go_wp2_with fail
  refine (logs_any l _ y _ hl (H.out.below (Nat.le_refl _) (bbox _ _))).mono ?_
  rintro e w1 ⟨v1, rfl, ho1, hb1⟩
  have B1 := bstep (bbox _ _) hb1
  have L1 := (lbox_new w (.slice au l.length cu) y 46).below hb1
  have HL1 : Hid _ := L1
  clear hb1 L1
  go_wp2_with fail
  refine (segSync_any l _ y _ hl ho1.rd).mono ?_
  intro e w2 hk
  obtain ⟨a2, c2, rfl, hva, hb2⟩ := uni hk
  have B2 := bstep B1 hb2
  have L2 := LBox.below HL1.out hb2
  obtain ⟨l1, l2, l3, l4⟩ := L2
  clear hb2 B1 HL1 ho1 hk
  go_wp2_with fail
  refine (syncedOf_any l _ y _ hl (H.out.below (Nat.le_refl _) (bstep B2 (bbox _ _)))).mono ?_
  intro e w3 hk
  obtain ⟨a3, c3, rfl, hvb, hb3⟩ := uni hk
  have B3 := bstep (bstep B2 (bbox _ _)) hb3
  have hva3 := (hva.alloc _).below (Nat.le_refl _) hb3
  obtain ⟨m1, m2, m3, m4⟩ := (lbox_new w2 _ _ _).below hb3
  have heq : (lft l y == lft l y) = true := by simp
  clear hb3 B2 hk hva l1 l2 l3 l4 H
  go_wp2_with fail
  refine (sameLog_true _ _ _ _ _ (hva3.rd.below (Nat.le_refl _) (bbox _ _)) (hvb.rd.below (Nat.le_refl _) (bbox _ _))).mono ?_
  rintro e w4 ⟨rfl, hb4⟩
  have B4 := bstep (bstep B3 (bbox _ _)) hb4
  clear hb4 B3 hva3 hvb
  go_wp2_with fail
  go_ret
  exact ⟨rfl, B4⟩

set_option maxRecDepth 100000 in
set_option maxHeartbeats 1000000 in
theorem segCuts_core (l : List Int) (u : Value) (y n : Int) (w : World) (hl : l.length ≤ 140737488355328) (h : Rd w u l) :
    Calls Try.prog 13 #[.agg #[u, .int .i64 y], .int .i64 n] w fun e w' => e = .returned (.bool true) ∧ Below w.heap.size w w' := by
  have H : Hid (Rd w u l) := h
  obtain ⟨au, cu, rfl⟩ : ∃ au cu, u = .slice au l.length cu := by obtain ⟨_, au, cu, e, _⟩ := h; exact ⟨au, cu, e⟩
  clear h
  go_enter Try.func13, Try.ntmps13
  go_wp2_with fail
  refine (logs_any l _ y _ hl (H.out.below (Nat.le_refl _) (bbox _ _))).mono ?_
  rintro e w1 ⟨v1, rfl, ho1, hb1⟩
  have B1 := bstep (bbox _ _) hb1
  have L1 := (lbox_new w (.slice au l.length cu) y 46).below hb1
  have HL1 : Hid _ := L1
  clear hb1 L1
  go_wp2_with fail
  refine (segCut_any l _ y n _ hl ho1.rd).mono ?_
  intro e w2 hk
  obtain ⟨a2, c2, rfl, hva, hb2⟩ := uni hk
  have B2 := bstep B1 hb2
  have L2 := LBox.below HL1.out hb2
  obtain ⟨l1, l2, l3, l4⟩ := L2
  clear hb2 B1 HL1 ho1 hk
  go_wp2_with fail
  refine (cutOf_any l _ y n _ hl (H.out.below (Nat.le_refl _) (bstep B2 (bbox _ _)))).mono ?_
  intro e w3 hk
  obtain ⟨a3, c3, rfl, hvb, hb3⟩ := uni hk
  have B3 := bstep (bstep B2 (bbox _ _)) hb3
  have hva3 := (hva.alloc _).below (Nat.le_refl _) hb3
  obtain ⟨m1, m2, m3, m4⟩ := (lbox_new w2 _ _ _).below hb3
  have heq : (cuf l y n == cuf l y n) = true := by simp
  clear hb3 B2 hk hva l1 l2 l3 l4 H
  go_wp2_with fail
  refine (sameLog_true _ _ _ _ _ (hva3.rd.below (Nat.le_refl _) (bbox _ _)) (hvb.rd.below (Nat.le_refl _) (bbox _ _))).mono ?_
  rintro e w4 ⟨rfl, hb4⟩
  have B4 := bstep (bstep B3 (bbox _ _)) hb4
  clear hb4 B3 hva3 hvb
  go_wp2_with fail
  go_ret
  exact ⟨rfl, B4⟩

set_option maxRecDepth 100000 in
set_option maxHeartbeats 1000000 in
theorem segCrashes_core (l : List Int) (u : Value) (y n : Int) (w : World) (hl : l.length ≤ 140737488355328) (h : Rd w u l) :
    Calls Try.prog 14 #[.agg #[u, .int .i64 y], .int .i64 n] w fun e w' => e = .returned (.bool true) ∧ Below w.heap.size w w' := by
  have H : Hid (Rd w u l) := h
  obtain ⟨au, cu, rfl⟩ : ∃ au cu, u = .slice au l.length cu := by obtain ⟨_, au, cu, e, _⟩ := h; exact ⟨au, cu, e⟩
  clear h
  go_enter Try.func14, Try.ntmps14
  go_wp2_with fail
  refine (logs_any l _ y _ hl (H.out.below (Nat.le_refl _) (bbox _ _))).mono ?_
  rintro e w1 ⟨v1, rfl, ho1, hb1⟩
  have B1 := bstep (bbox _ _) hb1
  have L1 := (lbox_new w (.slice au l.length cu) y 46).below hb1
  have HL1 : Hid _ := L1
  clear hb1 L1
  go_wp2_with fail
  refine (segCrash_any l _ y n _ hl ho1.rd).mono ?_
  intro e w2 hk
  obtain ⟨a2, c2, rfl, hva, hb2⟩ := uni hk
  have B2 := bstep B1 hb2
  have L2 := LBox.below HL1.out hb2
  obtain ⟨l1, l2, l3, l4⟩ := L2
  clear hb2 B1 HL1 ho1 hk
  go_wp2_with fail
  refine (crashedOf_any l _ y n _ hl (H.out.below (Nat.le_refl _) (bstep B2 (bbox _ _)))).mono ?_
  intro e w3 hk
  obtain ⟨a3, c3, rfl, hvb, hb3⟩ := uni hk
  have B3 := bstep (bstep B2 (bbox _ _)) hb3
  have hva3 := (hva.alloc _).below (Nat.le_refl _) hb3
  obtain ⟨m1, m2, m3, m4⟩ := (lbox_new w2 _ _ _).below hb3
  have heq : (crf l y n == crf l y n) = true := by simp
  clear hb3 B2 hk hva l1 l2 l3 l4 H
  go_wp2_with fail
  refine (sameLog_true _ _ _ _ _ (hva3.rd.below (Nat.le_refl _) (bbox _ _)) (hvb.rd.below (Nat.le_refl _) (bbox _ _))).mono ?_
  rintro e w4 ⟨rfl, hb4⟩
  have B4 := bstep (bstep B3 (bbox _ _)) hb4
  clear hb4 B3 hva3 hvb
  go_wp2_with fail
  go_ret
  exact ⟨rfl, B4⟩

set_option maxRecDepth 100000 in
set_option maxHeartbeats 2000000 in
theorem segAppends_core (l : List Int) (u : Value) (y : Int) (x : Ent) (w : World) (hl : l.length ≤ 140737488355328) (h : Rd w u l) :
    Calls Try.prog 11 #[.agg #[u, .int .i64 y], .agg #[.int .i64 x.a, .int .i64 x.b, .int .i64 x.c, .int .i64 x.d, .int .i64 x.k, .bool x.t, .string x.s]] w fun e w' => e = .returned (.bool true) ∧ Below w.heap.size w w' := by
  have H : Hid (Rd w u l) := h
  obtain ⟨au, cu, rfl⟩ : ∃ au cu, u = .slice au l.length cu := by obtain ⟨_, au, cu, e, _⟩ := h; exact ⟨au, cu, e⟩
  clear h
  have B0 : Below w.heap.size w ((w.alloc (.cells #[.slice au l.length cu, .int .i64 y] 46)).alloc (.cells #[.int .i64 x.a, .int .i64 x.b, .int .i64 x.c, .int .i64 x.d, .int .i64 x.k, .bool x.t, .string x.s] 23)) := bstep (bbox _ _) (bbox _ _)
  have L0 := (lbox_new w (.slice au l.length cu) y 46).alloc (.cells #[.int .i64 x.a, .int .i64 x.b, .int .i64 x.c, .int .i64 x.d, .int .i64 x.k, .bool x.t, .string x.s] 23)
  have X0 := ebox_new (w.alloc (.cells #[.slice au l.length cu, .int .i64 y] 46)) x 23 (w.heap.size + 1) (by simp)
  have HB0 : Hid _ := B0
  have HL0 : Hid _ := L0
  have HX0 : Hid _ := X0
  clear B0 L0 X0
  go_enter Try.func11, Try.ntmps11
  go_wp2_with fail
  refine (logs_any l _ y _ hl (H.out.below (Nat.le_refl _) HB0.out)).mono ?_
  rintro e w1 ⟨v1, rfl, ho1, hb1⟩
  obtain ⟨a1, c1, rfl⟩ := ho1.shape
  have B1 := bstep HB0.out hb1
  have L1 := LBox.below HL0.out hb1
  have X1 := EBox.below HX0.out hb1
  clear hb1 HB0 HL0 HX0
  obtain ⟨x1, xa, xb, xc, xd, xk, xt, xs⟩ := X1
  go_wp2_with fail
  refine (segAppend_any l _ y x _ hl ((ho1.alloc _).rd)).mono ?_
  intro e w2 hk
  obtain ⟨a2, c2, rfl, hva, hb2⟩ := uni hk
  have hb2' := bstep (bbox _ _) hb2
  have B2 := bstep B1 hb2'
  have ho2 := ho1.below (Nat.le_refl _) hb2'
  have L2 := L1.below hb2'
  have X2 := EBox.below ⟨x1, xa, xb, xc, xd, xk, xt, xs⟩ hb2'
  have K2 := (lbox_new w1 _ _ _).below hb2
  have HK2 : Hid _ := K2
  have HL2 : Hid _ := L2
  clear hb2 hb2' B1 L1 ho1 hk x1 xa xb xc xd xk xt xs K2
  obtain ⟨x1, xa, xb, xc, xd, xk, xt, xs⟩ := X2
  obtain ⟨l1, l2, l3, l4⟩ := L2
  go_wp2_with fail
  refine (appendedOf_any l _ y x _ hl (H.out.below (Nat.le_refl _) (bstep B2 (bbox _ _)))).mono ?_
  intro e w3 hk
  obtain ⟨a3, c3, rfl, hvb, hb3⟩ := uni hk
  have hb3' := bstep (bbox _ _) hb3
  have B3 := bstep B2 hb3'
  have ho3 := ho2.below (Nat.le_refl _) hb3'
  have hva3 := (hva.alloc _).below (Nat.le_refl _) hb3
  have HL3 : Hid _ := LBox.below HL2.out hb3'
  have HK3 : Hid _ := LBox.below HK2.out hb3'
  obtain ⟨m1, m2, m3, m4⟩ := (lbox_new w2 _ _ _).below hb3
  have heq : (apf l y x == apf l y x) = true := by simp
  clear hb3 hb3' B2 hk hva l1 l2 l3 l4 x1 xa xb xc xd xk xt xs ho2 HL2 HK2
  go_wp2_with fail
  refine (sameLog_true _ _ _ _ _ (hva3.rd.below (Nat.le_refl _) (bbox _ _)) (hvb.rd.below (Nat.le_refl _) (bbox _ _))).mono ?_
  rintro e w4 ⟨rfl, hb4⟩
  have hb4' := bstep (bbox _ _) hb4
  have B4 := bstep B3 hb4'
  have ho4 := ho3.below (Nat.le_refl _) hb4'
  obtain ⟨l1, l2, l3, l4⟩ := LBox.below HL3.out hb4'
  obtain ⟨k1, k2, k3, k4⟩ := LBox.below HK3.out hb4'
  clear hb4 hb4' B3 hva3 hvb ho3 HL3 HK3 m1 m2 m3 m4
  go_wp2_with fail
  refine (sameLog_true l _ _ y _ ho4.rd (H.out.below (Nat.le_refl _) B4)).mono ?_
  rintro e w5 ⟨rfl, hb5⟩
  have B5 := bstep B4 hb5
  clear hb5 B4 ho4 H
  go_wp2_with fail
  go_ret
  exact ⟨rfl, B5⟩

end Go.Proofs.Ytknipikmbfdcnaa
