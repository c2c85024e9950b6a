/-
  The walks of seg.Append, seg.Sync, seg.Cut and seg.Crash.
-/
import Derived.Test.YtkakagjffafdiaaSops
import Derived.Deep.RegionWith
namespace Go.Proofs.Ytkakagjffafdiaa
open Go.RowKit
set_option linter.unusedVariables false
set_option linter.unusedSimpArgs false

/-- What P2.3 answers. -/
def apf (l : List Int) (y : Int) (x : Ent) : Int :=
  if lft l y ≠ 0 then lft l y
  else if x.flt ≠ 0 then x.flt
  else if 400 ≤ (decL l).1.length ∨ 40000 < l.length + x.enc.length then 16
  else 0

def noLog : Value := .agg #[.slice none 0 0, .int .i64 0]

/-- A boxed log. -/
def LBox (w : World) (b : Nat) (u : Value) (y : Int) : Prop := b < w.heap.size ∧ w.cell? ⟨b, 0, none⟩ = some u ∧ w.cell? ⟨b, 1, none⟩ = some (.int .i64 y) ∧ ∀ o, w.frozen? ⟨b, o, none⟩ = false
theorem LBox.below {w w' : World} {b : Nat} {u : Value} {y : Int} (h : LBox w b u y) (hb : Below w.heap.size w w') : LBox w' b u y :=
  ⟨Nat.lt_of_lt_of_le h.1 hb.size, (hb.cell (p := ⟨b, 0, none⟩) h.1).trans h.2.1, (hb.cell (p := ⟨b, 1, none⟩) h.1).trans h.2.2.1, fun o => (hb.frozen (p := ⟨b, o, none⟩) h.1).trans (h.2.2.2 o)⟩
theorem LBox.alloc {w : World} {b : Nat} {u : Value} {y : Int} (h : LBox w b u y) (o : Obj) : LBox (w.alloc o) b u y := h.below (bbox _ _)
theorem lbox_new (w : World) (u : Value) (y : Int) (T : TypeId) : LBox (w.alloc (.cells #[u, .int .i64 y] T)) w.heap.size u y := ⟨by simp, by simp, by simp, fun o => by simp⟩
theorem lbox_new' (w : World) (u : Value) (y : Int) (T : TypeId) (b : Nat) (hb : b = w.heap.size) : LBox (w.alloc (.cells #[u, .int .i64 y] T)) b u y := by subst hb; exact lbox_new w u y T
/-- A boxed entry. -/
def EBox (w : World) (b : Nat) (e : Ent) : Prop := b < w.heap.size ∧ w.cell? ⟨b, 0, none⟩ = some (.int .i64 e.a) ∧ w.cell? ⟨b, 1, none⟩ = some (.int .i64 e.b) ∧ w.cell? ⟨b, 2, none⟩ = some (.int .i64 e.c) ∧ w.cell? ⟨b, 3, none⟩ = some (.int .i64 e.d) ∧ w.cell? ⟨b, 4, none⟩ = some (.int .i64 e.k) ∧ w.cell? ⟨b, 5, none⟩ = some (.bool e.t) ∧ w.cell? ⟨b, 6, none⟩ = some (.string e.s)
theorem EBox.below {w w' : World} {b : Nat} {e : Ent} (h : EBox w b e) (hb : Below w.heap.size w w') : EBox w' b e := by
  obtain ⟨h1, a0, a1, a2, a3, a4, a5, a6⟩ := h
  exact ⟨Nat.lt_of_lt_of_le h1 hb.size, (hb.cell (p := ⟨b, 0, none⟩) h1).trans a0, (hb.cell (p := ⟨b, 1, none⟩) h1).trans a1, (hb.cell (p := ⟨b, 2, none⟩) h1).trans a2, (hb.cell (p := ⟨b, 3, none⟩) h1).trans a3, (hb.cell (p := ⟨b, 4, none⟩) h1).trans a4, (hb.cell (p := ⟨b, 5, none⟩) h1).trans a5, (hb.cell (p := ⟨b, 6, none⟩) h1).trans a6⟩
theorem ebox_new (w : World) (e : Ent) (T : TypeId) (b : Nat) (hb : b = w.heap.size) : EBox (w.alloc (.cells #[.int .i64 e.a, .int .i64 e.b, .int .i64 e.c, .int .i64 e.d, .int .i64 e.k, .bool e.t, .string e.s] T)) b e := by
  subst hb
  exact ⟨by simp, by simp, by simp, by simp, by simp, by simp, by simp, by simp⟩

theorem Own.setCell {B : Nat} {v : Value} {l : List Int} {w : World} (h : Own B v l w) {b : Nat} (hb : b < B) (o : Nat) (x : Value) : Own B v l (w.setCell ⟨b, o, none⟩ x) := by
  obtain ⟨⟨h1, h2⟩, h3, h4⟩ := h
  have hs : (w.setCell ⟨b, o, none⟩ x).heap.size = w.heap.size := Deep.nblk_setCell _ _ _
  refine ⟨⟨h1, ?_⟩, h3, by omega⟩
  rcases h2 with h2 | ⟨g, cap, cur, r1, r2, r3, r4⟩
  · exact .inl h2
  · refine .inr ⟨g, cap, cur, r1, r2, ?_, r4⟩
    rw [Deep.blk_setCell_other _ _ _ _ (by show g ≠ b; omega)]
    exact r3

theorem below_two {w wi : World} {k : Nat} {v0 v1 : Value} (hb : Below w.heap.size w wi) : Below w.heap.size w ((wi.setCell ⟨w.heap.size + k, 0, none⟩ v0).setCell ⟨w.heap.size + k, 1, none⟩ v1) :=
  (hb.setCell (p := ⟨w.heap.size + k, 0, none⟩) (Nat.le_add_right _ _) v0).setCell (p := ⟨w.heap.size + k, 1, none⟩) (Nat.le_add_right _ _) v1

set_option maxRecDepth 100000 in
set_option maxHeartbeats 2000000 in
theorem segAppend_any (l : List Int) (u : Value) (y : Int) (x : Ent) (w : World) (hl : l.length ≤ 140737488355328) (h : Rd w u l) :
    Calls Try.prog 78 #[.agg #[u, .int .i64 y], .agg #[.int .i64 x.a, .int .i64 x.b, .int .i64 x.c, .int .i64 x.d, .int .i64 x.k, .bool x.t, .string x.s]] w fun e w' => Below w.heap.size w w' ∧
      (apf l y x ≠ 0 → e = .returned (.tuple #[noLog, .int .i64 (apf l y x)])) ∧
      (apf l y x = 0 → ∃ v, e = .returned (.tuple #[.agg #[v, .int .i64 y], .int .i64 0]) ∧ Own w.heap.size v (l ++ x.enc) w') := by
  have H : Hid (Rd w u l) := h
  have hlen := (decP_len l.length l h.1)
  have hes : (decL l).1.length ≤ l.length := hlen.1
  have hbs := h.1
  clear h hlen
  by_cases h0 : lft l y = 0
  · have HC : Hid (∀ w, Rd w u l → _) := fun w h => segEntries_ok l u y w hl h h0
    have HB : Hid (∀ w (r : Int), x.flt = r → (r != 0) = true → _) := fun w r hr h0 => encode_bad x.a x.b x.c x.d x.k x.t x.s w r hr h0
    have HE : Hid (∀ w, x.flt = 0 → Calls Try.prog 112 #[.agg #[.int .i64 x.a, .int .i64 x.b, .int .i64 x.c, .int .i64 x.d, .int .i64 x.k, .bool x.t, .string x.s]] w fun e w' => ∃ v, e = .returned (.tuple #[v, .int .i64 0]) ∧ Own w.heap.size v x.enc w' ∧ Below w.heap.size w w') := fun w hr => encode_ok x.a x.b x.c x.d x.k x.t x.s w hr
    have HA : Hid (apf l y x = if x.flt ≠ 0 then x.flt else if 400 ≤ (decL l).1.length ∨ 40000 < l.length + x.enc.length then 16 else 0) := show _ = _ by unfold apf; rw [if_neg (by simp [h0])]
    have hfl : l.length ≤ 64 * (decL l).1.length := by
      have h1 := dec_all hbs (lft_ok h0).2.1
      have h2 := flat_len (decL l).1 (dec_back l hbs).2.2
      rw [h1] at h2
      exact h2
    have HFL : Hid _ := hfl
    clear h0 hfl
    go_enter Try.func78, Try.ntmps78
    go_wp2_with fail
    have B0 : Below w.heap.size w (((w.alloc (.cells #[u, .int .i64 y] 61)).alloc (.cells #[.int .i64 x.a, .int .i64 x.b, .int .i64 x.c, .int .i64 x.d, .int .i64 x.k, .bool x.t, .string x.s] 36)).alloc (.cells #[.slice none 0 0, .int .i64 0] 61)) := bstep (bstep (bbox _ _) (bbox _ _)) (bbox _ _)
    have L0 := ((lbox_new w u y 61).alloc (.cells #[.int .i64 x.a, .int .i64 x.b, .int .i64 x.c, .int .i64 x.d, .int .i64 x.k, .bool x.t, .string x.s] 36)).alloc (.cells #[.slice none 0 0, .int .i64 0] 61)
    have X0 := (ebox_new (w.alloc (.cells #[u, .int .i64 y] 61)) x 36 (w.heap.size + 1) (by simp)).below (bbox _ (.cells #[.slice none 0 0, .int .i64 0] 61))
    have R0 := lbox_new' ((w.alloc (.cells #[u, .int .i64 y] 61)).alloc (.cells #[.int .i64 x.a, .int .i64 x.b, .int .i64 x.c, .int .i64 x.d, .int .i64 x.k, .bool x.t, .string x.s] 36)) (.slice none 0 0) 0 61 (w.heap.size + 1 + 1) (by simp)
    refine (HC.out _ (H.out.below (Nat.le_refl _) B0)).mono ?_
    rintro e w1 ⟨va, rfl, hva, hb1⟩
    have B1 := bstep B0 hb1
    have L1 := L0.below hb1
    have X1 := X0.below hb1
    have R1 := R0.below hb1
    obtain ⟨ae, ce, rfl⟩ := hva.shape
    clear B0 L0 X0 R0 hva hb1 HC
    obtain ⟨x1, xa, xb, xc, xd, xk, xt, xs⟩ := X1
    by_cases hf : x.flt = 0
    · go_wp2_with fail
      refine (HE.out _ hf).mono ?_
      rintro e w2 ⟨vb, rfl, hvb, hb2⟩
      have B2 := bstep B1 hb2
      obtain ⟨l1, l2, l3, l4⟩ := L1.below hb2
      obtain ⟨r1, r2, r3, r4⟩ := R1.below hb2
      have hl2 := H.out.below (Nat.le_refl _) B2
      have hbl := body_len' x hf
      have hel := enc_len x
      rw [if_neg (by simp [hf])] at HA
      obtain ⟨af, cf, rfl⟩ := hvb.shape
      obtain ⟨au, cu, rfl⟩ : ∃ au cu, u = .slice au l.length cu := by obtain ⟨_, au, cu, e, _⟩ := hl2; exact ⟨au, cu, e⟩
      have hxl : x.enc.length ≤ 64 := by omega
      clear HE HB xa xb xc xd xk xt xs x1 L1 R1 hb2 B1 hbl hel hf
      by_cases hfull : 400 ≤ (decL l).1.length ∨ 40000 < l.length + x.enc.length
      · rw [if_pos hfull] at HA
        have h5 : (400 : Int) ≤ ((decL l).1.length : Int) ∨ ((decL l).1.length : Int) < 400 ∧ (40000 : Int) < (l.length : Int) + x.enc.length := by omega
        have HL : Hid (l.length ≤ 140737488355328) := hl
        have hl' : (l.length : Int) ≤ 140737488355328 := by omega
        have hes' : ((decL l).1.length : Int) ≤ l.length := by omega
        have hxl' : (x.enc.length : Int) ≤ 64 := by omega
        clear hfull hl hxl hes
        rcases h5 with h4 | ⟨h4, h4'⟩
        all_goals
          go_wp2
          refine bodyPost_ret (v := .tuple #[noLog, .int .i64 16]) (by simp [results, Try.results78, go_sem, noLog, r1, r2, r3, r4]) rfl ⟨below_two (k := 1 + 1) B2, fun _ => by rw [HA.out], fun h => by rw [HA.out] at h; simp at h⟩
      · rw [if_neg hfull] at HA
        have h4 : ((decL l).1.length : Int) < 400 := by omega
        have hfl := HFL.out
        have HL : Hid (l.length ≤ 40000 ∧ x.enc.length ≤ 64) := ⟨by omega, hxl⟩
        have hl' : (l.length : Int) ≤ 25600 := by omega
        have hxl' : (x.enc.length : Int) ≤ 64 := by omega
        clear hfull hl hxl hes HFL hfl
        go_wp2
        have L2 : LBox w2 w.heap.size (.slice au l.length cu) y := ⟨l1, l2, l3, l4⟩
        have R2 : LBox w2 (w.heap.size + 1 + 1) (.slice none 0 0) 0 := ⟨r1, r2, r3, r4⟩
        have HL2 : Hid _ := L2
        have HR2 : Hid _ := R2
        clear L2 R2
        go_region_with (go_at_call 113; refine (concat_any l x.enc _ _ _ _ (by have := HL.out; omega) (by have := HL.out; omega) (hl2.below (Nat.le_refl _) (by repeat (first | exact Below.refl _ _ | refine Below.drew ?_ | refine Below.alloc ?_ (Nat.le_refl _) _))) (hvb.rd.below (Nat.le_refl _) (by repeat (first | exact Below.refl _ _ | refine Below.drew ?_ | refine Below.alloc ?_ (Nat.le_refl _) _))) (by simp) (by simp)).mono ?_; rintro e w5 ⟨v5, rfl, ho5, hb5⟩; have hB5 : Below w2.heap.size w2 w5 := bstep (by repeat (first | exact Below.refl _ _ | refine Below.drew ?_ | refine Below.alloc ?_ (Nat.le_refl _) _)) hb5; obtain ⟨a5, c5, rfl⟩ := ho5.shape; obtain ⟨m1, m2, m3, m4⟩ := LBox.below HL2.out hB5; obtain ⟨n1, n2, n3, n4⟩ := LBox.below HR2.out hB5)
        all_goals
          go_wp2
          refine bodyPost_ret (v := .tuple #[.agg #[.slice a5 (l ++ x.enc).length c5, .int .i64 y], .int .i64 0]) (by simp [results, Try.results78, go_sem, n1, n2, n3, n4]) rfl ⟨below_two (k := 1 + 1) (bstep B2 hB5), fun h => absurd HA.out h, fun _ => ⟨_, rfl, ?_⟩⟩
          have hlt : w.heap.size + 1 + 1 < w2.heap.size := r1
          exact ((ho5.mono (C := w2.heap.size) (by simp)).setCell hlt _ _ |>.setCell hlt _ _).mono (by omega)
    · have hf' : (x.flt != 0) = true := by simp [hf]
      rw [if_pos hf] at HA
      go_wp2_with fail
      refine (HB.out _ _ rfl hf').mono ?_
      rintro e w2 ⟨rfl, hb2⟩
      have B2 := bstep B1 hb2
      obtain ⟨r1, r2, r3, r4⟩ := R1.below hb2
      clear HE HB xa xb xc xd xk xt xs x1 L1 R1 hb2 B1
      go_wp2
      refine bodyPost_ret (v := .tuple #[noLog, .int .i64 x.flt]) (by simp [results, Try.results78, go_sem, noLog, r1, r2, r3, r4]) rfl ⟨below_two (k := 1 + 1) B2, fun _ => by rw [HA.out], fun h => absurd (HA.out ▸ h) hf⟩
  · have HC : Hid (∀ w, Rd w u l → _) := fun w h => segEntries_bad l u y w hl h h0
    have HA : Hid (apf l y x = lft l y) := show _ = _ by unfold apf; rw [if_pos (by simp [h0])]
    have h0' : (lft l y != 0) = true := by simp [h0]
    go_enter Try.func78, Try.ntmps78
    go_wp2_with fail
    have B0 : Below w.heap.size w (((w.alloc (.cells #[u, .int .i64 y] 61)).alloc (.cells #[.int .i64 x.a, .int .i64 x.b, .int .i64 x.c, .int .i64 x.d, .int .i64 x.k, .bool x.t, .string x.s] 36)).alloc (.cells #[.slice none 0 0, .int .i64 0] 61)) := bstep (bstep (bbox _ _) (bbox _ _)) (bbox _ _)
    have R0 := lbox_new' ((w.alloc (.cells #[u, .int .i64 y] 61)).alloc (.cells #[.int .i64 x.a, .int .i64 x.b, .int .i64 x.c, .int .i64 x.d, .int .i64 x.k, .bool x.t, .string x.s] 36)) (.slice none 0 0) 0 61 (w.heap.size + 1 + 1) (by simp)
    refine (HC.out _ (H.out.below (Nat.le_refl _) B0)).mono ?_
    rintro e w1 ⟨rfl, hb1⟩
    have B1 := bstep B0 hb1
    obtain ⟨r1, r2, r3, r4⟩ := R0.below hb1
    clear B0 R0 hb1 HC
    go_wp2
    refine bodyPost_ret (v := .tuple #[noLog, .int .i64 (lft l y)]) (by simp [results, Try.results78, go_sem, noLog, r1, r2, r3, r4]) rfl ⟨below_two (k := 1 + 1) B1, fun _ => by rw [HA.out], fun h => absurd (HA.out ▸ h) h0⟩

end Go.Proofs.Ytkakagjffafdiaa
