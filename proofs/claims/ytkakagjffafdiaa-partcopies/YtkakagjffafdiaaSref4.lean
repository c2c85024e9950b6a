/-
  The walk of the document's CutOf.
-/
import Derived.Test.YtkakagjffafdiaaSref3
import Derived.Deep.RegionHeld3
namespace Go.Proofs.Ytkakagjffafdiaa
open Go.RowKit
set_option linter.unusedVariables false
set_option linter.unusedSimpArgs false

theorem cell_set_other {w : World} {b c : Nat} (o o' : Nat) (v : Value) (h : b ≠ c) : (w.setCell ⟨c, o, none⟩ v).cell? ⟨b, o', none⟩ = w.cell? ⟨b, o', none⟩ := by
  simp [World.cell?, Deep.blk_setCell_other _ _ _ _ (show b ≠ (Addr.mk c o none).block from h)]

/-- The world behind the region: the log that comes out is boxed at bo. -/
def After (w w' W6 : World) (bo : Nat) (V : Value) (y : Int) (L : List Int) : Prop :=
  LBox W6 bo V y ∧ LBox W6 (w.heap.size + 1) (.slice none 0 0) 0 ∧ Below w.heap.size w W6 ∧ Own w'.heap.size V L W6 ∧ (∀ x, Own w'.heap.size V L (W6.setCell ⟨bo, 1, none⟩ x)) ∧ w'.heap.size ≤ bo
theorem after_new {w w' w5 : World} {V : Value} {L : List Int} (B1 : Below w.heap.size w w') (hB5 : Below w'.heap.size w' w5) (hR : LBox w' (w.heap.size + 1) (.slice none 0 0) 0) (ho : Own w'.heap.size V L w5) (y : Int) (T : TypeId) :
    After w w' (w5.alloc (.cells #[V, .int .i64 y] T)) w5.heap.size V y L := by
  have hs := hB5.size
  refine ⟨lbox_new _ _ _ _, (hR.below hB5).alloc _, (bstep B1 hB5).trans ((Below.refl _ _).alloc (Nat.le_trans B1.size hs) _), ho.alloc _, fun x => ?_, hs⟩
  exact ho.below (Nat.le_refl _) (((Below.refl _ _).alloc (Nat.le_refl _) _).setCell (p := ⟨w5.heap.size, 1, none⟩) (Nat.le_refl _) x)
theorem after_old {w w' w5 : World} {V u0 : Value} {y0 : Int} {L : List Int} {bo C : Nat} (B1 : Below w.heap.size w w') (hB5 : Below w'.heap.size w' w5) (hR : LBox w' (w.heap.size + 1) (.slice none 0 0) 0) (ho : Own C V L w5) (hO : LBox w5 bo u0 y0) (h1 : w'.heap.size ≤ bo) (h2 : bo < C) (y : Int) :
    After w w' ((w5.setCell ⟨bo, 0, none⟩ V).setCell ⟨bo, 1, none⟩ (.int .i64 y)) bo V y L := by
  have hs := hB5.size
  have hR5 := hR.below hB5
  have hr := hR.1
  obtain ⟨o1, o2, o3, o4⟩ := hO
  obtain ⟨r1, r2, r3, r4⟩ := hR5
  have hne : w.heap.size + 1 ≠ bo := by omega
  refine ⟨⟨by simpa using o1, by simp [go_sem, o2, o3], by simp [go_sem, o2, o3], fun o => by simp [o4]⟩, ⟨by simpa using r1, ?_, ?_, fun o => by simp [r4]⟩, ?_, ?_, fun x => ?_, h1⟩
  · rw [cell_set_other _ _ _ hne, cell_set_other _ _ _ hne]; exact r2
  · rw [cell_set_other _ _ _ hne, cell_set_other _ _ _ hne]; exact r3
  · exact ((bstep B1 hB5).setCell (p := ⟨bo, 0, none⟩) (by show w.heap.size ≤ bo; omega) _).setCell (p := ⟨bo, 1, none⟩) (by show w.heap.size ≤ bo; omega) _
  · exact ((ho.setCell h2 _ _).setCell h2 _ _).mono (by omega)
  · exact (((ho.setCell h2 _ _).setCell h2 _ _).setCell h2 _ _).mono (by omega)

set_option maxRecDepth 100000 in
set_option maxHeartbeats 4000000 in
theorem cutOf_any (l : List Int) (u : Value) (y n : Int) (w : World) (hl : l.length ≤ 140737488355328) (h : Rd w u l) :
    Calls Try.prog 91 #[.agg #[u, .int .i64 y], .int .i64 n] w fun e w' => Below w.heap.size w w' ∧
      (cuf l y n ≠ 0 → e = .returned (.tuple #[noLog, .int .i64 (cuf l y n)])) ∧
      (cuf l y n = 0 → ∃ v, e = .returned (.tuple #[.agg #[v, .int .i64 (cutY l y n.toNat)], .int .i64 0]) ∧ Own w.heap.size v (((decL l).1.take n.toNat).flatMap Ent.enc) w') := by
  have H : Hid (Rd w u l) := h
  have hbs := h.1
  obtain ⟨au, cu, rfl, hcu1, hcu2, hcu3, _⟩ := h.cuts
  have HQ : Hid (∀ W, Rd W (.slice au l.length cu) l → ∀ n, n ≤ l.length → Rd W (.slice au n cu) (l.take n)) := fun W h n hn => by
    obtain ⟨au', cu', e, _, _, _, h'⟩ := h.cuts
    simp only [Value.slice.injEq] at e
    obtain ⟨rfl, _, rfl⟩ := e
    exact h' n hn
  unfold maxLen at hcu2
  clear h
  by_cases h0 : lft l y = 0
  · obtain ⟨hq1, hq2, hq3, hq4, hq5, hq6⟩ := lft_ok h0
    have HC : Hid (∀ w, Rd w (.slice au l.length cu) l → _) := fun w h => entriesOf_ok l (.slice au l.length cu) y w hl h h0
    have HA : Hid (cuf l y n = if n < 0 ∨ ((decL l).1.length : Int) < n then 2 else 0) := show _ = _ by unfold cuf; rw [if_neg (by simp [h0])]
    have hes : ((decL l).1.length : Int) ≤ 400 := by omega
    have HES : Hid ((decL l).1.length ≤ 400) := hq3
    have HLL : Hid (l.length ≤ 40000) := hq1
    have hl' : (l.length : Int) ≤ 40000 := by omega
    have hcu1' : (l.length : Int) ≤ cu := by omega
    have HB : Hid (∀ j, (h : j < (decL l).1.length) → l.getD (endOf (decL l).1 j) 0 = (((decL l).1[j]'h).body.length : Int) ∧ endOf (decL l).1 (j + 1) = endOf (decL l).1 j + (((decL l).1[j]'h).body.length + 3) ∧ ((decL l).1[j]'h).body.length ≤ 61) := fun j h => by
      have e1 := endOf_byte (decL l).1 j h
      rw [dec_all hbs hq2] at e1
      exact ⟨e1, by rw [endOf_succ _ _ h, enc_len], body_len' _ ((dec_back l hbs).2.2 _ (List.getElem_mem h))⟩
    have HLE : Hid (∀ j, endOf (decL l).1 j ≤ l.length) := fun j => by
      have := endOf_le (decL l).1 j
      rw [dec_all hbs hq2] at this
      exact this
    have HTK : Hid (∀ j, l.take (endOf (decL l).1 j) = ((decL l).1.take j).flatMap Ent.enc) := fun j => by
      have := endOf_take (decL l).1 j
      rw [dec_all hbs hq2] at this
      exact this
    clear h0 hl hq1 hq2 hq3 hq6 hcu1
    go_enter Try.func91, Try.ntmps91
    go_wp2_with fail
    have B0 : Below w.heap.size w ((w.alloc (.cells #[.slice au l.length cu, .int .i64 y] 61)).alloc (.cells #[.slice none 0 0, .int .i64 0] 61)) := bstep (bbox _ _) (bbox _ _)
    have L0 := (lbox_new w (.slice au l.length cu) y 61).alloc (.cells #[.slice none 0 0, .int .i64 0] 61)
    have R0 := lbox_new' (w.alloc (.cells #[.slice au l.length cu, .int .i64 y] 61)) (.slice none 0 0) 0 61 (w.heap.size + 1) (by simp)
    refine (HC.out _ (H.out.below (Nat.le_refl _) B0)).mono ?_
    rintro e w1 ⟨va, rfl, hva, hb1⟩
    have B1 := bstep B0 hb1
    have L1 := L0.below hb1
    have R1 := R0.below hb1
    have hl1 := H.out.below (Nat.le_refl _) B1
    clear B0 L0 R0 hb1 HC H
    obtain ⟨ae, ce, rfl⟩ := hva.shape
    clear hva
    by_cases hn : n < 0 ∨ ((decL l).1.length : Int) < n
    · rw [if_pos hn] at HA
      have hin : inR n 0 (decL l).1.length = false := by unfold inR; simp; omega
      obtain ⟨r1, r2, r3, r4⟩ := R1
      clear HES hn HB HLE HTK HQ hl1
      go_wp2_with fail
      refine (In_any _ _ _ _).mono ?_
      rintro e w' ⟨rfl, rfl⟩
      rw [hin]
      go_wp2
      refine bodyPost_ret (v := .tuple #[noLog, .int .i64 2]) (by simp [results, Try.results91, go_sem, noLog, r1, r2, r3, r4]) rfl ⟨below_two (k := 1) B1, fun _ => by rw [HA.out], fun h => by rw [HA.out] at h; simp at h⟩
    · rw [if_neg hn] at HA
      have hin : inR n 0 (decL l).1.length = true := by unfold inR; simp; omega
      obtain ⟨m, rfl⟩ := Int.eq_ofNat_of_zero_le (show 0 ≤ n by omega)
      have hm : (m : Int) ≤ (decL l).1.length := by omega
      have HM : Hid (m ≤ (decL l).1.length) := show _ ≤ _ by omega
      have HL1 : Hid (LBox w1 w.heap.size (.slice au l.length cu) y) := L1
      have HR1 : Hid (LBox w1 (w.heap.size + 1) (.slice none 0 0) 0) := R1
      obtain ⟨l1, l2, l3, l4⟩ := L1
      obtain ⟨r1, r2, r3, r4⟩ := R1
      clear hn
      go_wp2_with fail
      refine (In_any _ _ _ _).mono ?_
      rintro e w' ⟨rfl, rfl⟩
      rw [hin]
      clear hin
      have HRD : Hid (Rd w' (.slice au l.length cu) l) := hl1
      have HCY : Hid (cutY l y m = if y ≤ (endOf (decL l).1 m : Int) then y else endOf (decL l).1 m) := show _ = _ from rfl
      clear hl1
      go_wp2
      go_loop [9, 10] (fun a i => ∃ j : Nat, j ≤ m ∧ i = .int .i64 j ∧ a = .int .i64 (endOf (decL l).1 j : Nat)) (fun _ i => m - (intOf i).toNat)
      case atStart => exact ⟨0, Nat.zero_le _, rfl, by rw [endOf_zero]; rfl⟩
      case round =>
        obtain ⟨j, hj, rfl, rfl⟩ := hrel
        have hle := HLE.out j
        by_cases hlt : j < m
        · have hjl : j < (decL l).1.length := by have := HM.out; omega
          obtain ⟨hB1, hB2, hB3⟩ := HB.out j hjl
          have hle2 := HLE.out (j + 1)
          rw [hB2] at hle2
          obtain ⟨_, ao', cu', e', _, _, _, hcc⟩ := HRD.out
          simp only [Value.slice.injEq] at e'
          obtain ⟨rfl, _, rfl⟩ := e'
          obtain ⟨b, off, rfl, hc'⟩ := hcc (by omega)
          have hcx := hc' (endOf (decL l).1 j) (by omega)
          rw [hB1] at hcx
          have HB2 : Hid _ := hB2
          generalize (decL l).1[j].body.length = bl at *
          generalize endOf (decL l).1 j = at_ at *
          have hb3' : (bl : Int) ≤ 61 := by omega
          have hle' : (at_ : Int) < l.length := by omega
          have hlt' : (j : Int) < m := by omega
          clear hB1 hB2 hB3 HB hc' hcc
          go_wp2
          go_round
          case rel => exact ⟨j + 1, by omega, by go_num, by rw [HB2.out]; go_num⟩
          case measure => simp [intOf]; omega
        · have hjm : j = m := by omega
          subst hjm
          have HT : Hid (Rd w' (.slice au (endOf (decL l).1 j) cu) (l.take (endOf (decL l).1 j))) := HQ.out w' HRD.out _ hle
          have HF := HTK.out j
          generalize hee : endOf (decL l).1 j = ee at *
          have hee' : (ee : Int) ≤ l.length := by omega
          have HLL2 : Hid (ee ≤ l.length) := hle
          have hee0 : (0 : Int) ≤ (ee : Int) := by omega
          have hs2 : w'.heap.size < w'.heap.size + 1 + 1 := by omega
          have hd1 : ¬ (w.heap.size = w'.heap.size) := by omega
          have hd2 : ¬ (w.heap.size = w'.heap.size + 1) := by omega
          have hd3 : ¬ (w.heap.size + 1 = w'.heap.size) := by omega
          have heec : (ee : Int) ≤ (cu : Int) := by omega
          have hcuc : (cu : Int) ≤ 9223372036854775807 := by omega
          have HF' : Hid _ := HF
          clear HB HLE HTK HRD HQ hle HF hee
          go_wp2
          go_region_held3 (fun W => W.cell? ⟨w.heap.size, 0, none⟩ = some (.slice au l.length cu) ∧ W.cell? ⟨w.heap.size, 1, none⟩ = some (.int .i64 y)) (first | (refine ⟨?_, ?_⟩ <;> (rw [cell_set_other _ _ _ (by omega), cell_set_other _ _ _ (by omega)]; assumption)) | go_keep) (first | (go_at_call 73; refine (copy_one (l.take ee) _ _ _ (by have := HLL.out; simp; omega) (HT.out.below (Nat.le_refl _) (by repeat (first | exact Below.refl _ _ | refine Below.drew ?_ | refine Below.alloc ?_ (by simp) _))) (by simp)).mono ?_; rintro e w5 ⟨v5, rfl, ho5, hb5⟩; have hB5 : Below w'.heap.size w' w5 := bstep (by repeat (first | exact Below.refl _ _ | refine Below.drew ?_ | refine Below.alloc ?_ (by simp) _)) hb5; obtain ⟨a5, c5, rfl⟩ := ho5.shape; (simp only [List.length_take] at ho5); obtain ⟨m1, m2, m3, m4⟩ := LBox.below HL1.out hB5; obtain ⟨n1, n2, n3, n4⟩ := LBox.below HR1.out hB5; obtain ⟨hcc, hff⟩ := bcell hb5; have p0 := hcc w'.heap.size 0; have p1 := hcc w'.heap.size 1; have p2 := hff w'.heap.size; have q0 := hcc (w'.heap.size + 1) 0; have q1 := hcc (w'.heap.size + 1) 1; have q2 := hff (w'.heap.size + 1); (try simp [hs2] at p0 p1 p2); (try simp [hs2] at q0 q1 q2); have hm1 := Nat.ne_of_lt m1; have hm2 := Nat.ne_of_lt n1; clear hcc hff))
          · have hAf : After w w' (w5.alloc (.cells #[.slice a5 (min ee l.length) c5, .int .i64 y] 61)) w5.heap.size (.slice a5 (min ee l.length) c5) y (l.take ee) :=
              after_new B1 hB5 (HR1.out) (ho5.mono (by simp <;> omega)) y 61
            generalize w5.alloc (.cells #[.slice a5 (min ee l.length) c5, .int .i64 y] 61) = W6 at hAf ⊢
            have hw5 := hB5.size
            generalize w5.heap.size = bo at hAf hw5 ⊢
            clear m1 m2 m3 m4 n1 n2 n3 n4 p0 p1 p2 hm1 hm2 ho5 hb5 hB5
            obtain ⟨⟨o1, o2, o3, o4⟩, ⟨s1, s2, s3, s4⟩, bw, ow, ow2, hbo⟩ := hAf
            have hbo' : ¬ (w.heap.size + 1 = bo) := by omega
            have hbo'' : ¬ (bo = w.heap.size + 1) := by omega
            by_cases hye : (ee : Int) < y
            · have HY : Hid (cutY l y j = ee) := show _ = _ by (rw [HCY.out]; split <;> omega)
              go_wp2
              refine bodyPost_ret (v := .tuple #[.agg #[.slice a5 (min ee l.length) c5, .int .i64 ee], .int .i64 0]) (by simp [results, Try.results91, go_sem, o1, o2, o3, o4, s1, s2, s3, s4, hbo', hbo'']) rfl ⟨?_, fun h => absurd HA.out h, fun _ => ?_⟩
              · exact below_two (k := 1) (bw.setCell (p := ⟨bo, 1, none⟩) (by show w.heap.size ≤ bo; omega) _)
              · try simp only [Int.toNat_natCast]
                rw [HY.out, ← HF'.out]
                refine ⟨_, rfl, ?_⟩
                exact (((ow2 _).setCell r1 _ _).setCell r1 _ _).mono (by omega)
            · have HY : Hid (cutY l y j = y) := show _ = _ by (rw [HCY.out]; split <;> omega)
              go_wp2
              refine bodyPost_ret (v := .tuple #[.agg #[.slice a5 (min ee l.length) c5, .int .i64 y], .int .i64 0]) (by simp [results, Try.results91, go_sem, o1, o2, o3, o4, s1, s2, s3, s4, hbo', hbo'']) rfl ⟨below_two (k := 1) bw, fun h => absurd HA.out h, fun _ => ?_⟩
              try simp only [Int.toNat_natCast]
              rw [HY.out, ← HF'.out]
              refine ⟨_, rfl, ?_⟩
              exact ((ow.setCell r1 _ _).setCell r1 _ _).mono (by omega)
          · have hAf : After w w' ((w5.setCell ⟨w'.heap.size + 1, 0, none⟩ (.slice a5 (min ee l.length) c5)).setCell ⟨w'.heap.size + 1, 1, none⟩ (.int .i64 y)) (w'.heap.size + 1) (.slice a5 (min ee l.length) c5) y (l.take ee) :=
              after_old (C := w'.heap.size + 1 + 1) B1 hB5 HR1.out (ho5.mono (by simp)) ⟨cell_lt q0, q0, q1, q2⟩ (by omega) (by omega) y
            generalize (w5.setCell ⟨w'.heap.size + 1, 0, none⟩ (.slice a5 (min ee l.length) c5)).setCell ⟨w'.heap.size + 1, 1, none⟩ (.int .i64 y) = W6 at hAf ⊢
            have hw5 := hB5.size
            have hbs1 : w'.heap.size ≤ w'.heap.size + 1 := by omega
            generalize hbo0 : w'.heap.size + 1 = bo at hAf hbs1 ⊢
            clear m1 m2 m3 m4 n1 n2 n3 n4 p0 p1 p2 q0 q1 q2 hm1 hm2 ho5 hb5 hB5
            obtain ⟨⟨o1, o2, o3, o4⟩, ⟨s1, s2, s3, s4⟩, bw, ow, ow2, hbo⟩ := hAf
            have hbo' : ¬ (w.heap.size + 1 = bo) := by omega
            have hbo'' : ¬ (bo = w.heap.size + 1) := by omega
            by_cases hye : (ee : Int) < y
            · have HY : Hid (cutY l y j = ee) := show _ = _ by (rw [HCY.out]; split <;> omega)
              go_wp2
              refine bodyPost_ret (v := .tuple #[.agg #[.slice a5 (min ee l.length) c5, .int .i64 ee], .int .i64 0]) (by simp [results, Try.results91, go_sem, o1, o2, o3, o4, s1, s2, s3, s4, hbo', hbo'']) rfl ⟨?_, fun h => absurd HA.out h, fun _ => ?_⟩
              · exact below_two (k := 1) (bw.setCell (p := ⟨bo, 1, none⟩) (by show w.heap.size ≤ bo; omega) _)
              · try simp only [Int.toNat_natCast]
                rw [HY.out, ← HF'.out]
                refine ⟨_, rfl, ?_⟩
                exact (((ow2 _).setCell r1 _ _).setCell r1 _ _).mono (by omega)
            · have HY : Hid (cutY l y j = y) := show _ = _ by (rw [HCY.out]; split <;> omega)
              go_wp2
              refine bodyPost_ret (v := .tuple #[.agg #[.slice a5 (min ee l.length) c5, .int .i64 y], .int .i64 0]) (by simp [results, Try.results91, go_sem, o1, o2, o3, o4, s1, s2, s3, s4, hbo', hbo'']) rfl ⟨below_two (k := 1) bw, fun h => absurd HA.out h, fun _ => ?_⟩
              try simp only [Int.toNat_natCast]
              rw [HY.out, ← HF'.out]
              refine ⟨_, rfl, ?_⟩
              exact ((ow.setCell r1 _ _).setCell r1 _ _).mono (by omega)
          · have hAf : After w w' ((w5.setCell ⟨w'.heap.size, 0, none⟩ (.slice a5 (min ee l.length) c5)).setCell ⟨w'.heap.size, 1, none⟩ (.int .i64 y)) (w'.heap.size) (.slice a5 (min ee l.length) c5) y (l.take ee) :=
              after_old (C := w'.heap.size + 1 + 1) B1 hB5 HR1.out (ho5.mono (by simp)) ⟨cell_lt p0, p0, p1, p2⟩ (by omega) (by omega) y
            generalize (w5.setCell ⟨w'.heap.size, 0, none⟩ (.slice a5 (min ee l.length) c5)).setCell ⟨w'.heap.size, 1, none⟩ (.int .i64 y) = W6 at hAf ⊢
            have hw5 := hB5.size
            have hbs1 : w'.heap.size ≤ w'.heap.size := by omega
            generalize hbo0 : w'.heap.size = bo at hAf hbs1 ⊢
            clear m1 m2 m3 m4 n1 n2 n3 n4 p0 p1 p2 q0 q1 q2 hm1 hm2 ho5 hb5 hB5
            obtain ⟨⟨o1, o2, o3, o4⟩, ⟨s1, s2, s3, s4⟩, bw, ow, ow2, hbo⟩ := hAf
            have hbo' : ¬ (w.heap.size + 1 = bo) := by omega
            have hbo'' : ¬ (bo = w.heap.size + 1) := by omega
            by_cases hye : (ee : Int) < y
            · have HY : Hid (cutY l y j = ee) := show _ = _ by (rw [HCY.out]; split <;> omega)
              go_wp2
              refine bodyPost_ret (v := .tuple #[.agg #[.slice a5 (min ee l.length) c5, .int .i64 ee], .int .i64 0]) (by simp [results, Try.results91, go_sem, o1, o2, o3, o4, s1, s2, s3, s4, hbo', hbo'']) rfl ⟨?_, fun h => absurd HA.out h, fun _ => ?_⟩
              · exact below_two (k := 1) (bw.setCell (p := ⟨bo, 1, none⟩) (by show w.heap.size ≤ bo; omega) _)
              · try simp only [Int.toNat_natCast]
                rw [HY.out, ← HF'.out]
                refine ⟨_, rfl, ?_⟩
                exact (((ow2 _).setCell r1 _ _).setCell r1 _ _).mono (by omega)
            · have HY : Hid (cutY l y j = y) := show _ = _ by (rw [HCY.out]; split <;> omega)
              go_wp2
              refine bodyPost_ret (v := .tuple #[.agg #[.slice a5 (min ee l.length) c5, .int .i64 y], .int .i64 0]) (by simp [results, Try.results91, go_sem, o1, o2, o3, o4, s1, s2, s3, s4, hbo', hbo'']) rfl ⟨below_two (k := 1) bw, fun h => absurd HA.out h, fun _ => ?_⟩
              try simp only [Int.toNat_natCast]
              rw [HY.out, ← HF'.out]
              refine ⟨_, rfl, ?_⟩
              exact ((ow.setCell r1 _ _).setCell r1 _ _).mono (by omega)
  · have h0' : (lft l y != 0) = true := by simp [h0]
    have h0'' : (lft l y == 0) = false := by simp [h0]
    have E : Hid (cuf l y n = lft l y) := show _ = _ by unfold cuf; rw [if_pos h0]
    have HC : Hid (∀ w, Rd w (.slice au l.length cu) l → _) := fun w h => entriesOf_bad l (.slice au l.length cu) y w hl h h0
    go_enter Try.func91, Try.ntmps91
    go_wp2_with fail
    have B0 : Below w.heap.size w ((w.alloc (.cells #[.slice au l.length cu, .int .i64 y] 61)).alloc (.cells #[.slice none 0 0, .int .i64 0] 61)) := bstep (bbox _ _) (bbox _ _)
    have R0 := lbox_new' (w.alloc (.cells #[.slice au l.length cu, .int .i64 y] 61)) (.slice none 0 0) 0 61 (w.heap.size + 1) (by simp)
    refine (HC.out _ (H.out.below (Nat.le_refl _) B0)).mono ?_
    rintro e w1 ⟨rfl, hb1⟩
    have B1 := bstep B0 hb1
    obtain ⟨r1, r2, r3, r4⟩ := R0.below hb1
    clear B0 R0 hb1 HC hl hcu1
    go_wp2
    refine bodyPost_ret (v := .tuple #[noLog, .int .i64 (lft l y)]) (by simp [results, Try.results91, go_sem, noLog, r1, r2, r3, r4]) rfl ⟨below_two (k := 1) B1, fun _ => by rw [E.out], fun h => absurd (E.out ▸ h) h0⟩

end Go.Proofs.Ytkakagjffafdiaa
