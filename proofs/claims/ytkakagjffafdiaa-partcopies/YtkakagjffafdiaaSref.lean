/-
  The walks of the document's LogFault, EntriesOf and bytesCopy.
-/
import Derived.Test.YtkakagjffafdiaaSseg3
import Derived.Test.YtkakagjffafdiaaRents
namespace Go.Proofs.Ytkakagjffafdiaa
open Go.RowKit
set_option linter.unusedVariables false
set_option linter.unusedSimpArgs false

set_option maxRecDepth 100000 in
set_option maxHeartbeats 2000000 in
theorem logFault_some (l : List Int) (b off cap : Nat) (y : Int) (w : World) (hl : l.length ≤ 140737488355328) (hcap : l.length ≤ cap) (hm : cap ≤ maxLen) (hb : Bytes l) (hc : ∀ i, i < l.length → w.cell? ⟨b, off + i, none⟩ = some (.int .u8 (l.getD i 0))) :
    Calls Try.prog 67 #[.agg #[.slice (some ⟨b, off, none⟩) l.length cap, .int .i64 y]] w fun e w' => e = .returned (.int .i64 (lft l y)) ∧ Below w.heap.size w w' := by
  have hR : Rd w (.slice (some ⟨b, off, none⟩) l.length cap) l := ⟨hb, _, cap, rfl, hcap, hm, (fun h => by simp at h), fun _ => ⟨b, off, rfl, hc⟩⟩
  have HR : Hid (Rd w (.slice (some ⟨b, off, none⟩) l.length cap) l) := hR
  have HCL : Hid (∀ i, i < l.length → w.cell? ⟨b, off + i, none⟩ = some (.int .u8 (l.getD i 0))) := hc
  have hlen := (decP_len l.length l hb)
  have hes : (decL l).1.length ≤ l.length := hlen.1
  have hsz : (decL l).2 ≤ l.length := hlen.2
  unfold maxLen at hm
  clear hc hlen hR
  go_enter Try.func67, Try.ntmps67
  by_cases h1 : 40000 < l.length
  · have E : Hid (lft l y = 1) := show _ = _ by unfold lft; rw [if_pos h1]
    clear HR HCL
    go_wp2
    go_ret
    rw [E.out]
    exact ⟨rfl, bbox _ _⟩
  · go_wp2_with fail
    refine (entriesIn_any l _ _ (by omega) (HR.out.below (Nat.le_refl _) (bbox _ _))).mono ?_
    rintro e w1 ⟨va, rfl, hva, hb1⟩
    have B1 := bstep (bbox _ _) hb1
    obtain ⟨l1, l2, l3, l4⟩ := (lbox_new w (.slice (some ⟨b, off, none⟩) l.length cap) y 61).below hb1
    obtain ⟨ae, ce, rfl⟩ := hva.shape
    clear hb1 HR hva
    by_cases h2 : (decL l).2 ≠ l.length ∨ 400 < (decL l).1.length
    · have E : Hid (lft l y = 4) := show _ = _ by unfold lft; rw [if_neg h1, if_pos h2]
      have h2a : ((decL l).2 : Int) < (l.length : Int) ∨ ((decL l).2 : Int) = (l.length : Int) ∧ (400 : Int) < (decL l).1.length := by omega
      clear h2 HCL
      rcases h2a with h2 | ⟨h2, h3⟩
      all_goals
        go_wp2
        go_ret
        rw [E.out]
        exact ⟨rfl, B1⟩
    · have h2b : ((decL l).1.length : Int) ≤ 400 := by omega
      have hd : (decL l).2 = l.length := by omega
      by_cases h3 : y < 0 ∨ (l.length : Int) < y
      · have E : Hid (lft l y = 2) := show _ = _ by unfold lft; rw [if_neg h1, if_neg h2, if_pos h3]
        have hin : inR y 0 l.length = false := by unfold inR; simp; omega
        clear h2 HCL h3
        rw [hd]
        go_wp2_with fail
        refine (In_any _ _ _ _).mono ?_
        rintro e w' ⟨rfl, rfl⟩
        rw [hin]
        go_wp2
        go_ret
        rw [E.out]
        exact ⟨rfl, B1⟩
      · obtain ⟨n, rfl⟩ := Int.eq_ofNat_of_zero_le (show 0 ≤ y by omega)
        have hn : n ≤ l.length := by omega
        have hin : inR n 0 l.length = true := by unfold inR; simp; omega
        have E0 : Hid ((decL (l.take n)).2 = n → lft l n = 0) := fun h => by unfold lft; rw [if_neg h1, if_neg h2, if_neg h3, if_neg (by simp [h])]
        have E1 : Hid ((decL (l.take n)).2 ≠ n → lft l n = 4) := fun h => by unfold lft; rw [if_neg h1, if_neg h2, if_neg h3, if_pos (by simpa using h)]
        have HI : Hid (∀ j, j ≤ (decL l).1.length → (∀ i, i < j → endOf (decL l).1 i < n) → n ≤ endOf (decL l).1 j → ((decL (l.take n)).2 = n ↔ endOf (decL l).1 j = n)) := fun j hj h1 h2 => end_iff l hb hd n hn j hj h1 h2
        have HB : Hid (∀ j, (h : j < (decL l).1.length) → l.getD (endOf (decL l).1 j) 0 = (((decL l).1[j]'h).body.length : Int) ∧ endOf (decL l).1 (j + 1) = endOf (decL l).1 j + (((decL l).1[j]'h).body.length + 3) ∧ ((decL l).1[j]'h).body.length ≤ 61) := fun j h => by
          have e1 := endOf_byte (decL l).1 j h
          rw [dec_all hb hd] at e1
          exact ⟨e1, by rw [endOf_succ _ _ h, enc_len], body_len' _ ((dec_back l hb).2.2 _ (List.getElem_mem h))⟩
        have HLE : Hid (∀ j, endOf (decL l).1 j ≤ l.length) := fun j => by
          have := endOf_le (decL l).1 j
          rw [dec_all hb hd] at this
          exact this
        have HALL : Hid (endOf (decL l).1 (decL l).1.length = l.length) := show _ = _ by rw [endOf_all, dec_all hb hd]
        have h3' : (n : Int) ≤ l.length := by omega
        have hl' : (l.length : Int) ≤ 40000 := by omega
        have hcap' : (l.length : Int) ≤ cap := by omega
        clear h2 h3
        rw [hd]
        generalize (decL l).1 = es at *
        go_wp2_with fail
        refine (In_any _ _ _ _).mono ?_
        rintro e w' ⟨rfl, rfl⟩
        rw [hin]
        clear hin
        go_wp2
        go_loop [5] (fun a => ∃ j : Nat, j ≤ es.length ∧ a = .int .i64 (endOf es j : Nat) ∧ Hid (∀ i, i < j → endOf es i < n)) (fun a => l.length - (intOf a).toNat)
        case atStart => exact ⟨0, Nat.zero_le _, by rw [endOf_zero]; rfl, fun i hi => by omega⟩
        case round =>
          obtain ⟨j, hj, rfl, HJ⟩ := hrel
          have hle := HLE.out j
          by_cases hlt : endOf es j < n
          · have hjl : j < es.length := by
              rcases Nat.lt_or_ge j es.length with h | h
              · exact h
              · have : j = es.length := by omega
                subst this
                have := HALL.out
                omega
            obtain ⟨hB1, hB2, hB3⟩ := HB.out j hjl
            have hcx := (B1.cell (p := ⟨b, off + endOf es j, none⟩) (cell_lt (HCL.out (endOf es j) (by omega)))).trans (HCL.out (endOf es j) (by omega))
            rw [hB1] at hcx
            have HN : Hid (∀ i, i < j + 1 → endOf es i < n) := fun i hi => by
              by_cases h : i = j
              · subst h; exact hlt
              · exact HJ.out i (by omega)
            have HB2 : Hid _ := hB2
            generalize es[j].body.length = bl at *
            generalize endOf es j = at_ at *
            have hb3' : (bl : Int) ≤ 61 := by omega
            have hle' : (at_ : Int) ≤ l.length := by omega
            have hlt' : (at_ : Int) < n := by omega
            clear hB1 hB2 hB3 HJ HB
            go_wp2
            go_round
            case rel => exact ⟨j + 1, by omega, by rw [HB2.out]; go_num, HN⟩
            case measure => simp [intOf]; omega
          · have hiff := HI.out j hj HJ.out (by omega)
            by_cases he : endOf es j = n
            · have E : Hid _ := E0.out (hiff.2 he)
              have hne : ((endOf es j : Int) != (n : Int)) = false := by simp; omega
              clear hiff he HI HJ HB HLE HALL HCL
              go_wp2
              go_ret
              rw [E.out]
              exact ⟨rfl, B1⟩
            · have E : Hid _ := E1.out (fun h => he (hiff.1 h))
              have hne : ((endOf es j : Int) != (n : Int)) = true := by simp; omega
              clear hiff he HI HJ HB HLE HALL HCL
              go_wp2
              go_ret
              rw [E.out]
              exact ⟨rfl, B1⟩

set_option maxRecDepth 100000 in
set_option maxHeartbeats 2000000 in
theorem logFault_none (ao : Option Addr) (cap : Nat) (y : Int) (w : World) (hm : cap ≤ maxLen) (hn : ao = none → cap = 0) :
    Calls Try.prog 67 #[.agg #[.slice ao 0 cap, .int .i64 y]] w fun e w' => e = .returned (.int .i64 (lft [] y)) ∧ Below w.heap.size w w' := by
  have HD : Hid (∀ W, Calls Try.prog 102 #[.slice ao 0 cap] W fun e w' => ∃ v, e = .returned (.tuple #[v, .int .i64 0]) ∧ OwnE W.heap.size v [] w' ∧ Below W.heap.size W w') := fun W => entriesIn_none ao cap W
  unfold maxLen at hm
  go_enter Try.func67, Try.ntmps67
  go_wp2_with fail
  refine (HD.out _).mono ?_
  rintro e w1 ⟨va, rfl, hva, hb1⟩
  have B1 := bstep (bbox _ _) hb1
  obtain ⟨l1, l2, l3, l4⟩ := (lbox_new w (.slice ao 0 cap) y 61).below hb1
  obtain ⟨ae, ce, rfl⟩ := hva.shape
  clear hb1 hva HD
  by_cases h3 : y < 0 ∨ 0 < y
  · have E : Hid (lft [] y = 2) := show _ = _ by rw [lft_nil, if_pos h3]
    have hin : inR y 0 0 = false := by unfold inR; simp; omega
    clear h3
    go_wp2_with fail
    refine (In_any _ _ _ _).mono ?_
    rintro e w' ⟨rfl, rfl⟩
    rw [hin]
    go_wp2
    go_ret
    rw [E.out]
    exact ⟨rfl, B1⟩
  · have : y = 0 := by omega
    subst this
    have E : Hid (lft [] 0 = 0) := show _ = _ by rw [lft_nil, if_neg (by omega)]
    have hin : inR 0 0 0 = true := by decide
    clear h3
    go_wp2_with fail
    refine (In_any _ _ _ _).mono ?_
    rintro e w' ⟨rfl, rfl⟩
    rw [hin]
    clear hin
    go_wp2
    refine wp_loop_rounds 1 ?_
    rw [rounds_succ]
    go_wp2
    go_ret
    rw [E.out]
    exact ⟨rfl, B1⟩

theorem logFault_any (l : List Int) (u : Value) (y : Int) (w : World) (hl : l.length ≤ 140737488355328) (h : Rd w u l) :
    Calls Try.prog 67 #[.agg #[u, .int .i64 y]] w fun e w' => e = .returned (.int .i64 (lft l y)) ∧ Below w.heap.size w w' := by
  obtain ⟨hb, ao, cap, rfl, h1, h2, h3, hc⟩ := h
  by_cases h0 : 0 < l.length
  · obtain ⟨b, off, rfl, hc'⟩ := hc h0
    exact logFault_some l b off cap y w hl h1 h2 hb hc'
  · have hl : l = [] := List.eq_nil_of_length_eq_zero (by omega)
    subst hl
    exact logFault_none ao cap y w h2 h3

set_option maxRecDepth 100000 in
set_option maxHeartbeats 2000000 in
theorem entriesOf_any (l : List Int) (u : Value) (y : Int) (w : World) (hl : l.length ≤ 140737488355328) (h : Rd w u l) :
    Calls Try.prog 118 #[.agg #[u, .int .i64 y]] w fun e w' => Below w.heap.size w w' ∧
      (lft l y ≠ 0 → e = .returned (.tuple #[.slice none 0 0, .int .i64 0, .int .i64 (lft l y)])) ∧
      (lft l y = 0 → ∃ v, e = .returned (.tuple #[v, .int .i64 (decL (l.take y.toNat)).1.length, .int .i64 0]) ∧ OwnE w.heap.size v (decL l).1 w') := by
  have H : Hid (Rd w u l) := h
  have HC : Hid (∀ w, Rd w u l → _) := fun w h => logFault_any l u y w hl h
  have HE : Hid (∀ w, Rd w u l → l.length ≤ 40000 → _) := fun w h hq => entriesIn_any l u w (by omega) h
  have hbs := h.1
  obtain ⟨au, cu, rfl, hcu1, hcu2, hcu3, _⟩ := h.cuts
  have HQ : Hid (∀ W, Rd W (.slice au l.length cu) l → ∀ n, n ≤ l.length → Rd W (.slice au n cu) (l.take n)) := fun W h n hn => by
    obtain ⟨au', cu', e, _, _, _, h'⟩ := h.cuts
    simp only [Value.slice.injEq] at e
    obtain ⟨rfl, _, rfl⟩ := e
    exact h' n hn
  unfold maxLen at hcu2
  clear h
  go_enter Try.func118, Try.ntmps118
  go_wp2_with fail
  have B0 : Below w.heap.size w (w.alloc (.cells #[.slice au l.length cu, .int .i64 y] 61)) := bbox _ _
  have L0 := lbox_new w (.slice au l.length cu) y 61
  refine (HC.out _ (H.out.below (Nat.le_refl _) B0)).mono ?_
  rintro e w1 ⟨rfl, hb1⟩
  have B1 := bstep B0 hb1
  have L1 := L0.below hb1
  have hl1 := H.out.below (Nat.le_refl _) B1
  clear B0 L0 hb1 HC H
  by_cases h0 : lft l y = 0
  · obtain ⟨hq1, hq2, hq3, hq4, hq5, hq6⟩ := lft_ok h0
    rw [h0]
    have E : Hid _ := h0
    obtain ⟨n, rfl⟩ := Int.eq_ofNat_of_zero_le hq4
    have hn : n ≤ l.length := by omega
    have hn' : (n : Int) ≤ l.length := by omega
    have hl' : (l.length : Int) ≤ 40000 := by omega
    have hcu1' : (l.length : Int) ≤ cu := by omega
    have HLL : Hid (l.length ≤ 40000) := hq1
    have HN : Hid (n ≤ l.length) := hn
    clear h0 hl hcu1 hq1 hq2 hq3 hq6 hn
    obtain ⟨l1, l2, l3, l4⟩ := L1
    go_wp2_with fail
    refine (HE.out _ hl1 HLL.out).mono ?_
    rintro e w2 ⟨va, rfl, hva, hb2⟩
    have B2 := bstep B1 hb2
    have L2 := LBox.below ⟨l1, l2, l3, l4⟩ hb2
    have HT := HQ.out w2 (hl1.below (Nat.le_refl _) hb2) n HN.out
    have hva' := hva.mono B1.size
    obtain ⟨ae, ce, rfl⟩ := hva.shape
    clear l1 l2 l3 l4 hb2 B1 hva hl1 HE HQ
    obtain ⟨l1, l2, l3, l4⟩ := L2
    go_wp2_with fail
    refine (entriesIn_any (l.take n) _ _ (by have := HLL.out; simp; omega) HT).mono ?_
    rintro e w3 ⟨vb, rfl, hvb, hb3⟩
    have B3 := bstep B2 hb3
    have hva3 := hva'.below (Nat.le_refl _) hb3
    obtain ⟨af, cf, rfl⟩ := hvb.shape
    clear l1 l2 l3 l4 hb3 B2 hva' hvb HT
    go_wp2
    go_ret3
    exact ⟨B3, fun h => absurd E.out h, fun _ => ⟨_, rfl, hva3⟩⟩
  · have h0' : (lft l y != 0) = true := by simp [h0]
    obtain ⟨l1, l2, l3, l4⟩ := L1
    clear hl hcu1
    go_wp2
    go_ret3
    exact ⟨B1, fun _ => rfl, fun h => absurd h h0⟩

theorem entriesOf_ok (l : List Int) (u : Value) (y : Int) (w : World) (hl : l.length ≤ 140737488355328) (h : Rd w u l) (h0 : lft l y = 0) :
    Calls Try.prog 118 #[.agg #[u, .int .i64 y]] w fun e w' => ∃ v, e = .returned (.tuple #[v, .int .i64 (decL (l.take y.toNat)).1.length, .int .i64 0]) ∧ OwnE w.heap.size v (decL l).1 w' ∧ Below w.heap.size w w' :=
  (entriesOf_any l u y w hl h).mono fun e w' ⟨hb, _, h⟩ => by
    obtain ⟨v, h1, h2⟩ := h h0
    exact ⟨v, h1, h2, hb⟩
theorem entriesOf_bad (l : List Int) (u : Value) (y : Int) (w : World) (hl : l.length ≤ 140737488355328) (h : Rd w u l) (h0 : lft l y ≠ 0) :
    Calls Try.prog 118 #[.agg #[u, .int .i64 y]] w fun e w' => e = .returned (.tuple #[.slice none 0 0, .int .i64 0, .int .i64 (lft l y)]) ∧ Below w.heap.size w w' :=
  (entriesOf_any l u y w hl h).mono fun e w' ⟨hb, h, _⟩ => ⟨h h0, hb⟩

set_option maxRecDepth 100000 in
set_option maxHeartbeats 1000000 in
theorem copy_one (l : List Int) (u : Value) (g : Nat) (w : World) (hl : l.length ≤ 140737488355328) (h1 : Rd w u l) (c0 : w.cell? ⟨g, 0, none⟩ = some u) :
    Calls Try.prog 73 #[.slice (some ⟨g, 0, none⟩) 1 1] w fun e w' => ∃ v, e = .returned v ∧ Own w.heap.size v l w' ∧ Below w.heap.size w w' := by
  have o0 := own_nil w.heap.size w (Nat.le_refl _)
  go_enter Try.func73, Try.ntmps73
  go_wp2
  refine wp_loop_rounds 2 ?_
  rw [rounds_succ]
  go_wp2_with (at_builtin; refine wp_app rfl _ _ rfl _ _ _ rfl o0 _ _ rfl h1 (by simp; omega) ?_)
  intro v2 w2 ho2 hb2
  clear o0 h1 c0
  go_wp2
  rw [rounds_succ]
  go_wp2
  go_ret
  exact ⟨_, rfl, by simpa using ho2, hb2⟩

set_option maxRecDepth 100000 in
set_option maxHeartbeats 1000000 in
theorem copy_two (l r : List Int) (u v : Value) (g : Nat) (w : World) (hl : l.length ≤ 50000) (hr : r.length ≤ 50000) (h1 : Rd w u l) (h2 : Rd w v r) (c0 : w.cell? ⟨g, 0, none⟩ = some u) (c1 : w.cell? ⟨g, 1, none⟩ = some v) :
    Calls Try.prog 73 #[.slice (some ⟨g, 0, none⟩) 2 2] w fun e w' => ∃ v, e = .returned v ∧ Own w.heap.size v (l ++ r) w' ∧ Below w.heap.size w w' := by
  have o0 := own_nil w.heap.size w (Nat.le_refl _)
  have hg0 := cell_lt c0
  have H2 : Hid (Rd w v r) := h2
  clear h2
  go_enter Try.func73, Try.ntmps73
  go_wp2
  refine wp_loop_rounds 3 ?_
  rw [rounds_succ]
  go_wp2_with (at_builtin; refine wp_app rfl _ _ rfl _ _ _ rfl o0 _ _ rfl h1 (by simp; omega) ?_)
  intro v2 w2 ho2 hb2
  have hr3 := H2.out.below (Nat.le_refl _) hb2
  have p1 := (hb2.cell (p := ⟨g, 1, none⟩) hg0).trans c1
  clear o0 h1 c0 c1 H2
  go_wp2
  rw [rounds_succ]
  go_wp2_with (at_builtin; refine wp_app rfl _ _ rfl _ _ _ rfl ho2 _ _ rfl hr3 (by omega) ?_)
  intro v3 w3 ho3 hb3
  have hB3 := hb2.trans hb3
  clear hr3 ho2 p1 hb2 hb3
  go_wp2
  rw [rounds_succ]
  go_wp2
  go_ret
  exact ⟨_, rfl, by simpa using ho3, hB3⟩

end Go.Proofs.Ytkakagjffafdiaa
