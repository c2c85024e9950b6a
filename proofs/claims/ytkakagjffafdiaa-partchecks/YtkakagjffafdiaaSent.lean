/-
  The walks of seg.Entries and seg.Check.
-/
import Derived.Test.YtkakagjffafdiaaSmath
import Derived.Deep.QuietTactic
import Derived.BigQuiet
namespace Go.Proofs.Ytkakagjffafdiaa
open Go.RowKit
set_option linter.unusedVariables false
set_option linter.unusedSimpArgs false

/-- The two cells of a log that is boxed, behind a call. -/
theorem log_box {w wi : World} {u : Value} {y : Int} {T : TypeId} (hb : Below (w.heap.size + 1) (w.alloc (.cells #[u, .int .i64 y] T)) wi) :
    wi.cell? ⟨w.heap.size, 0, none⟩ = some u ∧ wi.cell? ⟨w.heap.size, 1, none⟩ = some (.int .i64 y) := by
  have h := box_cells hb
  exact ⟨by rw [h 0]; simp, by rw [h 1]; simp⟩

set_option maxRecDepth 100000 in
set_option maxHeartbeats 2000000 in
theorem segEntries_some (l : List Int) (b off cap : Nat) (y : Int) (w : World) (hl : l.length ≤ 140737488355328) (hcap : l.length ≤ cap) (hm : cap ≤ maxLen) (hb : Bytes l) (hc : ∀ i, i < l.length → w.cell? ⟨b, off + i, none⟩ = some (.int .u8 (l.getD i 0))) :
    Calls Try.prog 55 #[.agg #[.slice (some ⟨b, off, none⟩) l.length cap, .int .i64 y]] w fun e w' => Below w.heap.size w w' ∧
      (lft l y ≠ 0 → e = .returned (.tuple #[.slice none 0 0, .int .i64 0, .int .i64 (lft l y)])) ∧
      (lft l y = 0 → ∃ v, e = .returned (.tuple #[v, .int .i64 (decL (l.take y.toNat)).1.length, .int .i64 0]) ∧ OwnE w.heap.size v (decL l).1 w') := by
  have HR : Hid (∀ n, n ≤ l.length → Rd w (.slice (some ⟨b, off, none⟩) n cap) (l.take n)) := fun n h => by
    have h1 := rd_cut hb hcap hm hc 0 n (by omega)
    by_cases h0 : cap = 0
    · rw [if_pos h0] at h1; simpa using h1
    · rw [if_neg h0] at h1; simpa using h1
  have hR : Rd w (.slice (some ⟨b, off, none⟩) l.length cap) l := by simpa using HR.out l.length (by omega)
  have hlen := (decP_len l.length l hb)
  have hes : (decL l).1.length ≤ l.length := hlen.1
  have hsz : (decL l).2 ≤ l.length := hlen.2
  unfold maxLen at hm
  clear hc hlen
  go_enter Try.func55, Try.ntmps55
  by_cases h1 : 40000 < l.length
  · have E : Hid (lft l y = 1) := show _ = _ by unfold lft; rw [if_pos h1]
    clear HR hR
    go_wp2
    go_ret3
    rw [E.out]
    exact ⟨bbox _ _, fun _ => rfl, fun h => by simp at h⟩
  · go_wp2_with fail
    refine (decode_any l _ _ (by omega) (hR.below (Nat.le_refl _) (bbox _ _))).mono ?_
    rintro e w1 ⟨va, rfl, hva, hb1⟩
    obtain ⟨hx0, hx1⟩ := log_box (by simpa using hb1 : Below (w.heap.size + 1) _ w1)
    have hB1 := below_unbox (by simpa using hb1 : Below (w.heap.size + 1) _ w1)
    have hva' := hva.mono (C := w.heap.size) (by simp)
    obtain ⟨ae, ce, rfl⟩ := hva.shape
    clear hb1 hR hva
    by_cases h2 : (decL l).2 ≠ l.length ∨ 400 < (decL l).1.length
    · have E : Hid (lft l y = 4) := show _ = _ by unfold lft; rw [if_neg h1, if_pos h2]
      have h2a : (((decL l).2 : Int) != (l.length : Int)) = true ∨ (((decL l).2 : Int) != (l.length : Int)) = false ∧ (400 : Int) < (decL l).1.length := by
        rcases h2 with h2 | h2
        · left; simp; omega
        · by_cases h3 : (decL l).2 = l.length
          · right; exact ⟨by simp [h3], by omega⟩
          · left; simp; omega
      clear HR h2
      rcases h2a with h2 | ⟨h2, h3⟩
      all_goals
        go_wp2
        go_ret3
        rw [E.out]
        exact ⟨hB1, fun _ => rfl, fun h => by simp at h⟩
    · have h2a : (((decL l).2 : Int) != (l.length : Int)) = false := by simp; omega
      have h2b : ((decL l).1.length : Int) ≤ 400 := by omega
      by_cases h3 : y < 0 ∨ (l.length : Int) < y
      · have E : Hid (lft l y = 2) := show _ = _ by unfold lft; rw [if_neg h1, if_neg h2, if_pos h3]
        clear HR h2
        by_cases h4 : y < 0
        all_goals
          go_wp2
          go_ret3
          rw [E.out]
          exact ⟨hB1, fun _ => rfl, fun h => by simp at h⟩
      · obtain ⟨n, rfl⟩ := Int.eq_ofNat_of_zero_le (show 0 ≤ y by omega)
        have hn : n ≤ l.length := by omega
        have hR2 := (HR.out n hn).below (Nat.le_refl _) hB1
        have hlt : (l.take n).length = n := by simp; omega
        have E0 : Hid ((decL (l.take n)).2 = n → lft l n = 0) := fun h => by unfold lft; rw [if_neg h1, if_neg h2, if_neg h3, if_neg (by simp [h])]
        have E1 : Hid ((decL (l.take n)).2 ≠ n → lft l n = 4) := fun h => by unfold lft; rw [if_neg h1, if_neg h2, if_neg h3, if_pos (by simpa using h)]
        have h3' : (n : Int) ≤ l.length := by omega
        clear HR h2 h3
        go_wp2_with fail
        refine (decode_any (l.take n) _ _ (by omega) hR2).mono ?_
        rintro e w2 ⟨vb, rfl, hvb, hb2⟩
        have hB2 := bstep hB1 hb2
        have hva2 := hva'.below (Nat.le_refl _) hb2
        have hlt1 := cell_lt hx1
        have hy1 := (hb2.cell (p := ⟨w.heap.size, 1, none⟩) hlt1).trans hx1
        obtain ⟨af, cf, rfl⟩ := hvb.shape
        clear hb2 hB1 hva' hx0 hx1 hR2 hvb
        by_cases h4 : (decL (l.take n)).2 = n
        · have h4' : (((decL (l.take n)).2 : Int) != (n : Int)) = false := by simp; omega
          have E : Hid _ := E0.out h4
          clear E0 E1 h4
          go_wp2
          go_ret3
          refine ⟨hB2, fun h => absurd E.out h, fun _ => ⟨_, rfl, hva2⟩⟩
        · have h4' : (((decL (l.take n)).2 : Int) != (n : Int)) = true := by simp; omega
          have E : Hid _ := E1.out h4
          clear E0 E1 h4
          go_wp2
          go_ret3
          rw [E.out]
          exact ⟨hB2, fun _ => rfl, fun h => by simp at h⟩

theorem dec_nil : decL [] = ([], 0) := rfl
theorem lft_nil (y : Int) : lft [] y = if y < 0 ∨ 0 < y then 2 else 0 := by
  unfold lft
  simp only [List.length_nil, dec_nil, List.take_nil]
  by_cases h : y < 0 ∨ 0 < y
  · simp [h]
  · have : y = 0 := by omega
    subst this
    simp

set_option maxRecDepth 100000 in
set_option maxHeartbeats 2000000 in
theorem segEntries_none (ao : Option Addr) (cap : Nat) (y : Int) (w : World) (hm : cap ≤ maxLen) (hn : ao = none → cap = 0) :
    Calls Try.prog 55 #[.agg #[.slice ao 0 cap, .int .i64 y]] w fun e w' => Below w.heap.size w w' ∧
      (lft [] y ≠ 0 → e = .returned (.tuple #[.slice none 0 0, .int .i64 0, .int .i64 (lft [] y)])) ∧
      (lft [] y = 0 → ∃ v, e = .returned (.tuple #[v, .int .i64 0, .int .i64 0]) ∧ OwnE w.heap.size v [] w') := by
  have HD : Hid (∀ W, Calls Try.prog 98 #[.slice ao 0 cap] W fun e w' => ∃ v, e = .returned (.tuple #[v, .int .i64 0]) ∧ OwnE W.heap.size v [] w' ∧ Below W.heap.size W w') := fun W => decode_none ao cap W
  unfold maxLen at hm
  go_enter Try.func55, Try.ntmps55
  go_wp2_with fail
  refine (HD.out _).mono ?_
  rintro e w1 ⟨va, rfl, hva, hb1⟩
  obtain ⟨hx0, hx1⟩ := log_box (by simpa using hb1 : Below (w.heap.size + 1) _ w1)
  have hB1 := below_unbox (by simpa using hb1 : Below (w.heap.size + 1) _ w1)
  have hva' := hva.mono (C := w.heap.size) (by simp)
  obtain ⟨ae, ce, rfl⟩ := hva.shape
  have hlt1 := cell_lt hx1
  clear hb1 hva
  by_cases h3 : y < 0 ∨ 0 < y
  · have E : Hid (lft [] y = 2) := show _ = _ by rw [lft_nil, if_pos h3]
    by_cases h4 : y < 0
    all_goals
      go_wp2
      go_ret3
      rw [E.out]
      exact ⟨hB1, fun _ => rfl, fun h => by simp at h⟩
  · have : y = 0 := by omega
    subst this
    have E : Hid (lft [] 0 = 0) := show _ = _ by rw [lft_nil, if_neg (by omega)]
    cases ao with
    | none =>
      obtain rfl := hn rfl
      go_wp2_with fail
      refine (HD.out _).mono ?_
      rintro e w2 ⟨vb, rfl, hvb, hb2⟩
      have hB2 := bstep hB1 hb2
      have hva2 := hva'.below (Nat.le_refl _) hb2
      have hy1 := (hb2.cell (p := ⟨w.heap.size, 1, none⟩) hlt1).trans hx1
      obtain ⟨af, cf, rfl⟩ := hvb.shape
      clear hb2 hB1 hva' hx0 hx1 hvb HD
      go_wp2
      go_ret3
      exact ⟨hB2, fun h => absurd E.out h, fun _ => ⟨_, rfl, hva2⟩⟩
    | some ad =>
      clear hn
      go_wp2_with fail
      refine (HD.out _).mono ?_
      rintro e w2 ⟨vb, rfl, hvb, hb2⟩
      have hB2 := bstep hB1 hb2
      have hva2 := hva'.below (Nat.le_refl _) hb2
      have hy1 := (hb2.cell (p := ⟨w.heap.size, 1, none⟩) hlt1).trans hx1
      obtain ⟨af, cf, rfl⟩ := hvb.shape
      clear hb2 hB1 hva' hx0 hx1 hvb HD
      go_wp2
      go_ret3
      exact ⟨hB2, fun h => absurd E.out h, fun _ => ⟨_, rfl, hva2⟩⟩

theorem segEntries_any (l : List Int) (u : Value) (y : Int) (w : World) (hl : l.length ≤ 140737488355328) (h : Rd w u l) :
    Calls Try.prog 55 #[.agg #[u, .int .i64 y]] w fun e w' => Below w.heap.size w w' ∧
      (lft l y ≠ 0 → e = .returned (.tuple #[.slice none 0 0, .int .i64 0, .int .i64 (lft l y)])) ∧
      (lft l y = 0 → ∃ v, e = .returned (.tuple #[v, .int .i64 (decL (l.take y.toNat)).1.length, .int .i64 0]) ∧ OwnE w.heap.size v (decL l).1 w') := by
  obtain ⟨hb, ao, cap, rfl, h1, h2, h3, hc⟩ := h
  by_cases h0 : 0 < l.length
  · obtain ⟨b, off, rfl, hc'⟩ := hc h0
    exact segEntries_some l b off cap y w hl h1 h2 hb hc'
  · have hl : l = [] := List.eq_nil_of_length_eq_zero (by omega)
    subst hl
    simpa [dec_nil] using segEntries_none ao cap y w h2 h3

theorem segEntries_ok (l : List Int) (u : Value) (y : Int) (w : World) (hl : l.length ≤ 140737488355328) (h : Rd w u l) (h0 : lft l y = 0) :
    Calls Try.prog 55 #[.agg #[u, .int .i64 y]] w fun e w' => ∃ v, e = .returned (.tuple #[v, .int .i64 (decL (l.take y.toNat)).1.length, .int .i64 0]) ∧ OwnE w.heap.size v (decL l).1 w' ∧ Below w.heap.size w w' :=
  (segEntries_any l u y w hl h).mono fun e w' ⟨hb, _, h⟩ => by
    obtain ⟨v, h1, h2⟩ := h h0
    exact ⟨v, h1, h2, hb⟩
theorem segEntries_bad (l : List Int) (u : Value) (y : Int) (w : World) (hl : l.length ≤ 140737488355328) (h : Rd w u l) (h0 : lft l y ≠ 0) :
    Calls Try.prog 55 #[.agg #[u, .int .i64 y]] w fun e w' => e = .returned (.tuple #[.slice none 0 0, .int .i64 0, .int .i64 (lft l y)]) ∧ Below w.heap.size w w' :=
  (segEntries_any l u y w hl h).mono fun e w' ⟨hb, h, _⟩ => ⟨h h0, hb⟩

set_option maxRecDepth 100000 in
set_option maxHeartbeats 1000000 in
theorem segCheck_any (l : List Int) (u : Value) (y : Int) (w : World) (hl : l.length ≤ 140737488355328) (h : Rd w u l) :
    Calls Try.prog 120 #[.agg #[u, .int .i64 y]] w fun e w' => e = .returned (.int .i64 (lft l y)) ∧ Below w.heap.size w w' := by
  by_cases h0 : lft l y = 0
  · have HC : Hid (∀ w, Rd w u l → _) := fun w h => segEntries_ok l u y w hl h h0
    go_enter Try.func120, Try.ntmps120
    go_wp2_with fail
    refine (HC.out _ (by first | exact h | exact h.below (Nat.le_refl _) (bbox _ _))).mono ?_
    rintro e w1 ⟨v, rfl, hv, hb1⟩
    have E : Hid _ := h0
    clear h0 HC h hv
    go_wp2_with fail
    go_ret
    rw [E.out]
    exact ⟨rfl, by first | exact hb1 | exact bstep (bbox _ _) hb1⟩
  · have HC : Hid (∀ w, Rd w u l → _) := fun w h => segEntries_bad l u y w hl h h0
    go_enter Try.func120, Try.ntmps120
    go_wp2_with fail
    refine (HC.out _ (by first | exact h | exact h.below (Nat.le_refl _) (bbox _ _))).mono ?_
    rintro e w1 ⟨rfl, hb1⟩
    clear h0 HC h
    go_wp2_with fail
    go_ret
    exact ⟨rfl, by first | exact hb1 | exact bstep (bbox _ _) hb1⟩

end Go.Proofs.Ytkakagjffafdiaa
