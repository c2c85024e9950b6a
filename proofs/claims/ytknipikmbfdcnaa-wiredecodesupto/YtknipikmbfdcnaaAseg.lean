/-
  Plain lists: of bytes that are cut just the whole entries are left; what a log's check answers.
  The walks of seg.Entries and seg.Check.
  The walks of the helpers that package seg goes by: slices.Grow, slices.Concat, bytes.Clone, encodeAll.
  The walks of seg.Append, seg.Sync, seg.Cut and seg.Crash.
  The walks of seg.Sync and seg.Crash.
  The walk of seg.Cut.
-/
import Derived.Test.YtknipikmbfdcnaaAdec
import Derived.Deep.QuietTactic
import Derived.BigQuiet
import Derived.Lib.AppendZeros
import Derived.Lib.BufferMore
import Derived.Deep.Heap
import Derived.Deep.RegionWith
namespace Go.Proofs.Ytknipikmbfdcnaa

section
open Go.RowKit
set_option linter.unusedVariables false

/-- Where the first k entries end. -/
def endOf (es : List Ent) (k : Nat) : Nat := ((es.take k).flatMap Ent.enc).length
theorem endOf_zero (es : List Ent) : endOf es 0 = 0 := by simp [endOf]
theorem endOf_succ (es : List Ent) (k : Nat) (h : k < es.length) : endOf es (k + 1) = endOf es k + (es[k]'h).enc.length := by
  unfold endOf
  rw [flat_take_succ es k h, List.length_append]
theorem endOf_all (es : List Ent) : endOf es es.length = (es.flatMap Ent.enc).length := by simp [endOf]
theorem endOf_le (es : List Ent) (k : Nat) : endOf es k ≤ (es.flatMap Ent.enc).length := flat_take_len es k
theorem endOf_lt (es : List Ent) (i j : Nat) (hij : i < j) (hj : j ≤ es.length) : endOf es i < endOf es j := by
  induction j with
  | zero => omega
  | succ j ih =>
    have h1 := endOf_succ es j (by omega)
    have h2 := enc_len (es[j]'(by omega))
    by_cases h : i = j
    · subst h; omega
    · have := ih (by omega) (by omega)
      omega
theorem endOf_take (es : List Ent) (k : Nat) : (es.flatMap Ent.enc).take (endOf es k) = (es.take k).flatMap Ent.enc := by
  have h : es.flatMap Ent.enc = (es.take k).flatMap Ent.enc ++ (es.drop k).flatMap Ent.enc := by rw [← List.flatMap_append, List.take_append_drop]
  rw [h]
  exact List.take_left

/-- The first byte of the entry that begins there. -/
theorem endOf_byte (es : List Ent) (k : Nat) (h : k < es.length) : (es.flatMap Ent.enc).getD (endOf es k) 0 = ((es[k]'h).body.length : Int) := by
  have h1 : es.flatMap Ent.enc = (es.take k).flatMap Ent.enc ++ ((es[k]'h).enc ++ (es.drop (k + 1)).flatMap Ent.enc) := by
    conv => lhs; rw [← List.take_append_drop k es, List.flatMap_append, List.drop_eq_getElem_cons h, List.flatMap_cons]
  rw [h1, List.getD_eq_getElem?_getD, List.getElem?_append_right (by exact Nat.le_refl _)]
  rw [enc_eq]
  simp [endOf]

theorem first_short (e : Ent) (m : Nat) (hm : m < e.enc.length) : firstP (e.enc.take m) = none := by
  rw [enc_len] at hm
  rw [enc_eq]
  cases m with
  | zero => rfl
  | succ m =>
    rw [List.take_succ_cons]
    simp only [firstP]
    rw [if_pos]
    right
    simp only [List.length_take]
    omega

theorem decP_cut (es : List Ent) (h : ∀ e ∈ es, e.flt = 0) (n f : Nat) (hf : n ≤ f) :
    ∃ k, k ≤ es.length ∧ decP f ((es.flatMap Ent.enc).take n) = (es.take k, endOf es k) ∧ endOf es k ≤ n ∧ (k < es.length → n < endOf es (k + 1)) := by
  induction es generalizing n f with
  | nil => exact ⟨0, by simp, by simp [endOf]; exact decP_none f [] rfl, by simp [endOf], fun h => by simp at h⟩
  | cons e es ih =>
    have he := h e (List.mem_cons_self ..)
    by_cases hn : n < e.enc.length
    · refine ⟨0, by simp, ?_, by simp [endOf], fun _ => by simpa [endOf] using hn⟩
      rw [List.flatMap_cons, List.take_append_of_le_length (by omega), decP_none _ _ (first_short e n hn)]
      simp [endOf]
    · obtain ⟨f', rfl⟩ : ∃ f', f = f' + 1 := ⟨f - 1, by rw [enc_len] at hn; omega⟩
      have hl := enc_len e
      obtain ⟨k, hk, hd, h1, h2⟩ := ih (fun x hx => h x (List.mem_cons_of_mem _ hx)) (n - e.enc.length) f' (by omega)
      have hs : ∀ j, endOf (e :: es) (j + 1) = e.enc.length + endOf es j := fun j => by simp [endOf]
      refine ⟨k + 1, by simp; omega, ?_, by rw [hs]; omega, fun hk' => ?_⟩
      · have ht : (e.enc ++ es.flatMap Ent.enc).take n = e.enc ++ (es.flatMap Ent.enc).take (n - e.enc.length) := by
          rw [List.take_append, List.take_of_length_le (by omega)]
        rw [List.flatMap_cons, ht, decP_some _ _ _ _ (enc_first e he _), List.drop_left, hd, hs]
        simp
      · rw [hs]
        have := h2 (by simpa using hk')
        omega

/-- Of bytes that are cut just the whole entries are left. -/
theorem dec_cut (l : List Int) (hb : Bytes l) (hd : (decL l).2 = l.length) (n : Nat) (hn : n ≤ l.length) :
    ∃ k, k ≤ (decL l).1.length ∧ decL (l.take n) = ((decL l).1.take k, endOf (decL l).1 k) ∧ endOf (decL l).1 k ≤ n ∧ (k < (decL l).1.length → n < endOf (decL l).1 (k + 1)) := by
  obtain ⟨h1, h2, h3⟩ := dec_back l hb
  rw [hd, List.take_length] at h1
  have := decP_cut (decL l).1 h3 n (l.take n).length (by simp; omega)
  rw [h1] at this
  exact this

/-- What P2.1 answers. -/
def lft (l : List Int) (y : Int) : Int :=
  if 40000 < l.length then 1
  else if (decL l).2 ≠ l.length ∨ 400 < (decL l).1.length then 4
  else if y < 0 ∨ (l.length : Int) < y then 2
  else if (decL (l.take y.toNat)).2 ≠ y.toNat then 4
  else 0

theorem lft_ok {l : List Int} {y : Int} (h : lft l y = 0) : l.length ≤ 40000 ∧ (decL l).2 = l.length ∧ (decL l).1.length ≤ 400 ∧ 0 ≤ y ∧ y ≤ l.length ∧ (decL (l.take y.toNat)).2 = y.toNat := by
  unfold lft at h
  split at h
  · simp at h
  · split at h
    · simp at h
    · split at h
      · simp at h
      · split at h
        · simp at h
        · omega

/-- What of the bytes up to a number is whole, and where one comes to by the entries' sizes. -/
theorem end_iff (l : List Int) (hb : Bytes l) (hd : (decL l).2 = l.length) (n : Nat) (hn : n ≤ l.length) (j : Nat) (hj : j ≤ (decL l).1.length) (hlo : ∀ i, i < j → endOf (decL l).1 i < n) (hhi : n ≤ endOf (decL l).1 j) :
    (decL (l.take n)).2 = n ↔ endOf (decL l).1 j = n := by
  obtain ⟨k, hk, hc, h1, h2⟩ := dec_cut l hb hd n hn
  rw [hc]
  constructor
  · intro h
    simp only at h
    by_cases hkj : k < j
    · have := hlo k hkj; omega
    · by_cases hjk : j < k
      · have := endOf_lt _ j k hjk hk; omega
      · have : j = k := by omega
        subst this; exact h
  · intro h
    show endOf _ k = n
    by_cases hkj : k < j
    · have h3 := h2 (by omega)
      by_cases he : k + 1 = j
      · subst he; omega
      · have := endOf_lt (decL l).1 (k + 1) j (by omega) hj; omega
    · by_cases hjk : j < k
      · have := endOf_lt _ j k hjk hk; omega
      · have : j = k := by omega
        subst this; exact h

theorem dec_all {l : List Int} (hb : Bytes l) (hd : (decL l).2 = l.length) : (decL l).1.flatMap Ent.enc = l := by
  have h := (dec_back l hb).1
  rw [hd, List.take_length] at h
  exact h
end

section
open Go.RowKit
set_option linter.unusedVariables false
set_option linter.unusedSimpArgs false

/-- The two cells of a log that is boxed, behind a call. -/
theorem log_box {w wi : World} {u : Value} {y : Int} {T : TypeId} (hb : Below (w.heap.size + 1) (w.alloc (.cells #[u, .int .i64 y] T)) wi) :
    wi.cell? ⟨w.heap.size, 0, none⟩ = some u ∧ wi.cell? ⟨w.heap.size, 1, none⟩ = some (.int .i64 y) := by
  have h := box_cells hb
  exact ⟨by rw [h 0]; simp, by rw [h 1]; simp⟩

set_option maxRecDepth 100000 in
set_option maxHeartbeats 2000000 in
theorem segEntries_some (l : List Int) (b off cap : Nat) (y : Int) (w : World) (hl : l.length ≤ 140737488355328) (hcap : l.length ≤ cap) (hm : cap ≤ maxLen) (hb : Bytes l) (hc : ∀ i, i < l.length → w.cell? ⟨b, off + i, none⟩ = some (.int .u8 (l.getD i 0))) :
    Calls Try.prog 37 #[.agg #[.slice (some ⟨b, off, none⟩) l.length cap, .int .i64 y]] w fun e w' => Below w.heap.size w w' ∧
      (lft l y ≠ 0 → e = .returned (.tuple #[.slice none 0 0, .int .i64 0, .int .i64 (lft l y)])) ∧
      (lft l y = 0 → ∃ v, e = .returned (.tuple #[v, .int .i64 (decL (l.take y.toNat)).1.length, .int .i64 0]) ∧ OwnE w.heap.size v (decL l).1 w') := by
  have HR : Hid (∀ n, n ≤ l.length → Rd w (.slice (some ⟨b, off, none⟩) n cap) (l.take n)) := fun n h => by
    have h1 := rd_cut hb hcap hm hc 0 n (by omega)
    by_cases h0 : cap = 0
    · rw [if_pos h0] at h1; simpa using h1
    · rw [if_neg h0] at h1; simpa using h1
  have hR : Rd w (.slice (some ⟨b, off, none⟩) l.length cap) l := by simpa using HR.out l.length (by omega)
  have hlen := (decP_len l.length l hb)
  have hes : (decL l).1.length ≤ l.length := hlen.1
  have hsz : (decL l).2 ≤ l.length := hlen.2
  unfold maxLen at hm
  clear hc hlen
  go_enter Try.func37, Try.ntmps37
  by_cases h1 : 40000 < l.length
  · have E : Hid (lft l y = 1) := show _ = _ by unfold lft; rw [if_pos h1]
    clear HR hR
    go_wp2
    go_ret3
    rw [E.out]
    exact ⟨bbox _ _, fun _ => rfl, fun h => by simp at h⟩
  · go_wp2_with fail
    refine (decode_any l _ _ (by omega) (hR.below (Nat.le_refl _) (bbox _ _))).mono ?_
    rintro e w1 ⟨va, rfl, hva, hb1⟩
    obtain ⟨hx0, hx1⟩ := log_box (by simpa using hb1 : Below (w.heap.size + 1) _ w1)
    have hB1 := below_unbox (by simpa using hb1 : Below (w.heap.size + 1) _ w1)
    have hva' := hva.mono (C := w.heap.size) (by simp)
    obtain ⟨ae, ce, rfl⟩ := hva.shape
    clear hb1 hR hva
    by_cases h2 : (decL l).2 ≠ l.length ∨ 400 < (decL l).1.length
    · have E : Hid (lft l y = 4) := show _ = _ by unfold lft; rw [if_neg h1, if_pos h2]
      have h2a : (((decL l).2 : Int) != (l.length : Int)) = true ∨ (((decL l).2 : Int) != (l.length : Int)) = false ∧ (400 : Int) < (decL l).1.length := by
        rcases h2 with h2 | h2
        · left; simp; omega
        · by_cases h3 : (decL l).2 = l.length
          · right; exact ⟨by simp [h3], by omega⟩
          · left; simp; omega
      clear HR h2
      rcases h2a with h2 | ⟨h2, h3⟩
      all_goals
        go_wp2
        go_ret3
        rw [E.out]
        exact ⟨hB1, fun _ => rfl, fun h => by simp at h⟩
    · have h2a : (((decL l).2 : Int) != (l.length : Int)) = false := by simp; omega
      have h2b : ((decL l).1.length : Int) ≤ 400 := by omega
      by_cases h3 : y < 0 ∨ (l.length : Int) < y
      · have E : Hid (lft l y = 2) := show _ = _ by unfold lft; rw [if_neg h1, if_neg h2, if_pos h3]
        clear HR h2
        by_cases h4 : y < 0
        all_goals
          go_wp2
          go_ret3
          rw [E.out]
          exact ⟨hB1, fun _ => rfl, fun h => by simp at h⟩
      · obtain ⟨n, rfl⟩ := Int.eq_ofNat_of_zero_le (show 0 ≤ y by omega)
        have hn : n ≤ l.length := by omega
        have hR2 := (HR.out n hn).below (Nat.le_refl _) hB1
        have hlt : (l.take n).length = n := by simp; omega
        have E0 : Hid ((decL (l.take n)).2 = n → lft l n = 0) := fun h => by unfold lft; rw [if_neg h1, if_neg h2, if_neg h3, if_neg (by simp [h])]
        have E1 : Hid ((decL (l.take n)).2 ≠ n → lft l n = 4) := fun h => by unfold lft; rw [if_neg h1, if_neg h2, if_neg h3, if_pos (by simpa using h)]
        have h3' : (n : Int) ≤ l.length := by omega
        clear HR h2 h3
        go_wp2_with fail
        refine (decode_any (l.take n) _ _ (by omega) hR2).mono ?_
        rintro e w2 ⟨vb, rfl, hvb, hb2⟩
        have hB2 := bstep hB1 hb2
        have hva2 := hva'.below (Nat.le_refl _) hb2
        have hlt1 := cell_lt hx1
        have hy1 := (hb2.cell (p := ⟨w.heap.size, 1, none⟩) hlt1).trans hx1
        obtain ⟨af, cf, rfl⟩ := hvb.shape
        clear hb2 hB1 hva' hx0 hx1 hR2 hvb
        by_cases h4 : (decL (l.take n)).2 = n
        · have h4' : (((decL (l.take n)).2 : Int) != (n : Int)) = false := by simp; omega
          have E : Hid _ := E0.out h4
          clear E0 E1 h4
          go_wp2
          go_ret3
          refine ⟨hB2, fun h => absurd E.out h, fun _ => ⟨_, rfl, hva2⟩⟩
        · have h4' : (((decL (l.take n)).2 : Int) != (n : Int)) = true := by simp; omega
          have E : Hid _ := E1.out h4
          clear E0 E1 h4
          go_wp2
          go_ret3
          rw [E.out]
          exact ⟨hB2, fun _ => rfl, fun h => by simp at h⟩

theorem dec_nil : decL [] = ([], 0) := rfl
theorem lft_nil (y : Int) : lft [] y = if y < 0 ∨ 0 < y then 2 else 0 := by
  unfold lft
  simp only [List.length_nil, dec_nil, List.take_nil]
  by_cases h : y < 0 ∨ 0 < y
  · simp [h]
  · have : y = 0 := by omega
    subst this
    simp

set_option maxRecDepth 100000 in
set_option maxHeartbeats 2000000 in
theorem segEntries_none (ao : Option Addr) (cap : Nat) (y : Int) (w : World) (hm : cap ≤ maxLen) (hn : ao = none → cap = 0) :
    Calls Try.prog 37 #[.agg #[.slice ao 0 cap, .int .i64 y]] w fun e w' => Below w.heap.size w w' ∧
      (lft [] y ≠ 0 → e = .returned (.tuple #[.slice none 0 0, .int .i64 0, .int .i64 (lft [] y)])) ∧
      (lft [] y = 0 → ∃ v, e = .returned (.tuple #[v, .int .i64 0, .int .i64 0]) ∧ OwnE w.heap.size v [] w') := by
  have HD : Hid (∀ W, Calls Try.prog 24 #[.slice ao 0 cap] W fun e w' => ∃ v, e = .returned (.tuple #[v, .int .i64 0]) ∧ OwnE W.heap.size v [] w' ∧ Below W.heap.size W w') := fun W => decode_none ao cap W
  unfold maxLen at hm
  go_enter Try.func37, Try.ntmps37
  go_wp2_with fail
  refine (HD.out _).mono ?_
  rintro e w1 ⟨va, rfl, hva, hb1⟩
  obtain ⟨hx0, hx1⟩ := log_box (by simpa using hb1 : Below (w.heap.size + 1) _ w1)
  have hB1 := below_unbox (by simpa using hb1 : Below (w.heap.size + 1) _ w1)
  have hva' := hva.mono (C := w.heap.size) (by simp)
  obtain ⟨ae, ce, rfl⟩ := hva.shape
  have hlt1 := cell_lt hx1
  clear hb1 hva
  by_cases h3 : y < 0 ∨ 0 < y
  · have E : Hid (lft [] y = 2) := show _ = _ by rw [lft_nil, if_pos h3]
    by_cases h4 : y < 0
    all_goals
      go_wp2
      go_ret3
      rw [E.out]
      exact ⟨hB1, fun _ => rfl, fun h => by simp at h⟩
  · have : y = 0 := by omega
    subst this
    have E : Hid (lft [] 0 = 0) := show _ = _ by rw [lft_nil, if_neg (by omega)]
    cases ao with
    | none =>
      obtain rfl := hn rfl
      go_wp2_with fail
      refine (HD.out _).mono ?_
      rintro e w2 ⟨vb, rfl, hvb, hb2⟩
      have hB2 := bstep hB1 hb2
      have hva2 := hva'.below (Nat.le_refl _) hb2
      have hy1 := (hb2.cell (p := ⟨w.heap.size, 1, none⟩) hlt1).trans hx1
      obtain ⟨af, cf, rfl⟩ := hvb.shape
      clear hb2 hB1 hva' hx0 hx1 hvb HD
      go_wp2
      go_ret3
      exact ⟨hB2, fun h => absurd E.out h, fun _ => ⟨_, rfl, hva2⟩⟩
    | some ad =>
      clear hn
      go_wp2_with fail
      refine (HD.out _).mono ?_
      rintro e w2 ⟨vb, rfl, hvb, hb2⟩
      have hB2 := bstep hB1 hb2
      have hva2 := hva'.below (Nat.le_refl _) hb2
      have hy1 := (hb2.cell (p := ⟨w.heap.size, 1, none⟩) hlt1).trans hx1
      obtain ⟨af, cf, rfl⟩ := hvb.shape
      clear hb2 hB1 hva' hx0 hx1 hvb HD
      go_wp2
      go_ret3
      exact ⟨hB2, fun h => absurd E.out h, fun _ => ⟨_, rfl, hva2⟩⟩

theorem segEntries_any (l : List Int) (u : Value) (y : Int) (w : World) (hl : l.length ≤ 140737488355328) (h : Rd w u l) :
    Calls Try.prog 37 #[.agg #[u, .int .i64 y]] w fun e w' => Below w.heap.size w w' ∧
      (lft l y ≠ 0 → e = .returned (.tuple #[.slice none 0 0, .int .i64 0, .int .i64 (lft l y)])) ∧
      (lft l y = 0 → ∃ v, e = .returned (.tuple #[v, .int .i64 (decL (l.take y.toNat)).1.length, .int .i64 0]) ∧ OwnE w.heap.size v (decL l).1 w') := by
  obtain ⟨hb, ao, cap, rfl, h1, h2, h3, hc⟩ := h
  by_cases h0 : 0 < l.length
  · obtain ⟨b, off, rfl, hc'⟩ := hc h0
    exact segEntries_some l b off cap y w hl h1 h2 hb hc'
  · have hl : l = [] := List.eq_nil_of_length_eq_zero (by omega)
    subst hl
    simpa [dec_nil] using segEntries_none ao cap y w h2 h3

theorem segEntries_ok (l : List Int) (u : Value) (y : Int) (w : World) (hl : l.length ≤ 140737488355328) (h : Rd w u l) (h0 : lft l y = 0) :
    Calls Try.prog 37 #[.agg #[u, .int .i64 y]] w fun e w' => ∃ v, e = .returned (.tuple #[v, .int .i64 (decL (l.take y.toNat)).1.length, .int .i64 0]) ∧ OwnE w.heap.size v (decL l).1 w' ∧ Below w.heap.size w w' :=
  (segEntries_any l u y w hl h).mono fun e w' ⟨hb, _, h⟩ => by
    obtain ⟨v, h1, h2⟩ := h h0
    exact ⟨v, h1, h2, hb⟩
theorem segEntries_bad (l : List Int) (u : Value) (y : Int) (w : World) (hl : l.length ≤ 140737488355328) (h : Rd w u l) (h0 : lft l y ≠ 0) :
    Calls Try.prog 37 #[.agg #[u, .int .i64 y]] w fun e w' => e = .returned (.tuple #[.slice none 0 0, .int .i64 0, .int .i64 (lft l y)]) ∧ Below w.heap.size w w' :=
  (segEntries_any l u y w hl h).mono fun e w' ⟨hb, h, _⟩ => ⟨h h0, hb⟩

set_option maxRecDepth 100000 in
set_option maxHeartbeats 1000000 in
theorem segCheck_any (l : List Int) (u : Value) (y : Int) (w : World) (hl : l.length ≤ 140737488355328) (h : Rd w u l) :
    Calls Try.prog 34 #[.agg #[u, .int .i64 y]] w fun e w' => e = .returned (.int .i64 (lft l y)) ∧ Below w.heap.size w w' := by
  by_cases h0 : lft l y = 0
  · have HC : Hid (∀ w, Rd w u l → _) := fun w h => segEntries_ok l u y w hl h h0
    go_enter Try.func34, Try.ntmps34
    go_wp2_with fail
    refine (HC.out _ (by first | exact h | exact h.below (Nat.le_refl _) (bbox _ _))).mono ?_
    rintro e w1 ⟨v, rfl, hv, hb1⟩
    have E : Hid _ := h0
    clear h0 HC h hv
    go_wp2_with fail
    go_ret
    rw [E.out]
    exact ⟨rfl, by first | exact hb1 | exact bstep (bbox _ _) hb1⟩
  · have HC : Hid (∀ w, Rd w u l → _) := fun w h => segEntries_bad l u y w hl h h0
    go_enter Try.func34, Try.ntmps34
    go_wp2_with fail
    refine (HC.out _ (by first | exact h | exact h.below (Nat.le_refl _) (bbox _ _))).mono ?_
    rintro e w1 ⟨rfl, hb1⟩
    clear h0 HC h
    go_wp2_with fail
    go_ret
    exact ⟨rfl, by first | exact hb1 | exact bstep (bbox _ _) hb1⟩
end

section
open Go.RowKit
set_option linter.unusedVariables false
set_option linter.unusedSimpArgs false

/-- A new row with room, of which nothing is taken. -/
theorem own_room (w : World) (cur : Array Value) (cap : Nat) (hs : cur.size = cap) (hm : cap ≤ maxLen) : Own w.heap.size (.slice (some ⟨w.heap.size, 0, none⟩) 0 cap) [] (w.alloc (.cells cur 5)) := by
  refine ⟨⟨by simp, .inr ⟨w.heap.size, cap, cur, rfl, Nat.le_refl _, Deep.blk_alloc_new w _, by simp, hm, by omega, by simp⟩⟩, fun n hn => by simp at hn, ?_⟩
  exact ((Below.refl w.heap.size w).alloc (Nat.le_refl _) _).size

set_option maxRecDepth 100000 in
set_option maxHeartbeats 1000000 in
theorem grow_zero (w : World) : Calls Try.prog 71 #[.slice none 0 0, .int .i64 0] w fun e w' => ∃ v, e = .returned v ∧ Own w.heap.size v [] w' ∧ Below w.heap.size w w' := by
  go_enter Try.func71, Try.ntmps71
  go_wp2
  go_ret
  exact ⟨_, rfl, own_nil _ _ (Nat.le_refl _), Below.refl _ _⟩

set_option maxRecDepth 100000 in
set_option maxHeartbeats 1000000 in
theorem grow_some (n : Nat) (w : World) (h0 : 0 < n) (hn : n ≤ 100000000) : Calls Try.prog 71 #[.slice none 0 0, .int .i64 n] w fun e w' => ∃ v, e = .returned v ∧ Own w.heap.size v [] w' ∧ Below w.heap.size w w' := by
  obtain ⟨i, hi, hz0, hz1, hz2⟩ := info_parts infoByte
  have hrun := fun ty => Lib.run_append_nil_zeros (P := Try.prog) w 27 3 ty 5 i (.int .u8 0) .i64 .i64 Try.underlying27 Try.underlying3 hi hz0 n h0 (by omega) (by omega) (by rw [hz2]; omega)
  have hn' : (n : Int) ≤ 100000000 := by omega
  have h0' : 0 < (n : Int) := by omega
  have hcap := grownCap_ge w n 0 5
  have hcm := grownCap_le_maxLen w n 0 5 (by unfold maxLen; omega)
  clear hi hz0 hz1 hz2
  go_enter Try.func71, Try.ntmps71
  go_wp2_with (at_builtin; refine Lib.wpList_append_run _ rfl _ _ _ _ rfl _ _ rfl rfl _ _ (hrun _) ?_)
  go_ret
  refine ⟨_, rfl, (own_room w _ _ ?_ hcm).drew, below_drewN ((Below.refl _ _).alloc (Nat.le_refl _) _) 1⟩
  simp [Builtin.zeroCells]
  omega

theorem grow_any (n : Nat) (w : World) (hn : n ≤ 100000000) : Calls Try.prog 71 #[.slice none 0 0, .int .i64 n] w fun e w' => ∃ v, e = .returned v ∧ Own w.heap.size v [] w' ∧ Below w.heap.size w w' := by
  by_cases h0 : 0 < n
  · exact grow_some n w h0 hn
  · obtain rfl : n = 0 := by omega
    exact grow_zero w

set_option maxRecDepth 100000 in
set_option maxHeartbeats 1000000 in
theorem clone_none (w : World) : Calls Try.prog 64 #[.slice none 0 0] w fun e w' => ∃ v, e = .returned v ∧ Own w.heap.size v [] w' ∧ Below w.heap.size w w' := by
  have e0 := Lib.run_eql_slice_nil_nil (P := Try.prog) w (t := 27) 0 0 Try.underlying27
  go_enter Try.func64, Try.ntmps64
  go_wp2
  go_ret
  exact ⟨_, rfl, own_nil _ _ (Nat.le_refl _), Below.refl _ _⟩

set_option maxRecDepth 100000 in
set_option maxHeartbeats 1000000 in
theorem clone_some (l : List Int) (ad : Addr) (n cap : Nat) (w : World) (hl : l.length ≤ 140737488355328) (h : Rd w (.slice (some ad) n cap) l) : Calls Try.prog 64 #[.slice (some ad) n cap] w fun e w' => ∃ v, e = .returned v ∧ Own w.heap.size v l w' ∧ Below w.heap.size w w' := by
  have e0 := Lib.run_eql_slice_some_nil (P := Try.prog) w (t := 27) ad n cap Try.underlying27
  have H : Hid (Rd w (.slice (some ad) n cap) l) := h
  clear h
  have o0 : Own w.heap.size (.slice (some ⟨w.heap.size, 0, none⟩) 0 0) [] (w.alloc (.cells #[] 5)) := by
    simpa using own_lit w.heap.size w [] (fun n hn => by simp at hn) (Nat.le_refl _) (by simp [maxLen])
  go_enter Try.func64, Try.ntmps64
  go_wp2_with (at_builtin; refine wp_app rfl _ _ rfl _ _ _ rfl o0 _ _ rfl (H.out.below (Nat.le_refl _) (bbox _ _)) (by simp; omega) ?_)
  intro v' w' hown hb
  clear o0 H
  go_wp2
  go_ret
  exact ⟨_, rfl, by simpa using hown, (bbox _ _).trans hb⟩

theorem bclone_any (l : List Int) (u : Value) (w : World) (hl : l.length ≤ 140737488355328) (h : Rd w u l) : Calls Try.prog 64 #[u] w fun e w' => ∃ v, e = .returned v ∧ Own w.heap.size v l w' ∧ Below w.heap.size w w' := by
  have H := h
  obtain ⟨hb, ao, cap, rfl, h1, h2, h3, hc⟩ := h
  cases ao with
  | none =>
    obtain rfl := h3 rfl
    have hl : l = [] := List.eq_nil_of_length_eq_zero (by omega)
    subst hl
    exact clone_none w
  | some ad => exact clone_some l ad _ cap w hl H

set_option maxRecDepth 100000 in
set_option maxHeartbeats 2000000 in
theorem encodeAll_some (es : List Ent) (g cap : Nat) (w : World) (hl : es.length ≤ 1000) (hok : ∀ e ∈ es, e.flt = 0) (hE : ∀ i, (h : i < es.length) → ∀ j, j < 7 → w.cell? ⟨g, i * 7 + j, none⟩ = (es[i]'h).cells[j]?) : Calls Try.prog 65 #[.slice (some ⟨g, 0, none⟩) es.length cap] w fun e w' => ∃ v, e = .returned v ∧ Own w.heap.size v (es.flatMap Ent.enc) w' ∧ Below w.heap.size w w' := by
  have hfl := flat_len _ hok
  have hfl' : (es.flatMap Ent.enc).length ≤ 64000 := by omega
  have HE : Hid _ := hE
  have HOK : Hid _ := hok
  clear hE hok hfl
  go_enter Try.func65, Try.ntmps65
  go_wp2
  go_loopw [3, 10] (fun v i wr => ∃ k : Nat, k ≤ es.length ∧ i = .int .i64 k ∧ Own w.heap.size v ((es.take k).flatMap Ent.enc) wr ∧ Below w.heap.size w wr) (fun _ i _ => es.length - (intOf i).toNat)
  case atStart => exact ⟨0, by omega, rfl, own_nil _ _ (Nat.le_refl _), Below.refl _ _⟩
  case round =>
    obtain ⟨k, hk, rfl, hown, hbel⟩ := hrel
    have hkl := flat_take_len es k
    by_cases hlt : k < es.length
    · obtain ⟨a0, a1, a2, a3, a4, a5, a6⟩ := seven (HE.out k hlt)
      have hge := cell_lt a0
      have q0 := (hbel.cell (p := ⟨g, k * 7, none⟩) hge).trans a0
      have q1 := (hbel.cell (p := ⟨g, k * 7 + 1, none⟩) hge).trans a1
      have q2 := (hbel.cell (p := ⟨g, k * 7 + 2, none⟩) hge).trans a2
      have q3 := (hbel.cell (p := ⟨g, k * 7 + 3, none⟩) hge).trans a3
      have q4 := (hbel.cell (p := ⟨g, k * 7 + 4, none⟩) hge).trans a4
      have q5 := (hbel.cell (p := ⟨g, k * 7 + 5, none⟩) hge).trans a5
      have q6 := (hbel.cell (p := ⟨g, k * 7 + 6, none⟩) hge).trans a6
      have hok := HOK.out es[k] (List.getElem_mem hlt)
      have HS : Hid _ := flat_take_succ es k hlt
      have hen := enc_len es[k]
      have hbl := body_len' es[k] hok
      have HC : Hid (∀ w, _) := fun w => encode_ok es[k].a es[k].b es[k].c es[k].d es[k].k es[k].t es[k].s w hok
      have hfold : encL es[k].a es[k].b es[k].c es[k].d es[k].k es[k].t es[k].s = es[k].enc := rfl
      rw [hfold] at HC
      have hn1 : es[k].enc.length ≤ 64 := by omega
      generalize es[k] = e at *
      clear a0 a1 a2 a3 a4 a5 a6 hfold hen hbl hok
      go_wp2_with fail
      refine (HC.out _).mono ?_
      rintro e' w3 ⟨vb, rfl, hvb, hb3⟩
      have hown3 := (hown.alloc (.cells #[.int .i64 e.a, .int .i64 e.b, .int .i64 e.c, .int .i64 e.d, .int .i64 e.k, .bool e.t, .string e.s] 23)).below (Nat.le_refl _) hb3
      have hbel3 := (hbel.alloc hown.2.2 _).trans (hb3.mono (by simp only [World.size_alloc]; have := hown.2.2; omega))
      clear hb3 HC hown hbel q0 q1 q2 q3 q4 q5 q6
      go_wp2_with (at_builtin; refine wp_app rfl _ _ rfl _ _ _ rfl hown3 _ _ rfl hvb.rd (by omega) ?_)
      intro v4 w4 hown4 hb4
      have hbel4 := hbel3.trans hb4
      rw [← HS.out] at hown4
      clear hown3 hvb hb4 hbel3
      go_wp2
      go_roundw
      case rel => exact ⟨k + 1, by omega, by go_num, hown4, hbel4⟩
      case measure => simp [intOf]; omega
    · have hke : k = es.length := by omega
      rw [hke, List.take_length] at hown
      clear hke HE HOK hkl
      go_wp2
      go_ret
      exact ⟨_, rfl, hown, hbel⟩

set_option maxRecDepth 100000 in
set_option maxHeartbeats 1000000 in
theorem encodeAll_none (ao : Option Addr) (cap : Nat) (w : World) : Calls Try.prog 65 #[.slice ao 0 cap] w fun e w' => ∃ v, e = .returned v ∧ Own w.heap.size v [] w' ∧ Below w.heap.size w w' := by
  go_enter Try.func65, Try.ntmps65
  go_wp2
  refine wp_loop_rounds 1 ?_
  rw [rounds_succ]
  go_wp2
  go_ret
  exact ⟨_, rfl, own_nil _ _ (Nat.le_refl _), Below.refl _ _⟩

theorem encodeAll_any (es : List Ent) (v : Value) (w : World) (hl : es.length ≤ 1000) (hok : ∀ e ∈ es, e.flt = 0) (h : RdE w v es) :
    Calls Try.prog 65 #[v] w fun e w' => ∃ v, e = .returned v ∧ Own w.heap.size v (es.flatMap Ent.enc) w' ∧ Below w.heap.size w w' := by
  obtain ⟨a1, c1, rfl, _, _, h1⟩ := h
  by_cases h0 : 0 < es.length
  · obtain ⟨g1, rfl, h1'⟩ := h1 h0
    exact encodeAll_some es g1 c1 w hl hok h1'
  · have hl : es = [] := List.eq_nil_of_length_eq_zero (by omega)
    subst hl
    exact encodeAll_none a1 c1 w

/-- The first entries of a slice. -/
theorem RdE.take {w : World} {ao : Option Addr} {n cap : Nat} {es : List Ent} (h : RdE w (.slice ao n cap) es) (k : Nat) (hk : k ≤ es.length) : RdE w (.slice ao k cap) (es.take k) := by
  obtain ⟨a1, c1, e, h1, h2, h3⟩ := h
  simp only [Value.slice.injEq] at e
  obtain ⟨rfl, rfl, rfl⟩ := e
  have hl : (es.take k).length = k := by simp; omega
  refine ⟨ao, cap, by rw [hl], by omega, h2, fun h0 => ?_⟩
  obtain ⟨g, rfl, hg⟩ := h3 (by omega)
  refine ⟨g, rfl, fun i hi j hj => ?_⟩
  rw [hl] at hi
  rw [hg i (by omega) j hj, List.getElem_take]

set_option maxRecDepth 100000 in
set_option maxHeartbeats 1000000 in
theorem concat_any (l r : List Int) (u v : Value) (g : Nat) (w : World) (hl : l.length ≤ 50000) (hr : r.length ≤ 50000) (h1 : Rd w u l) (h2 : Rd w v r) (c0 : w.cell? ⟨g, 0, none⟩ = some u) (c1 : w.cell? ⟨g, 1, none⟩ = some v) :
    Calls Try.prog 62 #[.slice (some ⟨g, 0, none⟩) 2 2] w fun e w' => ∃ v, e = .returned v ∧ Own w.heap.size v (l ++ r) w' ∧ Below w.heap.size w w' := by
  have H1 : Hid (Rd w u l) := h1
  have H2 : Hid (Rd w v r) := h2
  obtain ⟨hb1, ao1, cap1, rfl, _⟩ := h1
  obtain ⟨hb2, ao2, cap2, rfl, _⟩ := h2
  have hlr : (((l.length + r.length : Nat)) : Int) = (l.length : Int) + r.length := by omega
  have HG : Hid (∀ W, _) := fun W => grow_any (l.length + r.length) W (by omega)
  rw [hlr] at HG
  have hg0 := cell_lt c0
  go_enter Try.func62, Try.ntmps62
  go_wp2
  refine wp_loop_rounds 3 ?_
  rw [rounds_succ]
  go_wp2
  rw [rounds_succ]
  go_wp2
  rw [rounds_succ]
  go_wp2_with fail
  refine (HG.out _).mono ?_
  rintro e w1 ⟨v1, rfl, ho1, hb1'⟩
  have hr1 := H1.out.below (Nat.le_refl _) hb1'
  have hr2 := H2.out.below (Nat.le_refl _) hb1'
  have q0 := (hb1'.cell (p := ⟨g, 0, none⟩) hg0).trans c0
  have q1 := (hb1'.cell (p := ⟨g, 1, none⟩) hg0).trans c1
  clear HG H1 c0 c1
  go_wp2
  refine wp_loop_rounds 3 ?_
  rw [rounds_succ]
  go_wp2_with (at_builtin; refine wp_app rfl _ _ rfl _ _ _ rfl ho1 _ _ rfl hr1 (by simp; omega) ?_)
  intro v2 w2 ho2 hb2'
  have hB2 := hb1'.trans hb2'
  have hr3 := H2.out.below (Nat.le_refl _) hB2
  have p1 := (hb2'.cell (p := ⟨g, 1, none⟩) hg0).trans q1
  clear hr1 hr2 q0 q1 ho1 hb1' hb2'
  go_wp2
  rw [rounds_succ]
  go_wp2_with (at_builtin; (refine wp_app rfl _ _ rfl _ _ _ rfl ho2 _ _ rfl hr3 (by omega) ?_))
  intro v3 w3 ho3 hb3'
  have hB3 := hB2.trans hb3'
  clear hB2 hb3' ho2 hr3 p1
  go_wp2
  rw [rounds_succ]
  go_wp2
  go_ret
  exact ⟨_, rfl, by simpa using ho3, hB3⟩
end

section
open Go.RowKit
set_option linter.unusedVariables false
set_option linter.unusedSimpArgs false

/-- What P2.3 answers. -/
def apf (l : List Int) (y : Int) (x : Ent) : Int :=
  if lft l y ≠ 0 then lft l y
  else if x.flt ≠ 0 then x.flt
  else if 400 ≤ (decL l).1.length ∨ 40000 < l.length + x.enc.length then 16
  else 0

def noLog : Value := .agg #[.slice none 0 0, .int .i64 0]

/-- A boxed log. -/
def LBox (w : World) (b : Nat) (u : Value) (y : Int) : Prop := b < w.heap.size ∧ w.cell? ⟨b, 0, none⟩ = some u ∧ w.cell? ⟨b, 1, none⟩ = some (.int .i64 y) ∧ ∀ o, w.frozen? ⟨b, o, none⟩ = false
theorem LBox.below {w w' : World} {b : Nat} {u : Value} {y : Int} (h : LBox w b u y) (hb : Below w.heap.size w w') : LBox w' b u y :=
  ⟨Nat.lt_of_lt_of_le h.1 hb.size, (hb.cell (p := ⟨b, 0, none⟩) h.1).trans h.2.1, (hb.cell (p := ⟨b, 1, none⟩) h.1).trans h.2.2.1, fun o => (hb.frozen (p := ⟨b, o, none⟩) h.1).trans (h.2.2.2 o)⟩
theorem LBox.alloc {w : World} {b : Nat} {u : Value} {y : Int} (h : LBox w b u y) (o : Obj) : LBox (w.alloc o) b u y := h.below (bbox _ _)
theorem lbox_new (w : World) (u : Value) (y : Int) (T : TypeId) : LBox (w.alloc (.cells #[u, .int .i64 y] T)) w.heap.size u y := ⟨by simp, by simp, by simp, fun o => by simp⟩
theorem lbox_new' (w : World) (u : Value) (y : Int) (T : TypeId) (b : Nat) (hb : b = w.heap.size) : LBox (w.alloc (.cells #[u, .int .i64 y] T)) b u y := by subst hb; exact lbox_new w u y T
/-- A boxed entry. -/
def EBox (w : World) (b : Nat) (e : Ent) : Prop := b < w.heap.size ∧ w.cell? ⟨b, 0, none⟩ = some (.int .i64 e.a) ∧ w.cell? ⟨b, 1, none⟩ = some (.int .i64 e.b) ∧ w.cell? ⟨b, 2, none⟩ = some (.int .i64 e.c) ∧ w.cell? ⟨b, 3, none⟩ = some (.int .i64 e.d) ∧ w.cell? ⟨b, 4, none⟩ = some (.int .i64 e.k) ∧ w.cell? ⟨b, 5, none⟩ = some (.bool e.t) ∧ w.cell? ⟨b, 6, none⟩ = some (.string e.s)
theorem EBox.below {w w' : World} {b : Nat} {e : Ent} (h : EBox w b e) (hb : Below w.heap.size w w') : EBox w' b e := by
  obtain ⟨h1, a0, a1, a2, a3, a4, a5, a6⟩ := h
  exact ⟨Nat.lt_of_lt_of_le h1 hb.size, (hb.cell (p := ⟨b, 0, none⟩) h1).trans a0, (hb.cell (p := ⟨b, 1, none⟩) h1).trans a1, (hb.cell (p := ⟨b, 2, none⟩) h1).trans a2, (hb.cell (p := ⟨b, 3, none⟩) h1).trans a3, (hb.cell (p := ⟨b, 4, none⟩) h1).trans a4, (hb.cell (p := ⟨b, 5, none⟩) h1).trans a5, (hb.cell (p := ⟨b, 6, none⟩) h1).trans a6⟩
theorem ebox_new (w : World) (e : Ent) (T : TypeId) (b : Nat) (hb : b = w.heap.size) : EBox (w.alloc (.cells #[.int .i64 e.a, .int .i64 e.b, .int .i64 e.c, .int .i64 e.d, .int .i64 e.k, .bool e.t, .string e.s] T)) b e := by
  subst hb
  exact ⟨by simp, by simp, by simp, by simp, by simp, by simp, by simp, by simp⟩

theorem Own.setCell {B : Nat} {v : Value} {l : List Int} {w : World} (h : Own B v l w) {b : Nat} (hb : b < B) (o : Nat) (x : Value) : Own B v l (w.setCell ⟨b, o, none⟩ x) := by
  obtain ⟨⟨h1, h2⟩, h3, h4⟩ := h
  have hs : (w.setCell ⟨b, o, none⟩ x).heap.size = w.heap.size := Deep.nblk_setCell _ _ _
  refine ⟨⟨h1, ?_⟩, h3, by omega⟩
  rcases h2 with h2 | ⟨g, cap, cur, r1, r2, r3, r4⟩
  · exact .inl h2
  · refine .inr ⟨g, cap, cur, r1, r2, ?_, r4⟩
    rw [Deep.blk_setCell_other _ _ _ _ (by show g ≠ b; omega)]
    exact r3

theorem below_two {w wi : World} {k : Nat} {v0 v1 : Value} (hb : Below w.heap.size w wi) : Below w.heap.size w ((wi.setCell ⟨w.heap.size + k, 0, none⟩ v0).setCell ⟨w.heap.size + k, 1, none⟩ v1) :=
  (hb.setCell (p := ⟨w.heap.size + k, 0, none⟩) (Nat.le_add_right _ _) v0).setCell (p := ⟨w.heap.size + k, 1, none⟩) (Nat.le_add_right _ _) v1

set_option maxRecDepth 100000 in
set_option maxHeartbeats 2000000 in
theorem segAppend_any (l : List Int) (u : Value) (y : Int) (x : Ent) (w : World) (hl : l.length ≤ 140737488355328) (h : Rd w u l) :
    Calls Try.prog 39 #[.agg #[u, .int .i64 y], .agg #[.int .i64 x.a, .int .i64 x.b, .int .i64 x.c, .int .i64 x.d, .int .i64 x.k, .bool x.t, .string x.s]] w fun e w' => Below w.heap.size w w' ∧
      (apf l y x ≠ 0 → e = .returned (.tuple #[noLog, .int .i64 (apf l y x)])) ∧
      (apf l y x = 0 → ∃ v, e = .returned (.tuple #[.agg #[v, .int .i64 y], .int .i64 0]) ∧ Own w.heap.size v (l ++ x.enc) w') := by
  have H : Hid (Rd w u l) := h
  have hlen := (decP_len l.length l h.1)
  have hes : (decL l).1.length ≤ l.length := hlen.1
  have hbs := h.1
  clear h hlen
  by_cases h0 : lft l y = 0
  · have HC : Hid (∀ w, Rd w u l → _) := fun w h => segEntries_ok l u y w hl h h0
    have HB : Hid (∀ w (r : Int), x.flt = r → (r != 0) = true → _) := fun w r hr h0 => encode_bad x.a x.b x.c x.d x.k x.t x.s w r hr h0
    have HE : Hid (∀ w, x.flt = 0 → Calls Try.prog 22 #[.agg #[.int .i64 x.a, .int .i64 x.b, .int .i64 x.c, .int .i64 x.d, .int .i64 x.k, .bool x.t, .string x.s]] w fun e w' => ∃ v, e = .returned (.tuple #[v, .int .i64 0]) ∧ Own w.heap.size v x.enc w' ∧ Below w.heap.size w w') := fun w hr => encode_ok x.a x.b x.c x.d x.k x.t x.s w hr
    have HA : Hid (apf l y x = if x.flt ≠ 0 then x.flt else if 400 ≤ (decL l).1.length ∨ 40000 < l.length + x.enc.length then 16 else 0) := show _ = _ by unfold apf; rw [if_neg (by simp [h0])]
    have hfl : l.length ≤ 64 * (decL l).1.length := by
      have h1 := dec_all hbs (lft_ok h0).2.1
      have h2 := flat_len (decL l).1 (dec_back l hbs).2.2
      rw [h1] at h2
      exact h2
    have HFL : Hid _ := hfl
    clear h0 hfl
    go_enter Try.func39, Try.ntmps39
    go_wp2_with fail
    have B0 : Below w.heap.size w (((w.alloc (.cells #[u, .int .i64 y] 46)).alloc (.cells #[.int .i64 x.a, .int .i64 x.b, .int .i64 x.c, .int .i64 x.d, .int .i64 x.k, .bool x.t, .string x.s] 23)).alloc (.cells #[.slice none 0 0, .int .i64 0] 46)) := bstep (bstep (bbox _ _) (bbox _ _)) (bbox _ _)
    have L0 := ((lbox_new w u y 46).alloc (.cells #[.int .i64 x.a, .int .i64 x.b, .int .i64 x.c, .int .i64 x.d, .int .i64 x.k, .bool x.t, .string x.s] 23)).alloc (.cells #[.slice none 0 0, .int .i64 0] 46)
    have X0 := (ebox_new (w.alloc (.cells #[u, .int .i64 y] 46)) x 23 (w.heap.size + 1) (by simp)).below (bbox _ (.cells #[.slice none 0 0, .int .i64 0] 46))
    have R0 := lbox_new' ((w.alloc (.cells #[u, .int .i64 y] 46)).alloc (.cells #[.int .i64 x.a, .int .i64 x.b, .int .i64 x.c, .int .i64 x.d, .int .i64 x.k, .bool x.t, .string x.s] 23)) (.slice none 0 0) 0 46 (w.heap.size + 1 + 1) (by simp)
    refine (HC.out _ (H.out.below (Nat.le_refl _) B0)).mono ?_
    rintro e w1 ⟨va, rfl, hva, hb1⟩
    have B1 := bstep B0 hb1
    have L1 := L0.below hb1
    have X1 := X0.below hb1
    have R1 := R0.below hb1
    obtain ⟨ae, ce, rfl⟩ := hva.shape
    clear B0 L0 X0 R0 hva hb1 HC
    obtain ⟨x1, xa, xb, xc, xd, xk, xt, xs⟩ := X1
    by_cases hf : x.flt = 0
    · go_wp2_with fail
      refine (HE.out _ hf).mono ?_
      rintro e w2 ⟨vb, rfl, hvb, hb2⟩
      have B2 := bstep B1 hb2
      obtain ⟨l1, l2, l3, l4⟩ := L1.below hb2
      obtain ⟨r1, r2, r3, r4⟩ := R1.below hb2
      have hl2 := H.out.below (Nat.le_refl _) B2
      have hbl := body_len' x hf
      have hel := enc_len x
      rw [if_neg (by simp [hf])] at HA
      obtain ⟨af, cf, rfl⟩ := hvb.shape
      obtain ⟨au, cu, rfl⟩ : ∃ au cu, u = .slice au l.length cu := by obtain ⟨_, au, cu, e, _⟩ := hl2; exact ⟨au, cu, e⟩
      have hxl : x.enc.length ≤ 64 := by omega
      clear HE HB xa xb xc xd xk xt xs x1 L1 R1 hb2 B1 hbl hel hf
      by_cases hfull : 400 ≤ (decL l).1.length ∨ 40000 < l.length + x.enc.length
      · rw [if_pos hfull] at HA
        have h5 : (400 : Int) ≤ ((decL l).1.length : Int) ∨ ((decL l).1.length : Int) < 400 ∧ (40000 : Int) < (l.length : Int) + x.enc.length := by omega
        have HL : Hid (l.length ≤ 140737488355328) := hl
        have hl' : (l.length : Int) ≤ 140737488355328 := by omega
        have hes' : ((decL l).1.length : Int) ≤ l.length := by omega
        have hxl' : (x.enc.length : Int) ≤ 64 := by omega
        clear hfull hl hxl hes
        rcases h5 with h4 | ⟨h4, h4'⟩
        all_goals
          go_wp2
          refine bodyPost_ret (v := .tuple #[noLog, .int .i64 16]) (by simp [results, Try.results39, go_sem, noLog, r1, r2, r3, r4]) rfl ⟨below_two (k := 1 + 1) B2, fun _ => by rw [HA.out], fun h => by rw [HA.out] at h; simp at h⟩
      · rw [if_neg hfull] at HA
        have h4 : ((decL l).1.length : Int) < 400 := by omega
        have hfl := HFL.out
        have HL : Hid (l.length ≤ 40000 ∧ x.enc.length ≤ 64) := ⟨by omega, hxl⟩
        have hl' : (l.length : Int) ≤ 25600 := by omega
        have hxl' : (x.enc.length : Int) ≤ 64 := by omega
        clear hfull hl hxl hes HFL hfl
        go_wp2
        have L2 : LBox w2 w.heap.size (.slice au l.length cu) y := ⟨l1, l2, l3, l4⟩
        have R2 : LBox w2 (w.heap.size + 1 + 1) (.slice none 0 0) 0 := ⟨r1, r2, r3, r4⟩
        have HL2 : Hid _ := L2
        have HR2 : Hid _ := R2
        clear L2 R2
        go_region_with (go_at_call 62; refine (concat_any l x.enc _ _ _ _ (by have := HL.out; omega) (by have := HL.out; omega) (hl2.below (Nat.le_refl _) (by repeat (first | exact Below.refl _ _ | refine Below.drew ?_ | refine Below.alloc ?_ (Nat.le_refl _) _))) (hvb.rd.below (Nat.le_refl _) (by repeat (first | exact Below.refl _ _ | refine Below.drew ?_ | refine Below.alloc ?_ (Nat.le_refl _) _))) (by simp) (by simp)).mono ?_; rintro e w5 ⟨v5, rfl, ho5, hb5⟩; have hB5 : Below w2.heap.size w2 w5 := bstep (by repeat (first | exact Below.refl _ _ | refine Below.drew ?_ | refine Below.alloc ?_ (Nat.le_refl _) _)) hb5; obtain ⟨a5, c5, rfl⟩ := ho5.shape; obtain ⟨m1, m2, m3, m4⟩ := LBox.below HL2.out hB5; obtain ⟨n1, n2, n3, n4⟩ := LBox.below HR2.out hB5)
        all_goals
          go_wp2
          refine bodyPost_ret (v := .tuple #[.agg #[.slice a5 (l ++ x.enc).length c5, .int .i64 y], .int .i64 0]) (by simp [results, Try.results39, go_sem, n1, n2, n3, n4]) rfl ⟨below_two (k := 1 + 1) (bstep B2 hB5), fun h => absurd HA.out h, fun _ => ⟨_, rfl, ?_⟩⟩
          have hlt : w.heap.size + 1 + 1 < w2.heap.size := r1
          exact ((ho5.mono (C := w2.heap.size) (by simp)).setCell hlt _ _ |>.setCell hlt _ _).mono (by omega)
    · have hf' : (x.flt != 0) = true := by simp [hf]
      rw [if_pos hf] at HA
      go_wp2_with fail
      refine (HB.out _ _ rfl hf').mono ?_
      rintro e w2 ⟨rfl, hb2⟩
      have B2 := bstep B1 hb2
      obtain ⟨r1, r2, r3, r4⟩ := R1.below hb2
      clear HE HB xa xb xc xd xk xt xs x1 L1 R1 hb2 B1
      go_wp2
      refine bodyPost_ret (v := .tuple #[noLog, .int .i64 x.flt]) (by simp [results, Try.results39, go_sem, noLog, r1, r2, r3, r4]) rfl ⟨below_two (k := 1 + 1) B2, fun _ => by rw [HA.out], fun h => absurd (HA.out ▸ h) hf⟩
  · have HC : Hid (∀ w, Rd w u l → _) := fun w h => segEntries_bad l u y w hl h h0
    have HA : Hid (apf l y x = lft l y) := show _ = _ by unfold apf; rw [if_pos (by simp [h0])]
    have h0' : (lft l y != 0) = true := by simp [h0]
    go_enter Try.func39, Try.ntmps39
    go_wp2_with fail
    have B0 : Below w.heap.size w (((w.alloc (.cells #[u, .int .i64 y] 46)).alloc (.cells #[.int .i64 x.a, .int .i64 x.b, .int .i64 x.c, .int .i64 x.d, .int .i64 x.k, .bool x.t, .string x.s] 23)).alloc (.cells #[.slice none 0 0, .int .i64 0] 46)) := bstep (bstep (bbox _ _) (bbox _ _)) (bbox _ _)
    have R0 := lbox_new' ((w.alloc (.cells #[u, .int .i64 y] 46)).alloc (.cells #[.int .i64 x.a, .int .i64 x.b, .int .i64 x.c, .int .i64 x.d, .int .i64 x.k, .bool x.t, .string x.s] 23)) (.slice none 0 0) 0 46 (w.heap.size + 1 + 1) (by simp)
    refine (HC.out _ (H.out.below (Nat.le_refl _) B0)).mono ?_
    rintro e w1 ⟨rfl, hb1⟩
    have B1 := bstep B0 hb1
    obtain ⟨r1, r2, r3, r4⟩ := R0.below hb1
    clear B0 R0 hb1 HC
    go_wp2
    refine bodyPost_ret (v := .tuple #[noLog, .int .i64 (lft l y)]) (by simp [results, Try.results39, go_sem, noLog, r1, r2, r3, r4]) rfl ⟨below_two (k := 1 + 1) B1, fun _ => by rw [HA.out], fun h => absurd (HA.out ▸ h) h0⟩
end

section
open Go.RowKit
set_option linter.unusedVariables false
set_option linter.unusedSimpArgs false

theorem Rd.cuts {w : World} {u : Value} {l : List Int} (h : Rd w u l) : ∃ ao cap, u = .slice ao l.length cap ∧ l.length ≤ cap ∧ cap ≤ maxLen ∧ (ao = none → cap = 0) ∧ ∀ n, n ≤ l.length → Rd w (.slice ao n cap) (l.take n) := by
  obtain ⟨hb, ao, cap, rfl, h1, h2, h3, hc⟩ := h
  refine ⟨ao, cap, rfl, h1, h2, h3, fun n hn => ?_⟩
  by_cases h0 : 0 < l.length
  · obtain ⟨b, off, rfl, hc'⟩ := hc h0
    have h1' := rd_cut hb h1 h2 hc' 0 n (by omega)
    rw [if_neg (by omega)] at h1'
    simpa using h1'
  · have hl : l = [] := List.eq_nil_of_length_eq_zero (by omega)
    subst hl
    have : n = 0 := by simpa using hn
    subst this
    exact ⟨by simpa using hb, ao, cap, by simp, by simp, h2, h3, fun h => by simp at h⟩

set_option maxRecDepth 100000 in
set_option maxHeartbeats 2000000 in
theorem segSync_any (l : List Int) (u : Value) (y : Int) (w : World) (hl : l.length ≤ 140737488355328) (h : Rd w u l) :
    Calls Try.prog 42 #[.agg #[u, .int .i64 y]] w fun e w' => Below w.heap.size w w' ∧
      (lft l y ≠ 0 → e = .returned (.tuple #[noLog, .int .i64 (lft l y)])) ∧
      (lft l y = 0 → ∃ v, e = .returned (.tuple #[.agg #[v, .int .i64 l.length], .int .i64 0]) ∧ Own w.heap.size v l w') := by
  have H : Hid (Rd w u l) := h
  have HC : Hid (∀ w, Rd w u l → _) := fun w h => segCheck_any l u y w hl h
  obtain ⟨au, cu, rfl⟩ : ∃ au cu, u = .slice au l.length cu := by obtain ⟨_, au, cu, e, _⟩ := h; exact ⟨au, cu, e⟩
  clear h
  go_enter Try.func42, Try.ntmps42
  go_wp2_with fail
  have B0 : Below w.heap.size w ((w.alloc (.cells #[.slice au l.length cu, .int .i64 y] 46)).alloc (.cells #[.slice none 0 0, .int .i64 0] 46)) := bstep (bbox _ _) (bbox _ _)
  have L0 := (lbox_new w (.slice au l.length cu) y 46).alloc (.cells #[.slice none 0 0, .int .i64 0] 46)
  have R0 := lbox_new' (w.alloc (.cells #[.slice au l.length cu, .int .i64 y] 46)) (.slice none 0 0) 0 46 (w.heap.size + 1) (by simp)
  refine (HC.out _ (H.out.below (Nat.le_refl _) B0)).mono ?_
  rintro e w1 ⟨rfl, hb1⟩
  have B1 := bstep B0 hb1
  have L1 := L0.below hb1
  have R1 := R0.below hb1
  have hl1 := H.out.below (Nat.le_refl _) B1
  have HL1 : Hid (LBox w1 w.heap.size (.slice au l.length cu) y) := L1
  have HR1 : Hid (LBox w1 (w.heap.size + 1) (.slice none 0 0) 0) := R1
  obtain ⟨l1, l2, l3, l4⟩ := L1
  obtain ⟨r1, r2, r3, r4⟩ := R1
  clear B0 L0 R0 hb1 HC H
  by_cases h0 : lft l y = 0
  · rw [h0]
    have E : Hid _ := h0
    clear h0
    go_wp2
    go_region_with (go_at_call 64; refine (bclone_any l _ _ hl (hl1.below (Nat.le_refl _) (by repeat (first | exact Below.refl _ _ | refine Below.drew ?_ | refine Below.alloc ?_ (Nat.le_refl _) _)))).mono ?_; rintro e w5 ⟨v5, rfl, ho5, hb5⟩; have hB5 : Below w1.heap.size w1 w5 := bstep (by repeat (first | exact Below.refl _ _ | refine Below.drew ?_ | refine Below.alloc ?_ (Nat.le_refl _) _)) hb5; obtain ⟨a5, c5, rfl⟩ := ho5.shape; obtain ⟨m1, m2, m3, m4⟩ := LBox.below HL1.out hB5; obtain ⟨n1, n2, n3, n4⟩ := LBox.below HR1.out hB5)
    all_goals
      go_wp2
      refine bodyPost_ret (v := .tuple #[.agg #[.slice a5 l.length c5, .int .i64 l.length], .int .i64 0]) (by simp [results, Try.results42, go_sem, n1, n2, n3, n4]) rfl ⟨below_two (k := 1) (bstep B1 hB5), fun h => absurd E.out h, fun _ => ⟨_, rfl, ?_⟩⟩
      exact ((ho5.mono (C := w1.heap.size) (by simp)).setCell r1 _ _ |>.setCell r1 _ _).mono (by omega)
  · have h0' : (lft l y != 0) = true := by simp [h0]
    go_wp2
    refine bodyPost_ret (v := .tuple #[noLog, .int .i64 (lft l y)]) (by simp [results, Try.results42, go_sem, noLog, r1, r2, r3, r4]) rfl ⟨below_two (k := 1) B1, fun _ => rfl, fun h => absurd h h0⟩

/-- What P2.5 refuses. -/
def crf (l : List Int) (y k : Int) : Int := if lft l y ≠ 0 then lft l y else if k < 0 then 2 else 0
/-- How many bytes stay. -/
def leftOf (l : List Int) (y k : Int) : Nat := if k < (l.length : Int) - y then (y + k).toNat else l.length

set_option maxRecDepth 100000 in
set_option maxHeartbeats 2000000 in
theorem segCrash_any (l : List Int) (u : Value) (y k : Int) (w : World) (hl : l.length ≤ 140737488355328) (h : Rd w u l) :
    Calls Try.prog 46 #[.agg #[u, .int .i64 y], .int .i64 k] w fun e w' => Below w.heap.size w w' ∧
      (crf l y k ≠ 0 → e = .returned (.tuple #[noLog, .int .i64 (crf l y k)])) ∧
      (crf l y k = 0 → ∃ v, e = .returned (.tuple #[.agg #[v, .int .i64 (decL (l.take (leftOf l y k))).2], .int .i64 0]) ∧ Own w.heap.size v (l.take (decL (l.take (leftOf l y k))).2) w') := by
  have H : Hid (Rd w u l) := h
  have HC : Hid (∀ w, Rd w u l → _) := fun w h => segCheck_any l u y w hl h
  have hbs := h.1
  obtain ⟨au, cu, rfl, hcu1, hcu2, hcu3, _⟩ := h.cuts
  have HQ : Hid (∀ W, Rd W (.slice au l.length cu) l → ∀ n, n ≤ l.length → Rd W (.slice au n cu) (l.take n)) := fun W h n hn => by
    obtain ⟨au', cu', e, _, _, _, h'⟩ := h.cuts
    simp only [Value.slice.injEq] at e
    obtain ⟨rfl, _, rfl⟩ := e
    exact h' n hn
  unfold maxLen at hcu2
  clear h
  go_enter Try.func46, Try.ntmps46
  go_wp2_with fail
  have B0 : Below w.heap.size w ((w.alloc (.cells #[.slice au l.length cu, .int .i64 y] 46)).alloc (.cells #[.slice none 0 0, .int .i64 0] 46)) := bstep (bbox _ _) (bbox _ _)
  have L0 := (lbox_new w (.slice au l.length cu) y 46).alloc (.cells #[.slice none 0 0, .int .i64 0] 46)
  have R0 := lbox_new' (w.alloc (.cells #[.slice au l.length cu, .int .i64 y] 46)) (.slice none 0 0) 0 46 (w.heap.size + 1) (by simp)
  refine (HC.out _ (H.out.below (Nat.le_refl _) B0)).mono ?_
  rintro e w1 ⟨rfl, hb1⟩
  have B1 := bstep B0 hb1
  have L1 := L0.below hb1
  have R1 := R0.below hb1
  have hl1 := H.out.below (Nat.le_refl _) B1
  clear B0 L0 R0 hb1 HC H
  by_cases h0 : lft l y = 0
  · by_cases hk : k < 0
    · have E : Hid (crf l y k = 2) := show _ = _ by unfold crf; rw [if_neg (by simp [h0]), if_pos hk]
      obtain ⟨r1, r2, r3, r4⟩ := R1
      rw [h0]
      clear h0 hcu1 hl
      go_wp2
      refine bodyPost_ret (v := .tuple #[noLog, .int .i64 2]) (by simp [results, Try.results46, go_sem, noLog, r1, r2, r3, r4]) rfl ⟨below_two (k := 1) B1, fun _ => by rw [E.out], fun h => by rw [E.out] at h; simp at h⟩
    · obtain ⟨hq1, hq2, hq3, hq4, hq5, hq6⟩ := lft_ok h0
      have E : Hid (crf l y k = 0) := show _ = _ by unfold crf; rw [if_neg (by simp [h0]), if_neg hk]
      have hlb : leftOf l y k ≤ l.length := by unfold leftOf; split <;> omega
      have hlv : ((leftOf l y k : Nat) : Int) = if k < (l.length : Int) - y then y + k else l.length := by unfold leftOf; split <;> omega
      have HT : Hid (Rd w1 (.slice au (leftOf l y k) cu) (l.take (leftOf l y k))) := HQ.out w1 hl1 _ hlb
      rw [h0]
      obtain ⟨l1, l2, l3, l4⟩ := L1
      have hl' : (l.length : Int) ≤ 40000 := by omega
      have hcu1' : (l.length : Int) ≤ cu := by omega
      clear h0 hl hcu1 hq1 hq2 hq3 hq6
      have HLE : Hid (leftOf l y k ≤ l.length ∧ l.length ≤ 40000) := ⟨hlb, by omega⟩
      have hz : (decL (l.take (leftOf l y k))).2 ≤ l.length := by
        have := (decP_len (l.take (leftOf l y k)).length (l.take (leftOf l y k)) (bytes_take hbs _)).2
        unfold decL
        exact Nat.le_trans this (by simp only [List.length_take]; omega)
      clear hlv
      by_cases hkl : k ≤ (l.length : Int) - y
      · have hX : Hid ((y + k).toNat = leftOf l y k) := show _ = _ by unfold leftOf; split <;> omega
        clear hlb
        go_wp2_with fail
        rw [hX.out]
        refine (decode_any (l.take (leftOf l y k)) _ _ (by have := HLE.out; simp; omega) HT.out).mono ?_
        rintro e w2 ⟨va, rfl, hva, hb2⟩
        obtain ⟨ae, ce, rfl⟩ := hva.shape
        have B2 := bstep B1 hb2
        have L2 := LBox.below ⟨l1, l2, l3, l4⟩ hb2
        have R2 := R1.below hb2
        have HL2 : Hid (LBox w2 w.heap.size (.slice au l.length cu) y) := L2
        have HR2 : Hid (LBox w2 (w.heap.size + 1) (.slice none 0 0) 0) := R2
        have HT2 : Hid (Rd w2 (.slice au (decL (l.take (leftOf l y k))).2 cu) (l.take (decL (l.take (leftOf l y k))).2)) := HQ.out w2 (hl1.below (Nat.le_refl _) hb2) (decL (l.take (leftOf l y k))).2 hz
        clear l1 l2 l3 l4 hb2 B1 R1 hl1 HT hva HQ
        obtain ⟨l1, l2, l3, l4⟩ := L2
        obtain ⟨r1, r2, r3, r4⟩ := R2
        generalize hzz : (decL (l.take (leftOf l y k))).2 = z at *
        have HZ : Hid ((decL (l.take (leftOf l y k))).2 = z) := hzz
        have hz' : (z : Int) ≤ l.length := by omega
        clear hz hzz
        go_wp2_with fail
        refine (bclone_any (l.take z) _ _ (by have := HLE.out; simp; omega) (HT2.out.below (Nat.le_refl _) (by repeat (first | exact Below.refl _ _ | refine Below.drew ?_ | refine Below.alloc ?_ (Nat.le_refl _) _)))).mono ?_
        rintro e w5 ⟨v5, rfl, ho5, hb5⟩
        have hB5 : Below w2.heap.size w2 w5 := bstep (by repeat (first | exact Below.refl _ _ | refine Below.drew ?_ | refine Below.alloc ?_ (Nat.le_refl _) _)) hb5
        obtain ⟨a5, c5, rfl⟩ := ho5.shape
        obtain ⟨m1, m2, m3, m4⟩ := LBox.below HL2.out hB5
        obtain ⟨n1, n2, n3, n4⟩ := LBox.below HR2.out hB5
        go_wp2
        refine bodyPost_ret (v := .tuple #[.agg #[.slice a5 (l.take z).length c5, .int .i64 z], .int .i64 0]) (by simp [results, Try.results46, go_sem, n1, n2, n3, n4]) rfl ⟨below_two (k := 1) (bstep B2 hB5), fun h => absurd E.out h, fun _ => ?_⟩
        rw [HZ.out]
        refine ⟨_, rfl, ?_⟩
        exact ((ho5.mono (C := w2.heap.size) (by simp)).setCell r1 _ _ |>.setCell r1 _ _).mono (by omega)
      · have hX : Hid ((y + ((l.length : Int) - y)).toNat = leftOf l y k) := show _ = _ by unfold leftOf; split <;> omega
        clear hlb
        go_wp2_with fail
        rw [hX.out]
        refine (decode_any (l.take (leftOf l y k)) _ _ (by have := HLE.out; simp; omega) HT.out).mono ?_
        rintro e w2 ⟨va, rfl, hva, hb2⟩
        obtain ⟨ae, ce, rfl⟩ := hva.shape
        have B2 := bstep B1 hb2
        have L2 := LBox.below ⟨l1, l2, l3, l4⟩ hb2
        have R2 := R1.below hb2
        have HL2 : Hid (LBox w2 w.heap.size (.slice au l.length cu) y) := L2
        have HR2 : Hid (LBox w2 (w.heap.size + 1) (.slice none 0 0) 0) := R2
        have HT2 : Hid (Rd w2 (.slice au (decL (l.take (leftOf l y k))).2 cu) (l.take (decL (l.take (leftOf l y k))).2)) := HQ.out w2 (hl1.below (Nat.le_refl _) hb2) (decL (l.take (leftOf l y k))).2 hz
        clear l1 l2 l3 l4 hb2 B1 R1 hl1 HT hva HQ
        obtain ⟨l1, l2, l3, l4⟩ := L2
        obtain ⟨r1, r2, r3, r4⟩ := R2
        generalize hzz : (decL (l.take (leftOf l y k))).2 = z at *
        have HZ : Hid ((decL (l.take (leftOf l y k))).2 = z) := hzz
        have hz' : (z : Int) ≤ l.length := by omega
        clear hz hzz
        go_wp2_with fail
        refine (bclone_any (l.take z) _ _ (by have := HLE.out; simp; omega) (HT2.out.below (Nat.le_refl _) (by repeat (first | exact Below.refl _ _ | refine Below.drew ?_ | refine Below.alloc ?_ (Nat.le_refl _) _)))).mono ?_
        rintro e w5 ⟨v5, rfl, ho5, hb5⟩
        have hB5 : Below w2.heap.size w2 w5 := bstep (by repeat (first | exact Below.refl _ _ | refine Below.drew ?_ | refine Below.alloc ?_ (Nat.le_refl _) _)) hb5
        obtain ⟨a5, c5, rfl⟩ := ho5.shape
        obtain ⟨m1, m2, m3, m4⟩ := LBox.below HL2.out hB5
        obtain ⟨n1, n2, n3, n4⟩ := LBox.below HR2.out hB5
        go_wp2
        refine bodyPost_ret (v := .tuple #[.agg #[.slice a5 (l.take z).length c5, .int .i64 z], .int .i64 0]) (by simp [results, Try.results46, go_sem, n1, n2, n3, n4]) rfl ⟨below_two (k := 1) (bstep B2 hB5), fun h => absurd E.out h, fun _ => ?_⟩
        rw [HZ.out]
        refine ⟨_, rfl, ?_⟩
        exact ((ho5.mono (C := w2.heap.size) (by simp)).setCell r1 _ _ |>.setCell r1 _ _).mono (by omega)
  · have h0' : (lft l y != 0) = true := by simp [h0]
    have E : Hid (crf l y k = lft l y) := show _ = _ by unfold crf; rw [if_pos h0]
    obtain ⟨r1, r2, r3, r4⟩ := R1
    clear hcu1 hl
    go_wp2
    refine bodyPost_ret (v := .tuple #[noLog, .int .i64 (lft l y)]) (by simp [results, Try.results46, go_sem, noLog, r1, r2, r3, r4]) rfl ⟨below_two (k := 1) B1, fun _ => by rw [E.out], fun h => absurd (E.out ▸ h) h0⟩
end

section
open Go.RowKit
set_option linter.unusedVariables false
set_option linter.unusedSimpArgs false

/-- What P2.4 refuses. -/
def cuf (l : List Int) (y n : Int) : Int := if lft l y ≠ 0 then lft l y else if n < 0 ∨ ((decL l).1.length : Int) < n then 2 else 0
/-- How much of it is safe then. -/
def cutY (l : List Int) (y : Int) (n : Nat) : Int := if y ≤ (endOf (decL l).1 n : Int) then y else endOf (decL l).1 n

set_option maxRecDepth 100000 in
set_option maxHeartbeats 2000000 in
theorem segCut_any (l : List Int) (u : Value) (y n : Int) (w : World) (hl : l.length ≤ 140737488355328) (h : Rd w u l) :
    Calls Try.prog 44 #[.agg #[u, .int .i64 y], .int .i64 n] w fun e w' => Below w.heap.size w w' ∧
      (cuf l y n ≠ 0 → e = .returned (.tuple #[noLog, .int .i64 (cuf l y n)])) ∧
      (cuf l y n = 0 → ∃ v, e = .returned (.tuple #[.agg #[v, .int .i64 (cutY l y n.toNat)], .int .i64 0]) ∧ Own w.heap.size v (((decL l).1.take n.toNat).flatMap Ent.enc) w') := by
  have H : Hid (Rd w u l) := h
  have hbs := h.1
  obtain ⟨au, cu, rfl⟩ : ∃ au cu, u = .slice au l.length cu := by obtain ⟨_, au, cu, e, _⟩ := h; exact ⟨au, cu, e⟩
  clear h
  by_cases h0 : lft l y = 0
  · obtain ⟨hq1, hq2, hq3, hq4, hq5, hq6⟩ := lft_ok h0
    have HK : Hid (∀ e ∈ (decL l).1, e.flt = 0) := (dec_back l hbs).2.2
    have HC : Hid (∀ w, Rd w (.slice au l.length cu) l → _) := fun w h => segEntries_ok l (.slice au l.length cu) y w hl h h0
    have HA : Hid (cuf l y n = if n < 0 ∨ ((decL l).1.length : Int) < n then 2 else 0) := show _ = _ by unfold cuf; rw [if_neg (by simp [h0])]
    have hes : ((decL l).1.length : Int) ≤ 400 := by omega
    have HES : Hid ((decL l).1.length ≤ 400) := hq3
    clear h0 hl hq1 hq2 hq3 hq6
    go_enter Try.func44, Try.ntmps44
    go_wp2_with fail
    have B0 : Below w.heap.size w ((w.alloc (.cells #[.slice au l.length cu, .int .i64 y] 46)).alloc (.cells #[.slice none 0 0, .int .i64 0] 46)) := bstep (bbox _ _) (bbox _ _)
    have L0 := (lbox_new w (.slice au l.length cu) y 46).alloc (.cells #[.slice none 0 0, .int .i64 0] 46)
    have R0 := lbox_new' (w.alloc (.cells #[.slice au l.length cu, .int .i64 y] 46)) (.slice none 0 0) 0 46 (w.heap.size + 1) (by simp)
    refine (HC.out _ (H.out.below (Nat.le_refl _) B0)).mono ?_
    rintro e w1 ⟨va, rfl, hva, hb1⟩
    have B1 := bstep B0 hb1
    have L1 := L0.below hb1
    have R1 := R0.below hb1
    clear B0 L0 R0 hb1 HC H
    obtain ⟨ae, ce, rfl⟩ := hva.shape
    have HE : Hid (RdE w1 (.slice ae (decL l).1.length ce) (decL l).1) := hva.rd
    obtain ⟨hce1, hce2, hce3⟩ : (decL l).1.length ≤ ce ∧ ce ≤ maxLen ∧ (ae = none → ce = 0) := by
      obtain ⟨a', c', e, h1, h2, h3⟩ := hva.rd
      simp only [Value.slice.injEq] at e
      obtain ⟨rfl, _, rfl⟩ := e
      refine ⟨h1, h2, fun h => ?_⟩
      rcases hva.1.2 with ⟨h4, _⟩ | ⟨g, cap, cur, r1, _⟩
      · simp only [Value.slice.injEq] at h4
        exact h4.2.2
      · simp [h] at r1
    clear hva
    by_cases hn : n < 0 ∨ ((decL l).1.length : Int) < n
    · rw [if_pos hn] at HA
      obtain ⟨r1, r2, r3, r4⟩ := R1
      unfold maxLen at hce2
      clear hce1 HES
      by_cases hn' : n < 0
      all_goals
        go_wp2
        refine bodyPost_ret (v := .tuple #[noLog, .int .i64 2]) (by simp [results, Try.results44, go_sem, noLog, r1, r2, r3, r4]) rfl ⟨below_two (k := 1) B1, fun _ => by rw [HA.out], fun h => by rw [HA.out] at h; simp at h⟩
    · rw [if_neg hn] at HA
      obtain ⟨m, rfl⟩ := Int.eq_ofNat_of_zero_le (show 0 ≤ n by omega)
      have hm : (m : Int) ≤ (decL l).1.length := by omega
      have hce1' : ((decL l).1.length : Int) ≤ ce := by omega
      have HM : Hid (m ≤ (decL l).1.length) := show _ ≤ _ by omega
      obtain ⟨l1, l2, l3, l4⟩ := L1
      unfold maxLen at hce2
      clear hn hce1
      go_wp2_with fail
      refine (encodeAll_any ((decL l).1.take m) _ _ (by have := HES.out; simp; omega) (fun e he => HK.out e (List.mem_of_mem_take he)) (HE.out.take m HM.out)).mono ?_
      rintro e w2 ⟨v5, rfl, ho5, hb5⟩
      have B2 := bstep B1 hb5
      have L2 := LBox.below ⟨l1, l2, l3, l4⟩ hb5
      have R2 := R1.below hb5
      clear l1 l2 l3 l4
      obtain ⟨l1, l2, l3, l4⟩ := L2
      obtain ⟨r1, r2, r3, r4⟩ := R2
      obtain ⟨a5, c5, rfl⟩ := ho5.shape
      have HZ : Hid ((cutY l y m) = if y ≤ ((((decL l).1.take m).flatMap Ent.enc).length : Int) then y else ((((decL l).1.take m).flatMap Ent.enc).length : Int)) := show _ = _ from rfl
      generalize hF : ((decL l).1.take m).flatMap Ent.enc = F at *
      have HF : Hid (((decL l).1.take m).flatMap Ent.enc = F) := hF
      clear hF HE
      by_cases hyF : y ≤ F.length
      · rw [if_pos hyF] at HZ
        go_wp2
        refine bodyPost_ret (v := .tuple #[.agg #[.slice a5 F.length c5, .int .i64 y], .int .i64 0]) (by simp [results, Try.results44, go_sem, r1, r2, r3, r4]) rfl ⟨below_two (k := 1) B2, fun h => absurd HA.out h, fun _ => ?_⟩
        simp only [Int.toNat_natCast]
        rw [HF.out, HZ.out]
        refine ⟨_, rfl, ?_⟩
        have hr := R1.1
        exact ((ho5.setCell hr _ _).setCell hr _ _).mono (by omega)
      · rw [if_neg hyF] at HZ
        go_wp2
        refine bodyPost_ret (v := .tuple #[.agg #[.slice a5 F.length c5, .int .i64 F.length], .int .i64 0]) (by simp [results, Try.results44, go_sem, r1, r2, r3, r4]) rfl ⟨below_two (k := 1) B2, fun h => absurd HA.out h, fun _ => ?_⟩
        simp only [Int.toNat_natCast]
        rw [HF.out, HZ.out]
        refine ⟨_, rfl, ?_⟩
        have hr := R1.1
        exact ((ho5.setCell hr _ _).setCell hr _ _).mono (by omega)
  · have h0' : (lft l y != 0) = true := by simp [h0]
    have E : Hid (cuf l y n = lft l y) := show _ = _ by unfold cuf; rw [if_pos h0]
    have HC : Hid (∀ w, Rd w (.slice au l.length cu) l → _) := fun w h => segEntries_bad l (.slice au l.length cu) y w hl h h0
    go_enter Try.func44, Try.ntmps44
    go_wp2_with fail
    have B0 : Below w.heap.size w ((w.alloc (.cells #[.slice au l.length cu, .int .i64 y] 46)).alloc (.cells #[.slice none 0 0, .int .i64 0] 46)) := bstep (bbox _ _) (bbox _ _)
    have R0 := lbox_new' (w.alloc (.cells #[.slice au l.length cu, .int .i64 y] 46)) (.slice none 0 0) 0 46 (w.heap.size + 1) (by simp)
    refine (HC.out _ (H.out.below (Nat.le_refl _) B0)).mono ?_
    rintro e w1 ⟨rfl, hb1⟩
    have B1 := bstep B0 hb1
    obtain ⟨r1, r2, r3, r4⟩ := R0.below hb1
    clear B0 R0 hb1 HC hl
    go_wp2
    refine bodyPost_ret (v := .tuple #[noLog, .int .i64 (lft l y)]) (by simp [results, Try.results44, go_sem, noLog, r1, r2, r3, r4]) rfl ⟨below_two (k := 1) B1, fun _ => by rw [E.out], fun h => absurd (E.out ▸ h) h0⟩
end

end Go.Proofs.Ytknipikmbfdcnaa
