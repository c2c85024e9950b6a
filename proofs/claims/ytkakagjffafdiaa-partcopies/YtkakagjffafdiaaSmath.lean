/-
  Plain lists: of bytes that are cut just the whole entries are left; what a log's check answers.
-/
import Derived.Test.YtkakagjffafdiaaKmath
namespace Go.Proofs.Ytkakagjffafdiaa
open Go.RowKit
set_option linter.unusedVariables false

/-- Where the first k entries end. -/
def endOf (es : List Ent) (k : Nat) : Nat := ((es.take k).flatMap Ent.enc).length
theorem endOf_zero (es : List Ent) : endOf es 0 = 0 := by simp [endOf]
theorem endOf_succ (es : List Ent) (k : Nat) (h : k < es.length) : endOf es (k + 1) = endOf es k + (es[k]'h).enc.length := by
  unfold endOf
  rw [flat_take_succ es k h, List.length_append]
theorem endOf_all (es : List Ent) : endOf es es.length = (es.flatMap Ent.enc).length := by simp [endOf]
theorem endOf_le (es : List Ent) (k : Nat) : endOf es k ≤ (es.flatMap Ent.enc).length := flat_take_len es k
theorem endOf_lt (es : List Ent) (i j : Nat) (hij : i < j) (hj : j ≤ es.length) : endOf es i < endOf es j := by
  induction j with
  | zero => omega
  | succ j ih =>
    have h1 := endOf_succ es j (by omega)
    have h2 := enc_len (es[j]'(by omega))
    by_cases h : i = j
    · subst h; omega
    · have := ih (by omega) (by omega)
      omega
theorem endOf_take (es : List Ent) (k : Nat) : (es.flatMap Ent.enc).take (endOf es k) = (es.take k).flatMap Ent.enc := by
  have h : es.flatMap Ent.enc = (es.take k).flatMap Ent.enc ++ (es.drop k).flatMap Ent.enc := by rw [← List.flatMap_append, List.take_append_drop]
  rw [h]
  exact List.take_left

/-- The first byte of the entry that begins there. -/
theorem endOf_byte (es : List Ent) (k : Nat) (h : k < es.length) : (es.flatMap Ent.enc).getD (endOf es k) 0 = ((es[k]'h).body.length : Int) := by
  have h1 : es.flatMap Ent.enc = (es.take k).flatMap Ent.enc ++ ((es[k]'h).enc ++ (es.drop (k + 1)).flatMap Ent.enc) := by
    conv => lhs; rw [← List.take_append_drop k es, List.flatMap_append, List.drop_eq_getElem_cons h, List.flatMap_cons]
  rw [h1, List.getD_eq_getElem?_getD, List.getElem?_append_right (by exact Nat.le_refl _)]
  rw [enc_eq]
  simp [endOf]

theorem first_short (e : Ent) (m : Nat) (hm : m < e.enc.length) : firstP (e.enc.take m) = none := by
  rw [enc_len] at hm
  rw [enc_eq]
  cases m with
  | zero => rfl
  | succ m =>
    rw [List.take_succ_cons]
    simp only [firstP]
    rw [if_pos]
    right
    simp only [List.length_take]
    omega

theorem decP_cut (es : List Ent) (h : ∀ e ∈ es, e.flt = 0) (n f : Nat) (hf : n ≤ f) :
    ∃ k, k ≤ es.length ∧ decP f ((es.flatMap Ent.enc).take n) = (es.take k, endOf es k) ∧ endOf es k ≤ n ∧ (k < es.length → n < endOf es (k + 1)) := by
  induction es generalizing n f with
  | nil => exact ⟨0, by simp, by simp [endOf]; exact decP_none f [] rfl, by simp [endOf], fun h => by simp at h⟩
  | cons e es ih =>
    have he := h e (List.mem_cons_self ..)
    by_cases hn : n < e.enc.length
    · refine ⟨0, by simp, ?_, by simp [endOf], fun _ => by simpa [endOf] using hn⟩
      rw [List.flatMap_cons, List.take_append_of_le_length (by omega), decP_none _ _ (first_short e n hn)]
      simp [endOf]
    · obtain ⟨f', rfl⟩ : ∃ f', f = f' + 1 := ⟨f - 1, by rw [enc_len] at hn; omega⟩
      have hl := enc_len e
      obtain ⟨k, hk, hd, h1, h2⟩ := ih (fun x hx => h x (List.mem_cons_of_mem _ hx)) (n - e.enc.length) f' (by omega)
      have hs : ∀ j, endOf (e :: es) (j + 1) = e.enc.length + endOf es j := fun j => by simp [endOf]
      refine ⟨k + 1, by simp; omega, ?_, by rw [hs]; omega, fun hk' => ?_⟩
      · have ht : (e.enc ++ es.flatMap Ent.enc).take n = e.enc ++ (es.flatMap Ent.enc).take (n - e.enc.length) := by
          rw [List.take_append, List.take_of_length_le (by omega)]
        rw [List.flatMap_cons, ht, decP_some _ _ _ _ (enc_first e he _), List.drop_left, hd, hs]
        simp
      · rw [hs]
        have := h2 (by simpa using hk')
        omega

/-- Of bytes that are cut just the whole entries are left. -/
theorem dec_cut (l : List Int) (hb : Bytes l) (hd : (decL l).2 = l.length) (n : Nat) (hn : n ≤ l.length) :
    ∃ k, k ≤ (decL l).1.length ∧ decL (l.take n) = ((decL l).1.take k, endOf (decL l).1 k) ∧ endOf (decL l).1 k ≤ n ∧ (k < (decL l).1.length → n < endOf (decL l).1 (k + 1)) := by
  obtain ⟨h1, h2, h3⟩ := dec_back l hb
  rw [hd, List.take_length] at h1
  have := decP_cut (decL l).1 h3 n (l.take n).length (by simp; omega)
  rw [h1] at this
  exact this

/-- What P2.1 answers. -/
def lft (l : List Int) (y : Int) : Int :=
  if 40000 < l.length then 1
  else if (decL l).2 ≠ l.length ∨ 400 < (decL l).1.length then 4
  else if y < 0 ∨ (l.length : Int) < y then 2
  else if (decL (l.take y.toNat)).2 ≠ y.toNat then 4
  else 0

theorem lft_ok {l : List Int} {y : Int} (h : lft l y = 0) : l.length ≤ 40000 ∧ (decL l).2 = l.length ∧ (decL l).1.length ≤ 400 ∧ 0 ≤ y ∧ y ≤ l.length ∧ (decL (l.take y.toNat)).2 = y.toNat := by
  unfold lft at h
  split at h
  · simp at h
  · split at h
    · simp at h
    · split at h
      · simp at h
      · split at h
        · simp at h
        · omega

/-- What of the bytes up to a number is whole, and where one comes to by the entries' sizes. -/
theorem end_iff (l : List Int) (hb : Bytes l) (hd : (decL l).2 = l.length) (n : Nat) (hn : n ≤ l.length) (j : Nat) (hj : j ≤ (decL l).1.length) (hlo : ∀ i, i < j → endOf (decL l).1 i < n) (hhi : n ≤ endOf (decL l).1 j) :
    (decL (l.take n)).2 = n ↔ endOf (decL l).1 j = n := by
  obtain ⟨k, hk, hc, h1, h2⟩ := dec_cut l hb hd n hn
  rw [hc]
  constructor
  · intro h
    simp only at h
    by_cases hkj : k < j
    · have := hlo k hkj; omega
    · by_cases hjk : j < k
      · have := endOf_lt _ j k hjk hk; omega
      · have : j = k := by omega
        subst this; exact h
  · intro h
    show endOf _ k = n
    by_cases hkj : k < j
    · have h3 := h2 (by omega)
      by_cases he : k + 1 = j
      · subst he; omega
      · have := endOf_lt (decL l).1 (k + 1) j (by omega) hj; omega
    · by_cases hjk : j < k
      · have := endOf_lt _ j k hjk hk; omega
      · have : j = k := by omega
        subst this; exact h

theorem dec_all {l : List Int} (hb : Bytes l) (hd : (decL l).2 = l.length) : (decL l).1.flatMap Ent.enc = l := by
  have h := (dec_back l hb).1
  rw [hd, List.take_length] at h
  exact h

end Go.Proofs.Ytkakagjffafdiaa
