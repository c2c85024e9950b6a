/-
  Plain lists: entries one behind the other are read as they were written; what is read is what is written.
-/
import Derived.Test.YtkakagjffafdiaaDec
namespace Go.Proofs.Ytkakagjffafdiaa
open Go.RowKit
set_option linter.unusedVariables false

theorem decP_encs (es : List Ent) (h : ∀ e ∈ es, e.flt = 0) (f : Nat) (hf : (es.flatMap Ent.enc).length ≤ f) : decP f (es.flatMap Ent.enc) = (es, (es.flatMap Ent.enc).length) := by
  induction es generalizing f with
  | nil => rw [List.flatMap_nil]; exact decP_none f [] rfl
  | cons e es ih =>
    have he := h e (List.mem_cons_self ..)
    have h1 := enc_first e he (es.flatMap Ent.enc)
    have hl := enc_len e
    simp only [List.flatMap_cons, List.length_append] at hf ⊢
    obtain ⟨f', rfl⟩ : ∃ f', f = f' + 1 := ⟨f - 1, by omega⟩
    rw [decP_some _ _ _ _ h1, List.drop_left, ih (fun x hx => h x (List.mem_cons_of_mem _ hx)) f' (by omega)]
theorem dec_encs (es : List Ent) (h : ∀ e ∈ es, e.flt = 0) : decL (es.flatMap Ent.enc) = (es, (es.flatMap Ent.enc).length) := decP_encs es h _ (Nat.le_refl _)

theorem decP_back (f : Nat) (l : List Int) (hb : Bytes l) : (decP f l).1.flatMap Ent.enc = l.take (decP f l).2 ∧ (decP f l).2 ≤ l.length ∧ ∀ e ∈ (decP f l).1, e.flt = 0 := by
  induction f generalizing l with
  | zero => simp [decP]
  | succ f ih =>
    cases hf : firstP l with
    | none => simp [decP, hf]
    | some p =>
      obtain ⟨e, z⟩ := p
      obtain ⟨hf0, hz, he⟩ := first_some l hb e z hf
      obtain ⟨h1, h2, h3⟩ := ih (l.drop z) (bytes_drop hb z)
      rw [decP_some _ _ _ _ hf]
      simp only [List.flatMap_cons, List.length_drop] at h1 h2 ⊢
      have hzl : z ≤ l.length := by
        have := congrArg List.length he
        simp only [List.length_append, List.length_drop] at this
        omega
      refine ⟨?_, by omega, fun x hx => ?_⟩
      · rw [h1]
        have h4 : l.take (z + (decP f (l.drop z)).2) = l.take z ++ (l.drop z).take (decP f (l.drop z)).2 := by rw [List.take_add]
        rw [h4]
        have h5 : l.take z = e.enc := by
          have : (e.enc ++ l.drop z).take z = e.enc := by rw [hz]; exact List.take_left
          rw [← he] at this
          exact this
        rw [h5]
      · rcases List.mem_cons.1 hx with rfl | hx
        · exact hf0
        · exact h3 x hx
theorem dec_back (l : List Int) (hb : Bytes l) : (decL l).1.flatMap Ent.enc = l.take (decL l).2 ∧ (decL l).2 ≤ l.length ∧ ∀ e ∈ (decL l).1, e.flt = 0 := decP_back _ l hb

theorem dec_one (e : Ent) (h : e.flt = 0) : decL e.enc = ([e], e.enc.length) := by
  have := dec_encs [e] (by intro x hx; simp at hx; rw [hx]; exact h)
  simpa using this

/-- Bytes as many as an entry's, from which that entry alone is read, are the entry's own. -/
theorem dec_same (e : Ent) (l : List Int) (hb : Bytes l) (hl : l.length = e.enc.length) (h : (decL l).1 = [e]) : l = e.enc := by
  obtain ⟨h1, h2, h3⟩ := dec_back l hb
  rw [h] at h1
  simp only [List.flatMap_cons, List.flatMap_nil, List.append_nil] at h1
  have h4 := congrArg List.length h1
  simp only [List.length_take] at h4
  rw [h1]
  rw [List.take_of_length_le (by omega)]

theorem enc_bytes (e : Ent) (h : e.flt = 0) : Bytes e.enc := by
  obtain ⟨ha, hb, hc, hd, hk, hs⟩ := flt_ok h
  have hs := sumL_bd e.body
  have hl := body_len' e h
  have hbd : Bytes e.body := by
    intro n hn
    simp only [Ent.body, bodyL, List.mem_cons, List.mem_append] at hn
    rcases hn with rfl | hn | hn | hn | hn | hn
    · unfold kindB; split <;> omega
    · exact sev_bytes _ n hn
    · exact sev_bytes _ n hn
    · exact sev_bytes _ n hn
    · exact sev_bytes _ n hn
    · exact strL_bytes _ n hn
  intro n hn
  rw [enc_eq] at hn
  simp only [List.mem_cons, List.mem_append, List.not_mem_nil, or_false] at hn
  rcases hn with rfl | hn | rfl | rfl
  · omega
  · exact hbd n hn
  · omega
  · omega

theorem decP_len (f : Nat) (l : List Int) (hb : Bytes l) : (decP f l).1.length ≤ l.length ∧ (decP f l).2 ≤ l.length := by
  induction f generalizing l with
  | zero => simp [decP]
  | succ f ih =>
    cases hf : firstP l with
    | none => simp [decP, hf]
    | some p =>
      obtain ⟨e, z⟩ := p
      obtain ⟨hf0, hz, he⟩ := first_some l hb e z hf
      have h := ih (l.drop z) (bytes_drop hb z)
      rw [decP_some _ _ _ _ hf]
      have hl := congrArg List.length he
      rw [enc_len] at hz
      simp only [List.length_append, List.length_drop, enc_len] at hl h
      simp only [List.length_cons]
      omega


theorem flat_take_len (es : List Ent) (k : Nat) : ((es.take k).flatMap Ent.enc).length ≤ (es.flatMap Ent.enc).length := by
  have h : es.flatMap Ent.enc = (es.take k).flatMap Ent.enc ++ (es.drop k).flatMap Ent.enc := by rw [← List.flatMap_append, List.take_append_drop]
  rw [h, List.length_append]
  omega
theorem flat_take_succ (es : List Ent) (k : Nat) (h : k < es.length) : (es.take (k + 1)).flatMap Ent.enc = (es.take k).flatMap Ent.enc ++ (es[k]'h).enc := by
  rw [List.take_succ_eq_append_getElem h, List.flatMap_append]
  simp
theorem flat_len (es : List Ent) (h : ∀ e ∈ es, e.flt = 0) : (es.flatMap Ent.enc).length ≤ 64 * es.length := by
  induction es with
  | nil => simp
  | cons e es ih =>
    have h1 := body_len' e (h e (List.mem_cons_self ..))
    have h2 := ih (fun x hx => h x (List.mem_cons_of_mem _ hx))
    simp only [List.flatMap_cons, List.length_append, List.length_cons, enc_len]
    omega

end Go.Proofs.Ytkakagjffafdiaa
