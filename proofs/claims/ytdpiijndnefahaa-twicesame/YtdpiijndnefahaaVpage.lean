/-
  Plain lists of entries: page by page one reads the same as at once.
-/
import Derived.Test.YtdpiijndnefahaaVpure
namespace Go.Proofs.Ytdpiijndnefahaa
open Go.RowKit
set_option linter.unusedVariables false

/-- The texts that are read of so many entries from i on, by the first h. -/
def tx (es : List Ent) (h : Nat) : Nat → Nat → List ByteArray
  | _, 0 => []
  | i, n + 1 => if seen es h i then (Ent.at es i).s :: tx es h (i + 1) n else tx es h (i + 1) n
theorem tx_len (es : List Ent) (h i n : Nat) : (tx es h i n).length ≤ n := by
  induction n generalizing i with
  | zero => simp [tx]
  | succ n ih =>
    have := ih (i + 1)
    simp only [tx]
    split <;> simp <;> omega
theorem tx_add (es : List Ent) (h i a b : Nat) : tx es h i (a + b) = tx es h i a ++ tx es h (i + a) b := by
  induction a generalizing i with
  | zero => simp [tx]
  | succ a ih =>
    rw [show a + 1 + b = (a + b) + 1 by omega]
    simp only [tx]
    rw [ih (i + 1), show i + 1 + a = i + (a + 1) by omega]
    split <;> simp
theorem rdF_page (es : List Ent) (h fin f i m : Nat) (hi : i ≤ fin) (hf : fin - i ≤ f) :
    i ≤ (rdF es h fin f i m).2 ∧ (rdF es h fin f i m).2 ≤ fin ∧ (rdF es h fin f i m).1 = tx es h i ((rdF es h fin f i m).2 - i) ∧ (rdF es h fin f i m).1.length ≤ m ∧ (i < fin → 0 < m → i < (rdF es h fin f i m).2) ∧ (fin - i ≤ m → (rdF es h fin f i m).2 = fin) := by
  induction f generalizing i m with
  | zero =>
    simp only [rdF, Nat.sub_self, tx, List.length_nil]
    refine ⟨Nat.le_refl _, hi, trivial, Nat.zero_le _, fun _ _ => by omega, fun _ => by omega⟩
  | succ f ih =>
    simp only [rdF]
    by_cases hc : fin ≤ i ∨ m = 0
    · rw [if_pos hc]
      simp only [Nat.sub_self, tx, List.length_nil]
      refine ⟨Nat.le_refl _, hi, trivial, Nat.zero_le _, fun _ _ => by omega, fun _ => by omega⟩
    · rw [if_neg hc]
      by_cases hs : seen es h i = true
      · rw [if_pos hs]
        obtain ⟨h1, h2, h3, h4, h5, h6⟩ := ih (i + 1) (m - 1) (by omega) (by omega)
        generalize rdF es h fin f (i + 1) (m - 1) = r at *
        simp only
        refine ⟨by omega, h2, ?_, by simp; omega, fun _ _ => by omega, fun _ => h6 (by omega)⟩
        rw [show r.2 - i = (r.2 - (i + 1)) + 1 by omega]
        simp only [tx]
        rw [if_pos hs, ← h3]
      · rw [if_neg hs]
        obtain ⟨h1, h2, h3, h4, h5, h6⟩ := ih (i + 1) m (by omega) (by omega)
        generalize rdF es h fin f (i + 1) m = r at *
        refine ⟨by omega, h2, ?_, h4, fun _ _ => by omega, fun _ => h6 (by omega)⟩
        rw [show r.2 - i = (r.2 - (i + 1)) + 1 by omega]
        simp only [tx]
        rw [if_neg hs, ← h3]
/-- Once more from where one was: the texts stand behind those that were read. -/
theorem rdF_next (es : List Ent) (h fin f i m : Nat) (hi : i ≤ fin) (hf : fin - i ≤ f) : tx es h 0 i ++ (rdF es h fin f i m).1 = tx es h 0 (rdF es h fin f i m).2 := by
  obtain ⟨h1, h2, h3, _⟩ := rdF_page es h fin f i m hi hf
  rw [h3]
  have := tx_add es h 0 i ((rdF es h fin f i m).2 - i)
  rw [Nat.zero_add, show i + ((rdF es h fin f i m).2 - i) = (rdF es h fin f i m).2 by omega] at this
  exact this.symm
/-- An entry that is read, by the first mark of its producer from it on. -/
theorem seen_from (es : List Ent) {h i : Nat} (hi : i < h) : seen es h i = true ↔ (Ent.at es i).k = 1 ∧ ((Ent.at es i).t = false ∨ 0 ≤ scan (isMark es (Ent.at es i).b) (h - i) i ∧ (Ent.at es (scan (isMark es (Ent.at es i).b) (h - i) i).toNat).k = 2) := by
  unfold seen
  by_cases h1 : (Ent.at es i).k = 1
  · have hn : ¬ isMark es (Ent.at es i).b i := fun hm => hm.2 h1
    have hsc : scan (isMark es (Ent.at es i).b) (h - i) i = scan (isMark es (Ent.at es i).b) (h - (i + 1)) (i + 1) := by
      rw [show h - i = (h - (i + 1)) + 1 by omega]
      simp only [scan]
      rw [if_neg hn]
    rw [hsc]
    by_cases h2 : (Ent.at es i).t = false
    · simp [h1, h2]
    · by_cases h3 : scan (isMark es (Ent.at es i).b) (h - (i + 1)) (i + 1) < 0
      · simp [h1, h2, h3]
        intro h4
        omega
      · simp [h1, h2, h3]
        intro _
        omega
  · simp [h1]

end Go.Proofs.Ytdpiijndnefahaa
