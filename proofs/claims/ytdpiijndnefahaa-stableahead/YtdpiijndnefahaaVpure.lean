/-
  Plain lists of entries: what is stable rises with the height, and below it no transaction is open.
-/
import Derived.Test.YtdpiijndnefahaaAview
namespace Go.Proofs.Ytdpiijndnefahaa
open Go.RowKit
set_option linter.unusedVariables false

theorem markK_same (es : List Ent) (p : Int) {k h : Nat} (hk : k ≤ h) (hn : ∀ j, k ≤ j → j < h → ¬ isMark es p j) : markK es p h = markK es p k := by
  induction h with
  | zero => rw [show k = 0 by omega]
  | succ h ih =>
    by_cases e : k = h + 1
    · rw [e]
    · simp only [markK]
      rw [if_neg (show ¬ ((Ent.at es h).b = p ∧ (Ent.at es h).k ≠ 1) from hn h (by omega) (by omega))]
      exact ih (by omega) (fun j h1 h2 => hn j h1 (by omega))
theorem markK_low (es : List Ent) (p : Int) {h1 h2 : Nat} (hh : h1 ≤ h2) (hm : markK es p h2 < h1) : markK es p h1 = markK es p h2 := by
  induction h2 with
  | zero => rw [show h1 = 0 by omega]
  | succ n ih =>
    by_cases e : h1 = n + 1
    · rw [e]
    · simp only [markK] at hm ⊢
      split at hm
      · omega
      · rename_i hc
        rw [if_neg hc]
        exact ih (by omega) hm
theorem openN_iff (es : List Ent) (p : Int) (h i : Nat) : openN es p h = i ↔ markK es p h < i ∧ i < h ∧ isTxn es p i ∧ ∀ j : Nat, markK es p h < j → j < i → ¬ isTxn es p j := by
  have hb := markK_bd es p h
  unfold openN
  constructor
  · intro e
    rcases scan_cases (P := isTxn es p) (h - (markK es p h + 1).toNat) (markK es p h + 1).toNat with h0 | ⟨k, k1, k2, k3, k4, k5⟩
    · omega
    · have : k = i := by omega
      subst this
      exact ⟨by omega, by omega, k3, fun j j1 j2 => k4 j (by omega) j2⟩
  · rintro ⟨h1, h2, h3, h4⟩
    exact scan_some (by omega) (by omega) h3 (fun j j1 j2 => h4 j (by omega) j2)
theorem stb_of {es : List Ent} {h i : Nat} (hi : i < h) (hb : begins es h i) : stb es h ≤ i := by
  unfold stb
  rcases scan_cases (P := begins es h) h 0 with h0 | ⟨k, k1, k2, k3, k4, k5⟩
  · exact absurd hb (scan_none.1 (show scan (begins es h) h 0 < 0 by omega) i (by omega) (by omega))
  · rw [k5, if_neg (by omega)]
    by_cases e : i < k
    · exact absurd hb (k4 i (by omega) e)
    · omega
theorem stb_at {es : List Ent} {h : Nat} (hs : stb es h < h) : begins es h (stb es h) := by
  unfold stb at hs ⊢
  rcases scan_cases (P := begins es h) h 0 with h0 | ⟨k, k1, k2, k3, k4, k5⟩
  · rw [if_pos (by omega)] at hs
    omega
  · rw [k5, if_neg (by omega)]
    simpa using k3
theorem stb_high (es : List Ent) (h : Nat) : stb es h ≤ h := by
  unfold stb
  rcases scan_cases (P := begins es h) h 0 with h0 | ⟨k, k1, k2, k3, k4, k5⟩
  · rw [if_pos (by omega)]
    exact Nat.le_refl _
  · rw [k5, if_neg (by omega)]
    omega
/-- It rises with the height. -/
theorem stb_mono (es : List Ent) {h1 h2 : Nat} (hh : h1 ≤ h2) : stb es h1 ≤ stb es h2 := by
  by_cases e : stb es h2 < h1
  · have hb := stb_at (es := es) (h := h2) (by omega)
    obtain ⟨b1, b2, b3, b4⟩ := hb
    obtain ⟨o1, o2, o3, o4⟩ := (openN_iff es _ h2 _).1 b4
    have hm := markK_low es (Ent.at es (stb es h2)).b hh (by omega)
    refine stb_of e ⟨b1, b2, b3, (openN_iff es _ h1 _).2 ⟨by omega, e, o3, fun j j1 j2 => o4 j (by omega) j2⟩⟩
  · have := stb_high es h1
    omega
/-- Below it no transaction is open. -/
theorem stb_shut {es : List Ent} {h k : Nat} (hpid : ∀ i, i < es.length → (Ent.at es i).t = true → 0 < (Ent.at es i).b) (hh : h ≤ es.length) (hk : k < stb es h) (h1 : (Ent.at es k).k = 1) (h2 : (Ent.at es k).t = true) : ∃ j, k ≤ j ∧ j < h ∧ isMark es (Ent.at es k).b j := by
  apply Classical.byContradiction
  intro hn
  have hs := stb_high es h
  have hn' : ∀ j, k ≤ j → j < h → ¬ isMark es (Ent.at es k).b j := fun j j1 j2 hj => hn ⟨j, j1, j2, hj⟩
  have hm := markK_same es (Ent.at es k).b (k := k) (h := h) (by omega) hn'
  have hb := markK_bd es (Ent.at es k).b k
  have hopen : ∃ i : Nat, i ≤ k ∧ openN es (Ent.at es k).b h = i := by
    unfold openN
    rcases scan_cases (P := isTxn es (Ent.at es k).b) (h - (markK es (Ent.at es k).b h + 1).toNat) (markK es (Ent.at es k).b h + 1).toNat with h0 | ⟨i, k1, k2, k3, k4, k5⟩
    · exact absurd (show isTxn es (Ent.at es k).b k from ⟨rfl, h2, h1⟩) (scan_none.1 (show scan (isTxn es (Ent.at es k).b) (h - (markK es (Ent.at es k).b h + 1).toNat) (markK es (Ent.at es k).b h + 1).toNat < 0 by omega) k (by omega) (by omega))
    · refine ⟨i, ?_, k5⟩
      apply Classical.byContradiction
      intro hik
      exact k4 k (by omega) (by omega) ⟨rfl, h2, h1⟩
  obtain ⟨i, hik, hi⟩ := hopen
  obtain ⟨o1, o2, o3, o4⟩ := (openN_iff es _ h i).1 hi
  obtain ⟨t1, t2, t3⟩ := o3
  have := stb_of (es := es) (h := h) (i := i) o2 ⟨hpid i (by omega) t2, t3, t2, by rw [t1]; exact hi⟩
  omega

end Go.Proofs.Ytdpiijndnefahaa
