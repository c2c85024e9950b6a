/-
  Plain lists of entries that were checked one by one: each number of a producer's version comes once, in its order; what comes a second time stands where it stood.
-/
import Derived.Test.YtdpiijndnefahaaVpage
namespace Go.Proofs.Ytdpiijndnefahaa
open Go.RowKit
set_option linter.unusedVariables false

/-- How many numbers of a producer's version there are among the first k. -/
def cntK (es : List Ent) (p v : Int) : Nat → Nat
  | 0 => 0
  | k + 1 => cntK es p v k + if (Ent.at es k).b = p ∧ (Ent.at es k).c = v ∧ (Ent.at es k).k = 1 then 1 else 0
theorem cntK_yes {es : List Ent} {p v : Int} {k : Nat} (h : (Ent.at es k).b = p ∧ (Ent.at es k).c = v ∧ (Ent.at es k).k = 1) : cntK es p v (k + 1) = cntK es p v k + 1 := by
  rw [cntK, if_pos h]
theorem cntK_no {es : List Ent} {p v : Int} {k : Nat} (h : ¬ ((Ent.at es k).b = p ∧ (Ent.at es k).c = v ∧ (Ent.at es k).k = 1)) : cntK es p v (k + 1) = cntK es p v k := by
  rw [cntK, if_neg h, Nat.add_zero]
theorem verK_yes {es : List Ent} {p : Int} {k : Nat} (h : (Ent.at es k).b = p) : verK es p (k + 1) = (Ent.at es k).c := by
  rw [verK, if_pos h]
/-- Each number comes once, in its order, among the first n. -/
def Once (es : List Ent) (n : Nat) : Prop := ∀ i, i < n → (Ent.at es i).b ≠ 0 → verK es (Ent.at es i).b i ≤ (Ent.at es i).c ∧ ((Ent.at es i).k = 1 → (Ent.at es i).d = cntK es (Ent.at es i).b (Ent.at es i).c i)

theorem cntK_mono (es : List Ent) (p v : Int) {i j : Nat} (h : i ≤ j) : cntK es p v i ≤ cntK es p v j := by
  induction j with
  | zero => rw [show i = 0 by omega]; exact Nat.le_refl _
  | succ j ih =>
    by_cases e : i = j + 1
    · rw [e]; exact Nat.le_refl _
    · exact Nat.le_trans (ih (by omega)) (by simp only [cntK]; omega)
theorem verK_mono {es : List Ent} {n : Nat} (ho : Once es n) {p : Int} (hp : p ≠ 0) {i j : Nat} (h : i ≤ j) (hj : j ≤ n) : verK es p i ≤ verK es p j := by
  induction j with
  | zero => rw [show i = 0 by omega]; exact Int.le_refl _
  | succ j ih =>
    by_cases e : i = j + 1
    · rw [e]; exact Int.le_refl _
    · refine Int.le_trans (ih (by omega) (by omega)) ?_
      simp only [verK]
      split
      · rename_i hb
        have := (ho j (by omega) (by rw [hb]; exact hp)).1
        rw [hb] at this
        exact this
      · exact Int.le_refl _
theorem once_seq {es : List Ent} {n : Nat} (ho : Once es n) (hc : ∀ i, i < n → 0 ≤ (Ent.at es i).c) {p : Int} (hp : p ≠ 0) (m : Nat) (hm : m ≤ n) :
    (∀ v, verK es p m < v → cntK es p v m = 0) ∧ (seqK es p m).2 = verK es p m ∧ (seqK es p m).1 = (cntK es p (verK es p m) m : Int) - 1 := by
  induction m with
  | zero => simp [verK, seqK, cntK]
  | succ k ih =>
    obtain ⟨i1, i2, i3⟩ := ih (by omega)
    by_cases hb : (Ent.at es k).b = p
    · obtain ⟨o1, o2⟩ := ho k (by omega) (by rw [hb]; exact hp)
      rw [hb] at o1 o2
      simp only [verK, seqK, if_pos hb]
      refine ⟨fun v hv => ?_, trivial, ?_⟩
      · rw [cntK_no (by omega), i1 v (by omega)]
      · by_cases hk : (Ent.at es k).k = 1
        · rw [if_pos hk, o2 hk, cntK_yes ⟨hb, rfl, hk⟩]
          omega
        · rw [if_neg hk, cntK_no (fun h => hk h.2.2)]
          by_cases hv : (Ent.at es k).c = (seqK es p k).2
          · rw [if_pos hv, i3, hv, i2]
          · rw [if_neg hv, i1 _ (by omega)]
            rfl
    · simp only [verK, seqK, if_neg hb]
      refine ⟨fun v hv => ?_, i2, ?_⟩
      · rw [cntK_no (fun h => hb h.1), i1 v hv]
      · rw [cntK_no (fun h => hb h.1)]
        exact i3

theorem at_app {es : List Ent} {x : Ent} {i : Nat} (h : i < es.length) : Ent.at (es ++ [x]) i = Ent.at es i := by
  rw [at_get h, at_get (show i < (es ++ [x]).length by simp; omega), List.getElem_append_left h]
theorem at_last (es : List Ent) (x : Ent) : Ent.at (es ++ [x]) es.length = x := by
  rw [at_get (show es.length < (es ++ [x]).length by simp)]
  simp
theorem verK_app {es : List Ent} {x : Ent} (p : Int) {k : Nat} (h : k ≤ es.length) : verK (es ++ [x]) p k = verK es p k := by
  induction k with
  | zero => rfl
  | succ k ih => simp only [verK]; rw [at_app (by omega), ih (by omega)]
theorem cntK_app {es : List Ent} {x : Ent} (p v : Int) {k : Nat} (h : k ≤ es.length) : cntK (es ++ [x]) p v k = cntK es p v k := by
  induction k with
  | zero => rfl
  | succ k ih => simp only [cntK]; rw [at_app (by omega), ih (by omega)]
/-- What may come keeps the order. -/
theorem once_next {es : List Ent} {x : Ent} (ho : Once es es.length) (hc : ∀ i, i < es.length → 0 ≤ (Ent.at es i).c) (h2 : (chk es x).2 = 0) (h1 : (chk es x).1 < 0) : Once (es ++ [x]) (es ++ [x]).length := by
  intro i hi hb
  by_cases hl : i < es.length
  · rw [at_app hl] at hb ⊢
    rw [verK_app _ (by omega), cntK_app _ _ (by omega)]
    exact ho i hl hb
  · have e : i = es.length := by simp at hi; omega
    subst e
    rw [at_last] at hb ⊢
    rw [verK_app _ (Nat.le_refl _), cntK_app _ _ (Nat.le_refl _)]
    obtain ⟨s1, s2, s3⟩ := once_seq ho hc hb es.length (Nat.le_refl _)
    unfold chk at h1 h2
    rw [if_neg hb] at h1 h2
    by_cases hv : x.c < verK es x.b es.length
    · rw [if_pos hv] at h2
      exact absurd h2 (by decide)
    · rw [if_neg hv] at h1 h2
      refine ⟨by omega, fun hk => ?_⟩
      rw [if_neg (by omega)] at h1 h2
      simp only at h1 h2
      generalize hs : (if x.c = verK es x.b es.length then (seqK es x.b es.length).1 else -1) = s at h1 h2
      have hd : x.d = s + 1 := by
        apply Classical.byContradiction
        intro hne
        rw [if_neg hne] at h1 h2
        by_cases hg : s + 1 < x.d
        · rw [if_pos hg] at h2
          exact absurd h2 (by decide)
        · rw [if_neg hg] at h1 h2
          by_cases hw : scan (isTwin es x) es.length 0 < 0
          · rw [if_pos hw] at h2
            exact absurd h2 (by decide)
          · rw [if_neg hw] at h1
            exact hw h1
      by_cases he : x.c = verK es x.b es.length
      · rw [if_pos he] at hs
        rw [← he] at s3
        omega
      · rw [if_neg he] at hs
        have := s1 x.c (by omega)
        omega
/-- Behind a later version of its producer an entry is fenced. -/
theorem twice_later {es : List Ent} (ho : Once es es.length) {k j : Nat} (hk : k < es.length) (hb : (Ent.at es k).b ≠ 0) (hj : j < es.length) (h1 : (Ent.at es j).b = (Ent.at es k).b) (h2 : (Ent.at es k).c < (Ent.at es j).c) : chk es (Ent.at es k) = (0, 10) := by
  have h3 : verK es (Ent.at es k).b (j + 1) = (Ent.at es j).c := verK_yes h1
  have h4 := verK_mono ho hb (show j + 1 ≤ es.length by omega) (Nat.le_refl _)
  unfold chk
  rw [if_neg hb, if_pos (by omega)]
theorem verK_last (es : List Ent) (p : Int) {k n : Nat} (hk : k < n) (hb : (Ent.at es k).b = p) : ∃ j, k ≤ j ∧ j < n ∧ (Ent.at es j).b = p ∧ verK es p n = (Ent.at es j).c := by
  induction n with
  | zero => omega
  | succ n ih =>
    simp only [verK]
    by_cases hn : (Ent.at es n).b = p
    · rw [if_pos hn]
      exact ⟨n, by omega, by omega, hn, rfl⟩
    · rw [if_neg hn]
      by_cases e : k = n
      · rw [e] at hb
        exact absurd hb hn
      · obtain ⟨j, j1, j2, j3, j4⟩ := ih (by omega)
        exact ⟨j, j1, by omega, j3, j4⟩
/-- Else it stands where it stood. -/
theorem twice_same {es : List Ent} (ho : Once es es.length) (hc : ∀ i, i < es.length → 0 ≤ (Ent.at es i).c) {k : Nat} (hk : k < es.length) (hb : (Ent.at es k).b ≠ 0) (hd : (Ent.at es k).k = 1)
    (hn : ∀ j, k ≤ j → j < es.length → (Ent.at es j).b = (Ent.at es k).b → (Ent.at es j).c ≤ (Ent.at es k).c) : chk es (Ent.at es k) = ((k : Int), 0) := by
  have hv : verK es (Ent.at es k).b es.length = (Ent.at es k).c := by
    have h3 : verK es (Ent.at es k).b (k + 1) = (Ent.at es k).c := verK_yes rfl
    have h4 := verK_mono ho hb (show k + 1 ≤ es.length by omega) (Nat.le_refl _)
    obtain ⟨j, j1, j2, j3, j4⟩ := verK_last es (Ent.at es k).b hk rfl
    have := hn j j1 j2 j3
    omega
  obtain ⟨s1, s2, s3⟩ := once_seq ho hc hb es.length (Nat.le_refl _)
  have hcount : ∀ {i : Nat}, i < es.length → isTwin es (Ent.at es k) i → (Ent.at es k).d = cntK es (Ent.at es k).b (Ent.at es k).c i ∧ cntK es (Ent.at es k).b (Ent.at es k).c (i + 1) = cntK es (Ent.at es k).b (Ent.at es k).c i + 1 := by
    intro i hi ht
    obtain ⟨t1, t2, t3, t4⟩ := ht
    have := (ho i hi (by rw [t2]; exact hb)).2 t1
    rw [t2, t3, t4] at this
    exact ⟨this, cntK_yes ⟨t2, t3, t1⟩⟩
  have hkk : isTwin es (Ent.at es k) k := ⟨hd, rfl, rfl, rfl⟩
  obtain ⟨c1, c2⟩ := hcount hk hkk
  have c3 := cntK_mono es (Ent.at es k).b (Ent.at es k).c (show k + 1 ≤ es.length by omega)
  rw [hv] at s3
  have hsc : scan (isTwin es (Ent.at es k)) es.length 0 = k := by
    refine scan_some (by omega) (by omega) hkk (fun j _ hj ht => ?_)
    obtain ⟨d1, d2⟩ := hcount (show j < es.length by omega) ht
    have := cntK_mono es (Ent.at es k).b (Ent.at es k).c (show j + 1 ≤ k by omega)
    omega
  unfold chk
  rw [if_neg hb, if_neg (by omega), if_neg (by omega)]
  simp only
  rw [if_pos hv.symm, if_neg (by omega), if_neg (by omega), if_neg (by omega), hsc]

end Go.Proofs.Ytdpiijndnefahaa
