/-
  Plain lists of entries: what they tell of a producer, which entry may come, what is stable, what is read (the document's chapter 3).
-/
import Derived.Test.YtkakagjffafdiaaKeq
namespace Go.Proofs.Ytkakagjffafdiaa
open Go.RowKit
set_option linter.unusedVariables false

/-- The entry at a place. -/
def Ent.at (es : List Ent) (i : Nat) : Ent := es.getD i zeroE
theorem at_get {es : List Ent} {i : Nat} (h : i < es.length) : Ent.at es i = es[i]'h := by simp [Ent.at, List.getD, h]

/-- The version of a producer, by the first k entries. -/
def verK (es : List Ent) (p : Int) : Nat → Int
  | 0 => -1
  | k + 1 => if (Ent.at es k).b = p then (Ent.at es k).c else verK es p k
/-- Its number and its version, by the first k entries. -/
def seqK (es : List Ent) (p : Int) : Nat → Int × Int
  | 0 => (-1, -1)
  | k + 1 =>
    if (Ent.at es k).b = p then
      (if (Ent.at es k).k = 1 then (Ent.at es k).d else if (Ent.at es k).c = (seqK es p k).2 then (seqK es p k).1 else -1, (Ent.at es k).c)
    else seqK es p k
/-- The place of its last mark among the first k entries. -/
def markK (es : List Ent) (p : Int) : Nat → Int
  | 0 => -1
  | k + 1 => if (Ent.at es k).b = p ∧ (Ent.at es k).k ≠ 1 then k else markK es p k
/-- The first place from i on, of so many, at which P holds; -1: nowhere. -/
def scan (P : Nat → Prop) [DecidablePred P] : Nat → Nat → Int
  | 0, _ => -1
  | f + 1, i => if P i then i else scan P f (i + 1)
abbrev isTxn (es : List Ent) (p : Int) (i : Nat) : Prop := (Ent.at es i).b = p ∧ (Ent.at es i).t = true ∧ (Ent.at es i).k = 1
/-- Where its transaction begins, by the first n entries; -1: none is open. -/
def openN (es : List Ent) (p : Int) (n : Nat) : Int := scan (isTxn es p) (n - (markK es p n + 1).toNat) (markK es p n + 1).toNat
abbrev isTwin (es : List Ent) (x : Ent) (i : Nat) : Prop := (Ent.at es i).k = 1 ∧ (Ent.at es i).b = x.b ∧ (Ent.at es i).c = x.c ∧ (Ent.at es i).d = x.d
/-- What P3.3 answers: a place, and an error. -/
def chk (es : List Ent) (x : Ent) : Int × Int :=
  if x.b = 0 then (-1, 0)
  else if x.c < verK es x.b es.length then (0, 10)
  else if x.k ≠ 1 then
    (if 0 ≤ markK es x.b es.length ∧ openN es x.b es.length < 0 ∧ (Ent.at es (markK es x.b es.length).toNat).k = x.k ∧ (Ent.at es (markK es x.b es.length).toNat).c = x.c then markK es x.b es.length else -1, 0)
  else
    let s := if x.c = verK es x.b es.length then (seqK es x.b es.length).1 else -1
    if x.d = s + 1 then (-1, 0)
    else if s + 1 < x.d then (0, 11)
    else if scan (isTwin es x) es.length 0 < 0 then (0, 11)
    else (scan (isTwin es x) es.length 0, 0)
/-- Does a transaction that is open in the first h entries begin there? -/
abbrev begins (es : List Ent) (h i : Nat) : Prop := 0 < (Ent.at es i).b ∧ (Ent.at es i).k = 1 ∧ (Ent.at es i).t = true ∧ openN es (Ent.at es i).b h = i
/-- What P3.4 answers for a height that may be. -/
def stb (es : List Ent) (h : Nat) : Nat := if scan (begins es h) h 0 < 0 then h else (scan (begins es h) h 0).toNat
abbrev isMark (es : List Ent) (p : Int) (i : Nat) : Prop := (Ent.at es i).b = p ∧ (Ent.at es i).k ≠ 1
/-- Is the entry at a place one that is read, by the first h entries? -/
def seen (es : List Ent) (h i : Nat) : Bool :=
  if (Ent.at es i).k ≠ 1 then false
  else if (Ent.at es i).t = false then true
  else if scan (isMark es (Ent.at es i).b) (h - (i + 1)) (i + 1) < 0 then false
  else (Ent.at es (scan (isMark es (Ent.at es i).b) (h - (i + 1)) (i + 1)).toNat).k == 2
/-- What is read: texts, and the place behind the last one that was looked at. -/
def rdF (es : List Ent) (h fin : Nat) : Nat → Nat → Nat → List ByteArray × Nat
  | 0, i, _ => ([], i)
  | f + 1, i, m =>
    if fin ≤ i ∨ m = 0 then ([], i)
    else if seen es h i then ((Ent.at es i).s :: (rdF es h fin f (i + 1) (m - 1)).1, (rdF es h fin f (i + 1) (m - 1)).2)
    else rdF es h fin f (i + 1) m

/-- Nobody's entries are of no transaction. -/
def NoTx (es : List Ent) : Prop := ∀ e ∈ es, e.b = 0 → e.t = false

theorem scan_none {P : Nat → Prop} [DecidablePred P] {f i : Nat} : scan P f i < 0 ↔ ∀ j, i ≤ j → j < i + f → ¬ P j := by
  induction f generalizing i with
  | zero => simp [scan]; omega
  | succ f ih =>
    simp only [scan]
    by_cases h : P i
    · rw [if_pos h]
      refine ⟨fun hh => by omega, fun hh => absurd h (hh i (Nat.le_refl _) (by omega))⟩
    · rw [if_neg h, ih]
      refine ⟨fun hh j h1 h2 => ?_, fun hh j h1 h2 => hh j (by omega) (by omega)⟩
      by_cases e : j = i
      · subst e; exact h
      · exact hh j (by omega) (by omega)
theorem scan_some {P : Nat → Prop} [DecidablePred P] {f i k : Nat} (hk : i ≤ k) (hf : k < i + f) (hp : P k) (hn : ∀ j, i ≤ j → j < k → ¬ P j) : scan P f i = k := by
  induction f generalizing i with
  | zero => omega
  | succ f ih =>
    simp only [scan]
    by_cases e : k = i
    · subst e; rw [if_pos hp]
    · rw [if_neg (hn i (Nat.le_refl _) (by omega))]
      exact ih (by omega) (by omega) (fun j h1 h2 => hn j (by omega) h2)
theorem scan_cases {P : Nat → Prop} [DecidablePred P] (f i : Nat) : scan P f i = -1 ∨ ∃ k, i ≤ k ∧ k < i + f ∧ P k ∧ (∀ j, i ≤ j → j < k → ¬ P j) ∧ scan P f i = k := by
  induction f generalizing i with
  | zero => exact .inl rfl
  | succ f ih =>
    simp only [scan]
    by_cases h : P i
    · rw [if_pos h]
      exact .inr ⟨i, Nat.le_refl _, by omega, h, fun j h1 h2 => by omega, rfl⟩
    · rw [if_neg h]
      rcases ih (i + 1) with e | ⟨k, h1, h2, h3, h4, h5⟩
      · exact .inl e
      · refine .inr ⟨k, by omega, by omega, h3, fun j j1 j2 => ?_, h5⟩
        by_cases e : j = i
        · subst e; exact h
        · exact h4 j (by omega) j2

theorem markK_bd (es : List Ent) (p : Int) (k : Nat) : -1 ≤ markK es p k ∧ markK es p k < k := by
  induction k with
  | zero => simp [markK]
  | succ k ih =>
    simp only [markK]
    split <;> omega

end Go.Proofs.Ytkakagjffafdiaa
