/-
  The order of names and of those that are the same; the parts that come to each (P6.2): plain.
-/
import Derived.Test.YtmkbbhdmfpjfdaaGpure
import Derived.Lib.Bytealg
namespace Go.Proofs.Ytmkbbhdmfpjfdaa
open Go.RowKit
set_option linter.unusedVariables false
set_option linter.unusedSimpArgs false

theorem toList_data (a : ByteArray) : a.toList = a.data.toList := by
  have h : ∀ (n i : Nat) (r : List UInt8), a.size - i = n → ByteArray.toList.loop a i r = r.reverse ++ a.data.toList.drop i := by
    intro n
    induction n with
    | zero =>
      intro i r hi
      unfold ByteArray.toList.loop
      rw [if_neg (by omega), List.drop_eq_nil_of_le (by rw [Array.length_toList]; show a.size ≤ i; omega), List.append_nil]
    | succ n ih =>
      intro i r hi
      have hlt : i < a.data.toList.length := by rw [Array.length_toList]; show i < a.size; omega
      unfold ByteArray.toList.loop
      rw [if_pos (by omega), ih (i + 1) _ (by omega), List.drop_eq_getElem_cons hlt]
      have e : a.get! i = a.data.toList[i] := by
        have h2 : i < a.data.size := by rw [Array.length_toList] at hlt; exact hlt
        show a.data[i]! = _
        rw [getElem!_pos a.data i h2]
        simp
      simp [e]
  have := h (a.size - 0) 0 [] rfl
  rw [List.drop_zero] at this
  exact this
theorem less_eq : ∀ (x y : List UInt8), Op.bytesLess x y = decide (x < y)
  | [], [] => by simp [Op.bytesLess]
  | _ :: _, [] => by simp [Op.bytesLess]
  | [], _ :: _ => by simp [Op.bytesLess]
  | a :: x, b :: y => by
    rw [Op.bytesLess, less_eq x y]
    simp only [List.cons_lt_cons_iff]
    by_cases h1 : a < b <;> by_cases h2 : a = b <;> by_cases h3 : x < y <;> simp [h1, h2, h3]
theorem cmpB_lt : ∀ (x y : List UInt8), Lib.compareBytes x y < 0 ↔ x < y
  | [], [] => by simp [Lib.compareBytes]
  | _ :: _, [] => by simp [Lib.compareBytes]
  | [], _ :: _ => by simp [Lib.compareBytes]
  | a :: x, b :: y => by
    rw [Lib.compareBytes, List.cons_lt_cons_iff]
    by_cases h1 : a < b
    · simp [h1]
    · by_cases h2 : b < a
      · rw [if_neg h1, if_pos h2]
        have : ¬ a = b := fun e => by subst e; exact h1 h2
        simp [h1, this]
      · rw [if_neg h1, if_neg h2, cmpB_lt x y]
        have : a = b := UInt8.le_antisymm (UInt8.not_lt.1 h2) (UInt8.not_lt.1 h1)
        simp [h1, this]
theorem lt_irr (x : List UInt8) : ¬ x < x := List.lt_irrefl x
theorem lt_tr {x y z : List UInt8} (h : x < y) (k : y < z) : x < z := List.lt_trans h k
theorem lt_tri : ∀ (x y : List UInt8), x < y ∨ x = y ∨ y < x
  | [], [] => by simp
  | _ :: _, [] => by simp
  | [], _ :: _ => by simp
  | a :: x, b :: y => by
    simp only [List.cons_lt_cons_iff, List.cons.injEq]
    rcases lt_tri x y with h | h | h
    · by_cases h1 : a < b
      · simp [h1]
      · by_cases h2 : b < a
        · simp [h2]
        · have : a = b := UInt8.le_antisymm (UInt8.not_lt.1 h2) (UInt8.not_lt.1 h1)
          simp [this, h]
    · by_cases h1 : a < b
      · simp [h1]
      · by_cases h2 : b < a
        · simp [h2]
        · have : a = b := UInt8.le_antisymm (UInt8.not_lt.1 h2) (UInt8.not_lt.1 h1)
          simp [this, h]
    · by_cases h1 : a < b
      · simp [h1]
      · by_cases h2 : b < a
        · simp [h2]
        · have : a = b := UInt8.le_antisymm (UInt8.not_lt.1 h2) (UInt8.not_lt.1 h1)
          simp [this, h]
/-- A name's bytes. -/
def naL (ns : List ByteArray) (i : Nat) : List UInt8 := (ns.getD i ⟨#[]⟩).toList
/-- Does k come ahead of i? -/
def Bef (ns : List ByteArray) (k i : Nat) : Prop := naL ns k < naL ns i ∨ (naL ns k = naL ns i ∧ k < i)
theorem bef_irr (ns : List ByteArray) (i : Nat) : ¬ Bef ns i i := by
  rintro (h | ⟨_, h⟩)
  · exact lt_irr _ h
  · omega
theorem bef_tr {ns : List ByteArray} {i j k : Nat} (h : Bef ns i j) (h2 : Bef ns j k) : Bef ns i k := by
  rcases h with h | ⟨e, h⟩ <;> rcases h2 with h2 | ⟨e2, h2⟩
  · exact .inl (lt_tr h h2)
  · exact .inl (e2 ▸ h)
  · exact .inl (e ▸ h2)
  · exact .inr ⟨e.trans e2, by omega⟩
theorem bef_asym {ns : List ByteArray} {i j : Nat} (h : Bef ns i j) : ¬ Bef ns j i := fun h2 => bef_irr ns i (bef_tr h h2)
theorem bef_tri (ns : List ByteArray) {i j : Nat} (h : i ≠ j) : Bef ns i j ∨ Bef ns j i := by
  rcases lt_tri (naL ns i) (naL ns j) with h1 | h1 | h1
  · exact .inl (.inl h1)
  · rcases Nat.lt_or_ge i j with h2 | h2
    · exact .inl (.inr ⟨h1, h2⟩)
    · exact .inr (.inr ⟨h1.symm, by omega⟩)
  · exact .inr (.inl h1)
abbrev befD (ns : List ByteArray) (k i : Nat) : Decidable (Bef ns k i) := inferInstanceAs (Decidable (_ ∨ _))
/-- .. as a test. -/
def befB (ns : List ByteArray) (k i : Nat) : Bool := decide (naL ns k < naL ns i) || (naL ns k == naL ns i && decide (k < i))
theorem befB_iff {ns : List ByteArray} {k i : Nat} : befB ns k i = true ↔ Bef ns k i := by
  unfold befB Bef
  simp
/-- How many come ahead of i. -/
def ahead (ns : List ByteArray) (i : Nat) : Nat := (List.range ns.length).countP (fun k => befB ns k i)
theorem ahead_at {ns : List ByteArray} {l : List Nat} (hp : l.Perm (List.range ns.length)) (hs : l.Pairwise (Bef ns)) {k : Nat} (hk : k < l.length) : ahead ns (l[k]'hk) = k := by
  unfold ahead
  rw [← hp.countP_eq]
  rw [List.pairwise_iff_getElem] at hs
  have e : l = l.take k ++ l[k]'hk :: l.drop (k + 1) := by rw [← List.drop_eq_getElem_cons hk, List.take_append_drop]
  obtain ⟨x, hx⟩ : ∃ x, l[k]'hk = x := ⟨_, rfl⟩
  have e' : l = l.take k ++ x :: l.drop (k + 1) := by rw [← hx]; exact e
  rw [hx]
  have h1 : (l.take k).countP (fun j => befB ns j x) = k := by
    rw [List.countP_eq_length.2, List.length_take]
    · omega
    · intro y hy
      obtain ⟨j, hj, rfl⟩ := List.mem_iff_getElem.1 hy
      rw [List.length_take] at hj
      rw [List.getElem_take]
      have := hs j k (by omega) hk (by omega)
      rw [hx] at this
      exact befB_iff.2 this
  have h2 : (l.drop (k + 1)).countP (fun j => befB ns j x) = 0 := by
    rw [List.countP_eq_zero]
    intro y hy
    obtain ⟨j, hj, rfl⟩ := List.mem_iff_getElem.1 hy
    rw [List.length_drop] at hj
    rw [List.getElem_drop]
    have := hs k (k + 1 + j) hk (by omega) (by omega)
    rw [hx] at this
    intro hc
    exact bef_asym this (befB_iff.1 hc)
  have h3 : befB ns x x = false := by
    cases h : befB ns x x with
    | false => rfl
    | true => exact absurd (befB_iff.1 h) (bef_irr ns x)
  rw [e', List.countP_append, List.countP_cons, h1, h2, h3]
  simp
theorem ahead_lt {ns : List ByteArray} {i : Nat} (hi : i < ns.length) : ahead ns i < ns.length := by
  unfold ahead
  have h1 := List.countP_le_length (p := fun k => befB ns k i) (l := List.range ns.length)
  rw [List.length_range] at h1
  rcases Nat.lt_or_ge ((List.range ns.length).countP (fun k => befB ns k i)) ns.length with h | h
  · exact h
  · exfalso
    have h2 : (List.range ns.length).countP (fun k => befB ns k i) = (List.range ns.length).length := by rw [List.length_range]; omega
    rw [List.countP_eq_length] at h2
    exact bef_irr ns i (befB_iff.1 (h2 i (List.mem_range.2 hi)))
/-- The parts of who comes when a are ahead, of n. -/
def dealt (a n : Nat) (p : Int) : List Int := if p ≤ a then [] else (List.range ((p - 1 - a) / n + 1).toNat).map (fun j => ((a + j * n : Nat) : Int))
/-- What comes to each. -/
def asg (ns : List ByteArray) (p : Int) : List (List Int) := (List.range ns.length).map (fun i => dealt (ahead ns i) ns.length p)
theorem asg_len (ns : List ByteArray) (p : Int) : (asg ns p).length = ns.length := by simp [asg]
theorem asg_at (ns : List ByteArray) (p : Int) (i : Nat) (h : i < ns.length) (h' : i < (asg ns p).length) : (asg ns p)[i]'h' = dealt (ahead ns i) ns.length p := by simp [asg]
/-- .. where so many have had their turn. -/
def asgTo (ns : List ByteArray) (p : Int) (k : Nat) : List (List Int) := (List.range ns.length).map (fun i => if ahead ns i < k then dealt (ahead ns i) ns.length p else [])
theorem asgTo_len (ns : List ByteArray) (p : Int) (k : Nat) : (asgTo ns p k).length = ns.length := by simp [asgTo]
theorem asgTo_zero (ns : List ByteArray) (p : Int) : asgTo ns p 0 = List.replicate ns.length [] := by
  unfold asgTo
  apply List.ext_getElem
  · simp
  · intro i h1 h2
    simp
theorem asgTo_all (ns : List ByteArray) (p : Int) : asgTo ns p ns.length = asg ns p := by
  unfold asgTo asg
  apply List.map_congr_left
  intro i hi
  rw [if_pos (ahead_lt (List.mem_range.1 hi))]
theorem asgTo_set {ns : List ByteArray} {l : List Nat} (hp : l.Perm (List.range ns.length)) (hs : l.Pairwise (Bef ns)) {k : Nat} (hk : k < l.length) (p : Int) : (asgTo ns p k).set (l[k]'hk) (dealt k ns.length p) = asgTo ns p (k + 1) := by
  have hl : l.length = ns.length := by rw [hp.length_eq, List.length_range]
  have hx : l[k]'hk < ns.length := List.mem_range.1 (hp.mem_iff.1 (List.getElem_mem hk))
  apply List.ext_getElem
  · simp [asgTo_len]
  · intro i h1 h2
    rw [asgTo_len] at h2
    rw [List.getElem_set]
    have ha := ahead_at hp hs hk
    by_cases e : l[k]'hk = i
    · rw [if_pos e]
      subst e
      simp [asgTo, ha]
    · rw [if_neg e]
      simp only [asgTo, List.getElem_map, List.getElem_range]
      have hm : i ∈ l := hp.mem_iff.2 (List.mem_range.2 h2)
      obtain ⟨j, hj, rfl⟩ := List.mem_iff_getElem.1 hm
      rw [ahead_at hp hs hj]
      have hjk : j ≠ k := fun h => e (by subst h; rfl)
      by_cases h3 : j < k
      · rw [if_pos h3, if_pos (by omega)]
      · rw [if_neg h3, if_neg (by omega)]
theorem dealt_len {a n : Nat} {p : Int} (hn : 0 < n) (hp : (a : Int) < p) : (dealt a n p).length = ((p - 1 - a) / n + 1).toNat := by
  unfold dealt
  rw [if_neg (by omega)]
  simp
theorem dealt_at {a n : Nat} {p : Int} (i : Nat) (h : i < (dealt a n p).length) : (dealt a n p)[i]'h = ((a + i * n : Nat) : Int) := by
  by_cases hp : p ≤ a
  · have e : dealt a n p = [] := by unfold dealt; rw [if_pos hp]
    rw [e] at h
    simp at h
  · have e : dealt a n p = (List.range ((p - 1 - a) / n + 1).toNat).map (fun j => ((a + j * n : Nat) : Int)) := by unfold dealt; rw [if_neg hp]
    simp only [e, List.getElem_map, List.getElem_range]

end Go.Proofs.Ytmkbbhdmfpjfdaa
