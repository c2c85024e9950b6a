/-
  What may be, in plain words; the code's own tests of it.
-/
import Derived.Test.YtkakagjffafdiaaPread
namespace Go.Proofs.Ytkakagjffafdiaa
open Go.RowKit
set_option linter.unusedVariables false
set_option linter.unusedSimpArgs false

theorem inR_iff {n l h : Int} : inR n l h = true ↔ l ≤ n ∧ n ≤ h := by unfold inR; simp
theorem inR_no {n l h : Int} : inR n l h = false ↔ ¬ (l ≤ n ∧ n ≤ h) := by unfold inR; simp
theorem oks_iff (p : Prt) (n : Nat) : p.oks n = true ↔ ∀ j, j < n → lft (p.at j).l (p.at j).y = 0 ∧ inR (p.at j).h 0 (p.at j).es.length = true ∧ inR (p.kn.getD j 0) 0 400 = true := by
  induction n with
  | zero => simp [Prt.oks]
  | succ n ih =>
    simp only [Prt.oks, Bool.and_eq_true, ih, Rep.okB, beq_iff_eq]
    refine ⟨fun ⟨h1, ⟨h2, h3⟩, h4⟩ j hj => ?_, fun h => ⟨fun j hj => h j (by omega), ⟨(h n (by omega)).1, (h n (by omega)).2.1⟩, (h n (by omega)).2.2⟩⟩
    by_cases e : j = n
    · subst e; exact ⟨h2, h3, h4⟩
    · exact h1 j (by omega)
theorem some_iff (p : Prt) (n : Nat) : p.some n = true ↔ ∃ j, j < n ∧ p.isr.getD j false = true := by
  induction n with
  | zero => simp [Prt.some]
  | succ n ih =>
    simp only [Prt.some, Bool.or_eq_true, ih]
    refine ⟨fun h => ?_, fun ⟨j, h1, h2⟩ => ?_⟩
    · rcases h with ⟨j, h1, h2⟩ | h
      · exact ⟨j, by omega, h2⟩
      · exact ⟨n, by omega, h⟩
    · by_cases e : j = n
      · subst e; exact .inr h2
      · exact .inl ⟨j, by omega, h2⟩
def Prt.sizesB (p : Prt) : Bool := decide (1 ≤ p.rs.length ∧ p.rs.length ≤ 5 ∧ p.isr.length = p.rs.length ∧ p.kn.length = p.rs.length)
def Prt.leadB (p : Prt) : Bool := p.ld == -1 || (inR p.ld 0 ((p.rs.length : Int) - 1) && (p.at p.ld.toNat).up && p.isr.getD p.ld.toNat false)
def Prt.knB (p : Prt) : Bool := p.kn.all fun x => inR x 0 400
def Prt.numB (p : Prt) : Bool := p.knB && inR p.fw 1 p.rs.length && inR p.ep 0 1073741824 && inR p.bs 0 400
/-- May the replica be by itself? -/
def Rep.fitB (r : Rep) : Bool := lft r.l r.y == 0 && inR r.h 0 r.es.length
/-- What a part that may be is. -/
structure May (p : Prt) : Prop where
  n1 : 1 ≤ p.rs.length
  n5 : p.rs.length ≤ 5
  li : p.isr.length = p.rs.length
  lk : p.kn.length = p.rs.length
  fw : 1 ≤ p.fw ∧ p.fw ≤ p.rs.length
  ep : 0 ≤ p.ep ∧ p.ep ≤ 1073741824
  ld : -1 ≤ p.ld ∧ p.ld ≤ (p.rs.length : Int) - 1
  bs : 0 ≤ p.bs ∧ p.bs ≤ 400
  ok : ∀ j, j < p.rs.length → lft (p.at j).l (p.at j).y = 0 ∧ 0 ≤ (p.at j).h ∧ (p.at j).h ≤ (p.at j).es.length ∧ 0 ≤ p.kn.getD j 0 ∧ p.kn.getD j 0 ≤ 400
  up : 0 ≤ p.ld → p.isr.getD p.ld.toNat false = true ∧ (p.at p.ld.toNat).up = true
  so : ∃ j, j < p.rs.length ∧ p.isr.getD j false = true
theorem may_iff {p : Prt} : p.mayB = true ↔ May p := by
  unfold Prt.mayB Prt.formB Prt.ledB
  simp only [Bool.and_eq_true, Bool.or_eq_true, beq_iff_eq, oks_iff, some_iff, inR_iff, decide_eq_true_eq]
  constructor
  · rintro ⟨⟨⟨⟨⟨⟨⟨⟨⟨a1, a3⟩, a4⟩, a5⟩, a6⟩, a7⟩, a8⟩, b⟩, c⟩, d⟩
    refine ⟨by omega, by omega, a3, a4, a5, a6, a7, a8, fun j hj => ?_, fun h => ?_, d⟩
    · have := b j hj
      exact ⟨this.1, this.2.1.1, this.2.1.2, this.2.2.1, this.2.2.2⟩
    · rcases c with c | c
      · omega
      · exact c
  · rintro ⟨a1, a2, a3, a4, a5, a6, a7, a8, b, c, d⟩
    refine ⟨⟨⟨⟨⟨⟨⟨⟨⟨⟨by omega, by omega⟩, a3⟩, a4⟩, a5⟩, a6⟩, a7⟩, a8⟩, fun j hj => ?_⟩, ?_⟩, d⟩
    · have := b j hj
      exact ⟨this.1, ⟨this.2.1, this.2.2.1⟩, this.2.2.2⟩
    · by_cases h : p.ld < 0
      · exact .inl h
      · exact .inr (c (by omega))
/-- What part.Check answers. -/
def Prt.cfl (p : Prt) : Int := if p.mayB then 0 else 12
theorem cfl_no {p : Prt} (h : p.mayB = false) : p.cfl = 12 := by unfold Prt.cfl; rw [h]; rfl
theorem cfl_yes {p : Prt} (h : p.mayB = true) : p.cfl = 0 := by unfold Prt.cfl; rw [h]; rfl
theorem may_no {p : Prt} (h : ¬ May p) : p.mayB = false := by
  cases e : p.mayB with
  | false => rfl
  | true => exact absurd (may_iff.1 e) h
theorem sizes_iff {p : Prt} : p.sizesB = true ↔ 1 ≤ p.rs.length ∧ p.rs.length ≤ 5 ∧ p.isr.length = p.rs.length ∧ p.kn.length = p.rs.length := by unfold Prt.sizesB; simp
theorem may_sizes {p : Prt} (h : p.sizesB = false) : p.mayB = false := may_no (fun m => by
  have := sizes_iff.2 ⟨m.n1, m.n5, m.li, m.lk⟩
  rw [h] at this
  cases this)
theorem lead_iff {p : Prt} : p.leadB = true ↔ p.ld = -1 ∨ (0 ≤ p.ld ∧ p.ld ≤ (p.rs.length : Int) - 1) ∧ (p.at p.ld.toNat).up = true ∧ p.isr.getD p.ld.toNat false = true := by
  unfold Prt.leadB
  simp only [Bool.or_eq_true, beq_iff_eq, Bool.and_eq_true, inR_iff, and_assoc]
theorem may_lead {p : Prt} (h : p.leadB = false) : p.mayB = false := may_no (fun m => by
  have : p.leadB = true := lead_iff.2 (by
    have := m.ld
    by_cases e : p.ld = -1
    · exact .inl e
    · exact .inr ⟨by omega, (m.up (by omega)).2, (m.up (by omega)).1⟩)
  rw [h] at this
  cases this)
theorem kn_iff {p : Prt} : p.knB = true ↔ ∀ j, j < p.kn.length → 0 ≤ p.kn.getD j 0 ∧ p.kn.getD j 0 ≤ 400 := by
  unfold Prt.knB
  rw [List.all_eq_true]
  refine ⟨fun h j hj => ?_, fun h x hx => ?_⟩
  · have := inR_iff.1 (h _ (List.getElem_mem hj))
    simpa [List.getD, hj] using this
  · obtain ⟨j, hj, rfl⟩ := List.mem_iff_getElem.1 hx
    have := h j hj
    rw [inR_iff]
    simpa [List.getD, hj] using this
theorem may_num {p : Prt} (h : p.numB = false) : p.mayB = false := may_no (fun m => by
  have : p.numB = true := by
    unfold Prt.numB
    simp only [Bool.and_eq_true, inR_iff]
    exact ⟨⟨⟨kn_iff.2 (fun j hj => by have := m.ok j (by rw [← m.lk]; exact hj); exact ⟨this.2.2.2.1, this.2.2.2.2⟩), m.fw⟩, m.ep⟩, m.bs⟩
  rw [h] at this
  cases this)
def hasB (bs : List Bool) : Bool := bs.contains true
theorem contains_iff {bs : List Bool} : hasB bs = true ↔ ∃ j, j < bs.length ∧ bs.getD j false = true := by
  unfold hasB
  rw [List.contains_iff_mem, List.mem_iff_getElem]
  refine ⟨fun ⟨j, hj, e⟩ => ⟨j, hj, by simp [List.getD, hj, e]⟩, fun ⟨j, hj, e⟩ => ⟨j, hj, by simpa [List.getD, hj] using e⟩⟩
theorem may_some {p : Prt} (h : hasB p.isr = false) : p.mayB = false := may_no (fun m => by
  obtain ⟨j, h1, h2⟩ := m.so
  have : hasB p.isr = true := contains_iff.2 ⟨j, by rw [m.li]; exact h1, h2⟩
  rw [h] at this
  cases this)
theorem may_fit {p : Prt} (k : Nat) (hk : k < p.rs.length) (h : (p.at k).fitB = false) : p.mayB = false := may_no (fun m => by
  have := m.ok k hk
  have : (p.at k).fitB = true := by
    unfold Rep.fitB
    simp only [Bool.and_eq_true, beq_iff_eq, inR_iff]
    exact ⟨this.1, this.2.1, this.2.2.1⟩
  rw [h] at this
  cases this)
theorem may_all {p : Prt} (h1 : p.sizesB = true) (h2 : p.leadB = true) (h3 : p.numB = true) (h4 : hasB p.isr = true) (h5 : ∀ k, k < p.rs.length → (p.at k).fitB = true) : p.mayB = true := by
  obtain ⟨a1, a2, a3, a4⟩ := sizes_iff.1 h1
  unfold Prt.numB at h3
  simp only [Bool.and_eq_true, inR_iff, kn_iff] at h3
  obtain ⟨⟨⟨b1, b2⟩, b3⟩, b4⟩ := h3
  obtain ⟨j, c1, c2⟩ := contains_iff.1 h4
  refine may_iff.2 ⟨a1, a2, a3, a4, b2, b3, ?_, b4, fun j hj => ?_, fun h => ?_, ⟨j, by omega, c2⟩⟩
  · rcases lead_iff.1 h2 with h | h <;> omega
  · have := h5 j hj
    unfold Rep.fitB at this
    simp only [Bool.and_eq_true, beq_iff_eq, inR_iff] at this
    exact ⟨this.1, this.2.1, this.2.2, b1 j (by omega)⟩
  · rcases lead_iff.1 h2 with h | h
    · omega
    · exact ⟨h.2.2, h.2.1⟩

end Go.Proofs.Ytkakagjffafdiaa
