/-
  Entries appended to entries, wherever they lie; the law's copy of a slice of entries.
  The walk of the law's own test 'plain'.
-/
import Derived.Test.YtkolelpdedmkeaaAview
import Derived.Laws.AppendOwnNone
namespace Go.Proofs.Ytkolelpdedmkeaa

section
open Go.RowKit
set_option linter.unusedVariables false
set_option linter.unusedSimpArgs false

theorem OwnE.rdX {B : Nat} {v : Value} {es : List Ent} {w : World} (h : OwnE B v es w) : RdX w v es := by
  obtain ⟨h1, h4⟩ := h
  rcases h1.2 with ⟨rfl, h0⟩ | ⟨g, cap, cur, rfl, r2, r3, r4, r5, r6⟩
  · exact ⟨none, 0, by rw [h0], by omega, by unfold maxLen; omega, fun _ => rfl, fun h => by omega⟩
  · refine ⟨_, _, rfl, r4, r5, (fun h => by simp at h), fun _ => ⟨g, 0, rfl, fun i hi j hj => ?_⟩⟩
    have := h1.cellAt (i * 7 + j) (by omega)
    rw [Nat.zero_add, this, flat_get es i j hi hj]

section
variable {w : World} {ops : Array Oper} {rest : List Oper} {o : Oper} {a : Act} {Q : Exit → Act → World → Prop}
theorem wp_appX (hgd : o.guard = none) (s x : Operand)
    (ho : o.op = .call { callee := .builtin .append, args := #[s, x], argTypes := #[56, 56] })
    (B : Nat) (v : Value) (es : List Ent) (hs : a.eval s = v) (hown : OwnE B v es w) (vx : Value) (r : List Ent) (hx : a.eval x = vx) (hr : RdX w vx r) (hlen : es.length + r.length ≤ 2199023255552)
    (h : ∀ v' w', OwnE B v' (es ++ r) w' → Below B w w' → wpList Try.prog ops Q rest (a.put o.dst v') w') :
    wpList Try.prog ops Q (o :: rest) a w := by
  obtain ⟨i, hi, hz0, hz1, hz2⟩ := info_parts infoEntry
  obtain ⟨ao, cap, rfl, h1, h2, h4, h3⟩ := hr
  cases ao with
  | none =>
    have h0 : r.length = 0 := by have := h4 rfl; omega
    have hr0 : r = [] := List.eq_nil_of_length_eq_zero h0
    subst hr0
    obtain rfl := h4 rfl
    refine wpList_append_own_none hgd s x _ ho B _ i 7 Try.underlying56 hi v _ _ hs hown.1 hx ?_
    exact h v w (by simpa using hown) (Below.refl _ _)
  | some ad =>
    have hfl : (r.flatMap Ent.cells).length = r.length * 7 := by
      clear h3 h1 hlen h hx
      induction r with
      | nil => simp
      | cons e r ih => rw [List.flatMap_cons, List.length_append, ih, cells_len, List.length_cons]; omega
    refine wpList_append_own _ hgd s x _ ho B _ i zeroE.val 7 64 Try.underlying56 hi hz0 hz1 hz2 rfl (by decide) v _ _ hs hown.1 ad r.length cap (r.flatMap Ent.cells) hx hfl ?_ ?_ (by unfold maxLen; omega) (by omega) hown.2 ?_
    · intro j u hj
      have hj' : j < r.length * 7 := by
        have := (List.getElem?_eq_some_iff.1 hj).1
        omega
      obtain ⟨g, off, e, hc⟩ := h3 (by omega)
      obtain rfl := Option.some.inj e
      have hd : j = j / 7 * 7 + j % 7 := by omega
      have hq := hc (j / 7) (by omega) (j % 7) (by omega)
      rw [← flat_get r (j / 7) (j % 7) (by omega) (by omega), ← hd, hj, Nat.add_assoc, ← hd] at hq
      rw [Addr.add_lit]
      exact hq
    · intro u hu
      obtain ⟨e, _, hu⟩ := List.mem_flatMap.1 hu
      simp [Ent.cells] at hu
      rcases hu with rfl | rfl | rfl | rfl | rfl | rfl | rfl <;> rfl
    · intro v' w' ho' hg _
      refine h v' w' ⟨by simpa [List.flatMap_append] using ho', Nat.le_trans hown.2 hg.size⟩ ?_
      exact (Below.refl B w).grown hg hown.2 (fun k hk => (hown.1.lt k hk).1)
end

end

section
open Go.RowKit
set_option linter.unusedVariables false
set_option linter.unusedSimpArgs false

abbrev plainE (e : Ent) : Prop := 1 ≤ e.k ∧ e.k ≤ 3 ∧ 0 ≤ e.b ∧ e.b ≤ 1073741824 ∧ 0 ≤ e.c ∧ e.c ≤ 1073741824 ∧ 0 ≤ e.d ∧ e.d ≤ 1073741824
theorem plain_iff (es : List Ent) : Plain es ↔ ∀ i, i < es.length → plainE (Ent.at es i) := by
  constructor
  · intro h i hi
    rw [at_get hi]
    exact h _ (List.getElem_mem hi)
  · intro h e he
    obtain ⟨i, hi, rfl⟩ := List.getElem_of_mem he
    have := h i hi
    rw [at_get hi] at this
    exact this

end

end Go.Proofs.Ytkolelpdedmkeaa
