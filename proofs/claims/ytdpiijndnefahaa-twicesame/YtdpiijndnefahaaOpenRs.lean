/-
  A slice of raw numbers that comes in, opened.
-/
import Derived.Test.YtdpiijndnefahaaOpenR
import Derived.Test.YtdpiijndnefahaaAraw
import Derived.Deep.Slices
namespace Go.Proofs.Ytdpiijndnefahaa
open Go.ChangeShapes Go.WideShapes Go.ChangeAt Go.RowKit Go.Deep
set_option maxRecDepth 100000

theorem list_of_fun {α : Type} (n : Nat) (Q : Nat → α → Prop) (h : ∀ i, i < n → ∃ x, Q i x) : ∃ l : List α, l.length = n ∧ ∀ i, (hi : i < l.length) → Q i (l[i]'hi) := by
  induction n with
  | zero => exact ⟨[], rfl, fun i hi => by simp at hi⟩
  | succ n ih =>
    obtain ⟨l, hl, hq⟩ := ih (fun i hi => h i (by omega))
    obtain ⟨x, hx⟩ := h n (by omega)
    refine ⟨l ++ [x], by simp [hl], fun i hi => ?_⟩
    by_cases hin : i < l.length
    · rw [List.getElem_append_left hin]
      exact hq i hin
    · have : i = l.length := by simp at hi; omega
      subst this
      simp
      rw [hl]
      exact hx

theorem open_raws {H : Type} {enc : TypeId × Value → H} {W : World} {base : Nat} {held : Bool} {r : Reach} {b0 : Nat} {v : Value} {d : DataW H} {p : List MemPlace}
    (hv : Value.okWide Try.prog W r b0 39 v) (h : DataW.Trod enc Try.prog W base (fun _ => true) held 39 v d p) :
    ∃ rs : List Raw4, RdR W v rs ∧ (rs.length : Int) ≤ 9223372036854775807 := by
  obtain ⟨a0, len0, cap0, rfl⟩ := okWide_slice Try.underlying39 hv
  obtain ⟨fuel, hf⟩ := h
  rcases open_slice Try.underlying39 hf with ⟨hcs, _⟩ | ⟨x, l, c, m, n, D, Pl, hcs, _, hl, hm, hmm, hx, hcell⟩
  · simp [Value.cells] at hcs
    obtain ⟨rfl, rfl, rfl⟩ := hcs
    exact ⟨[], ⟨fun r hr => by simp at hr, none, 0, rfl, fun h => by simp at h⟩, by simp⟩
  · simp [Value.cells] at hcs
    obtain ⟨rfl, rfl, rfl⟩ := hcs
    simp only [if_true] at hmm
    subst hmm
    rw [cellsRaw] at hcell
    have key : ∀ i, i < len0 → ∃ q : Raw4, q.ok ∧ W.cell? ((x.add (i * 4)).add 0) = some (.int .i64 q.k) ∧ W.cell? ((x.add (i * 4)).add 1) = some (.int .i64 q.a) ∧ W.cell? ((x.add (i * 4)).add 2) = some (.int .i64 q.b) ∧ W.cell? ((x.add (i * 4)).add 3) = some (.int .i64 q.c) := by
      intro i hi
      obtain ⟨cs', h1, h2⟩ := hcell i (by omega)
      obtain ⟨_, hlen, hc⟩ := World.cells?_some h1
      match cs', hlen with
      | [c0, c1, c2, c3], _ =>
        obtain ⟨qa, qb, qc, qd, rfl, rfl, rfl, rfl, hw⟩ := raw_cells h2
        refine ⟨⟨qa, qb, qc, qd⟩, ⟨i64_bd hw.1, i64_bd hw.2.1, i64_bd hw.2.2.1, i64_bd hw.2.2.2⟩, ?_, ?_, ?_, ?_⟩
        · simpa using hc 0 (by omega)
        · simpa using hc 1 (by omega)
        · simpa using hc 2 (by omega)
        · simpa using hc 3 (by omega)
    obtain ⟨rs, hrl, hq⟩ := list_of_fun len0 _ key
    refine ⟨rs, ⟨fun r hr => ?_, some x, m, by rw [hrl], fun h0 => ?_⟩, by unfold maxLen at hm; omega⟩
    · obtain ⟨i, hi, rfl⟩ := List.getElem_of_mem hr
      exact (hq i hi).1
    · obtain ⟨b, off, spot⟩ := x
      have hspot : spot = none := by
        have := (hq 0 h0).2.1
        simpa [Addr.add] using World.cell?_spot this
      subst hspot
      refine ⟨b, off, rfl, fun i hi => ?_⟩
      obtain ⟨_, q0, q1, q2, q3⟩ := hq i hi
      simp only [Addr.add_lit] at q0 q1 q2 q3
      exact ⟨by simpa using q0, q1, q2, q3⟩

end Go.Proofs.Ytdpiijndnefahaa
