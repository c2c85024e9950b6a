/-
  Slices of one cell an element, opened; what serves every seat's openings.
-/
import Derived.Test.YtmkbbhdmfpjfdaaOpen
import Derived.Test.YtmkbbhdmfpjfdaaErow
import Derived.SizedLaws
import Derived.Deep.Slices
namespace Go.Proofs.Ytmkbbhdmfpjfdaa
open Go.ChangeShapes Go.WideShapes Go.ChangeAt Go.RowKit Go.Deep
set_option maxRecDepth 100000
set_option linter.unusedVariables false
set_option linter.unusedSimpArgs false

theorem cellsSi : Try.prog.cellsOf 53 = 1 := by kernel_rfl

theorem bytesIn : Try.prog.bytesOf 3 = 8 := by kernel_rfl

theorem array7' {α : Type} {a : Array α} (h : a.size = 7) : ∃ x0 x1 x2 x3 x4 x5 x6, a = #[x0, x1, x2, x3, x4, x5, x6] := by
  obtain ⟨l⟩ := a
  match l, h with
  | [x0, x1, x2, x3, x4, x5, x6], _ => exact ⟨x0, x1, x2, x3, x4, x5, x6, rfl⟩

theorem list_by {α : Type} (n : Nat) (Q : Nat → α → Prop) (h : ∀ i, i < n → ∃ x, Q i x) : ∃ l : List α, l.length = n ∧ ∀ i, (hi : i < l.length) → Q i (l[i]'hi) := by
  induction n with
  | zero => exact ⟨[], rfl, fun i hi => by simp at hi⟩
  | succ n ih =>
    obtain ⟨l, hl, hq⟩ := ih (fun i hi => h i (by omega))
    obtain ⟨x, hx⟩ := h n (by omega)
    refine ⟨l ++ [x], by simp [hl], fun i hi => ?_⟩
    by_cases hin : i < l.length
    · rw [List.getElem_append_left hin]
      exact hq i hin
    · have : i = l.length := by simp at hi; omega
      subst this
      simp
      rw [hl]
      exact hx

/-- A slice of one cell an element, each of which reads. -/
theorem slice_cells {H : Type} {enc : TypeId × Value → H} {W : World} {base : Nat} {held : Bool} {fuel : Nat} {c0 : Value} {x : DataW H × List MemPlace} {t e : TypeId} (ht : Try.prog.underlying t = some (.slice e)) (he : Try.prog.cellsOf e = 1)
    (hf : DataW.trod enc Try.prog W base (fun _ => true) held fuel t [c0] = some x) (R : Value → Prop) (hR : ∀ n c y, DataW.trod enc Try.prog W base (fun _ => true) held n e [c] = some y → R c) :
    ∃ xs : List Value, RdV W c0 xs ∧ (∀ v ∈ xs, R v) ∧ ∀ B, (∀ n ∈ x.1.weights Try.prog t, n ≤ B) → xs.length * Try.prog.bytesOf e ≤ B := by
  rcases open_slice ht hf with ⟨hcs, _⟩ | ⟨a, l, c, m, n, D, Pl, hcs, _, hl, hm, hmm, hx, hcell⟩
  · simp at hcs
    subst hcs
    exact ⟨[], ⟨none, 0, rfl, by simp, by simp [maxLen], fun _ => rfl, fun h => by simp at h⟩, fun v hv => by simp at hv, fun B hB => by simp⟩
  · simp at hcs
    subst hcs
    simp only [if_true] at hmm
    subst hmm
    rw [he] at hcell
    have key : ∀ i, i < l → ∃ q : Value, W.cell? ((a.add (i * 1)).add 0) = some q ∧ R q := by
      intro i hi
      obtain ⟨cs', h1, h2⟩ := hcell i (by omega)
      obtain ⟨_, hlen, hc⟩ := World.cells?_some h1
      match cs', hlen with
      | [c0], _ =>
        have := hc 0 (by omega)
        exact ⟨c0, by rw [this]; rfl, hR _ _ _ h2⟩
    obtain ⟨xs, hrl, hq⟩ := list_by l _ key
    refine ⟨xs, ⟨some a, m, by rw [hrl], by omega, hm, fun h => by simp at h, fun h0 => ?_⟩, fun v hv => ?_, fun B hB => ?_⟩
    · obtain ⟨b, off, spot⟩ := a
      have h' := (hq 0 h0).1
      have hspot : spot = none := by simpa [Addr.add] using World.cell?_spot h'
      subst hspot
      refine ⟨b, off, rfl, fun i hi => ?_⟩
      have := (hq i hi).1
      simp only [Addr.add_lit, Nat.mul_one, Nat.add_zero] at this
      exact this
    · obtain ⟨i, hi, rfl⟩ := List.mem_iff_getElem.1 hv
      exact (hq i hi).2
    · have := hB ((((List.range l).map D).length + ((List.range (m - l)).map fun j => D (l + j)).length) * Try.prog.bytesOf e) (by
        rw [hx]
        simp [DataW.weights, ht])
      simp only [List.length_map, List.length_range] at this
      rw [hrl]
      exact Nat.le_trans (Nat.mul_le_mul_right _ (by omega)) this

theorem map_of {α : Type} (f : α → Value) (xs : List Value) (h : ∀ v ∈ xs, ∃ x, v = f x) : ∃ l : List α, xs = l.map f := by
  induction xs with
  | nil => exact ⟨[], rfl⟩
  | cons v xs ih =>
    obtain ⟨x, rfl⟩ := h v (by simp)
    obtain ⟨l, rfl⟩ := ih (fun u hu => h u (by simp [hu]))
    exact ⟨x :: l, rfl⟩

theorem weightsAll_mem {H : Type} {P : Program} {e : TypeId} {l : List (DataW H)} {d : DataW H} (hd : d ∈ l) : ∀ n ∈ d.weights P e, n ∈ DataW.weightsAll P e l := by
  intro n hn
  induction l with
  | nil => simp at hd
  | cons a l ih =>
    simp only [DataW.weightsAll, List.mem_append]
    rcases List.mem_cons.1 hd with rfl | hd
    · exact .inl hn
    · exact .inr (ih hd)

theorem bytesIn' : Try.prog.bytesOf 3 = 8 := by kernel_rfl

/-- One cell that reads as a slice of numbers. -/
theorem ints_cell {H : Type} {enc : TypeId × Value → H} {W : World} {base : Nat} {held : Bool} {fuel : Nat} {c0 : Value} {x : DataW H × List MemPlace}
    (hf : DataW.trod enc Try.prog W base (fun _ => true) held fuel 53 [c0] = some x) :
    ∃ l : List Int, RdV W c0 (ints l) ∧ (∀ n ∈ l, (Lit.int .i64 n).wf = true) ∧ ∀ B, (∀ n ∈ x.1.weights Try.prog 53, n ≤ B) → l.length * 8 ≤ B := by
  obtain ⟨kns, hkn, kkn, wkn⟩ := slice_cells Try.underlying53 cellsI hf (fun v => ∃ x, v = Value.int .i64 x ∧ (Lit.int .i64 x).wf = true) (fun n c y hy => by
    obtain ⟨x, e, _, hw⟩ := DataW.trod_int Try.underlying3 hy
    simp at e
    exact ⟨x, e, hw⟩)
  obtain ⟨kn, rfl⟩ := map_of (fun x => Value.int .i64 x) kns (fun v hv => by
    obtain ⟨x, e, _⟩ := kkn v hv
    exact ⟨x, e⟩)
  refine ⟨kn, hkn, fun n hn => ?_, fun B hB => ?_⟩
  · obtain ⟨x, e, hw⟩ := kkn (.int .i64 n) (List.mem_map.2 ⟨n, hn, rfl⟩)
    simp at e
    subst e
    exact hw
  · have := wkn B hB
    rw [bytesIn', List.length_map] at this
    exact this

end Go.Proofs.Ytmkbbhdmfpjfdaa
