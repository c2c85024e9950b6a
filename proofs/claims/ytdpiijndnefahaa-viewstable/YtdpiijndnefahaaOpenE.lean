/-
  A slice of entries that comes in, opened: it reads as a list of entries, no longer than the form's own reach.
-/
import Derived.Test.YtdpiijndnefahaaOpen
import Derived.Test.YtdpiijndnefahaaOpenG
import Derived.Test.YtdpiijndnefahaaAview
import Derived.SizedLaws
import Derived.Deep.Slices
namespace Go.Proofs.Ytdpiijndnefahaa
open Go.ChangeShapes Go.WideShapes Go.ChangeAt Go.RowKit Go.Deep
set_option maxRecDepth 100000

theorem bytesEntry : Try.prog.bytesOf 24 = 64 := by kernel_rfl


theorem open_entries {H : Type} {enc : TypeId × Value → H} {W : World} {base : Nat} {held : Bool} {r : Reach} {b0 : Nat} {v : Value} {d : DataW H} {p : List MemPlace}
    (hv : Value.okWide Try.prog W r b0 22 v) (h : DataW.Trod enc Try.prog W base (fun _ => true) held 22 v d p) :
    ∃ es : List Ent, RdX W v es ∧ (es = [] ∨ ∃ elems spare, d = .slice elems spare ∧ es.length ≤ elems.length + spare.length) := by
  obtain ⟨a0, len0, cap0, rfl⟩ := okWide_slice Try.underlying22 hv
  obtain ⟨fuel, hf⟩ := h
  rcases open_slice Try.underlying22 hf with ⟨hcs, _⟩ | ⟨x, l, c, m, n, D, Pl, hcs, _, hl, hm, hmm, hx, hcell⟩
  · simp [Value.cells] at hcs
    obtain ⟨rfl, rfl, rfl⟩ := hcs
    exact ⟨[], ⟨none, 0, rfl, by simp, by simp [maxLen], fun _ => rfl, fun h => by simp at h⟩, .inl rfl⟩
  · simp [Value.cells] at hcs
    obtain ⟨rfl, rfl, rfl⟩ := hcs
    simp only [if_true] at hmm
    subst hmm
    rw [cellsEntry] at hcell
    have key : ∀ i, i < len0 → ∃ q : Ent, ∀ j, j < 7 → W.cell? ((x.add (i * 7)).add j) = q.cells[j]? := by
      intro i hi
      obtain ⟨cs', h1, h2⟩ := hcell i (by omega)
      obtain ⟨_, hlen, hc⟩ := World.cells?_some h1
      match cs', hlen with
      | [c0, c1, c2, c3, c4, c5, c6], _ =>
        obtain ⟨a, b, c, d, k, t, s, rfl, rfl, rfl, rfl, rfl, rfl, rfl, hw⟩ := entry_cells h2
        refine ⟨⟨a, b, c, d, k, t, s⟩, fun j hj => ?_⟩
        have := hc j (by omega)
        rw [this]
        rfl
    obtain ⟨es, hrl, hq⟩ := list_by len0 _ key
    refine ⟨es, ⟨some x, m, by rw [hrl], by omega, hm, fun h => by simp at h, fun h0 => ?_⟩, .inr ?_⟩
    · obtain ⟨b, off, spot⟩ := x
      have hspot : spot = none := by
        have := hq 0 h0 0 (by omega)
        have h' : W.cell? ((Addr.mk b off spot).add (0 * 7) |>.add 0) = some (.int .i64 (es[0]'h0).a) := by rw [this]; rfl
        simpa [Addr.add] using World.cell?_spot h'
      subst hspot
      refine ⟨b, off, rfl, fun i hi j hj => ?_⟩
      have := hq i hi j hj
      simp only [Addr.add_lit] at this
      exact this
    · have := (Prod.mk.injEq .. ▸ hx : d = _ ∧ p = _).1
      exact ⟨_, _, this, by simp; omega⟩

theorem entries_reach {H : Type} {ts : List TypeId} {ds : List (DataW H)} (h : (DataW.weightsEach Try.prog ts ds).all (· ≤ reachBytes) = true) {j : Nat} {d : DataW H} (ht : ts[j]? = some 22) (hd : ds[j]? = some d) {es : List Ent}
    (hl : es = [] ∨ ∃ elems spare, d = .slice elems spare ∧ es.length ≤ elems.length + spare.length) : (es.length : Int) + 1 ≤ 2199023255552 := by
  rcases hl with rfl | ⟨elems, spare, rfl, h2⟩
  · simp
  · have := sized_slice h ht hd Try.underlying22
    rw [bytesEntry] at this
    unfold reachBytes at this
    omega

end Go.Proofs.Ytdpiijndnefahaa
