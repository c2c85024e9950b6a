/-
  A slice of entries from a place on.
-/
import Derived.Test.YtdpiijndnefahaaAview
namespace Go.Proofs.Ytdpiijndnefahaa
open Go.RowKit
set_option linter.unusedVariables false

theorem at_drop (es : List Ent) (k i : Nat) : Ent.at (es.drop k) i = Ent.at es (k + i) := by simp [Ent.at, List.getD]
theorem RdX.drop {w : World} {g off cap : Nat} {es : List Ent} (h : RdX w (.slice (some ⟨g, off, none⟩) es.length cap) es) (k : Nat) (hk : k < es.length) : RdX w (.slice (some ⟨g, off + k * 7, none⟩) (es.length - k) (cap - k)) (es.drop k) := by
  obtain ⟨ao, c, e, h1, h2, h4, h3⟩ := h
  simp only [Value.slice.injEq] at e
  obtain ⟨rfl, _, rfl⟩ := e
  obtain ⟨g', off', e', hg⟩ := h3 (by omega)
  simp only [Option.some.injEq, Addr.mk.injEq] at e'
  obtain ⟨rfl, rfl, _⟩ := e'
  refine ⟨_, _, by rw [List.length_drop], by rw [List.length_drop]; omega, by omega, fun h => by simp at h, fun _ => ⟨g, off + k * 7, rfl, fun i hi j hj => ?_⟩⟩
  rw [List.length_drop] at hi
  have := hg (k + i) (by omega) j hj
  rw [List.getElem_drop, ← this]
  congr 2
  omega

end Go.Proofs.Ytdpiijndnefahaa
