/-
  A slice of numbers that comes in, opened.
-/
import Derived.Test.YtjhpfnogdjpbmaaOpenG
namespace Go.Proofs.Ytjhpfnogdjpbmaa
open Go.ChangeShapes Go.WideShapes Go.ChangeAt Go.RowKit
set_option maxRecDepth 100000

theorem open_intsl {H : Type} {enc : TypeId × Value → H} {W : World} {base : Nat} {held : Bool} {r : Reach} {b0 : Nat} {v : Value} {d : DataW H} {p : List MemPlace}
    (hv : Value.okWide Try.prog W r b0 54 v) (h : DataW.Trod enc Try.prog W base (fun _ => true) held 54 v d p) :
    ∃ l : List Int, RdV W v (ints l) ∧ (∀ n ∈ l, (Lit.int .i64 n).wf = true) ∧ True := by
  obtain ⟨a0, len0, cap0, rfl⟩ := okWide_slice Try.underlying54 hv
  obtain ⟨fuel, hf⟩ := h
  rcases open_ints Try.underlying54 Try.underlying3 (by kernel_rfl) hf with ⟨hcs, _⟩ | ⟨x, l, c, zs, hcs, _, hl, hm, hz, hx, hcell, hwz⟩
  · simp [Value.cells] at hcs
    obtain ⟨rfl, rfl, rfl⟩ := hcs
    exact ⟨[], ⟨none, 0, rfl, by simp [ints], by simp [maxLen], fun _ => rfl, fun h => by simp [ints] at h⟩, fun n hn => by simp at hn, trivial⟩
  · simp [Value.cells] at hcs
    obtain ⟨rfl, rfl, rfl⟩ := hcs
    simp only [if_true] at hz
    have htl : (ints (zs.take len0)).length = len0 := by simp [ints]; omega
    refine ⟨zs.take len0, ⟨some x, cap0, by rw [htl], by omega, hm, (fun h => by simp at h), fun h0 => ?_⟩, fun n hn => hwz n (List.mem_of_mem_take hn), trivial⟩
    rw [htl] at h0
    obtain ⟨b, off, spot⟩ := x
    have hc := hcell 0 (by omega)
    have hspot : spot = none := by simpa [Addr.add] using World.cell?_spot hc
    subst hspot
    refine ⟨b, off, rfl, fun i hi => ?_⟩
    have hi' : i < len0 := by rw [htl] at hi; exact hi
    have := hcell i (by omega)
    rw [Addr.add_lit] at this
    rw [this]
    simp [ints, List.getD, show i < zs.length by omega]

end Go.Proofs.Ytjhpfnogdjpbmaa
