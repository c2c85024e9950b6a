/-
  A coordinator in a box, beside two lists of numbers that a call owns, of which one is turned.
-/
import Derived.Test.YtjhpfnogdjpbmaaCstay0
import Derived.Test.YtjhpfnogdjpbmaaCsort
import Derived.Test.YtjhpfnogdjpbmaaChold
namespace Go.Proofs.Ytjhpfnogdjpbmaa
open Go.RowKit
set_option linter.unusedVariables false
set_option linter.unusedSimpArgs false

structure Lst (b : Nat) (c : Crd) (vt : Value) (us : Nat → Value) (pv : Value) (pl : List Int) (av : Value) (al : List Int) (W : World) : Prop where
  cb : CB W b c vt
  fr : FreshC (b + 1) W c vt us
  ow : OwnV (b + 1) 3 1 pv pl.length (ints pl) W
  om : OwnV (b + 1) 3 1 av al.length (ints al) W
  sp : ∀ kb, av.ownBlock = some kb → pv.ownBlock ≠ some kb ∧ vt.ownBlock ≠ some kb ∧ ∀ i, i < c.ts.length → (us i).ownBlock ≠ some kb
theorem Lst.below {b : Nat} {c : Crd} {vt : Value} {us : Nat → Value} {pv av : Value} {pl al : List Int} {W W' : World} (h : Lst b c vt us pv pl av al W) (hb : Below W.heap.size W W') : Lst b c vt us pv pl av al W' :=
  ⟨h.cb.below h.cb.1 hb, OwnW.below h.fr (Nat.le_refl _) hb, h.ow.below (Nat.le_refl _) hb, h.om.below (Nat.le_refl _) hb, h.sp⟩
/-- The list is turned in place, or made anew. -/
theorem Lst.turn {b : Nat} {c : Crd} {vt : Value} {us : Nat → Value} {pv av av' : Value} {pl al al' : List Int} {W W' : World} (h : Lst b c vt us pv pl av al W) (hg : W.grownBy W' av.ownBlock) (ho : OwnV (b + 1) 3 1 av' al'.length (ints al') W') (hat : ∀ kb, av'.ownBlock = some kb → av.ownBlock = some kb ∨ W.heap.size ≤ kb) : Lst b c vt us pv pl av' al' W' := by
  have hr : ∀ kb, vt.ownBlock = some kb → av.ownBlock ≠ some kb := fun kb e e2 => (h.sp kb e2).2.1 e
  have hu : ∀ i, i < c.ts.length → ∀ kb, (us i).ownBlock = some kb → av.ownBlock ≠ some kb := fun i hi kb e e2 => (h.sp kb e2).2.2 i hi e
  have hp : ∀ kb, pv.ownBlock = some kb → av.ownBlock ≠ some kb := fun kb e e2 => (h.sp kb e2).1 e
  refine ⟨h.cb.grown hg (fun e => by have := (h.om.blk b e).1; omega), ⟨h.fr.o.grown hg hr, fun i hi => (h.fr.i i hi).grown hg (hu i hi), h.fr.a, h.fr.d⟩, h.ow.grown hg hp, ho, fun kb e => ?_⟩
  rcases hat kb e with h1 | h1
  · exact h.sp kb h1
  · exact ⟨fun e2 => by have := (h.ow.blk kb e2).2; omega, fun e2 => by have := (h.fr.o.blk kb e2).2; omega, fun i hi e2 => by have := ((h.fr.i i hi).blk kb e2).2; omega⟩
/-- Another coordinator is stored in the box. -/
theorem Lst.store {b K : Nat} {c d : Crd} {vt v' : Value} {us us' : Nat → Value} {pv av : Value} {pl al : List Int} {W W' : World} (h : Lst b c vt us pv pl av al W) (hb : Below W.heap.size W W') (hf : FreshC K W' d v' us') (hK : W.heap.size ≤ K) : Lst b d v' us' pv pl av al (put4 W' b d v') := by
  have h2 := h.below hb
  have hbl : b < W.heap.size := h.cb.1
  have hv : ∀ {x : Value} {n : Nat} {l : List Value}, OwnV (b + 1) 3 1 x n l W' → OwnV (b + 1) 3 1 x n l (put4 W' b d v') := fun hx => by
    have hne : ∀ kb, _ → kb ≠ b := fun kb (e : _ = some kb) => by have := (hx.blk kb e).1; omega
    have hn : ∀ o u, OwnV (b + 1) 3 1 _ _ _ ((W').setCell ⟨b, o, none⟩ u) := fun o u => hx.far (fun e => hne b e rfl) o u
    unfold put4
    exact (((hx.far (fun e => hne b e rfl) _ _).far (fun e => hne b e rfl) _ _).far (fun e => hne b e rfl) _ _).far (fun e => hne b e rfl) _ _
  refine ⟨h2.cb.put d v', FreshC.put4 (OwnW.mono hf (by omega)) (by omega) d v', hv h2.ow, hv h2.om, fun kb e => ?_⟩
  have hlt := (h.om.blk kb e).2
  exact ⟨(h.sp kb e).1, fun e2 => by have := (hf.o.blk kb e2).1; omega, fun i hi e2 => by have := ((hf.i i hi).blk kb e2).1; omega⟩
theorem Lst.rdC {b : Nat} {c : Crd} {vt : Value} {us : Nat → Value} {pv av : Value} {pl al : List Int} {W : World} (h : Lst b c vt us pv pl av al W) : RdC W c vt us := FreshC.rd h.fr
/-- The other list's turn it is. -/
theorem Lst.swap {b : Nat} {c : Crd} {vt : Value} {us : Nat → Value} {pv av : Value} {pl al : List Int} {W : World} (h : Lst b c vt us pv pl av al W) : Lst b c vt us av al (.slice none 0 0) [] W :=
  ⟨h.cb, h.fr, h.om, ownV_nil _ _ _ _ h.om.2, fun kb e => by cases e⟩

end Go.Proofs.Ytjhpfnogdjpbmaa
