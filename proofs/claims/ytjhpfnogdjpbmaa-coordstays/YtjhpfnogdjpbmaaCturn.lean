/-
  A producer's parts are turned: the list that a call owns is turned in place or made anew, and stored.
-/
import Derived.Test.YtjhpfnogdjpbmaaCend
import Derived.Test.YtjhpfnogdjpbmaaCdoc
import Derived.Test.YtjhpfnogdjpbmaaClib
namespace Go.Proofs.Ytjhpfnogdjpbmaa
open Go.RowKit
set_option linter.unusedVariables false
set_option linter.unusedSimpArgs false

theorem OwnW.turnIn {α : Type} {E : El α} {T : TypeId} {B : Nat} {w w' : World} {g n cap : Nat} {xs : List α} {us : Nat → Value} (h : OwnW E T B w (.slice (some ⟨g, 0, none⟩) n cap) xs us) (i j : Nat) (hi : i < xs.length) (hj : j < E.z) (x' : α) (u : Value) (hc : (E.cs (xs[i]'hi) (us i)).set j u = E.cs x' u)
    (hu : OwnV B 3 1 u (E.ns x').length (ints (E.ns x')) w') (hg : w.grownBy w' (us i).ownBlock) (hat : ∀ b, u.ownBlock = some b → (us i).ownBlock = some b ∨ w.heap.size ≤ b) :
    OwnW E T B (w'.setCell ⟨g, i * E.z + j, none⟩ u) (.slice (some ⟨g, 0, none⟩) n cap) (xs.set i x') (fun k => if k = i then u else us k) := by
  obtain ⟨hrow, hin⟩ := h.turn i hi hg
  have hb : ∀ k, k < xs.length → (us k).ownBlock ≠ some g := fun k hk e => h.a k hk g e rfl
  have hgl := (h.o.blk g rfl).2
  have hug : u.ownBlock ≠ some g := fun e => by
    rcases hat g e with h1 | h1
    · exact hb i hi h1
    · omega
  have hud : ∀ k, k < xs.length → k ≠ i → ∀ b, (us k).ownBlock = some b → u.ownBlock ≠ some b := fun k hk hne b e e2 => by
    rcases hat b e2 with h1 | h1
    · exact h.d k i hk hi hne b e h1
    · have := ((h.i k hk).blk b e).2; omega
  have hln : n = xs.length := by
    obtain ⟨ao, c, e⟩ := h.o.shape
    simp only [Value.slice.injEq] at e
    exact e.2.1
  refine ⟨?_, fun k hk => ?_, fun k hk b hbk => ?_, fun k m hk hm hne b hbk => ?_⟩
  · subst hln
    have := hrow.stored (i * E.z + j) u
    rw [row_set E us (fun k => if k = i then u else us k) xs 0 i j hi hj x' u (by simpa using hc) (fun m _ hne => by simp [hne])] at this
    simpa using this
  · have hk' : k < xs.length := by simpa using hk
    by_cases e : k = i
    · subst e
      have := hu.far hug (k * E.z + j) u
      simp only [if_true]
      rw [List.getElem_set_self]
      exact this
    · have := (hin k hk' e).far (hb k hk') (i * E.z + j) u
      simp only [if_neg e]
      rw [List.getElem_set_ne (fun h => e h.symm)]
      exact this
  · have hk' : k < xs.length := by simpa using hk
    by_cases e : k = i
    · subst e
      simp only [if_true] at hbk
      intro e2
      exact hug (hbk.trans e2.symm)
    · simp only [if_neg e] at hbk
      exact h.a k hk' b hbk
  · have hk' : k < xs.length := by simpa using hk
    have hm' : m < xs.length := by simpa using hm
    by_cases e : k = i
    · subst e
      simp only [if_true] at hbk
      rw [if_neg (fun h => hne h.symm)]
      exact fun e2 => hud m hm' (fun h => hne h.symm) b e2 hbk
    · simp only [if_neg e] at hbk
      by_cases e2 : m = i
      · subst e2
        simp only [if_true]
        exact hud k hk' e b hbk
      · simp only [if_neg e2]
        exact h.d k m hk' hm' hne b hbk

theorem Sc.turnIn {w : World} {b z B : Nat} {c : Crd} {g n cap : Nat} {us : Nat → Value} {W W' : World} (h : Sc w b z B c (.slice (some ⟨g, 0, none⟩) n cap) us W) (i : Nat) (hi : i < c.ts.length) (t : Txn) (u : Value) (hc : (txnE.cs (c.at i) (us i)).set 4 u = txnE.cs t u)
    (hu : OwnV B 3 1 u t.ps.length (ints t.ps) W') (hg : W.grownBy W' (us i).ownBlock) (hat : ∀ b, u.ownBlock = some b → (us i).ownBlock = some b ∨ W.heap.size ≤ b) :
    Sc w b z B (c.setT i t) (.slice (some ⟨g, 0, none⟩) n cap) (fun k => if k = i then u else us k) (W'.setCell ⟨g, i * 7 + 4, none⟩ u) := by
  have hgb := (h.own.o.blk g rfl).1
  have h1 := h.bB
  have h2 := h.zB
  have h3 := h.wB
  have hblk : ∀ k, (us i).ownBlock = some k → B ≤ k := fun k e => ((h.own.i i hi).blk k e).1
  rw [at_txn hi] at hc
  exact ⟨(below_grown h.bel hg h.bel.size (fun k e => by have := hblk k e; omega)).setCell (p := ⟨g, _, none⟩) (by show _ ≤ g; omega) _, (h.bb.grown hg (fun e => by have := hblk _ e; omega)).far (by omega) _ _, (h.zz.grown hg (fun e => by have := hblk _ e; omega)).far (by omega) _ _, OwnW.turnIn h.own i 4 hi (by decide) t u hc hu hg hat, h1, h2, h.bz, h.wb, h.wz, h3⟩
/-- What the walk wants of the cells, behind the turn. -/
theorem Sc.turned {w : World} {b z B : Nat} {c : Crd} {g n cap : Nat} {us : Nat → Value} {W W' : World} (h : Sc w b z B c (.slice (some ⟨g, 0, none⟩) n cap) us W) (i : Nat) (hi : i < c.ts.length) (hg : W.grownBy W' (us i).ownBlock) :
    CB W' b c (.slice (some ⟨g, 0, none⟩) n cap) ∧ CB W' z Crd.zero (.slice none 0 0) ∧ TBox W' g (i * 7) (c.at i) (us i) ∧ (∀ o, W'.frozen? ⟨g, o, none⟩ = false) ∧ g < W'.heap.size := by
  have h1 := h.bB
  have h2 := h.zB
  have hblk : ∀ k, (us i).ownBlock = some k → B ≤ k := fun k e => ((h.own.i i hi).blk k e).1
  obtain ⟨⟨q0, q1, q2, q3, q4, q5, q6⟩, hfz, hg1, hg2⟩ := FreshC.cells h.own i hi
  have hne : some g ≠ (us i).ownBlock := fun e => h.own.a i hi g e.symm rfl
  refine ⟨h.bb.grown hg (fun e => by have := hblk _ e; omega), h.zz.grown hg (fun e => by have := hblk _ e; omega), ⟨?_, ?_, ?_, ?_, ?_, ?_, ?_⟩, fun o => by rw [hg.frozen_far _ hg2 hne]; exact hfz o, Nat.lt_of_lt_of_le hg2 hg.size⟩
  all_goals rw [hg.cell_far _ hg2 hne]; assumption

end Go.Proofs.Ytjhpfnogdjpbmaa
