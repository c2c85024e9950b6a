/-
  The state in the midst of 'played': the part in its box, the Highs' entries in a row that grows.
-/
import Derived.Test.YtkolelpdedmkeaaPresF
import Derived.Test.YtkolelpdedmkeaaPraiseF
import Derived.Test.YtkolelpdedmkeaaAq
import Derived.Test.YtkolelpdedmkeaaPgrow
namespace Go.Proofs.Ytkolelpdedmkeaa
open Go.RowKit
set_option linter.unusedVariables false
set_option linter.unusedSimpArgs false

theorem infoEs : (Try.prog.info? 56).map (fun i => (i.zero, i.size, i.bytes)) = some (some (.slice none 0 0), 1, 24) := by kernel_rfl
section
variable {w : World} {ops : Array Oper} {rest : List Oper} {o : Oper} {a : Act} {Q : Exit → Act → World → Prop}
theorem wp_rowX (hgd : o.guard = none) (s x : Operand)
    (ho : o.op = .call { callee := .builtin .append, args := #[s, x], argTypes := #[51, 51] })
    (B : Nat) (v : Value) (n : Nat) (xs : List Value) (hs : a.eval s = v) (hown : OwnV B 56 1 v n xs w) (g : Nat) (hx : a.eval x = .slice (some ⟨g, 0, none⟩) 1 1) (b : Value) (hb1 : b.oneCell' = true) (hc : w.cell? ⟨g, 0, none⟩ = some b) (hlen : (n + 1) * 24 ≤ 140737488355328) (H : Nat) (hH : w.heap.size = H)
    (h : ∀ g' cap w', OwnV B 56 1 (.slice (some ⟨g', 0, none⟩) (n + 1) cap) (n + 1) (xs ++ [b]) w' → w.grownBy w' v.ownBlock → (v.ownBlock = some g' ∨ g' = H) → g' < w'.heap.size → wpList Try.prog ops Q rest (a.put o.dst (.slice (some ⟨g', 0, none⟩) (n + 1) cap)) w') :
    wpList Try.prog ops Q (o :: rest) a w := by
  obtain ⟨i, hi, hz0, hz1, hz2⟩ := info_parts infoEs
  refine wpList_append_lies _ hgd s x _ ho B _ i (.slice none 0 0) 1 24 Try.underlying51 hi hz0 hz1 hz2 rfl (by decide) v n xs hs hown.1 ⟨g, 0, none⟩ 1 1 [b] hx rfl ?_ ?_ (by omega) (by unfold maxLen; omega) (by omega) hown.2 H hH ?_
  · intro j u hj
    have hj' : j < 1 := by simpa using (List.getElem?_eq_some_iff.1 hj).1
    obtain rfl : j = 0 := by omega
    rw [Addr.add_lit]
    simp at hj
    subst hj
    exact hc
  · intro u hu
    simp at hu
    subst hu
    exact hb1
  · intro g' cap w' ho' hg hat hlt
    exact h g' cap w' ⟨ho', Nat.le_trans hown.2 hg.size⟩ hg hat hlt
end

/-- A row of slices of entries that reads as hs; its blocks lie from B on. -/
def RdH (W : World) (v : Value) (hs : List (List Ent)) : Prop :=
  ∃ xs : List Value, xs.length = hs.length ∧ RdV W v xs ∧ ∀ i, (h : i < hs.length) → (k : i < xs.length) → RdX W (xs[i]'k) (hs[i]'h)
def OwnH (B : Nat) (W : World) (v : Value) (hs : List (List Ent)) : Prop :=
  ∃ xs : List Value, xs.length = hs.length ∧ OwnV B 56 1 v hs.length xs W ∧ ∀ i, (h : i < hs.length) → (k : i < xs.length) → RdX W (xs[i]'k) (hs[i]'h) ∧ ∀ b, (xs[i]'k).ownBlock = some b → B ≤ b ∧ b < W.heap.size ∧ v.ownBlock ≠ some b
theorem ownH_nil (B : Nat) (W : World) (hB : B ≤ W.heap.size) : OwnH B W (.slice none 0 0) [] :=
  ⟨[], rfl, ⟨⟨by simp, .inl ⟨rfl, rfl⟩⟩, hB⟩, fun i h => by simp at h⟩
theorem OwnH.below {B : Nat} {W W' : World} {v : Value} {hs : List (List Ent)} (h : OwnH B W v hs) (hb : Below W.heap.size W W') : OwnH B W' v hs := by
  obtain ⟨xs, h1, h2, h3⟩ := h
  exact ⟨xs, h1, h2.below (Nat.le_refl _) hb, fun i hi k => ⟨(h3 i hi k).1.below (Nat.le_refl _) hb, fun b e => ⟨((h3 i hi k).2 b e).1, Nat.lt_of_lt_of_le ((h3 i hi k).2 b e).2.1 hb.size, ((h3 i hi k).2 b e).2.2⟩⟩⟩
theorem OwnH.far {B : Nat} {W : World} {v : Value} {hs : List (List Ent)} (h : OwnH B W v hs) {b : Nat} (hb : b < B) (o : Nat) (x : Value) : OwnH B (W.setCell ⟨b, o, none⟩ x) v hs := by
  obtain ⟨xs, h1, h2, h3⟩ := h
  refine ⟨xs, h1, h2.far (fun e => by have := (h2.blk b e).1; omega) o x, fun i hi k => ?_⟩
  obtain ⟨r1, r2⟩ := h3 i hi k
  exact ⟨r1.keep (fun c o' e => cell_far (fun e2 => by have := (r2 c e).1; omega) _ _ _), fun c e => ⟨(r2 c e).1, by simpa using (r2 c e).2.1, (r2 c e).2.2⟩⟩
theorem OwnH.shape {B : Nat} {W : World} {v : Value} {hs : List (List Ent)} (h : OwnH B W v hs) : ∃ ao cap, v = .slice ao hs.length cap := by
  obtain ⟨xs, h1, h2, h3⟩ := h
  exact h2.shape
/-- One more. -/
theorem OwnH.app {B : Nat} {W W' : World} {v v' u : Value} {hs : List (List Ent)} {x : List Ent} {xs : List Value} (hl : xs.length = hs.length) (h3 : ∀ i, (h : i < hs.length) → (k : i < xs.length) → RdX W (xs[i]'k) (hs[i]'h) ∧ ∀ b, (xs[i]'k).ownBlock = some b → B ≤ b ∧ b < W.heap.size ∧ v.ownBlock ≠ some b)
    (hu : RdX W u x) (hub : ∀ b, u.ownBlock = some b → B ≤ b ∧ b < W.heap.size ∧ v.ownBlock ≠ some b) (ho : OwnV B 56 1 v' (hs.length + 1) (xs ++ [u]) W') (hg : W.grownBy W' v.ownBlock) (hat : ∀ g', v'.ownBlock = some g' → v.ownBlock = some g' ∨ g' = W.heap.size) : OwnH B W' v' (hs ++ [x]) := by
  refine ⟨xs ++ [u], by simp [hl], by simpa using ho, fun i hi k => ?_⟩
  have key : ∀ (z : Value) (y : List Ent), RdX W z y → (∀ b, z.ownBlock = some b → B ≤ b ∧ b < W.heap.size ∧ v.ownBlock ≠ some b) → RdX W' z y ∧ ∀ b, z.ownBlock = some b → B ≤ b ∧ b < W'.heap.size ∧ v'.ownBlock ≠ some b := fun z y hz hb =>
    ⟨hz.keep (fun c o e => World.cell?_of_block (hg.block c (hb c e).2.1 (fun e2 => (hb c e).2.2 e2.symm))), fun b e => ⟨(hb b e).1, Nat.lt_of_lt_of_le (hb b e).2.1 hg.size, fun e2 => by
      rcases hat b e2 with h | h
      · exact (hb b e).2.2 h
      · have := (hb b e).2.1; omega⟩⟩
  by_cases hlt : i < hs.length
  · have hlt' : i < xs.length := by omega
    rw [List.getElem_append_left hlt', List.getElem_append_left hlt]
    exact key _ _ (h3 i hlt hlt').1 (h3 i hlt hlt').2
  · have e1 : i = hs.length := by simp at hi; omega
    subst e1
    rw [List.getElem_append_right (by omega), List.getElem_append_right (by omega)]
    simp only [hl, Nat.sub_self, List.getElem_cons_zero]
    exact key u x hu hub
theorem OwnH.rdH {B : Nat} {W : World} {v : Value} {hs : List (List Ent)} (h : OwnH B W v hs) : RdH W v hs := by
  obtain ⟨xs, h1, h2, h3⟩ := h
  refine ⟨xs, h1, ?_, fun i hi k => (h3 i hi k).1⟩
  have := h2.rdv
  exact this
theorem OwnH.put {B : Nat} {W : World} {v : Value} {hs : List (List Ent)} (h : OwnH B W v hs) {b : Nat} (hb : b < B) (q : Prt) (x y z : Value) : OwnH B (put7 W b q x y z) v hs := by
  unfold put7
  exact ((((((h.far hb _ _).far hb _ _).far hb _ _).far hb _ _).far hb _ _).far hb _ _).far hb _ _

/-- The part in its box at b, the Highs' row, and the result's box at z. -/
structure PlX (B b z : Nat) (w : World) (p : Prt) (hs : List (List Ent)) (vi vk vr : Value) (us : Nat → Value) (v : Value) (W : World) : Prop where
  bx : PB W b p vi vk vr
  rd : RdP W p vi vk vr us
  n : NewAt B W p.rs.length vi vk vr us
  h : OwnH B W v hs
  o : ∀ k, v.ownBlock = some k → Off k p.rs.length vi vk vr us
  r : PB W z Prt.zero nilV nilV nilV
  bel : Below w.heap.size w W
  s : B ≤ W.heap.size
  bB : b < B
  zB : z < B
  bz : b ≠ z
  wb : w.heap.size ≤ b
  wz : w.heap.size ≤ z
theorem OwnH.blk {B : Nat} {W : World} {v : Value} {hs : List (List Ent)} (h : OwnH B W v hs) (k : Nat) (hk : v.ownBlock = some k) : B ≤ k ∧ k < W.heap.size := by
  obtain ⟨xs, h1, h2, h3⟩ := h
  exact h2.blk k hk
theorem PlX.below {B b z : Nat} {w : World} {p : Prt} {hs : List (List Ent)} {vi vk vr : Value} {us : Nat → Value} {v : Value} {W W' : World} (h : PlX B b z w p hs vi vk vr us v W) (hb : Below W.heap.size W W') : PlX B b z w p hs vi vk vr us v W' :=
  ⟨h.bx.below h.bx.1 hb, h.rd.below (Nat.le_refl _) hb, h.n.mono (Nat.le_refl _) hb.size, h.h.below hb, h.o, h.r.below h.r.1 hb, h.bel.trans (hb.mono h.bel.size), Nat.le_trans h.s hb.size, h.bB, h.zB, h.bz, h.wb, h.wz⟩
/-- Another part, made behind W, is put in the box. -/
theorem PlX.put {B b z : Nat} {w : World} {p : Prt} {hs : List (List Ent)} {vi vk vr : Value} {us : Nat → Value} {v : Value} {W W' : World} (h : PlX B b z w p hs vi vk vr us v W) (hb : Below W.heap.size W W') (q : Prt) (vi' vk' vr' : Value) (us' : Nat → Value) (hq : RdP W' q vi' vk' vr' us') (hn : NewAt W.heap.size W' q.rs.length vi' vk' vr' us') : PlX B b z w q hs vi' vk' vr' us' v (put7 W' b q vi' vk' vr') := by
  have h' := h.below hb
  have hs := h.s
  exact ⟨PB.put h'.bx _ _ _ _, hq.put rfl (hn.off (b := b) (Nat.lt_of_lt_of_le h.bB h.s)) _ _ _ _, hn.mono h.s (by rw [put7_size]; exact Nat.le_refl _), h'.h.put h.bB _ _ _ _, fun k hk => hn.off (h.h.blk k hk).2, PB.putFar h'.r (fun e => h.bz e.symm) _ _ _ _, below_put h'.bel h.wb _ _ _ _, by rw [put7_size]; exact h'.s, h.bB, h.zB, h.bz, h.wb, h.wz⟩
/-- One more High, of entries made behind B. -/
theorem PlX.app {B b z : Nat} {w : World} {p : Prt} {hs : List (List Ent)} {vi vk vr : Value} {us : Nat → Value} {v : Value} {W W' : World} {v' u : Value} {x : List Ent} {xs : List Value} (h : PlX B b z w p hs vi vk vr us v W) (hl : xs.length = hs.length) (h3 : ∀ i, (hi : i < hs.length) → (k : i < xs.length) → RdX W (xs[i]'k) (hs[i]'hi) ∧ ∀ b, (xs[i]'k).ownBlock = some b → B ≤ b ∧ b < W.heap.size ∧ v.ownBlock ≠ some b)
    (hu : RdX W u x) (hub : ∀ b, u.ownBlock = some b → B ≤ b ∧ b < W.heap.size ∧ v.ownBlock ≠ some b) (ho : OwnV B 56 1 v' (hs.length + 1) (xs ++ [u]) W') (hg : W.grownBy W' v.ownBlock) (hat : ∀ g', v'.ownBlock = some g' → v.ownBlock = some g' ∨ g' = W.heap.size) : PlX B b z w p (hs ++ [x]) vi vk vr us v' W' := by
  have hk := h.h.blk
  have hB := h.bB
  have hz := h.zB
  have hs := h.s
  refine ⟨h.bx.grown hg (fun e => by have := (hk b e).1; omega), h.rd.grown rfl h.n hg (fun k e => h.o k e), h.n.mono (Nat.le_refl _) hg.size, OwnH.app hl h3 hu hub ho hg hat, fun k e => ?_, h.r.grown hg (fun e => by have := (hk z e).1; omega), h.bel.grown hg h.bel.size (fun k e => by have := (hk k e).1; have := h.wb; omega), Nat.le_trans h.s hg.size, h.bB, h.zB, h.bz, h.wb, h.wz⟩
  rcases hat k e with h5 | h5
  · exact h.o k h5
  · exact h.n.offUp (by omega)

def Reads (B : Nat) (W : World) (v : Value) (xs : List Value) (hs : List (List Ent)) : Prop := ∀ i, (h : i < hs.length) → (k : i < xs.length) → RdX W (xs[i]'k) (hs[i]'h) ∧ ∀ b, (xs[i]'k).ownBlock = some b → B ≤ b ∧ b < W.heap.size ∧ v.ownBlock ≠ some b
theorem Reads.below {B : Nat} {W W' : World} {v : Value} {xs : List Value} {hs : List (List Ent)} (h : Reads B W v xs hs) (hb : Below W.heap.size W W') : Reads B W' v xs hs :=
  fun i hi k => ⟨(h i hi k).1.below (Nat.le_refl _) hb, fun b e => ⟨((h i hi k).2 b e).1, Nat.lt_of_lt_of_le ((h i hi k).2 b e).2.1 hb.size, ((h i hi k).2 b e).2.2⟩⟩
/-- One more High, behind an append over the world with one more block. -/
theorem PlX.app1 {B b z : Nat} {w : World} {p : Prt} {hs : List (List Ent)} {vi vk vr : Value} {us : Nat → Value} {v : Value} {w9 W W' : World} {u : Value} {x : List Ent} {xs : List Value} {g' n cap : Nat} (h : PlX B b z w p hs vi vk vr us v w9) (hl : xs.length = hs.length) (h3 : Reads B w9 v xs hs) (hb : Below w9.heap.size w9 W)
    (hu : RdX w9 u x) (hub : ∀ b, u.ownBlock = some b → B ≤ b ∧ b < w9.heap.size ∧ v.ownBlock ≠ some b) (ho : OwnV B 56 1 (.slice (some ⟨g', 0, none⟩) n cap) (hs.length + 1) (xs ++ [u]) W') (hg : W.grownBy W' v.ownBlock) (hat : v.ownBlock = some g' ∨ g' = W.heap.size) : PlX B b z w p (hs ++ [x]) vi vk vr us (.slice (some ⟨g', 0, none⟩) n cap) W' :=
  (h.below hb).app hl (h3.below hb) (hu.below (Nat.le_refl _) hb) (fun b e => ⟨(hub b e).1, Nat.lt_of_lt_of_le (hub b e).2.1 hb.size, (hub b e).2.2⟩) ho hg (fun g2 e => by
    obtain rfl := Option.some.inj e
    exact hat)

theorem RdX.takes {w : World} {ao : Option Addr} {c : Nat} {es : List Ent} (h : RdX w (.slice ao es.length c) es) (k : Nat) (hk : k ≤ es.length) : RdX w (.slice ao k c) (es.take k) := by
  obtain ⟨ao', cap', e, h1, h2, h4, h3⟩ := h
  simp only [Value.slice.injEq] at e
  obtain ⟨rfl, -, rfl⟩ := e
  have hl : (es.take k).length = k := by rw [List.length_take]; omega
  refine ⟨_, _, by rw [hl], by omega, h2, h4, fun h0 => ?_⟩
  obtain ⟨g, off, rfl, hg⟩ := h3 (by omega)
  refine ⟨g, off, rfl, fun i hi j hj => ?_⟩
  rw [List.getElem_take]
  exact hg i (by omega) j hj

end Go.Proofs.Ytkolelpdedmkeaa
