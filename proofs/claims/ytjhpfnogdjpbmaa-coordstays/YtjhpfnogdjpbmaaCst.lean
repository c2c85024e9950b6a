/-
  The state in the midst of a call on a coordinator: its box, the result's box, its rows in new memory.
-/
import Derived.Test.YtjhpfnogdjpbmaaCfind
namespace Go.Proofs.Ytjhpfnogdjpbmaa
open Go.RowKit
set_option linter.unusedVariables false
set_option linter.unusedSimpArgs false

structure Sc (w : World) (b z B : Nat) (c : Crd) (vt : Value) (us : Nat → Value) (W : World) : Prop where
  bel : Below w.heap.size w W
  bb : CB W b c vt
  zz : CB W z Crd.zero (.slice none 0 0)
  own : FreshC B W c vt us
  bB : b < B
  zB : z < B
  bz : b ≠ z
  wb : w.heap.size ≤ b
  wz : w.heap.size ≤ z
  wB : w.heap.size ≤ B
theorem Sc.below {w : World} {b z B : Nat} {c : Crd} {vt : Value} {us : Nat → Value} {W W' : World} (h : Sc w b z B c vt us W) (hb : Below W.heap.size W W') : Sc w b z B c vt us W' :=
  ⟨bstep h.bel hb, h.bb.below h.bb.1 hb, h.zz.below h.zz.1 hb, OwnW.below h.own (Nat.le_refl _) hb, h.bB, h.zB, h.bz, h.wb, h.wz, h.wB⟩
/-- What is left where it is returned. -/
theorem Sc.done {w : World} {b z B : Nat} {c : Crd} {vt : Value} {us : Nat → Value} {W : World} (h : Sc w b z B c vt us W) (d : Crd) : FreshC w.heap.size (put4 W z d vt) c vt us ∧ Below w.heap.size w (put4 W z d vt) :=
  ⟨OwnW.mono (FreshC.put4 h.own h.zB d vt) h.wB, below_put4 h.bel h.wz d vt⟩
theorem OwnV.drew {B T z : Nat} {v : Value} {n : Nat} {xs : List Value} {w : World} (h : OwnV B T z v n xs w) : OwnV B T z v n xs w.drew := h
theorem FreshC.drew {B : Nat} {w : World} {c : Crd} {vt : Value} {us : Nat → Value} (h : FreshC B w c vt us) : FreshC B w.drew c vt us := ⟨h.o.drew, fun i hi => (h.i i hi).drew, h.a, h.d⟩
theorem Sc.doneD {w : World} {b z B : Nat} {c : Crd} {vt : Value} {us : Nat → Value} {W : World} (h : Sc w b z B c vt us W) (d : Crd) : FreshC w.heap.size (put4 W z d vt).drew c vt us ∧ Below w.heap.size w (put4 W z d vt).drew :=
  ⟨(h.done d).1.drew, (h.done d).2.drew⟩
theorem len_of {α : Type} {E : El α} {T B : Nat} {w : World} {g n cap : Nat} {xs : List α} {us : Nat → Value} (h : OwnW E T B w (.slice (some ⟨g, 0, none⟩) n cap) xs us) : n = xs.length := by
  obtain ⟨ao, c, e⟩ := h.o.shape
  simp only [Value.slice.injEq] at e
  exact e.2.1
/-- A scalar cell of a producer is stored. -/
theorem Sc.set {w : World} {b z B : Nat} {c : Crd} {g n cap : Nat} {us : Nat → Value} {W : World} (h : Sc w b z B c (.slice (some ⟨g, 0, none⟩) n cap) us W) (i j : Nat) (hi : i < c.ts.length) (hj : j < 7) (t : Txn) (val : Value) (hc : (txnE.cs (c.at i) (us i)).set j val = txnE.cs t (us i)) (hn : t.ps = (c.at i).ps) :
    Sc w b z B (c.setT i t) (.slice (some ⟨g, 0, none⟩) n cap) us (W.setCell ⟨g, i * 7 + j, none⟩ val) := by
  have hg := (h.own.o.blk g rfl).1
  have h1 := h.bB
  have h2 := h.zB
  have h3 := h.wB
  rw [at_txn hi] at hc hn
  exact ⟨h.bel.setCell (p := ⟨g, _, none⟩) (by show _ ≤ g; omega) _, h.bb.far (by omega) _ _, h.zz.far (by omega) _ _, OwnW.set h.own i j hi hj t val hc hn, h.bB, h.zB, h.bz, h.wb, h.wz, h.wB⟩
/-- Its parts' slice is stored. -/
theorem Sc.setIn {w : World} {b z B : Nat} {c : Crd} {g n cap : Nat} {us : Nat → Value} {W : World} (h : Sc w b z B c (.slice (some ⟨g, 0, none⟩) n cap) us W) (i : Nat) (hi : i < c.ts.length) (t : Txn) (u : Value) (hc : (txnE.cs (c.at i) (us i)).set 4 u = txnE.cs t u)
    (hu : OwnV B 3 1 u t.ps.length (ints t.ps) W) (hug : u.ownBlock ≠ some g) (hud : ∀ k, k < c.ts.length → k ≠ i → ∀ b, (us k).ownBlock = some b → u.ownBlock ≠ some b) :
    Sc w b z B (c.setT i t) (.slice (some ⟨g, 0, none⟩) n cap) (fun k => if k = i then u else us k) (W.setCell ⟨g, i * 7 + 4, none⟩ u) := by
  have hg := (h.own.o.blk g rfl).1
  have h1 := h.bB
  have h2 := h.zB
  have h3 := h.wB
  rw [at_txn hi] at hc
  exact ⟨h.bel.setCell (p := ⟨g, _, none⟩) (by show _ ≤ g; omega) _, h.bb.far (by omega) _ _, h.zz.far (by omega) _ _, OwnW.setIn h.own i 4 hi (by decide) t u hc hu hug hud, h.bB, h.zB, h.bz, h.wb, h.wz, h.wB⟩
theorem setT_at {c : Crd} {i : Nat} (hi : i < c.ts.length) (t : Txn) : (c.setT i t).at i = t := by
  unfold Crd.setT Crd.at
  simp [List.getD, hi]
theorem setT_setT (c : Crd) (i : Nat) (t t' : Txn) : (c.setT i t).setT i t' = c.setT i t' := by
  unfold Crd.setT
  simp
theorem setT_len (c : Crd) (i : Nat) (t : Txn) : (c.setT i t).ts.length = c.ts.length := by unfold Crd.setT; simp
theorem setT_self {c : Crd} {i : Nat} (hi : i < c.ts.length) : c.setT i (c.at i) = c := by
  unfold Crd.setT
  rw [at_txn hi, List.set_getElem_self]
/-- Behind the copy. -/
theorem sc_copy {w W w3 : World} {b z : Nat} {c : Crd} {v0 vt : Value} {us : Nat → Value} (hbel : Below w.heap.size w W) (hb : CB W b c v0) (hz : CB W z Crd.zero (.slice none 0 0)) (hbz : b ≠ z) (wb : w.heap.size ≤ b) (wz : w.heap.size ≤ z) (hf : FreshC W.heap.size w3 c vt us) (hb3 : Below W.heap.size W w3) :
    Sc w b z W.heap.size c vt us (put4 w3 b c vt) := by
  have h0 := hb.below hb.1 hb3
  refine ⟨below_put4 (bstep hbel hb3) wb _ _, h0.put c vt, ?_, FreshC.put4 hf hb.1 _ _, hb.1, hz.1, hbz, wb, wz, hbel.size⟩
  have z0 := hz.below hz.1 hb3
  unfold put4
  exact (((z0.far (fun e => hbz e.symm) _ _).far (fun e => hbz e.symm) _ _).far (fun e => hbz e.symm) _ _).far (fun e => hbz e.symm) _ _
/-- A producer's cells, where the row is owned. -/
theorem FreshC.cells {B : Nat} {W : World} {c : Crd} {g n cap : Nat} {us : Nat → Value} (h : FreshC B W c (.slice (some ⟨g, 0, none⟩) n cap) us) (i : Nat) (hi : i < c.ts.length) : TBox W g (i * 7) (c.at i) (us i) ∧ (∀ o, W.frozen? ⟨g, o, none⟩ = false) ∧ B ≤ g ∧ g < W.heap.size := by
  obtain ⟨g', off, e, _, hc⟩ := (FreshC.rd h).txn i hi
  simp only [Option.some.injEq, Addr.mk.injEq, and_true] at e
  obtain ⟨rfl, rfl⟩ := e
  obtain ⟨g2, cap2, e2, _, _, _, _, hfz, _⟩ := h.o.form (by omega)
  simp only [Value.slice.injEq, Option.some.injEq, Addr.mk.injEq, and_true] at e2
  obtain ⟨rfl, _, _⟩ := e2
  rw [at_txn hi]
  rw [Nat.zero_add] at hc
  exact ⟨hc, hfz, h.o.blk _ rfl⟩
/-- A producer that is read, with a letter for it and its parts' slice. -/
theorem RdC.txnAt {w : World} {c : Crd} {ao : Option Addr} {n cap : Nat} {us : Nat → Value} (h : RdC w c (.slice ao n cap) us) (k : Nat) (hk : k < c.ts.length) : ∃ g off t au cu, ao = some ⟨g, off, none⟩ ∧ Hid (c.at k = t) ∧ g < w.heap.size ∧ Hid (RdV w (.slice au t.ps.length cu) (ints t.ps)) ∧ TBox w g (off + k * 7) t (.slice au t.ps.length cu) := by
  obtain ⟨g, off, rfl, hr, ht⟩ := h.txn k hk
  obtain ⟨au, cu, e, _⟩ := hr.intShape
  rw [← at_txn hk] at e hr ht
  rw [e] at hr ht
  exact ⟨g, off, c.at k, au, cu, rfl, rfl, cell_lt ht.1, hr, ht⟩
/-- One producer more, in the row and in the box. -/
theorem Sc.grow {w : World} {b z B : Nat} {c : Crd} {vt v' : Value} {us us' : Nat → Value} {W w' : World} (h : Sc w b z B c vt us W) (t : Txn) (ho : OwnW txnE 62 B w' v' (c.ts ++ [t]) us') (hg : W.grownBy w' vt.ownBlock) :
    Sc w b z B { c with nx := c.nx + 1, ts := c.ts ++ [t] } v' us' ((w'.setCell ⟨b, 3, none⟩ v').setCell ⟨b, 1, none⟩ (.int .i64 (c.nx + 1))) := by
  have hrow : ∀ k, vt.ownBlock = some k → B ≤ k := fun k e => (h.own.o.blk k e).1
  have h1 := h.bB
  have h2 := h.zB
  have h3 := h.wB
  have hbz := h.bz
  have nb : vt.ownBlock ≠ some b := fun e => by have := hrow _ e; omega
  have nz : vt.ownBlock ≠ some z := fun e => by have := hrow _ e; omega
  have hb := h.bb.grown hg nb
  have hz := h.zz.grown hg nz
  refine ⟨((below_grown h.bel hg h.bel.size (fun k e => by have := hrow k e; omega)).setCell (p := ⟨b, 3, none⟩) h.wb _).setCell (p := ⟨b, 1, none⟩) h.wb _, ?_, (hz.far (fun e => hbz e.symm) _ _).far (fun e => hbz e.symm) _ _, (FreshC.box (c := { c with nx := c.nx + 1, ts := c.ts ++ [t] }) ho h1 _ _).box h1 _ _, h1, h2, hbz, h.wb, h.wz, h3⟩
  have hb2 := cb_set _ _ _ _ v' hb
  obtain ⟨s, ⟨a0, a1, a2, a3⟩, f⟩ := hb2
  refine ⟨by simpa using s, ⟨?_, ?_, ?_, ?_⟩, frozen_set f _ _ _ f⟩
  all_goals simp [go_sem, a0, a1, a2, a3]
theorem FreshC.shapeOf {B : Nat} {W : World} {c : Crd} {vt : Value} {us : Nat → Value} (h : FreshC B W c vt us) : ∃ ao cap, vt = .slice ao c.ts.length cap := h.o.shape
theorem FreshC.form {B : Nat} {W : World} {c : Crd} {vt : Value} {us : Nat → Value} (h : FreshC B W c vt us) (h0 : 0 < c.ts.length) : ∃ g cap, vt = .slice (some ⟨g, 0, none⟩) c.ts.length cap := by
  obtain ⟨g, cap, e, _⟩ := h.o.form h0
  exact ⟨g, cap, e⟩

end Go.Proofs.Ytjhpfnogdjpbmaa
