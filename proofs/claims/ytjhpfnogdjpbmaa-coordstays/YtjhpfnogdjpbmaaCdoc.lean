/-
  The document's calls on a coordinator behind their copy: its boxes, its rows in new memory.
-/
import Derived.Test.YtjhpfnogdjpbmaaCst
namespace Go.Proofs.Ytjhpfnogdjpbmaa
open Go.RowKit
set_option linter.unusedVariables false
set_option linter.unusedSimpArgs false

/-- The argument's box, the result's box, the copy's box at o, its rows from B on. -/
structure Sd (w : World) (o B : Nat) (c0 : Crd) (v0 : Value) (c : Crd) (vt : Value) (us : Nat → Value) (W : World) : Prop where
  bel : Below w.heap.size w W
  src : CB W w.heap.size c0 v0
  zz : CB W (w.heap.size + 1) Crd.zero (.slice none 0 0)
  out : CB W o c vt
  own : FreshC B W c vt us
  lo : w.heap.size + 1 < B
  no : w.heap.size + 1 < o
  na : vt.ownBlock ≠ some o
  nu : ∀ i, i < c.ts.length → (us i).ownBlock ≠ some o
theorem Sd.below {w : World} {o B : Nat} {c0 : Crd} {v0 : Value} {c : Crd} {vt : Value} {us : Nat → Value} {W W' : World} (h : Sd w o B c0 v0 c vt us W) (hb : Below W.heap.size W W') : Sd w o B c0 v0 c vt us W' :=
  ⟨bstep h.bel hb, h.src.below h.src.1 hb, h.zz.below h.zz.1 hb, h.out.below h.out.1 hb, OwnW.below h.own (Nat.le_refl _) hb, h.lo, h.no, h.na, h.nu⟩
/-- What is left where it is returned. -/
theorem Sd.done {w : World} {o B : Nat} {c0 : Crd} {v0 : Value} {c : Crd} {vt : Value} {us : Nat → Value} {W : World} (h : Sd w o B c0 v0 c vt us W) (d : Crd) : FreshC w.heap.size (put4 W (w.heap.size + 1) d vt) c vt us ∧ Below w.heap.size w (put4 W (w.heap.size + 1) d vt) :=
  ⟨OwnW.mono (FreshC.put4 h.own h.lo d vt) (by have := h.lo; omega), below_put4 h.bel (by omega) d vt⟩
theorem Sd.doneD {w : World} {o B : Nat} {c0 : Crd} {v0 : Value} {c : Crd} {vt : Value} {us : Nat → Value} {W : World} (h : Sd w o B c0 v0 c vt us W) (d : Crd) : FreshC w.heap.size (put4 W (w.heap.size + 1) d vt).drew c vt us ∧ Below w.heap.size w (put4 W (w.heap.size + 1) d vt).drew :=
  ⟨(h.done d).1.drew, (h.done d).2.drew⟩
/-- And where all is zero. -/
theorem Sd.nil {w : World} {o B : Nat} {c0 : Crd} {v0 : Value} {c : Crd} {vt : Value} {us : Nat → Value} {W : World} (h : Sd w o B c0 v0 c vt us W) : FreshC w.heap.size (put4 W (w.heap.size + 1) Crd.zero (.slice none 0 0)) Crd.zero (.slice none 0 0) (fun _ => .slice none 0 0) ∧ Below w.heap.size w (put4 W (w.heap.size + 1) Crd.zero (.slice none 0 0)) :=
  ⟨freshC_nil' _ rfl (by rw [put4_size]; exact h.bel.size), below_put4 h.bel (by omega) _ _⟩
/-- A scalar cell of a producer is stored. -/
theorem Sd.set {w : World} {o B : Nat} {c0 : Crd} {v0 : Value} {c : Crd} {g n cap : Nat} {us : Nat → Value} {W : World} (h : Sd w o B c0 v0 c (.slice (some ⟨g, 0, none⟩) n cap) us W) (i j : Nat) (hi : i < c.ts.length) (hj : j < 7) (t : Txn) (val : Value) (hc : (txnE.cs (c.at i) (us i)).set j val = txnE.cs t (us i)) (hn : t.ps = (c.at i).ps) :
    Sd w o B c0 v0 (c.setT i t) (.slice (some ⟨g, 0, none⟩) n cap) us (W.setCell ⟨g, i * 7 + j, none⟩ val) := by
  have hg := (h.own.o.blk g rfl).1
  have h1 := h.lo
  have h2 : o ≠ g := fun e => h.na (by rw [e]; rfl)
  rw [at_txn hi] at hc hn
  exact ⟨h.bel.setCell (p := ⟨g, _, none⟩) (by show _ ≤ g; omega) _, h.src.far (by omega) _ _, h.zz.far (by omega) _ _, h.out.far h2 _ _, OwnW.set h.own i j hi hj t val hc hn, h1, h.no, h.na, fun k hk => h.nu k (by simpa [Crd.setT] using hk)⟩
/-- Its parts' slice is stored. -/
theorem Sd.setIn {w : World} {o B : Nat} {c0 : Crd} {v0 : Value} {c : Crd} {g n cap : Nat} {us : Nat → Value} {W : World} (h : Sd w o B c0 v0 c (.slice (some ⟨g, 0, none⟩) n cap) us W) (i : Nat) (hi : i < c.ts.length) (t : Txn) (u : Value) (hc : (txnE.cs (c.at i) (us i)).set 4 u = txnE.cs t u)
    (hu : OwnV B 3 1 u t.ps.length (ints t.ps) W) (huo : u.ownBlock ≠ some o) (hug : u.ownBlock ≠ some g) (hud : ∀ k, k < c.ts.length → k ≠ i → ∀ b, (us k).ownBlock = some b → u.ownBlock ≠ some b) :
    Sd w o B c0 v0 (c.setT i t) (.slice (some ⟨g, 0, none⟩) n cap) (fun k => if k = i then u else us k) (W.setCell ⟨g, i * 7 + 4, none⟩ u) := by
  have hg := (h.own.o.blk g rfl).1
  have h1 := h.lo
  have h2 : o ≠ g := fun e => h.na (by rw [e]; rfl)
  rw [at_txn hi] at hc
  refine ⟨h.bel.setCell (p := ⟨g, _, none⟩) (by show _ ≤ g; omega) _, h.src.far (by omega) _ _, h.zz.far (by omega) _ _, h.out.far h2 _ _, OwnW.setIn h.own i 4 hi (by decide) t u hc hu hug hud, h1, h.no, h.na, fun k hk => ?_⟩
  by_cases e : k = i
  · simp only [e, if_true]; exact huo
  · simp only [if_neg e]; exact h.nu k (by simpa [Crd.setT] using hk)
/-- Its clock is stored. -/
theorem Sd.clock {w : World} {o B : Nat} {c0 : Crd} {v0 : Value} {c : Crd} {vt : Value} {us : Nat → Value} {W : World} (h : Sd w o B c0 v0 c vt us W) (n : Int) :
    Sd w o B c0 v0 { c with ck := n } vt us (W.setCell ⟨o, 0, none⟩ (.int .i64 n)) := by
  have h1 := h.no
  obtain ⟨s, ⟨a0, a1, a2, a3⟩, f⟩ := h.out
  refine ⟨h.bel.setCell (p := ⟨o, 0, none⟩) (by show _ ≤ o; omega) _, h.src.far (by omega) _ _, h.zz.far (by omega) _ _, ⟨by simpa using s, ⟨?_, ?_, ?_, ?_⟩, frozen_set f _ _ _ f⟩, OwnW.far h.own h.na h.nu _ _, h.lo, h1, h.na, h.nu⟩
  all_goals simp [go_sem, a0, a1, a2, a3]
/-- One producer more, in the row and in the box. -/
theorem Sd.grow {w : World} {o B : Nat} {c0 : Crd} {v0 : Value} {c : Crd} {vt v' : Value} {us us' : Nat → Value} {W w' : World} (h : Sd w o B c0 v0 c vt us W) (t : Txn) (ho : OwnW txnE 62 B w' v' (c.ts ++ [t]) us') (hg : W.grownBy w' vt.ownBlock) (hna : v'.ownBlock ≠ some o) (hnu : ∀ i, i < (c.ts ++ [t]).length → (us' i).ownBlock ≠ some o) :
    Sd w o B c0 v0 { c with nx := c.nx + 1, ts := c.ts ++ [t] } v' us' ((w'.setCell ⟨o, 3, none⟩ v').setCell ⟨o, 1, none⟩ (.int .i64 (c.nx + 1))) := by
  have hrow : ∀ k, vt.ownBlock = some k → B ≤ k := fun k e => (h.own.o.blk k e).1
  have h1 := h.lo
  have h2 := h.no
  have nb : vt.ownBlock ≠ some w.heap.size := fun e => by have := hrow _ e; omega
  have nz : vt.ownBlock ≠ some (w.heap.size + 1) := fun e => by have := hrow _ e; omega
  have hb := h.src.grown hg nb
  have hz := h.zz.grown hg nz
  have hob := h.out.grown hg h.na
  have hb2 := cb_set _ _ _ _ v' hob
  obtain ⟨s, ⟨a0, a1, a2, a3⟩, f⟩ := hb2
  refine ⟨((below_grown h.bel hg h.bel.size (fun k e => by have := hrow k e; omega)).setCell (p := ⟨o, 3, none⟩) (by show _ ≤ o; omega) _).setCell (p := ⟨o, 1, none⟩) (by show _ ≤ o; omega) _, (hb.far (by omega) _ _).far (by omega) _ _, (hz.far (by omega) _ _).far (by omega) _ _, ⟨by simpa using s, ⟨?_, ?_, ?_, ?_⟩, frozen_set f _ _ _ f⟩, OwnW.far (OwnW.far (xs := c.ts ++ [t]) ho hna hnu _ _) hna hnu _ _, h1, h2, hna, hnu⟩
  all_goals simp [go_sem, a0, a1, a2, a3]
/-- The box of what was copied. -/
theorem sd_new {w W w3 : World} {c : Crd} {v0 vt : Value} {us : Nat → Value} (hbel : Below w.heap.size w W) (hb : CB W w.heap.size c v0) (hz : CB W (w.heap.size + 1) Crd.zero (.slice none 0 0)) (hf : FreshC W.heap.size w3 c vt us) (hb3 : Below W.heap.size W w3) :
    Sd w w3.heap.size W.heap.size c v0 c vt us (w3.alloc (.cells #[.int .i64 c.ck, .int .i64 c.nx, .int .i64 c.wt, vt] 24)) := by
  have hx := bbox w3 (.cells #[.int .i64 c.ck, .int .i64 c.nx, .int .i64 c.wt, vt] 24)
  have h1 := hb.below hb.1 hb3
  have h2 := hz.below hz.1 hb3
  have hsz := hb3.size
  have hzl := hz.1
  exact ⟨bstep (bstep hbel hb3) hx, h1.below h1.1 hx, h2.below h2.1 hx, cb_new _ _ _ _ _ rfl, OwnW.below hf (Nat.le_refl _) hx, hz.1, by omega, fun e => by have := (hf.o.blk _ e).2; omega, fun i hi e => by have := ((hf.i i hi).blk _ e).2; omega⟩

end Go.Proofs.Ytjhpfnogdjpbmaa
