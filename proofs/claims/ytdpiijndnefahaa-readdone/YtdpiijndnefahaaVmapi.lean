/-
  Maps from numbers to numbers, looked up without asking whether the key is there, as functions; rows of bools that are written in place.
-/
import Derived.Test.YtdpiijndnefahaaAdev
import Derived.Maps.OwnOps
namespace Go.Proofs.Ytdpiijndnefahaa
open Go.RowKit Go.Maps
set_option linter.unusedVariables false
set_option linter.unusedSimpArgs false
set_option maxRecDepth 100000

/-- Block b is a map that gives M of each number; at most n entries. -/
def MapI (w : World) (b n : Nat) (M : Int → Int) : Prop :=
  ∃ D : DataW Unit, w.ownsMap Try.prog 3 (plainElem Try.prog 3) b n D ∧ ∀ k : Int, -9223372036854775808 ≤ k → k ≤ 9223372036854775807 → D.atKey (.int .i64 k) (.lit (.int .i64 0)) = .lit (.int .i64 (M k))
theorem MapI.lt {w : World} {b n : Nat} {M : Int → Int} (h : MapI w b n M) : b < w.heap.size := by
  obtain ⟨D, h, _⟩ := h
  exact h.lt
theorem MapI.below {w w' : World} {b n C : Nat} {M : Int → Int} (h : MapI w b n M) (hC : b < C) (hb : Below C w w') : MapI w' b n M := by
  obtain ⟨D, ⟨es, clock, h1, r⟩, h2⟩ := h
  exact ⟨D, ⟨es, clock, by rw [hb.block b (by omega)]; exact h1, r⟩, h2⟩
theorem MapI.setCell {w : World} {b n : Nat} {M : Int → Int} (h : MapI w b n M) {a : Addr} (ha : b ≠ a.block) (u : Value) : MapI (w.setCell a u) b n M := by
  obtain ⟨D, h1, h2⟩ := h
  exact ⟨D, h1.setCell ha u, h2⟩
theorem MapI.mono {w : World} {b n m : Nat} {M : Int → Int} (h : MapI w b n M) (hm : n ≤ m) : MapI w b m M := by
  obtain ⟨D, h1, h2⟩ := h
  exact ⟨D, h1.mono hm, h2⟩
theorem mapI_new (w : World) (M : Int → Int) (hM : ∀ k, M k = 0) : MapI (w.alloc (.map #[] 0)) w.heap.size 0 M :=
  ⟨.map [], World.ownsMap_made _ _ _ _, fun k _ _ => by rw [hM]; rfl⟩
theorem zeroI (w : World) : (zeroValue 3).run Try.prog w = .ok (.int .i64 0) w := by kernel_rfl

theorem MapI.look {w : World} {b n : Nat} {M : Int → Int} (h : MapI w b n M) (k : Int) (hk : -9223372036854775808 ≤ k ∧ k ≤ 9223372036854775807) :
    (Instr.lookup 43 (.map (some b)) (.int .i64 k) false).run Try.prog w = .ok (.int .i64 (M k)) w := by
  obtain ⟨D, h1, h2⟩ := h
  have a1 := h2 k hk.1 hk.2
  obtain ⟨c, hrun, hat, hwc⟩ := h1.lookup_int lawI Try.underlying43 Try.underlying3 (zeroI w) (key_i k hk)
  rw [a1] at hat
  injection hat with hat
  injection hat with _ hat
  rw [hrun, hat]

theorem MapI.store {w : World} {b n : Nat} {M : Int → Int} (h : MapI w b n M) (hn : n < maxLen) (k c : Int) (hk : -9223372036854775808 ≤ k ∧ k ≤ 9223372036854775807) (hc : -9223372036854775808 ≤ c ∧ c ≤ 9223372036854775807) :
    ∃ w', (Instr.mapUpdate 43 (.map (some b)) (.int .i64 k) (.int .i64 c)).run Try.prog w = .ok () w' ∧ MapI w' b (n + 1) (fun j => if j = k then c else M j) ∧ w.grownBy w' (some b) := by
  obtain ⟨D, h1, h2⟩ := h
  obtain ⟨w', hrun, hown, hg⟩ := h1.update lawI Try.underlying43 hn (key_i k hk) (plainElem_int Try.underlying3 (wf_i c hc))
  refine ⟨w', hrun, ⟨_, hown, fun j j1 j2 => ?_⟩, hg⟩
  by_cases hj : j = k
  · subst hj
    simp only [if_true]
    exact atKey_put_same h1.isMap (lawI.key (key_i j hk)) _ _
  · have hne : Lit.int .i64 j ≠ Lit.int .i64 k := fun e => hj (by injection e)
    simp only [if_neg hj]
    rw [atKey_put_other hne]
    exact h2 j j1 j2

section
variable {w : World} {ops : Array Oper} {rest : List Oper} {o : Oper} {a : Act} {Q : Exit → Act → World → Prop}
theorem wp_storeI (hg : o.guard = none) (m x v : Operand) (hop : o.op = Op.mapUpdate 43 m x v) (b n : Nat) (M : Int → Int) (hm : a.eval m = .map (some b)) (h : MapI w b n M) (hn : n < maxLen)
    (k : Int) (hx : a.eval x = .int .i64 k) (hk : -9223372036854775808 ≤ k ∧ k ≤ 9223372036854775807) (c : Int) (hv : a.eval v = .int .i64 c) (hc : -9223372036854775808 ≤ c ∧ c ≤ 9223372036854775807)
    (hK : ∀ w', MapI w' b (n + 1) (fun j => if j = k then c else M j) → w.grownBy w' (some b) → wpList Try.prog ops Q rest (a.put o.dst undef) w') :
    wpList Try.prog ops Q (o :: rest) a w := by
  refine wpList_plain hg fun K' hK' => ?_
  obtain ⟨w', hrun, r1, r2⟩ := h.store hn k c hk hc
  unfold Oper.wp
  simp [execOp, hop, hm, hx, hv, hrun, Result.andThen]
  exact hK' _ _ (hK w' r1 r2)
end

/-- Block g is a row of n bools that may be written. -/
def Bools (w : World) (g n : Nat) (f : Nat → Bool) : Prop := g < w.heap.size ∧ ∀ i, i < n → w.cell? ⟨g, i, none⟩ = some (.bool (f i)) ∧ w.frozen? ⟨g, i, none⟩ = false
theorem Bools.below {w w' : World} {g n C : Nat} {f : Nat → Bool} (h : Bools w g n f) (hg : g < C) (hb : Below C w w') : Bools w' g n f := by
  obtain ⟨h1, h2⟩ := h
  exact ⟨Nat.lt_of_lt_of_le h1 hb.size, fun i hi => ⟨(hb.cell (p := ⟨g, i, none⟩) hg).trans (h2 i hi).1, (hb.frozen (p := ⟨g, i, none⟩) hg).trans (h2 i hi).2⟩⟩
theorem Bools.congr {w : World} {g n : Nat} {f f' : Nat → Bool} (h : Bools w g n f) (hf : ∀ i, i < n → f i = f' i) : Bools w g n f' :=
  ⟨h.1, fun i hi => by rw [← hf i hi]; exact h.2 i hi⟩
theorem Bools.grown {w w' : World} {g n b : Nat} {f : Nat → Bool} (h : Bools w g n f) (hg : w.grownBy w' (some b)) (hne : g ≠ b) : Bools w' g n f := by
  obtain ⟨h1, h2⟩ := h
  have e1 : ∀ o, w'.cell? ⟨g, o, none⟩ = w.cell? ⟨g, o, none⟩ := fun o => by
    simp only [World.cell?]
    rw [hg.block g h1 (fun e => hne (by injection e))]
  have e2 : ∀ o, w'.frozen? ⟨g, o, none⟩ = w.frozen? ⟨g, o, none⟩ := fun o => by
    simp only [World.frozen?]
    rw [hg.block g h1 (fun e => hne (by injection e))]
  exact ⟨Nat.lt_of_lt_of_le h1 hg.size, fun i hi => ⟨(e1 i).trans (h2 i hi).1, (e2 i).trans (h2 i hi).2⟩⟩
theorem Bools.set {w : World} {g n : Nat} {f : Nat → Bool} (h : Bools w g n f) (i : Nat) (hi : i < n) (b : Bool) : Bools (w.setCell ⟨g, i, none⟩ (.bool b)) g n (fun j => if j = i then b else f j) := by
  obtain ⟨h1, h2⟩ := h
  refine ⟨by simpa using h1, fun j hj => ?_⟩
  obtain ⟨c1, c2⟩ := h2 j hj
  obtain ⟨d1, d2⟩ := h2 i hi
  by_cases e : j = i
  · subst e
    simp [go_sem, c1, c2]
  · simp [go_sem, c1, c2, d1, e]

end Go.Proofs.Ytdpiijndnefahaa
