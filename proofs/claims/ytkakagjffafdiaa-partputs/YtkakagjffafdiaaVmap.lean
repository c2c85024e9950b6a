/-
  Maps from numbers to what is told of producers, and to numbers, as functions.
-/
import Derived.Test.YtkakagjffafdiaaVprod
import Derived.Maps.RangeWalk
namespace Go.Proofs.Ytkakagjffafdiaa
open Go.RowKit Go.Maps
set_option linter.unusedVariables false
set_option linter.unusedSimpArgs false

theorem lawI : Keyed Try.prog 3 := int_keyed Try.underlying3
theorem wf_i (k : Int) (h : -9223372036854775808 ≤ k ∧ k ≤ 9223372036854775807) : (Lit.int .i64 k).wf = true := WalkArith.wf_i64 h
theorem key_i (k : Int) (h : -9223372036854775808 ≤ k ∧ k ≤ 9223372036854775807) : keyOf Try.prog 3 (.int .i64 k) = some (.int .i64 k) := keyOf_int_mk Try.underlying3 (wf_i k h)

/-- As a value. -/
def Prd.val (q : Prd) : Value := .agg #[.int .i64 q.v, .int .i64 q.n, .int .i64 q.b, .int .i64 q.m]
/-- As it reads. -/
def Prd.dat (q : Prd) : DataW Unit := .agg [.lit (.int .i64 q.v), .lit (.int .i64 q.n), .lit (.int .i64 q.b), .lit (.int .i64 q.m)]
def Prd.zero : Prd := ⟨0, 0, 0, 0⟩
/-- How an element reads. -/
def prdElem : Value → Option (DataW Unit × List MemPlace)
  | .agg ⟨[.int .i64 a, .int .i64 b, .int .i64 c, .int .i64 d]⟩ => some ((⟨a, b, c, d⟩ : Prd).dat, [])
  | _ => none
theorem prdElem_mk (q : Prd) : prdElem q.val = some (q.dat, []) := rfl
theorem dat_inj {q r : Prd} (h : q.dat = r.dat) : q = r := by
  obtain ⟨a, b, c, d⟩ := q
  obtain ⟨a', b', c', d'⟩ := r
  simp only [Prd.dat] at h
  injection h with h
  simp at h
  obtain ⟨rfl, rfl, rfl, rfl⟩ := h
  rfl
theorem prdElem_inv {v : Value} {y : DataW Unit × List MemPlace} (h : prdElem v = some y) : ∃ q : Prd, v = q.val ∧ y = (q.dat, []) := by
  unfold prdElem at h
  split at h
  · cases h
    exact ⟨⟨_, _, _, _⟩, rfl, rfl⟩
  · cases h

/-- Block b is a map that tells M of each number; at most n entries. -/
def MapP (w : World) (b n : Nat) (M : Int → Option Prd) : Prop :=
  ∃ D : DataW Unit, w.ownsMap Try.prog 3 prdElem b n D ∧ ∀ k : Int, -9223372036854775808 ≤ k → k ≤ 9223372036854775807 → Maps.has D (.int .i64 k) = (M k).isSome ∧ ∀ q, M k = some q → ∀ z, D.atKey (.int .i64 k) z = q.dat

theorem MapP.drewN {w : World} {b n : Nat} {M : Int → Option Prd} (h : MapP w b n M) (q : Nat) : MapP (w.drewN q) b n M := h
theorem MapP.lt {w : World} {b n : Nat} {M : Int → Option Prd} (h : MapP w b n M) : b < w.heap.size := by
  obtain ⟨D, h, _⟩ := h
  exact h.lt
theorem MapP.below {w w' : World} {b n C : Nat} {M : Int → Option Prd} (h : MapP w b n M) (hC : w.heap.size ≤ C) (hb : Below C w w') : MapP w' b n M := by
  obtain ⟨D, ⟨es, clock, h1, r⟩, h2⟩ := h
  have hlt : b < w.heap.size := (Array.getElem?_eq_some_iff.1 h1).1
  exact ⟨D, ⟨es, clock, by rw [hb.block b (by omega)]; exact h1, r⟩, h2⟩
theorem MapP.grown {w w' : World} {b n : Nat} {M : Int → Option Prd} {row : Option Nat} (h : MapP w b n M) (hg : w.grownBy w' row) (hr : some b ≠ row) : MapP w' b n M := by
  obtain ⟨D, h1, h2⟩ := h
  exact ⟨D, h1.kept hg hr, h2⟩
theorem mapP_new (w : World) (M : Int → Option Prd) (hM : ∀ k, M k = none) : MapP (w.alloc (.map #[] 0)) w.heap.size 0 M :=
  ⟨.map [], World.ownsMap_made _ _ _ _, fun k _ _ => ⟨by rw [hM]; rfl, fun q h => by rw [hM] at h; cases h⟩⟩

theorem zeroP (w : World) : (zeroValue 104).run Try.prog w = .ok Prd.zero.val w := by kernel_rfl

/-- What is looked up. -/
theorem MapP.look {w : World} {b n : Nat} {M : Int → Option Prd} (h : MapP w b n M) (k : Int) (hk : -9223372036854775808 ≤ k ∧ k ≤ 9223372036854775807) :
    (Instr.lookup 106 (.map (some b)) (.int .i64 k) true).run Try.prog w = .ok (.tuple #[((M k).getD Prd.zero).val, .bool (M k).isSome]) w := by
  obtain ⟨D, h1, h2⟩ := h
  obtain ⟨a1, a2⟩ := h2 k hk.1 hk.2
  obtain ⟨v, ps, hrun, hv⟩ := h1.look_ok lawI Try.underlying106 (zeroP w) (prdElem_mk Prd.zero) (key_i k hk)
  rw [hrun, a1]
  obtain ⟨q, rfl, hy⟩ := prdElem_inv hv
  simp only [Prod.mk.injEq] at hy
  cases hM : M k with
  | none =>
    rw [hM] at a1
    rw [atKey_of_not_has a1] at hy
    rw [← dat_inj hy.1]
    rfl
  | some q' =>
    rw [a2 q' hM] at hy
    rw [← dat_inj hy.1]
    rfl

/-- What is stored. -/
theorem MapP.store {w : World} {b n : Nat} {M : Int → Option Prd} (h : MapP w b n M) (hn : n < maxLen) (k : Int) (hk : -9223372036854775808 ≤ k ∧ k ≤ 9223372036854775807) (q : Prd) :
    ∃ w', (Instr.mapUpdate 106 (.map (some b)) (.int .i64 k) q.val).run Try.prog w = .ok () w' ∧ MapP w' b (n + 1) (fun j => if j = k then some q else M j) ∧ w.grownBy w' (some b) := by
  obtain ⟨D, h1, h2⟩ := h
  obtain ⟨w', hrun, hown, hg⟩ := h1.update lawI Try.underlying106 hn (key_i k hk) (prdElem_mk q)
  refine ⟨w', hrun, ⟨_, hown, fun j j1 j2 => ?_⟩, hg⟩
  by_cases hj : j = k
  · subst hj
    simp only [if_true]
    refine ⟨by rw [has_put_same h1.isMap (lawI.key (key_i j hk))]; rfl, fun q' hq z => ?_⟩
    obtain rfl := Option.some.inj hq
    exact atKey_put_same h1.isMap (lawI.key (key_i j hk)) _ _
  · have hne : Lit.int .i64 j ≠ Lit.int .i64 k := fun e => hj (by injection e)
    obtain ⟨a1, a2⟩ := h2 j j1 j2
    simp only [if_neg hj]
    exact ⟨by rw [has_put_other hne]; exact a1, fun q' hq z => by rw [atKey_put_other hne]; exact a2 q' hq z⟩

section
variable {w : World} {ops : Array Oper} {rest : List Oper} {o : Oper} {a : Act} {Q : Exit → Act → World → Prop}
theorem wp_storeP (hg : o.guard = none) (m x v : Operand) (hop : o.op = Op.mapUpdate 106 m x v) (b n : Nat) (M : Int → Option Prd) (hm : a.eval m = .map (some b)) (h : MapP w b n M) (hn : n < maxLen)
    (k : Int) (hx : a.eval x = .int .i64 k) (hk : -9223372036854775808 ≤ k ∧ k ≤ 9223372036854775807) (q : Prd) (hv : a.eval v = q.val)
    (hK : ∀ w', MapP w' b (n + 1) (fun j => if j = k then some q else M j) → w.grownBy w' (some b) → wpList Try.prog ops Q rest (a.put o.dst undef) w') :
    wpList Try.prog ops Q (o :: rest) a w := by
  refine wpList_plain hg fun K' hK' => ?_
  obtain ⟨w', hrun, r1, r2⟩ := h.store hn k hk q
  unfold Oper.wp
  simp [execOp, hop, hm, hx, hv, hrun, Result.andThen]
  exact hK' _ _ (hK w' r1 r2)
theorem wp_lookP (hg : o.guard = none) (m x : Operand) (hop : o.op = Op.lookup 106 m x true) (b n : Nat) (M : Int → Option Prd) (hm : a.eval m = .map (some b)) (h : MapP w b n M)
    (k : Int) (hx : a.eval x = .int .i64 k) (hk : -9223372036854775808 ≤ k ∧ k ≤ 9223372036854775807)
    (hK : wpList Try.prog ops Q rest (a.put o.dst (.tuple #[((M k).getD Prd.zero).val, .bool (M k).isSome])) w) :
    wpList Try.prog ops Q (o :: rest) a w := by
  refine wpList_plain hg fun K' hK' => ?_
  have hrun := h.look k hk
  unfold Oper.wp
  simp [execOp, hop, hm, hx, hrun, Result.andThen]
  exact hK' _ _ hK
end

end Go.Proofs.Ytkakagjffafdiaa
