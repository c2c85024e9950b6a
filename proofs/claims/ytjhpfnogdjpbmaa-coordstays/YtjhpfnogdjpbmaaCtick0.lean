/-
  The walk of coord.Tick.
-/
import Derived.Test.YtjhpfnogdjpbmaaCturn
namespace Go.Proofs.Ytjhpfnogdjpbmaa
open Go.RowKit
set_option linter.unusedVariables false
set_option linter.unusedSimpArgs false

/-- Behind the first k of the round: these have had their turn. -/
def Crd.tickTo (c : Crd) (n : Int) (k : Nat) : Crd := { c with ck := c.ck + n, ts := (c.ts.take k).map (fun t => t.tick (c.ck + n) c.wt) ++ c.ts.drop k }
theorem tickTo_len (c : Crd) (n : Int) (k : Nat) : (c.tickTo n k).ts.length = c.ts.length := by unfold Crd.tickTo; simp; omega
theorem tickTo_at {c : Crd} {n : Int} {k : Nat} (hk : k < c.ts.length) : (c.tickTo n k).at k = c.at k := by
  have l1 : ((c.ts.take k).map (fun t => t.tick (c.ck + n) c.wt)).length = k := by simp; omega
  unfold Crd.at Crd.tickTo
  simp only [List.getD_eq_getElem?_getD]
  rw [List.getElem?_append_right (by omega), l1, Nat.sub_self, List.getElem?_drop, Nat.add_zero]
theorem tickTo_next {c : Crd} {n : Int} {k : Nat} (hk : k < c.ts.length) : (c.tickTo n k).setT k ((c.at k).tick (c.ck + n) c.wt) = c.tickTo n (k + 1) := by
  unfold Crd.setT Crd.tickTo
  rw [at_txn hk]
  congr 1
  have e1 : (c.ts.take (k + 1)).map (fun t => t.tick (c.ck + n) c.wt) = (c.ts.take k).map (fun t => t.tick (c.ck + n) c.wt) ++ [(c.ts[k]'hk).tick (c.ck + n) c.wt] := by
    rw [List.take_succ_eq_append_getElem hk, List.map_append]; rfl
  have l1 : ((c.ts.take k).map (fun t => t.tick (c.ck + n) c.wt)).length = k := by simp; omega
  rw [e1, List.set_append_right _ _ (by omega), l1, Nat.sub_self, List.append_assoc]
  congr 1
  rw [List.drop_eq_getElem_cons hk]
  rfl
theorem tickTo_zero (c : Crd) (n : Int) : c.tickTo n 0 = { c with ck := c.ck + n } := by unfold Crd.tickTo; simp
theorem tickTo_all (c : Crd) (n : Int) : c.tickTo n c.ts.length = { c with ck := c.ck + n, ts := c.ts.map (fun t => t.tick (c.ck + n) c.wt) } := by unfold Crd.tickTo; simp

set_option maxRecDepth 100000 in
theorem overdue_fn (B : Nat) (c : Crd) (vc : Value) (w : World) (hx : CB w B c vc) : ∀ (W : World) (x : Txn) (u : Value), Below w.heap.size w W → 0 ≤ x.sn → x.sn ≤ 1073741824 → 0 ≤ c.ck → c.ck ≤ 1073741824 →
    Calls Try.prog 81 #[.agg #[.string x.nm, .int .i64 x.id, .int .i64 x.v, .int .i64 x.st, u, .int .i64 x.sn, .int .i64 x.dn], .pointer (some ⟨B, 0, none⟩)] W fun e w' => e = .returned (.bool (x.lateB c.ck c.wt)) ∧ Below W.heap.size W w' := by
  intro W x u hbel hs0 hs1 hc0 hc1
  have hx' := hx.below hx.1 hbel
  obtain ⟨hBW, ⟨a0, a1, a2, a3⟩, -⟩ := hx'
  have hne := Nat.ne_of_lt hBW
  have HE : Hid (x.lateB c.ck c.wt = ((x.st == 2) && (decide (c.wt ≤ c.ck - x.sn)) && (x.v != 1073741824))) := show _ = _ by
    unfold Txn.lateB
    congr 2
    exact decide_eq_decide.2 (by omega)
  clear hx a1 a3
  go_enter Try.func81, Try.ntmps81
  go_wp2
  all_goals
    go_ret
    exact ⟨by rw [HE.out]; first | (simp [*]; done) | (simp [*]; omega), bbox _ _⟩

set_option maxRecDepth 100000 in
theorem overdue_any (c : Crd) (vt : Value) (w : World) :
    Calls Try.prog 68 #[.agg #[.int .i64 c.ck, .int .i64 c.nx, .int .i64 c.wt, vt]] w fun e w' => e = .returned (.func (.func 81) #[] #[.pointer (some ⟨w.heap.size, 0, none⟩)]) ∧ CB w' w.heap.size c vt ∧ Below w.heap.size w w' := by
  have HT : Hid (CB _ w.heap.size c vt) := cb_new w c vt 24 w.heap.size rfl
  go_enter Try.func68, Try.ntmps68
  go_wp2
  go_ret
  exact ⟨rfl, HT.out, bbox _ _⟩

end Go.Proofs.Ytjhpfnogdjpbmaa
