/-
  coord.Next: the closure that counts, the marker.
-/
import Derived.Test.YtjhpfnogdjpbmaaCfind
namespace Go.Proofs.Ytjhpfnogdjpbmaa
open Go.RowKit
set_option linter.unusedVariables false
set_option linter.unusedSimpArgs false

/-- An entry that is a marker, or none. -/
def entV (pid ver kind : Int) (b : Bool) : Value := .agg #[.int .i64 0, .int .i64 pid, .int .i64 ver, .int .i64 0, .int .i64 kind, .bool b, .string ⟨#[]⟩]

set_option maxRecDepth 100000 in
set_option maxHeartbeats 1000000 in
theorem marker_any (t : Txn) (u : Value) (w : World) :
    Calls Try.prog 65 #[.agg #[.string t.nm, .int .i64 t.id, .int .i64 t.v, .int .i64 t.st, u, .int .i64 t.sn, .int .i64 t.dn]] w fun e w' => e = .returned (entV t.id t.v t.mkK true) ∧ Below w.heap.size w w' := by
  by_cases h : t.st = 3
  · have d : (t.st == 3) = true := by simp [h]
    have HK : Hid (t.mkK = 2) := show _ = _ by unfold Txn.mkK; rw [if_pos h]
    clear h
    go_enter Try.func65, Try.ntmps65
    go_wp2
    exact bodyPost_ret (v := entV t.id t.v 2 true) (by simp [results, Try.results65, go_sem, entV]) rfl ⟨by rw [HK.out], bstep (bbox _ _) (bbox _ _)⟩
  · have d : (t.st == 3) = false := by simp [h]
    have HK : Hid (t.mkK = 3) := show _ = _ by unfold Txn.mkK; rw [if_neg h]
    clear h
    go_enter Try.func65, Try.ntmps65
    go_wp2
    exact bodyPost_ret (v := entV t.id t.v 3 true) (by simp [results, Try.results65, go_sem, entV]) rfl ⟨by rw [HK.out], bstep (bbox _ _) (bbox _ _)⟩

set_option maxRecDepth 100000 in
theorem nthW_any (n : Int) (w : World) :
    Calls Try.prog 64 #[.int .i64 n] w fun e w' => e = .returned (.func (.func 80) #[] #[.pointer (some ⟨w.heap.size + 1, 0, none⟩), .pointer (some ⟨w.heap.size, 0, none⟩)]) ∧ w.heap.size + 1 < w'.heap.size ∧ w'.cell? ⟨w.heap.size, 0, none⟩ = some (.int .i64 n) ∧ w'.cell? ⟨w.heap.size + 1, 0, none⟩ = some (.int .i64 (-1)) ∧ (∀ o, w'.frozen? ⟨w.heap.size + 1, o, none⟩ = false) ∧ Below w.heap.size w w' := by
  go_enter Try.func64, Try.ntmps64
  go_wp2
  go_ret
  exact ⟨rfl, by simp, by simp, by simp, fun o => by simp [go_sem], bstep (bbox _ _) (bbox _ _)⟩

set_option maxRecDepth 100000 in
set_option maxHeartbeats 1000000 in
theorem nthFn_any (B C : Nat) (k n : Int) (x : Txn) (u : Value) (W : World) (hBC : B ≠ C) (hB : B < W.heap.size) (hC : C < W.heap.size) (hb : W.cell? ⟨B, 0, none⟩ = some (.int .i64 n)) (hc : W.cell? ⟨C, 0, none⟩ = some (.int .i64 (k - 1))) (hf : ∀ o, W.frozen? ⟨C, o, none⟩ = false) (h0 : 0 ≤ k) (h1 : k ≤ 1000) :
    Calls Try.prog 80 #[.agg #[.string x.nm, .int .i64 x.id, .int .i64 x.v, .int .i64 x.st, u, .int .i64 x.sn, .int .i64 x.dn], .pointer (some ⟨C, 0, none⟩), .pointer (some ⟨B, 0, none⟩)] W fun e W' => e = .returned (.bool (x.endB && k == n)) ∧ (∀ K, K ≤ C → K ≤ W.heap.size → Below K W W') ∧ W'.cell? ⟨B, 0, none⟩ = some (.int .i64 n) ∧ W'.cell? ⟨C, 0, none⟩ = some (.int .i64 ((k + if x.endB then 1 else 0) - 1)) ∧ (∀ o, W'.frozen? ⟨C, o, none⟩ = false) ∧ W.heap.size ≤ W'.heap.size := by
  go_enter Try.func80, Try.ntmps80
  go_wp2_with fail
  refine (hasMarkers_any x u _).mono ?_
  rintro e w1 ⟨rfl, hb1⟩
  have hz := hb1.size
  simp at hz
  have hB1 : B < w1.heap.size := by omega
  have hC1 : C < w1.heap.size := by omega
  have b1 := (hb1.cell (p := ⟨B, 0, none⟩) (by simp; omega)).trans (((bbox W _).cell (p := ⟨B, 0, none⟩) hB).trans hb)
  have c1 := (hb1.cell (p := ⟨C, 0, none⟩) (by simp; omega)).trans (((bbox W _).cell (p := ⟨C, 0, none⟩) hC).trans hc)
  have f1 : ∀ o, w1.frozen? ⟨C, o, none⟩ = false := fun o => (hb1.frozen (p := ⟨C, o, none⟩) (by simp; omega)).trans (((bbox W _).frozen (p := ⟨C, o, none⟩) hC).trans (hf o))
  have HBB : Hid (∀ K, K ≤ C → K ≤ W.heap.size → Below K W w1) := fun K h1 h2 => ((bbox W _).trans (hb1.mono (by simp))).mono h2
  clear hb1 hb hc hf
  cases he : x.endB with
  | false =>
    go_wp2
    all_goals
      go_ret
      exact ⟨rfl, HBB.out, b1, by simpa using c1, f1, by omega⟩
  | true =>
    have hcb : C ≠ B := fun h => hBC h.symm
    go_wp2
    all_goals
      go_ret
      refine ⟨?_, fun K h2 h3 => (HBB.out K h2 h3).setCell (p := ⟨C, 0, none⟩) h2 _, ?_, ?_, frozen_set f1 _ _ _ f1, by simp; omega⟩
      · first | rfl | simp [*]
      · simp [go_sem, b1, c1, hBC, hcb]
      · simp [go_sem, c1]

end Go.Proofs.Ytjhpfnogdjpbmaa
