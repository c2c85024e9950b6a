/-
  Rows that were made, of n elements each: a part of which nothing is known.
-/
import Derived.Test.YtkolelpdedmkeaaAsd
import Derived.Laws.MakeOwn
namespace Go.Proofs.Ytkolelpdedmkeaa
open Go.RowKit
set_option linter.unusedVariables false
set_option linter.unusedSimpArgs false

set_option maxRecDepth 100000

def rowB (n : Nat) : Array Value := madeCells (Value.bool false).cells n
def rowI (n : Nat) : Array Value := madeCells (Value.int .i64 0).cells n
def rowR (n : Nat) : Array Value := madeCells zeroR.cells (n * 4)
theorem mk_B (n : Nat) (hn : (n : Int) ≤ 5) (w : World) : (Instr.makeSlice 22 (.int .i64 n) (.int .i64 n)).run Try.prog w = .ok (.slice (some ⟨w.heap.size, 0, none⟩) n n) (w.alloc (.cells (rowB n) 4)) := by
  obtain ⟨i, hi, hz0, hz1, hz2⟩ := info_parts infoBool
  have := run_make (P := Try.prog) w 22 4 i (.bool false) Try.underlying22 hi hz0 .i64 .i64 n n (by omega) (Int.le_refl _) (by rw [hz2]; omega) (by omega)
  rw [this, hz1, Int.toNat_natCast, Nat.mul_one]
  rfl
theorem mk_I (n : Nat) (hn : (n : Int) ≤ 5) (w : World) : (Instr.makeSlice 23 (.int .i64 n) (.int .i64 n)).run Try.prog w = .ok (.slice (some ⟨w.heap.size, 0, none⟩) n n) (w.alloc (.cells (rowI n) 3)) := by
  obtain ⟨i, hi, hz0, hz1, hz2⟩ := info_parts infoInt
  have := run_make (P := Try.prog) w 23 3 i (.int .i64 0) Try.underlying23 hi hz0 .i64 .i64 n n (by omega) (Int.le_refl _) (by rw [hz2]; omega) (by omega)
  rw [this, hz1, Int.toNat_natCast, Nat.mul_one]
  rfl
theorem mk_R (n : Nat) (hn : (n : Int) ≤ 5) (w : World) : (Instr.makeSlice 24 (.int .i64 n) (.int .i64 n)).run Try.prog w = .ok (.slice (some ⟨w.heap.size, 0, none⟩) n n) (w.alloc (.cells (rowR n) 63)) := by
  obtain ⟨i, hi, hz0, hz1, hz2⟩ := info_parts infoRep
  have := run_make (P := Try.prog) w 24 63 i zeroR Try.underlying24 hi hz0 .i64 .i64 n n (by omega) (Int.le_refl _) (by rw [hz2]; omega) (by omega)
  rw [this, hz1, Int.toNat_natCast]
  rfl
theorem five {n : Nat} (h0 : (1 : Int) ≤ n) (hn : (n : Int) ≤ 5) : n = 1 ∨ n = 2 ∨ n = 3 ∨ n = 4 ∨ n = 5 := by omega
theorem rows_are {n : Nat} (h0 : (1 : Int) ≤ n) (hn : (n : Int) ≤ 5) : ((rowB n).size = n ∧ (rowB n).toList = (List.replicate n false).map Value.bool) ∧ ((rowI n).size = n ∧ (rowI n).toList = (List.replicate n 0).map (Value.int .i64)) ∧ ((rowR n).size = n * 4 ∧ (rowR n).toList = repCells (fun _ => nilV) (List.replicate n Rep.zero) 0) := by
  rcases five h0 hn with rfl | rfl | rfl | rfl | rfl <;> exact ⟨⟨size_madeCells _ _, by simp [rowB, madeCells, zeroR, Value.cells, repCells, Rep.zero, nilV, List.range, List.range.loop, List.replicate]⟩, ⟨size_madeCells _ _, by simp [rowI, madeCells, zeroR, Value.cells, repCells, Rep.zero, nilV, List.range, List.range.loop, List.replicate]⟩, ⟨size_madeCells _ _, by simp [rowR, madeCells, zeroR, Value.cells, repCells, Rep.zero, nilV, List.range, List.range.loop, List.replicate]⟩⟩
theorem pb_of {W : World} {b : Nat} {q : Prt} {x y z : Value} (h : W.heap[b]? = some (.cells #[.int .i64 q.ep, .int .i64 q.ld, x, y, z, .int .i64 q.fw, .int .i64 q.bs] 26)) : PB W b q x y z :=
  ⟨(Array.getElem?_eq_some_iff.1 h).1, ⟨by rw [cell_of_row _ _ _ _ _ _ h]; rfl, by rw [cell_of_row _ _ _ _ _ _ h]; rfl, by rw [cell_of_row _ _ _ _ _ _ h]; rfl, by rw [cell_of_row _ _ _ _ _ _ h]; rfl, by rw [cell_of_row _ _ _ _ _ _ h]; rfl, by rw [cell_of_row _ _ _ _ _ _ h]; rfl, by rw [cell_of_row _ _ _ _ _ _ h]; rfl⟩, fun o => frozen_of_row _ _ _ _ _ h⟩
structure Made (w : World) (n : Nat) (few : Int) (b gi gk gr : Nat) (W : World) : Prop where
  i : W.heap[gi]? = some (.cells (rowB n) 4)
  k : W.heap[gk]? = some (.cells (rowI n) 3)
  r : W.heap[gr]? = some (.cells (rowR n) 63)
  p : W.heap[b]? = some (.cells #[.int .i64 0, .int .i64 (-1), (.slice (some ⟨gi, 0, none⟩) n n), (.slice (some ⟨gk, 0, none⟩) n n), (.slice (some ⟨gr, 0, none⟩) n n), .int .i64 few, .int .i64 0] 26)
  z : W.heap[w.heap.size]? = some (.cells #[.int .i64 0, .int .i64 0, .slice none 0 0, .slice none 0 0, .slice none 0 0, .int .i64 0, .int .i64 0] 26)
  bel : Below w.heap.size w W
  ne : gi ≠ gk ∧ gi ≠ gr ∧ gk ≠ gr ∧ b ≠ gi ∧ b ≠ gk ∧ b ≠ gr
  gt : w.heap.size < gi ∧ w.heap.size < gk ∧ w.heap.size < gr ∧ w.heap.size < b
  sz : w.heap.size < W.heap.size ∧ b < W.heap.size
theorem Made.sd {w W : World} {n : Nat} {few : Int} {b gi gk gr : Nat} (h : Made w n few b gi gk gr W) (h0 : (1 : Int) ≤ n) (hn : (n : Int) ≤ 5) : Sd (w.heap.size + 1) b w.heap.size w (⟨0, -1, List.replicate n false, List.replicate n 0, List.replicate n Rep.zero, few, 0⟩ : Prt) gi gk gr n n n n n n (fun _ => nilV) W := by
  obtain ⟨⟨x1, x2⟩, ⟨x3, x4⟩, ⟨x5, x6⟩⟩ := rows_are h0 hn
  obtain ⟨n1, n2, n3, n4, n5, n6⟩ := h.ne
  obtain ⟨g1, g2, g3, g4⟩ := h.gt
  have oi : OwnV (w.heap.size + 1) 4 1 (.slice (some ⟨gi, 0, none⟩) n n) n ((List.replicate n false).map Value.bool) W := ⟨⟨by simp, .inr ⟨gi, n, rowB n, rfl, by omega, h.i, Nat.le_refl _, by unfold maxLen; omega, by omega, by rw [List.take_of_length_le (by rw [x2]; simp), x2]⟩⟩, by have := h.sz; omega⟩
  have ok : OwnV (w.heap.size + 1) 3 1 (.slice (some ⟨gk, 0, none⟩) n n) n ((List.replicate n 0).map (Value.int .i64)) W := ⟨⟨by simp, .inr ⟨gk, n, rowI n, rfl, by omega, h.k, Nat.le_refl _, by unfold maxLen; omega, by omega, by rw [List.take_of_length_le (by rw [x4]; simp), x4]⟩⟩, by have := h.sz; omega⟩
  have or : OwnV (w.heap.size + 1) 63 4 (.slice (some ⟨gr, 0, none⟩) n n) n (repCells (fun _ => nilV) (List.replicate n Rep.zero) 0) W := ⟨⟨by rw [repCells_len]; simp, .inr ⟨gr, n, rowR n, rfl, by omega, h.r, Nat.le_refl _, by unfold maxLen; omega, by omega, by rw [List.take_of_length_le (by rw [x6, repCells_len]; simp), x6]⟩⟩, by have := h.sz; omega⟩
  have hn0 : 0 < n := by omega
  have fr : FreshP (w.heap.size + 1) W (⟨0, -1, List.replicate n false, List.replicate n 0, List.replicate n Rep.zero, few, 0⟩ : Prt) (.slice (some ⟨gi, 0, none⟩) n n) (.slice (some ⟨gk, 0, none⟩) n n) (.slice (some ⟨gr, 0, none⟩) n n) (fun _ => nilV) := ⟨by simpa using oi, by simpa using ok, by simpa using or, fun i hi => by
      have : ((⟨0, -1, List.replicate n false, List.replicate n 0, List.replicate n Rep.zero, few, 0⟩ : Prt)).rs[i]'hi = Rep.zero := by simp
      rw [this]
      exact ⟨fun n hn => by simp [Rep.zero] at hn, none, 0, rfl, by simp [Rep.zero], by simp [maxLen], fun _ => rfl, fun h => by simp [Rep.zero] at h⟩, fun k e e2 => by simp [Value.ownBlock] at e e2; omega, fun k e e2 => by simp [Value.ownBlock] at e e2; omega, fun k e e2 => by simp [Value.ownBlock] at e e2; omega, fun i hi k e => by simp [Value.ownBlock] at e⟩
  obtain ⟨gi', gk', gr', ci, ck, cr, e1, e2, e3, ho⟩ := fr.own (by simpa using hn0) (by simpa using hn0) (by simpa using hn0)
  simp only [Value.slice.injEq, Option.some.injEq, Addr.mk.injEq, and_true] at e1 e2 e3
  obtain ⟨rfl, -, rfl⟩ := e1
  obtain ⟨rfl, -, rfl⟩ := e2
  obtain ⟨rfl, -, rfl⟩ := e3
  exact ⟨ho, pb_of (q := (⟨0, -1, List.replicate n false, List.replicate n 0, List.replicate n Rep.zero, few, 0⟩ : Prt)) h.p, pb_of (q := Prt.zero) h.z, h.bel, by have := h.sz; omega, by simp, by simp, by simp, ⟨n4, n5, n6⟩, fun i hi e => by simp [Value.ownBlock] at e, by omega, by omega, by omega, Nat.le_refl _⟩
theorem alloc_at (w : World) (x : Obj) (k : Nat) (h : w.heap.size = k) : (w.alloc x).heap[k]? = some x := by
  subst h
  exact heap_alloc_new w x
theorem alloc_far (w : World) (x : Obj) (k : Nat) (h : k < w.heap.size) : (w.alloc x).heap[k]? = w.heap[k]? := Below.heap_alloc w x k h
/-- Five blocks, one behind the other. -/
theorem stack5 (w : World) (z a b c d : Obj) : ∀ W, W = (((((w.alloc z).alloc a).alloc b).alloc c).alloc d).drew → W.heap[w.heap.size]? = some z ∧ W.heap[w.heap.size + 1]? = some a ∧ W.heap[w.heap.size + 1 + 1]? = some b ∧ W.heap[w.heap.size + 1 + 1 + 1]? = some c ∧ W.heap[w.heap.size + 1 + 1 + 1 + 1]? = some d ∧ W.heap.size = w.heap.size + 5 ∧ Below w.heap.size w W := by
  rintro W rfl
  have s1 : (w.alloc z).heap.size = w.heap.size + 1 := by simp
  have s2 : ((w.alloc z).alloc a).heap.size = w.heap.size + 1 + 1 := by simp
  have s3 : (((w.alloc z).alloc a).alloc b).heap.size = w.heap.size + 1 + 1 + 1 := by simp
  have s4 : ((((w.alloc z).alloc a).alloc b).alloc c).heap.size = w.heap.size + 1 + 1 + 1 + 1 := by simp
  have s5 : (((((w.alloc z).alloc a).alloc b).alloc c).alloc d).heap.size = w.heap.size + 5 := by simp
  refine ⟨?_, ?_, ?_, ?_, ?_, s5, ?_⟩
  · show (((((w.alloc z).alloc a).alloc b).alloc c).alloc d).heap[w.heap.size]? = _
    rw [alloc_far _ _ _ (by omega), alloc_far _ _ _ (by omega), alloc_far _ _ _ (by omega), alloc_far _ _ _ (by omega), alloc_at _ _ _ rfl]
  · show (((((w.alloc z).alloc a).alloc b).alloc c).alloc d).heap[w.heap.size + 1]? = _
    rw [alloc_far _ _ _ (by omega), alloc_far _ _ _ (by omega), alloc_far _ _ _ (by omega), alloc_at _ _ _ s1]
  · show (((((w.alloc z).alloc a).alloc b).alloc c).alloc d).heap[w.heap.size + 1 + 1]? = _
    rw [alloc_far _ _ _ (by omega), alloc_far _ _ _ (by omega), alloc_at _ _ _ s2]
  · show (((((w.alloc z).alloc a).alloc b).alloc c).alloc d).heap[w.heap.size + 1 + 1 + 1]? = _
    rw [alloc_far _ _ _ (by omega), alloc_at _ _ _ s3]
  · show (((((w.alloc z).alloc a).alloc b).alloc c).alloc d).heap[w.heap.size + 1 + 1 + 1 + 1]? = _
    rw [alloc_at _ _ _ s4]
  · exact (bstep (bstep (bstep (bstep (bbox _ _) (bbox _ _)) (bbox _ _)) (bbox _ _)) (bbox _ _)).drew

end Go.Proofs.Ytkolelpdedmkeaa
