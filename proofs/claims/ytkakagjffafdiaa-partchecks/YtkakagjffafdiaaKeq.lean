/-
  A slice of entries, as it reads.
-/
import Derived.Test.YtkakagjffafdiaaDec
namespace Go.Proofs.Ytkakagjffafdiaa
open Go.RowKit
set_option linter.unusedVariables false
set_option linter.unusedSimpArgs false

theorem Rd.drewN {w : World} {v : Value} {l : List Int} (h : Rd w v l) (n : Nat) : Rd (w.drewN n) v l := h
theorem OwnE.drewN {B : Nat} {v : Value} {es : List Ent} {w : World} (h : OwnE B v es w) (n : Nat) : OwnE B v es (w.drewN n) := h

/-- A slice of entries that reads as es. -/
def RdE (w : World) (v : Value) (es : List Ent) : Prop :=
  ∃ ao cap, v = .slice ao es.length cap ∧ es.length ≤ cap ∧ cap ≤ maxLen ∧ (0 < es.length → ∃ g, ao = some ⟨g, 0, none⟩ ∧ ∀ i, (h : i < es.length) → ∀ j, j < 7 → w.cell? ⟨g, i * 7 + j, none⟩ = (es[i]'h).cells[j]?)

theorem cells_len (e : Ent) : e.cells.length = 7 := rfl
theorem flat_get (es : List Ent) (i j : Nat) (h : i < es.length) (hj : j < 7) : (es.flatMap Ent.cells)[i * 7 + j]? = (es[i]'h).cells[j]? := by
  induction es generalizing i with
  | nil => simp at h
  | cons e es ih =>
    rw [List.flatMap_cons]
    cases i with
    | zero =>
      rw [List.getElem?_append_left (by rw [cells_len]; omega)]
      simp
    | succ i =>
      rw [List.getElem?_append_right (by rw [cells_len]; omega), cells_len, show (i + 1) * 7 + j - 7 = i * 7 + j by omega, ih i (by simpa using h)]
      simp

theorem OwnE.rd {B : Nat} {v : Value} {es : List Ent} {w : World} (h : OwnE B v es w) : RdE w v es := by
  obtain ⟨h1, h4⟩ := h
  rcases h1.2 with ⟨rfl, h0⟩ | ⟨g, cap, cur, rfl, r2, r3, r4, r5, r6⟩
  · refine ⟨none, 0, by rw [h0], by omega, by unfold maxLen; omega, fun h => by omega⟩
  · refine ⟨_, _, rfl, r4, r5, fun _ => ⟨g, rfl, fun i hi j hj => ?_⟩⟩
    have := h1.cellAt (i * 7 + j) (by omega)
    rw [this, flat_get es i j hi hj]

theorem seven {w : World} {g n : Nat} {e : Ent} (h : ∀ j, j < 7 → w.cell? ⟨g, n + j, none⟩ = e.cells[j]?) :
    w.cell? ⟨g, n, none⟩ = some (.int .i64 e.a) ∧ w.cell? ⟨g, n + 1, none⟩ = some (.int .i64 e.b) ∧ w.cell? ⟨g, n + 2, none⟩ = some (.int .i64 e.c) ∧ w.cell? ⟨g, n + 3, none⟩ = some (.int .i64 e.d) ∧ w.cell? ⟨g, n + 4, none⟩ = some (.int .i64 e.k) ∧ w.cell? ⟨g, n + 5, none⟩ = some (.bool e.t) ∧ w.cell? ⟨g, n + 6, none⟩ = some (.string e.s) :=
  ⟨h 0 (by omega), h 1 (by omega), h 2 (by omega), h 3 (by omega), h 4 (by omega), h 5 (by omega), h 6 (by omega)⟩


theorem ent_ext (x y : Ent) (h1 : x.a = y.a) (h2 : x.b = y.b) (h3 : x.c = y.c) (h4 : x.d = y.d) (h5 : x.k = y.k) (h6 : x.t = y.t) (h7 : x.s.toList = y.s.toList) : x = y := by
  obtain ⟨xa, xb, xc, xd, xk, xt, xs⟩ := x
  obtain ⟨ya, yb, yc, yd, yk, yt, ys⟩ := y
  simp only at h1 h2 h3 h4 h5 h6 h7
  have h8 : xs = ys := by
    rw [Lib.toList_data, Lib.toList_data] at h7
    exact WideShapes.bytes_inj h7
  subst h1 h2 h3 h4 h5 h6 h8
  rfl

/-- Two entries that are not one are told apart. -/
theorem ent_ne (x y : Ent) (w : World) (h : x ≠ y) : (binOp .eql 36 (.agg #[.int .i64 x.a, .int .i64 x.b, .int .i64 x.c, .int .i64 x.d, .int .i64 x.k, .bool x.t, .string x.s]) (.agg #[.int .i64 y.a, .int .i64 y.b, .int .i64 y.c, .int .i64 y.d, .int .i64 y.k, .bool y.t, .string y.s])).run Try.prog w = .ok (.bool false) w := by
  go_simp
  intro h1 h2 h3 h4 h5 h6 h7
  exact h (ent_ext x y h1 h2 h3 h4 h5 h6 h7)

end Go.Proofs.Ytkakagjffafdiaa
