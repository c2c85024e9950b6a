/-
  The walks of the law's own helpers: octets (a copy), sameEntries (of one list twice).
-/
import Derived.Test.YtlmgchojdjbkpaaRents
namespace Go.Proofs.Ytlmgchojdjbkpaa
open Go.RowKit
set_option linter.unusedVariables false
set_option linter.unusedSimpArgs false

set_option maxHeartbeats 400000 in
theorem octets_any (l : List Int) (v : Value) (w : World) (hl : l.length ≤ 140737488355328) (h : Rd w v l) :
    Calls Try.prog 14 #[v] w fun e w' => ∃ u, e = .returned u ∧ Own w.heap.size u l w' ∧ Below w.heap.size w w' := by
  have h0 := own_nil w.heap.size w (Nat.le_refl _)
  go_enter Try.func14, Try.ntmps14
  go_wp2_with (at_builtin; refine wp_app rfl _ _ rfl _ _ _ rfl h0 _ _ rfl h (by simp; omega) ?_)
  intro v' w' hown hb
  clear h h0
  go_wp2
  go_ret
  exact ⟨_, rfl, by simpa using hown, hb⟩

/-- A slice of entries that reads as es. -/
def RdE (w : World) (v : Value) (es : List Ent) : Prop :=
  ∃ ao cap, v = .slice ao es.length cap ∧ es.length ≤ cap ∧ cap ≤ maxLen ∧ (0 < es.length → ∃ g, ao = some ⟨g, 0, none⟩ ∧ ∀ i, (h : i < es.length) → ∀ j, j < 7 → w.cell? ⟨g, i * 7 + j, none⟩ = (es[i]'h).cells[j]?)

theorem cells_len (e : Ent) : e.cells.length = 7 := rfl
theorem flat_get (es : List Ent) (i j : Nat) (h : i < es.length) (hj : j < 7) : (es.flatMap Ent.cells)[i * 7 + j]? = (es[i]'h).cells[j]? := by
  induction es generalizing i with
  | nil => simp at h
  | cons e es ih =>
    rw [List.flatMap_cons]
    cases i with
    | zero =>
      rw [List.getElem?_append_left (by rw [cells_len]; omega)]
      simp
    | succ i =>
      rw [List.getElem?_append_right (by rw [cells_len]; omega), cells_len, show (i + 1) * 7 + j - 7 = i * 7 + j by omega, ih i (by simpa using h)]
      simp

theorem OwnE.rd {B : Nat} {v : Value} {es : List Ent} {w : World} (h : OwnE B v es w) : RdE w v es := by
  obtain ⟨h1, h4⟩ := h
  rcases h1.2 with ⟨rfl, h0⟩ | ⟨g, cap, cur, rfl, r2, r3, r4, r5, r6⟩
  · refine ⟨none, 0, by rw [h0], by omega, by unfold maxLen; omega, fun h => by omega⟩
  · refine ⟨_, _, rfl, r4, r5, fun _ => ⟨g, rfl, fun i hi j hj => ?_⟩⟩
    have := h1.cellAt (i * 7 + j) (by omega)
    rw [this, flat_get es i j hi hj]

theorem seven {w : World} {g n : Nat} {e : Ent} (h : ∀ j, j < 7 → w.cell? ⟨g, n + j, none⟩ = e.cells[j]?) :
    w.cell? ⟨g, n, none⟩ = some (.int .i64 e.a) ∧ w.cell? ⟨g, n + 1, none⟩ = some (.int .i64 e.b) ∧ w.cell? ⟨g, n + 2, none⟩ = some (.int .i64 e.c) ∧ w.cell? ⟨g, n + 3, none⟩ = some (.int .i64 e.d) ∧ w.cell? ⟨g, n + 4, none⟩ = some (.int .i64 e.k) ∧ w.cell? ⟨g, n + 5, none⟩ = some (.bool e.t) ∧ w.cell? ⟨g, n + 6, none⟩ = some (.string e.s) :=
  ⟨h 0 (by omega), h 1 (by omega), h 2 (by omega), h 3 (by omega), h 4 (by omega), h 5 (by omega), h 6 (by omega)⟩

set_option maxHeartbeats 1000000 in
theorem sameEntries_some (es : List Ent) (g1 c1 g2 c2 : Nat) (w : World) (hl : (es.length : Int) ≤ 1099511627776)
    (h1 : ∀ i, (h : i < es.length) → ∀ j, j < 7 → w.cell? ⟨g1, i * 7 + j, none⟩ = (es[i]'h).cells[j]?) (h2 : ∀ i, (h : i < es.length) → ∀ j, j < 7 → w.cell? ⟨g2, i * 7 + j, none⟩ = (es[i]'h).cells[j]?) :
    Calls Try.prog 16 #[.slice (some ⟨g1, 0, none⟩) es.length c1, .slice (some ⟨g2, 0, none⟩) es.length c2] w fun e w' => e = .returned (.bool true) ∧ Below w.heap.size w w' := by
  have hne : ((es.length : Int) != es.length) = false := by simp
  go_enter Try.func16, Try.ntmps16
  go_wp2
  go_loopw [5] (fun i wr => ∃ k : Nat, k ≤ es.length ∧ i = .int .i64 k ∧ ∃ q, wr = w.drewN q) (fun i _ => es.length - (intOf i).toNat)
  case atStart => exact ⟨0, by omega, rfl, 0, rfl⟩
  case round =>
    obtain ⟨k, hk, rfl, q, rfl⟩ := hrel
    by_cases hlt : k < es.length
    · have A := seven (h1 k hlt)
      have B := seven (h2 k hlt)
      obtain ⟨a0, a1, a2, a3, a4, a5, a6⟩ := A
      obtain ⟨b0, b1, b2, b3, b4, b5, b6⟩ := B
      clear h1 h2
      generalize es[k] = e at *
      go_wp2
      go_quiet (fail)
      go_wp2
      go_roundw
      case rel => exact ⟨k + 1, by omega, by go_num, q + nq, rfl⟩
      case measure => simp [intOf]; omega
    · clear h1 h2
      go_wp2
      go_ret
      exact ⟨rfl, below_drewN (Below.refl _ _) _⟩

set_option maxHeartbeats 400000 in
theorem sameEntries_none (a1 a2 : Option Addr) (c1 c2 : Nat) (w : World) :
    Calls Try.prog 16 #[.slice a1 0 c1, .slice a2 0 c2] w fun e w' => e = .returned (.bool true) ∧ Below w.heap.size w w' := by
  go_enter Try.func16, Try.ntmps16
  go_wp2
  refine wp_loop_rounds 1 ?_
  rw [rounds_succ]
  go_wp2
  go_ret
  exact ⟨rfl, Below.refl _ _⟩

theorem sameEntries_any (es : List Ent) (v u : Value) (w : World) (hl : (es.length : Int) ≤ 1099511627776) (h1 : RdE w v es) (h2 : RdE w u es) :
    Calls Try.prog 16 #[v, u] w fun e w' => e = .returned (.bool true) ∧ Below w.heap.size w w' := by
  obtain ⟨a1, c1, rfl, _, _, h1⟩ := h1
  obtain ⟨a2, c2, rfl, _, _, h2⟩ := h2
  by_cases h0 : 0 < es.length
  · obtain ⟨g1, rfl, h1'⟩ := h1 h0
    obtain ⟨g2, rfl, h2'⟩ := h2 h0
    exact sameEntries_some es g1 c1 g2 c2 w hl h1' h2'
  · have hl : es = [] := List.eq_nil_of_length_eq_zero (by omega)
    subst hl
    exact sameEntries_none a1 a2 c1 c2 w

theorem decP_len (f : Nat) (l : List Int) (hb : Bytes l) : (decP f l).1.length ≤ l.length ∧ (decP f l).2 ≤ l.length := by
  induction f generalizing l with
  | zero => simp [decP]
  | succ f ih =>
    cases hf : firstP l with
    | none => simp [decP, hf]
    | some p =>
      obtain ⟨e, z⟩ := p
      obtain ⟨hf0, hz, he⟩ := first_some l hb e z hf
      have h := ih (l.drop z) (bytes_drop hb z)
      rw [decP_some _ _ _ _ hf]
      have hl := congrArg List.length he
      rw [enc_len] at hz
      simp only [List.length_append, List.length_drop, enc_len] at hl h
      simp only [List.length_cons]
      omega

set_option maxHeartbeats 1000000 in
theorem wireDecodes_walk (l : List Int) (v : Value) (w : World) (hl : l.length ≤ 1099511627775) (h : Rd w v l) :
    Calls Try.prog 5 #[v] w fun e w' => e = .returned (.bool true) ∧ Below w.heap.size w w' := by
  have hes := (decP_len l.length l h.1).1
  go_enter Try.func5, Try.ntmps5
  go_wp2_with fail
  refine (octets_any l v _ (by omega) h).mono ?_
  rintro e w1 ⟨u, rfl, hu, hb1⟩
  go_wp2_with fail
  refine (decode_any l u _ hl hu.rd).mono ?_
  rintro e w2 ⟨va, rfl, hva, hb2⟩
  have hB2 := bstep hb1 hb2
  have hR := h.below (Nat.le_refl _) hB2
  clear hu h hb1 hb2
  go_wp2_with fail
  refine (entriesIn_any l v _ hl hR).mono ?_
  rintro e w3 ⟨vb, rfl, hvb, hb3⟩
  have hva3 := hva.below (Nat.le_refl _) hb3
  have hB3 := bstep hB2 hb3
  have hn : (((decL l).2 : Int) == ((decL l).2 : Int)) = true := by simp
  clear hB2 hb3 hR hva
  go_wp2_with fail
  refine (sameEntries_any (decL l).1 _ _ _ (by unfold decL; omega) hva3.rd hvb.rd).mono ?_
  rintro e w4 ⟨rfl, hb4⟩
  have hB4 := bstep hB3 hb4
  clear hva3 hvb hb4 hB3
  go_wp2_with fail
  go_ret
  exact ⟨rfl, hB4⟩

end Go.Proofs.Ytlmgchojdjbkpaa
