/-
  The walks of the laws ViewStable, ViewChecks and ViewReads, given what package view answers.
-/
import Derived.Test.YtimnfgfomlegpacVplain
import Derived.Test.YtimnfgfomlegpacVread3
import Derived.Test.YtimnfgfomlegpacLsameE
import Derived.Test.YtimnfgfomlegpacVapp
namespace Go.Proofs.Ytimnfgfomlegpac
open Go.RowKit
set_option linter.unusedVariables false
set_option linter.unusedSimpArgs false

/-- view.Check answers what P3.3 says. -/
def CheckC : Prop := ∀ (es : List Ent) (v : Value) (x : Ent) (w : World), (es.length : Int) ≤ 2199023255552 → Plain es → Plain [x] → RdX w v es →
    Calls Try.prog 27 #[v, .agg #[.int .i64 x.a, .int .i64 x.b, .int .i64 x.c, .int .i64 x.d, .int .i64 x.k, .bool x.t, .string x.s]] w fun e w' => e = .returned (.tuple #[.int .i64 (chk es x).1, .int .i64 (chk es x).2]) ∧ Below w.heap.size w w'

theorem rdF_len (es : List Ent) (h fin f i m : Nat) : (rdF es h fin f i m).1.length ≤ m := by
  induction f generalizing i m with
  | zero => simp [rdF]
  | succ f ih =>
    simp only [rdF]
    split
    · simp
    · split
      · have := ih (i + 1) (m - 1)
        simp only [List.length_cons]
        omega
      · exact ih (i + 1) m
theorem rdA_len (es : List Ent) (h fr ms : Int) : (rdA es h fr ms).1.length ≤ 20 := by
  unfold rdA
  split
  · simp
  · split
    · simp
    · have := rdF_len es h.toNat (stb es h.toNat) es.length fr.toNat ms.toNat
      simp only
      omega

set_option maxHeartbeats 1000000 in
theorem sameX_some (es : List Ent) (g1 o1 c1 g2 o2 c2 : Nat) (w : World) (hl : (es.length : Int) ≤ 2199023255552)
    (h1 : ∀ i, (h : i < es.length) → ∀ j, j < 7 → w.cell? ⟨g1, o1 + i * 7 + j, none⟩ = (es[i]'h).cells[j]?) (h2 : ∀ i, (h : i < es.length) → ∀ j, j < 7 → w.cell? ⟨g2, o2 + i * 7 + j, none⟩ = (es[i]'h).cells[j]?) :
    Calls Try.prog 29 #[.slice (some ⟨g1, o1, none⟩) es.length c1, .slice (some ⟨g2, o2, none⟩) es.length c2] w fun e w' => e = .returned (.bool true) ∧ Below w.heap.size w w' := by
  have hne : ((es.length : Int) != es.length) = false := by simp
  go_enter Try.func29, Try.ntmps29
  go_wp2
  go_loopw [5] (fun i wr => ∃ k : Nat, k ≤ es.length ∧ i = .int .i64 k ∧ ∃ q, wr = w.drewN q) (fun i _ => es.length - (intOf i).toNat)
  case atStart => exact ⟨0, by omega, rfl, 0, rfl⟩
  case round =>
    obtain ⟨k, hk, rfl, q, rfl⟩ := hrel
    by_cases hlt : k < es.length
    · have A := seven (h1 k hlt)
      have B := seven (h2 k hlt)
      obtain ⟨a0, a1, a2, a3, a4, a5, a6⟩ := A
      obtain ⟨b0, b1, b2, b3, b4, b5, b6⟩ := B
      clear h1 h2
      generalize es[k] = e at *
      go_wp2
      go_quiet (fail)
      go_wp2
      go_roundw
      case rel => exact ⟨k + 1, by omega, by go_num, q + nq, rfl⟩
      case measure => simp [intOf]; omega
    · clear h1 h2
      go_wp2
      go_ret
      exact ⟨rfl, below_drewN (Below.refl _ _) _⟩
theorem sameX_any (es : List Ent) (v u : Value) (w : World) (hl : (es.length : Int) ≤ 2199023255552) (h1 : RdX w v es) (h2 : RdX w u es) :
    Calls Try.prog 29 #[v, u] w fun e w' => e = .returned (.bool true) ∧ Below w.heap.size w w' := by
  obtain ⟨a1, c1, rfl, _, _, _, h1⟩ := h1
  obtain ⟨a2, c2, rfl, _, _, _, h2⟩ := h2
  by_cases h0 : 0 < es.length
  · obtain ⟨g1, o1, rfl, h1'⟩ := h1 h0
    obtain ⟨g2, o2, rfl, h2'⟩ := h2 h0
    exact sameX_some es g1 o1 c1 g2 o2 c2 w hl h1' h2'
  · have hl : es = [] := List.eq_nil_of_length_eq_zero (by omega)
    subst hl
    exact sameEntries_none a1 a2 c1 c2 w

end Go.Proofs.Ytimnfgfomlegpac
