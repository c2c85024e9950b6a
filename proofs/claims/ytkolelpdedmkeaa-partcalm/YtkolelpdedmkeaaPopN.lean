/-
  What part.New answers.
-/
import Derived.Test.YtkolelpdedmkeaaPnewB
namespace Go.Proofs.Ytkolelpdedmkeaa
open Go.RowKit
set_option linter.unusedVariables false
set_option linter.unusedSimpArgs false

theorem newP_no {n few : Int} (h : ¬ (1 ≤ n ∧ n ≤ 5 ∧ 1 ≤ few ∧ few ≤ n)) : newP n few = (Prt.zero, 2) := by
  unfold newP
  rw [if_neg (by simp [inR]; omega)]
theorem newP_ok {n : Nat} {few : Int} (h : 1 ≤ (n : Int) ∧ (n : Int) ≤ 5 ∧ 1 ≤ few ∧ few ≤ n) : newP n few = ((⟨0, -1, List.replicate n true, List.replicate n 0, List.replicate n ⟨true, [], 0, 0⟩, few, 0⟩ : Prt), 0) := by
  unfold newP
  rw [if_pos (by simp [inR]; omega), Int.toNat_natCast]

set_option maxRecDepth 100000 in
set_option maxHeartbeats 4000000 in
theorem new_bad (n few : Int) (w : World) (h : ¬ (1 ≤ n ∧ n ≤ 5 ∧ 1 ≤ few ∧ few ≤ n)) :
    Calls Try.prog 24 #[.int .i64 n, .int .i64 few] w fun e w' => e = .returned (.tuple #[.agg #[.int .i64 0, .int .i64 0, nilV, nilV, nilV, .int .i64 0, .int .i64 0], .int .i64 2]) ∧ Below w.heap.size w w' := by
  have HB : Hid (Below w.heap.size w (w.alloc (.cells #[.int .i64 0, .int .i64 0, .slice none 0 0, .slice none 0 0, .slice none 0 0, .int .i64 0, .int .i64 0] 26))) := bbox _ _
  go_enter Try.func24, Try.ntmps24
  by_cases a1 : n < 1
  · have d1 : decide (n < 1) = true := by simp [a1]
    clear h
    go_wp2
    exact bodyPost_ret (v := .tuple #[.agg #[.int .i64 0, .int .i64 0, nilV, nilV, nilV, .int .i64 0, .int .i64 0], .int .i64 2]) (by simp [results, Try.results24, go_sem]) rfl ⟨rfl, HB.out⟩
  · have d1 : decide (n < 1) = false := by simp [a1]
    by_cases a2 : 5 < n
    · have d2 : decide (n > 5) = true := by simp [a2]
      clear h
      go_wp2
      exact bodyPost_ret (v := .tuple #[.agg #[.int .i64 0, .int .i64 0, nilV, nilV, nilV, .int .i64 0, .int .i64 0], .int .i64 2]) (by simp [results, Try.results24, go_sem]) rfl ⟨rfl, HB.out⟩
    · have d2 : decide (n > 5) = false := by simp; omega
      by_cases a3 : few < 1
      · have d3 : decide (few < 1) = true := by simp [a3]
        clear h
        go_wp2
        exact bodyPost_ret (v := .tuple #[.agg #[.int .i64 0, .int .i64 0, nilV, nilV, nilV, .int .i64 0, .int .i64 0], .int .i64 2]) (by simp [results, Try.results24, go_sem]) rfl ⟨rfl, HB.out⟩
      · have d3 : decide (few < 1) = false := by simp [a3]
        have a4 : n < few := by omega
        have d4 : decide (few > n) = true := by simp [a4]
        clear h
        go_wp2
        exact bodyPost_ret (v := .tuple #[.agg #[.int .i64 0, .int .i64 0, nilV, nilV, nilV, .int .i64 0, .int .i64 0], .int .i64 2]) (by simp [results, Try.results24, go_sem]) rfl ⟨rfl, HB.out⟩

theorem new_any (n few : Int) (w : World) : Calls Try.prog 24 #[.int .i64 n, .int .i64 few] w fun e w' => Res w (newP n few).1 [.int .i64 (newP n few).2] e w' := by
  by_cases h : 1 ≤ n ∧ n ≤ 5 ∧ 1 ≤ few ∧ few ≤ n
  · obtain ⟨m, rfl⟩ := Int.eq_ofNat_of_zero_le (show 0 ≤ n by omega)
    rw [newP_ok h]
    exact new_ok m few w h.1 h.2.1 h.2.2.1 h.2.2.2
  · rw [newP_no h]
    refine (new_bad n few w h).mono ?_
    rintro e w' ⟨rfl, hb⟩
    exact ⟨nilV, nilV, nilV, fun _ => nilV, rfl, nil_rdp _, hb⟩

end Go.Proofs.Ytkolelpdedmkeaa
