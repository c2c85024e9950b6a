/-
  The walk of the law ViewReads, given that view.Read answers as the document's ReadOf at all plain entries (it does not at 778f16c: see REPORT).
-/
import Derived.Test.YtkolelpdedmkeaaAlaw
import Derived.Test.YtkolelpdedmkeaaAapp
import Derived.Test.YtkolelpdedmkeaaAread
import Derived.Test.YtkolelpdedmkeaaLsameE
namespace Go.Proofs.Ytkolelpdedmkeaa
open Go.RowKit
set_option linter.unusedVariables false
set_option linter.unusedSimpArgs false

/-- view.Read answers what the document's ReadOf does. -/
def ReadAll : Prop := ∀ (es : List Ent) (v : Value) (h fr ms : Int) (w : World), (es.length : Int) ≤ 2199023255552 → Plain es → RdX w v es →
    Calls Try.prog 96 #[v, .int .i64 h, .int .i64 fr, .int .i64 ms] w fun e w' => ∃ u, e = .returned (.tuple #[u, .int .i64 (rdA es h fr ms).2.1, .int .i64 (rdA es h fr ms).2.2]) ∧ OwnS w.heap.size u (rdA es h fr ms).1 w' ∧ Below w.heap.size w w'

theorem readOf_any (es : List Ent) (v : Value) (h fr ms : Int) (w : World) (hl : (es.length : Int) ≤ 2199023255552) (hr : RdX w v es) :
    Calls Try.prog 97 #[v, .int .i64 h, .int .i64 fr, .int .i64 ms] w fun e w' => ∃ u, e = .returned (.tuple #[u, .int .i64 (rdA es h fr ms).2.1, .int .i64 (rdA es h fr ms).2.2]) ∧ OwnS w.heap.size u (rdA es h fr ms).1 w' ∧ Below w.heap.size w w' := by
  obtain ⟨ao, cap, rfl⟩ : ∃ ao cap, v = .slice ao es.length cap := by obtain ⟨ao, cap, e, _⟩ := hr; exact ⟨ao, cap, e⟩
  by_cases hh : h < 0 ∨ (es.length : Int) < h
  · have hs : stf es h = (0, 2) := by unfold stf; rw [if_pos hh]
    have E : rdA es h fr ms = ([], 0, 2) := by unfold rdA; rw [hs, if_pos (by simp)]
    rw [E]
    refine (readOf_high es ao cap h fr ms w hl hr hh).mono ?_
    rintro e w' ⟨e1, hb⟩
    exact ⟨_, e1, ownS_nil _ _ hb.size, hb⟩
  · have hs : stf es h = ((stb es h.toNat : Int), 0) := by unfold stf; rw [if_neg hh]
    by_cases hb : fr < 0 ∨ (es.length : Int) < fr ∨ ms < 1 ∨ 20 < ms
    · have E : rdA es h fr ms = ([], 0, 2) := by unfold rdA; rw [hs, if_neg (by simp), if_pos hb]
      rw [E]
      refine (readOf_range es ao cap h fr ms w hl hr hh hb).mono ?_
      rintro e w' ⟨e1, hb⟩
      exact ⟨_, e1, ownS_nil _ _ hb.size, hb⟩
    · obtain ⟨n, rfl⟩ := Int.eq_ofNat_of_zero_le (show 0 ≤ h by omega)
      obtain ⟨f, rfl⟩ := Int.eq_ofNat_of_zero_le (show 0 ≤ fr by omega)
      obtain ⟨m, rfl⟩ := Int.eq_ofNat_of_zero_le (show 0 ≤ ms by omega)
      have E : rdA es n f m = ((rdF es n (stb es n) es.length f m).1, ((rdF es n (stb es n) es.length f m).2 : Int), 0) := by
        unfold rdA
        rw [hs, if_neg (by simp), if_neg hb]
        simp
      rw [E]
      exact readOf_ok es ao cap n f m w hl hr (by omega) (by omega) (by omega)

end Go.Proofs.Ytkolelpdedmkeaa
