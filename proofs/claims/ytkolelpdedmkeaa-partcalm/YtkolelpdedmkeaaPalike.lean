/-
  The walk of part.alike: how many first entries have the same Epochs.
-/
import Derived.Test.YtkolelpdedmkeaaPres
import Derived.Test.YtkolelpdedmkeaaAview
import Derived.Deep.QuietTactic
import Derived.BigQuiet
namespace Go.Proofs.Ytkolelpdedmkeaa
open Go.RowKit
set_option linter.unusedVariables false
set_option linter.unusedSimpArgs false

theorem com_lt (es fs : List Ent) (k : Nat) (hk : k ≤ com es fs) (h1 : k < es.length) (h2 : k < fs.length) : k < com es fs ↔ (Ent.at es k).a = (Ent.at fs k).a := by
  induction es generalizing fs k with
  | nil => simp at h1
  | cons e a ih =>
    cases fs with
    | nil => simp at h2
    | cons f b =>
      cases k with
      | zero =>
        simp only [com, Ent.at, List.getD_cons_zero]
        split <;> simp_all
      | succ k =>
        simp only [com] at hk ⊢
        by_cases he : e.a = f.a
        · rw [if_pos he] at hk ⊢
          have := ih b k (by omega) (by simpa using h1) (by simpa using h2)
          simp only [Ent.at, List.getD_cons_succ] at this ⊢
          rw [← this]
          omega
        · rw [if_neg he] at hk
          omega

set_option maxRecDepth 100000 in
set_option maxHeartbeats 4000000 in
theorem alike_any (es fs : List Ent) (v u : Value) (w : World) (hl : (es.length : Int) ≤ 2199023255552) (h1 : RdX w v es) (h2 : RdX w u fs) :
    Calls Try.prog 88 #[v, u] w fun e w' => e = .returned (.int .i64 (com es fs : Nat)) ∧ Below w.heap.size w w' := by
  obtain ⟨av, cv, rfl⟩ : ∃ ao cap, v = .slice ao es.length cap := by obtain ⟨ao, cap, e, _⟩ := h1; exact ⟨ao, cap, e⟩
  obtain ⟨au, cu, rfl⟩ : ∃ ao cap, u = .slice ao fs.length cap := by obtain ⟨ao, cap, e, _⟩ := h2; exact ⟨ao, cap, e⟩
  have H1 : Hid (RdX w (.slice av es.length cv) es) := h1
  have H2 : Hid (RdX w (.slice au fs.length cu) fs) := h2
  have HCL : Hid (com es fs ≤ es.length ∧ com es fs ≤ fs.length) := show _ ∧ _ from com_le es fs
  clear h1 h2
  go_enter Try.func88, Try.ntmps88
  go_wp2
  go_loopw [5] (fun i wr => ∃ k : Nat, Hid (k ≤ com es fs) ∧ i = .int .i64 k ∧ Hid (Below w.heap.size w wr)) (fun i _ => es.length - (intOf i).toNat)
  case atStart => exact ⟨0, Nat.zero_le _, rfl, Below.refl _ _⟩
  case round =>
    obtain ⟨k, HK, rfl, HBW⟩ := hrel
    by_cases a1 : k < es.length
    rotate_left
    · have d1 : decide ((k : Int) < (es.length : Int)) = false := by simp; omega
      have HC : Hid (com es fs = k) := show _ = _ by have h3 := HK.out; have h4 := HCL.out; omega
      go_wp2
      go_quiet (fail)
      have HBq : Hid (Below w.heap.size w (wr.drewN nq)) := below_drewN HBW.out _
      go_wp2
      go_ret
      rw [HC.out]
      exact ⟨rfl, HBq.out⟩
    · have a1' : (k : Int) < es.length := by omega
      have d1 : decide ((k : Int) < (es.length : Int)) = true := by simp; omega
      by_cases a2 : k < fs.length
      rotate_left
      · have d2 : decide ((k : Int) < (fs.length : Int)) = false := by simp; omega
        have HC : Hid (com es fs = k) := show _ = _ by have h3 := HK.out; have h4 := HCL.out; omega
        go_wp2
        go_quiet (fail)
        have HBq : Hid (Below w.heap.size w (wr.drewN nq)) := below_drewN HBW.out _
        go_wp2
        go_ret
        rw [HC.out]
        exact ⟨rfl, HBq.out⟩
      · have a2' : (k : Int) < fs.length := by omega
        have d2 : decide ((k : Int) < (fs.length : Int)) = true := by simp; omega
        have HCT : Hid (k < com es fs ↔ (Ent.at es k).a = (Ent.at fs k).a) := show _ ↔ _ from com_lt es fs k HK.out a1 a2
        obtain ⟨ao, cap, ex, -, -, -, h3⟩ := RdX.below H1.out (Nat.le_refl _) HBW.out
        simp only [Value.slice.injEq] at ex
        obtain ⟨rfl, -, rfl⟩ := ex
        obtain ⟨ga, oa, rfl, hga⟩ := h3 (by omega)
        obtain ⟨ao2, cap2, ex, -, -, -, h4⟩ := RdX.below H2.out (Nat.le_refl _) HBW.out
        simp only [Value.slice.injEq] at ex
        obtain ⟨rfl, -, rfl⟩ := ex
        obtain ⟨gb, ob, rfl, hgb⟩ := h4 (by omega)
        obtain ⟨y0, -⟩ := RdX.cells hga k a1
        obtain ⟨y1, -⟩ := RdX.cells hgb k a2
        clear hga hgb
        generalize (Ent.at es k).a = ea at *
        generalize (Ent.at fs k).a = fa at *
        obtain ⟨be, hbe⟩ : ∃ be, (ea == fa) = be := ⟨_, rfl⟩
        have HBE : Hid ((ea == fa) = be) := hbe
        cases be with
        | true =>
          have HK1 : Hid (k + 1 ≤ com es fs) := show _ ≤ _ from HCT.out.2 (by have := HBE.out; simpa using this)
          clear hbe
          have hbe : (ea == fa) = true := HBE.out
          go_wp2
          go_quiet (fail)
          have HBq : Hid (Below w.heap.size w (wr.drewN nq)) := below_drewN HBW.out _
          go_wp2
          go_roundw
          case rel => exact ⟨k + 1, HK1, by go_num, HBq⟩
          case measure => simp [intOf]; omega
        | false =>
          have HC : Hid (com es fs = k) := show _ = _ by have h3 := HK.out; have h5 : ¬ k < com es fs := (fun h => by have h6 := HCT.out.1 h; have h7 := HBE.out; rw [h6] at h7; simp at h7); omega
          go_wp2
          go_quiet (fail)
          have HBq : Hid (Below w.heap.size w (wr.drewN nq)) := below_drewN HBW.out _
          go_wp2
          go_ret
          rw [HC.out]
          exact ⟨rfl, HBq.out⟩

end Go.Proofs.Ytkolelpdedmkeaa
