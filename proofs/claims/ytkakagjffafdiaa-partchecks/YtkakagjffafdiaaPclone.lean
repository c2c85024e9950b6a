/-
  slices.Clone of rows: of bools, of numbers, of replicas.
-/
import Derived.Test.YtkakagjffafdiaaProw
import Derived.Lib.BufferMore
namespace Go.Proofs.Ytkakagjffafdiaa
open Go.RowKit
set_option linter.unusedVariables false
set_option linter.unusedSimpArgs false

set_option maxRecDepth 100000 in
set_option maxHeartbeats 1000000 in
theorem cloneB_none (w : World) : Calls Try.prog 69 #[.slice none 0 0] w fun e w' => ∃ v, e = .returned v ∧ OwnV w.heap.size 4 1 v 0 [] w' ∧ Below w.heap.size w w' := by
  have e0 := Lib.run_eql_slice_nil_nil (P := Try.prog) w (t := 22) 0 0 Try.underlying22
  go_enter Try.func69, Try.ntmps69
  go_wp2
  go_ret
  exact ⟨_, rfl, ownV_nil _ _ _ _ (Nat.le_refl _), Below.refl _ _⟩

set_option maxRecDepth 100000 in
set_option maxHeartbeats 1000000 in
theorem cloneB_some (bs : List Bool) (ad : Addr) (m cap : Nat) (w : World) (hl : m ≤ 140737488355328) (h : RdV w (.slice (some ad) m cap) (bs.map Value.bool)) : Calls Try.prog 69 #[.slice (some ad) m cap] w fun e w' => ∃ v, e = .returned v ∧ OwnV w.heap.size 4 1 v m (bs.map Value.bool) w' ∧ Below w.heap.size w w' := by
  have e0 := Lib.run_eql_slice_some_nil (P := Try.prog) w (t := 22) ad m cap Try.underlying22
  have H : Hid (RdV w (.slice (some ad) m cap) (bs.map Value.bool)) := h
  have o0 := ownV_none w 4 1
  clear h
  go_enter Try.func69, Try.ntmps69
  go_wp2_with (at_builtin; refine wp_appB rfl _ _ rfl _ _ _ _ rfl o0 _ _ _ bs rfl (H.out.below (Nat.le_refl _) (bbox _ _)) (by omega) ?_)
  intro v' w' hown hb
  clear o0 H
  go_wp2
  go_ret
  exact ⟨_, rfl, by simpa using hown, (bbox _ _).trans hb⟩

theorem cloneB_any (bs : List Bool) (v : Value) (w : World) (hl : bs.length ≤ 140737488355328) (h : RdV w v (bs.map Value.bool)) : Calls Try.prog 69 #[v] w fun e w' => ∃ v', e = .returned v' ∧ OwnV w.heap.size 4 1 v' bs.length (bs.map Value.bool) w' ∧ Below w.heap.size w w' := by
  have H := h
  obtain ⟨ao, cap, rfl, h1, h2, h4, h3⟩ := h
  cases ao with
  | none =>
    obtain rfl := h4 rfl
    have hb : bs = [] := List.eq_nil_of_length_eq_zero (by rw [List.length_map] at h1; omega)
    subst hb
    exact cloneB_none w
  | some ad => simp only [List.length_map] at H ⊢; exact cloneB_some bs ad _ cap w hl H

set_option maxRecDepth 100000 in
set_option maxHeartbeats 1000000 in
theorem cloneI_none (w : World) : Calls Try.prog 70 #[.slice none 0 0] w fun e w' => ∃ v, e = .returned v ∧ OwnV w.heap.size 3 1 v 0 [] w' ∧ Below w.heap.size w w' := by
  have e0 := Lib.run_eql_slice_nil_nil (P := Try.prog) w (t := 23) 0 0 Try.underlying23
  go_enter Try.func70, Try.ntmps70
  go_wp2
  go_ret
  exact ⟨_, rfl, ownV_nil _ _ _ _ (Nat.le_refl _), Below.refl _ _⟩

set_option maxRecDepth 100000 in
set_option maxHeartbeats 1000000 in
theorem cloneI_some (bs : List Int) (ad : Addr) (m cap : Nat) (w : World) (hl : m * 8 ≤ 140737488355328) (h : RdV w (.slice (some ad) m cap) (bs.map (Value.int .i64))) : Calls Try.prog 70 #[.slice (some ad) m cap] w fun e w' => ∃ v, e = .returned v ∧ OwnV w.heap.size 3 1 v m (bs.map (Value.int .i64)) w' ∧ Below w.heap.size w w' := by
  have e0 := Lib.run_eql_slice_some_nil (P := Try.prog) w (t := 23) ad m cap Try.underlying23
  have H : Hid (RdV w (.slice (some ad) m cap) (bs.map (Value.int .i64))) := h
  have o0 := ownV_none w 3 1
  clear h
  go_enter Try.func70, Try.ntmps70
  go_wp2_with (at_builtin; refine wp_appI rfl _ _ rfl _ _ _ _ rfl o0 _ _ _ bs rfl (H.out.below (Nat.le_refl _) (bbox _ _)) (by omega) ?_)
  intro v' w' hown hb
  clear o0 H
  go_wp2
  go_ret
  exact ⟨_, rfl, by simpa using hown, (bbox _ _).trans hb⟩

theorem cloneI_any (bs : List Int) (v : Value) (w : World) (hl : bs.length * 8 ≤ 140737488355328) (h : RdV w v (bs.map (Value.int .i64))) : Calls Try.prog 70 #[v] w fun e w' => ∃ v', e = .returned v' ∧ OwnV w.heap.size 3 1 v' bs.length (bs.map (Value.int .i64)) w' ∧ Below w.heap.size w w' := by
  have H := h
  obtain ⟨ao, cap, rfl, h1, h2, h4, h3⟩ := h
  cases ao with
  | none =>
    obtain rfl := h4 rfl
    have hb : bs = [] := List.eq_nil_of_length_eq_zero (by rw [List.length_map] at h1; omega)
    subst hb
    exact cloneI_none w
  | some ad => simp only [List.length_map] at H ⊢; exact cloneI_some bs ad _ cap w hl H

set_option maxRecDepth 100000 in
set_option maxHeartbeats 1000000 in
theorem cloneR_none (w : World) : Calls Try.prog 71 #[.slice none 0 0] w fun e w' => ∃ v, e = .returned v ∧ OwnV w.heap.size 63 4 v 0 [] w' ∧ Below w.heap.size w w' := by
  have e0 := Lib.run_eql_slice_nil_nil (P := Try.prog) w (t := 24) 0 0 Try.underlying24
  go_enter Try.func71, Try.ntmps71
  go_wp2
  go_ret
  exact ⟨_, rfl, ownV_nil _ _ _ _ (Nat.le_refl _), Below.refl _ _⟩

set_option maxRecDepth 100000 in
set_option maxHeartbeats 1000000 in
theorem cloneR_some (rs : List Rep) (us : Nat → Value) (ad : Addr) (m cap : Nat) (w : World) (hl : m * 48 ≤ 140737488355328) (h : RdRs w (.slice (some ad) m cap) rs us) : Calls Try.prog 71 #[.slice (some ad) m cap] w fun e w' => ∃ v, e = .returned v ∧ OwnV w.heap.size 63 4 v m (repCells us rs 0) w' ∧ Below w.heap.size w w' := by
  have e0 := Lib.run_eql_slice_some_nil (P := Try.prog) w (t := 24) ad m cap Try.underlying24
  have H : Hid (RdRs w (.slice (some ad) m cap) rs us) := h
  have o0 := ownV_none w 63 4
  clear h
  go_enter Try.func71, Try.ntmps71
  go_wp2_with (at_builtin; refine wp_appR rfl _ _ rfl _ _ _ _ rfl o0 _ _ _ rs us rfl (H.out.below (Nat.le_refl _) (bbox _ _)) (by omega) ?_)
  intro v' w' hown hb
  clear o0 H
  go_wp2
  go_ret
  exact ⟨_, rfl, by simpa using hown, (bbox _ _).trans hb⟩

theorem cloneR_any (rs : List Rep) (us : Nat → Value) (v : Value) (w : World) (hl : rs.length * 48 ≤ 140737488355328) (h : RdRs w v rs us) : Calls Try.prog 71 #[v] w fun e w' => ∃ v', e = .returned v' ∧ OwnV w.heap.size 63 4 v' rs.length (repCells us rs 0) w' ∧ Below w.heap.size w w' := by
  have H := h
  obtain ⟨ao, cap, rfl, h1, h2, h4, h3⟩ := h
  cases ao with
  | none =>
    obtain rfl := h4 rfl
    have hb : rs = [] := List.eq_nil_of_length_eq_zero (by omega)
    subst hb
    exact cloneR_none w
  | some ad => exact cloneR_some rs us ad _ cap w hl H

end Go.Proofs.Ytkakagjffafdiaa
