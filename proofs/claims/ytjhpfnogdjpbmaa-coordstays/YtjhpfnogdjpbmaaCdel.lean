/-
  slices.Index and slices.Delete of numbers.
-/
import Derived.Test.YtjhpfnogdjpbmaaClib
namespace Go.Proofs.Ytjhpfnogdjpbmaa
open Go.RowKit
set_option linter.unusedVariables false
set_option linter.unusedSimpArgs false

def posI (l : List Int) (p : Int) : Int := scan (fun i => l.getD i 0 = p) l.length 0
theorem posI_no {l : List Int} {p : Int} (h : l.contains p = false) : posI l p = -1 := by
  unfold posI
  rcases scan_cases (P := fun i => l.getD i 0 = p) l.length 0 with e | ⟨k, _, h2, h3, _⟩
  · exact e
  · exfalso
    have hk : k < l.length := by omega
    rw [← h3, List.getD_eq_getElem?_getD, List.getElem?_eq_getElem hk] at h
    simp at h
theorem posI_yes {l : List Int} {p : Int} (h : l.contains p = true) : ∃ k, k < l.length ∧ posI l p = (k : Int) ∧ l.getD k 0 = p := by
  unfold posI
  rcases scan_cases (P := fun i => l.getD i 0 = p) l.length 0 with e | ⟨k, _, h2, h3, _, h5⟩
  · exfalso
    have hn := scan_none.1 (show scan (fun i => l.getD i 0 = p) l.length 0 < 0 by omega)
    rw [List.contains_iff_mem] at h
    obtain ⟨i, hi, he⟩ := List.getElem_of_mem h
    refine hn i (Nat.zero_le _) (by omega) ?_
    simp [List.getD, hi, he]
  · exact ⟨k, by omega, h5, h3⟩
theorem del_at {l : List Int} {k : Nat} (hn : l.Nodup) (hk : k < l.length) : delP l (l.getD k 0) = l.take k ++ l.drop (k + 1) := by
  unfold delP
  induction l generalizing k with
  | nil => simp at hk
  | cons a l ih =>
    rw [List.nodup_cons] at hn
    cases k with
    | zero =>
      simp only [List.getD_cons_zero, List.take_zero, List.nil_append, List.drop_succ_cons, List.drop_zero]
      rw [List.filter_cons, if_neg (by simp), List.filter_eq_self]
      intro q hq
      simp only [bne_iff_ne, ne_eq]
      rintro rfl
      exact hn.1 hq
    | succ k =>
      have hk' : k < l.length := by simpa using hk
      have := ih hn.2 hk'
      simp only [List.getD_cons_succ, List.take_succ_cons, List.drop_succ_cons, List.cons_append]
      rw [List.filter_cons, if_pos, this]
      simp only [bne_iff_ne, ne_eq]
      intro e
      apply hn.1
      rw [e]
      simp [List.getD, hk']
theorem del_len {l : List Int} {k : Nat} (hk : k < l.length) : (l.take k ++ l.drop (k + 1)).length = l.length - 1 := by
  simp
  omega

theorem del_cells (A : List Int) (ys : List Value) (n : Nat) (hA : A.length = n - 1) (h1 : 1 ≤ n) (hy : ys.length = n) : ((ys.take 0 ++ (A ++ List.replicate 1 0).map (Value.int .i64) ++ ys.drop (0 + ((A ++ List.replicate 1 0).map (Value.int .i64)).length)).take (n - 1)) = ints A := by
  have e : ys.drop (0 + ((A ++ List.replicate 1 0).map (Value.int .i64)).length) = [] := List.drop_eq_nil_of_le (by simp; omega)
  rw [e, ← hA]
  simp [ints]

set_option maxRecDepth 100000 in
set_option maxHeartbeats 1000000 in
theorem index_any (l : List Int) (p : Int) (v : Value) (w : World) (hr : RdV w v (ints l)) (hl : l.length ≤ 4) :
    Calls Try.prog 66 #[v, .int .i64 p] w fun e w' => e = .returned (.int .i64 (posI l p)) ∧ Below w.heap.size w w' := by
  obtain ⟨ao, cap, hv, h1, h2, h4, h3⟩ := hr
  rw [ints_len] at hv h1
  subst hv
  have HG : Hid (0 < l.length → ∃ g off, ao = some ⟨g, off, none⟩ ∧ ∀ i, (h : i < l.length) → w.cell? ⟨g, off + i, none⟩ = some (.int .i64 (l.getD i 0))) := fun h0 => by
    obtain ⟨g, off, e, hg⟩ := h3 (by rw [ints_len]; exact h0)
    refine ⟨g, off, e, fun i hi => ?_⟩
    rw [hg i (by rw [ints_len]; exact hi)]
    simp [ints, List.getD, hi]
  clear h1 h2 h3 h4
  go_enter Try.func66, Try.ntmps66
  go_wp2
  go_loopw [8] (fun i wr => ∃ k : Nat, k ≤ l.length ∧ i = .int .i64 k ∧ Hid (∀ j, j < k → ¬ l.getD j 0 = p) ∧ Hid (Below w.heap.size w wr)) (fun i _ => l.length - (intOf i).toNat)
  case atStart => exact ⟨0, Nat.zero_le _, rfl, (fun j hj => by omega), Below.refl _ _⟩
  case round =>
    obtain ⟨k, hk, rfl, HN, HB⟩ := hrel
    by_cases hlt : k < l.length
    · obtain ⟨g, off, rfl, hg⟩ := HG.out (by omega)
      have hkv : (k : Int) < l.length := by omega
      have c0 := (HB.out.cell (p := ⟨g, off + k, none⟩) (cell_lt (hg k hlt))).trans (hg k hlt)
      clear hg
      by_cases he : l.getD k 0 = p
      · have HV : Hid (posI l p = k) := scan_some (by omega) (by omega) he (fun j _ hj => HN.out j hj)
        have d1 : (p == l.getD k 0) = true := by rw [he]; simp
        clear he
        generalize l.getD k 0 = y at *
        go_wp2
        all_goals
          go_ret
          exact ⟨by rw [HV.out]; rfl, HB.out⟩
      · have HM : Hid (∀ j, j < k + 1 → ¬ l.getD j 0 = p) := fun j hj => by
          by_cases e : j = k
          · rw [e]; exact he
          · exact HN.out j (by omega)
        have d1 : (p == l.getD k 0) = false := by rw [beq_eq_false_iff_ne]; exact fun h => he h.symm
        clear he
        generalize l.getD k 0 = y at *
        go_wp2
        all_goals
          go_roundw
          case rel => exact ⟨k + 1, by omega, by go_num, HM, HB⟩
          case measure => simp [intOf]; omega
    · have hke : k = l.length := by omega
      have HV : Hid (posI l p = -1) := show _ = _ by
        unfold posI
        rcases scan_cases (P := fun i => l.getD i 0 = p) l.length 0 with h0 | ⟨j, _, j2, j3, _⟩
        · exact h0
        · exact absurd j3 (HN.out j (by omega))
      clear hke
      go_wp2
      all_goals
        go_ret
        exact ⟨by rw [HV.out]; rfl, HB.out⟩

theorem delete_any {B : Nat} (l : List Int) (k : Nat) (v : Value) (w : World) (ho : OwnV B 3 1 v l.length (ints l) w) (hk : k < l.length) (hl : l.length ≤ 4) :
    Calls Try.prog 67 #[v, .int .i64 k, .int .i64 ((k : Int) + 1)] w fun e w' => ∃ u, e = .returned u ∧ OwnV B 3 1 u (l.length - 1) (ints (l.take k ++ l.drop (k + 1))) w' ∧ w.grownBy w' v.ownBlock ∧ u.ownBlock = v.ownBlock := by
  obtain ⟨g, cap, rfl, hB, hg, hc, hm, hfz, hcell⟩ := ho.form (by omega)
  rw [Nat.mul_one] at hcell
  have hH : Sort.Holds (Value.int .i64) w g 0 l.toArray := fun j hj => by
    have hj' : j < l.length := by simpa using hj
    refine ⟨?_, hfz _⟩
    rw [Nat.zero_add, hcell j hj']
    simp [ints, hj']
  have e1 : ((k : Int) + 1) = ((k + 1 : Nat) : Int) := by simp
  rw [e1]
  unfold maxLen at hm
  refine (Any.slices_Delete_int Try.lays23 g 0 cap k (k + 1) l w hH hc hm (by omega) (by omega)).mono ?_
  rintro e w' ⟨rfl, q, rfl⟩
  rw [show k + 1 - k = 1 by omega]
  have hlen : (l.take k ++ l.drop (k + 1) ++ List.replicate 1 0).length = l.toArray.size := by simp; omega
  rw [Lib.putRow_eq_setCells (Value.int .i64) w g 0 l.toArray _ q hH hlen]
  have a := own_setCells ((l.take k ++ l.drop (k + 1) ++ List.replicate 1 0).map (Value.int .i64)) 0 (ints l) (w.drewN q) ho (by rw [List.length_map, hlen]; simp)
  have h2 := own_less a.1 (l.length - 1) (by omega)
  have hz : ((l.take k ++ l.drop (k + 1) ++ List.replicate 1 0).map (Value.int .i64)).length = l.length := by rw [List.length_map, hlen]; simp
  refine ⟨_, rfl, ?_, ⟨a.2.os, a.2.tape, a.2.output, a.2.size, a.2.block⟩, rfl⟩
  have e2 := del_cells (l.take k ++ l.drop (k + 1)) (ints l) l.length (del_len hk) (by omega) (ints_len l)
  rw [e2] at h2
  exact h2

end Go.Proofs.Ytjhpfnogdjpbmaa
