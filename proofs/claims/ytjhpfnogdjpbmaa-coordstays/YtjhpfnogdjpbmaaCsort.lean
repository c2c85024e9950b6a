/-
  slices.Sort, Compact and Equal of numbers, in rows that a call owns.
-/
import Derived.Test.YtjhpfnogdjpbmaaCdel
import Derived.Test.YtjhpfnogdjpbmaaShelf2
namespace Go.Proofs.Ytjhpfnogdjpbmaa
open Go.RowKit
set_option linter.unusedVariables false
set_option linter.unusedSimpArgs false

theorem below_grow (w : World) (os : Array Obj) : Below w.heap.size w (Sort.grow w os) := by
  refine ⟨rfl, rfl, rfl, by simp [Sort.grow], fun k hk => ?_⟩
  simp only [Sort.grow]
  exact Array.getElem?_append_left hk
theorem grown_grow {w w' : World} {r : Option Nat} (h : w.grownBy w' r) (os : Array Obj) : w.grownBy (Sort.grow w' os) r := by
  have hb := below_grow w' os
  exact ⟨h.os, h.tape, h.output, Nat.le_trans h.size hb.size, fun k hk hr => (hb.block k (Nat.lt_of_lt_of_le hk h.size)).trans (h.block k hk hr)⟩
theorem own_holds {B g n cap : Nat} {l : List Int} {w : World} (ho : OwnV B 3 1 (.slice (some ⟨g, 0, none⟩) n cap) n (ints l) w) (hn : n = l.length) (h0 : 0 < n) : Sort.Holds (Value.int .i64) w g 0 l.toArray ∧ g < w.heap.size ∧ n ≤ cap ∧ cap ≤ maxLen := by
  obtain ⟨g', cap', e, hB, hg, hc, hm, hfz, hcell⟩ := ho.form h0
  simp only [Value.slice.injEq, Option.some.injEq, Addr.mk.injEq, and_true] at e
  obtain ⟨rfl, -, rfl⟩ := e
  rw [Nat.mul_one] at hcell
  refine ⟨fun j hj => ?_, hg, hc, hm⟩
  have hj' : j < l.length := by simpa using hj
  refine ⟨?_, hfz _⟩
  rw [Nat.zero_add, hcell j (by omega)]
  simp [ints, hj']
/-- All cells are stored. -/
theorem own_all {B g n cap q : Nat} {l r : List Int} {w : World} (ho : OwnV B 3 1 (.slice (some ⟨g, 0, none⟩) n cap) n (ints l) w) (hn : n = l.length) (h0 : 0 < n) (hr : r.length = n) :
    OwnV B 3 1 (.slice (some ⟨g, 0, none⟩) n cap) n (ints r) (Sort.putRow (Value.int .i64) (Sort.ahead w q) g 0 r.toArray) ∧ w.grownBy (Sort.putRow (Value.int .i64) (Sort.ahead w q) g 0 r.toArray) (some g) := by
  obtain ⟨hH, _⟩ := own_holds ho hn h0
  rw [Lib.putRow_eq_setCells (Value.int .i64) w g 0 l.toArray r q hH (by simp; omega)]
  have a := own_setCells (r.map (Value.int .i64)) 0 (ints l) (w.drewN q) ho (by rw [List.length_map]; omega)
  refine ⟨?_, ⟨a.2.os, a.2.tape, a.2.output, a.2.size, a.2.block⟩⟩
  have e : (ints l).take 0 ++ r.map (Value.int .i64) ++ (ints l).drop (0 + (r.map (Value.int .i64)).length) = ints r := by
    rw [List.drop_eq_nil_of_le (by rw [List.length_map, ints_len]; omega), List.append_nil, List.take_zero, List.nil_append]
    rfl
  rw [e] at a
  exact a.1

theorem sort_any {B : Nat} (l : List Int) (v : Value) (w : World) (ho : OwnV B 3 1 v l.length (ints l) w) (hl : l.length ≤ 1000) :
    Calls Try.prog 38 #[v] w fun e w' => e = .returned (.tuple #[]) ∧ OwnV B 3 1 v l.length (ints (l.mergeSort fun x y => decide (x ≤ y))) w' ∧ w.grownBy w' v.ownBlock := by
  rcases Nat.eq_zero_or_pos l.length with h0 | h0
  · have hl0 : l = [] := List.eq_nil_of_length_eq_zero h0
    subst hl0
    obtain ⟨ao, cap, rfl⟩ := ho.shape
    refine (Any.slices_Sort_int_none Try.lays189 ao cap w).mono ?_
    rintro e w' ⟨rfl, rfl⟩
    exact ⟨rfl, by simpa using ho, ⟨rfl, rfl, rfl, Nat.le_refl _, fun _ _ _ => rfl⟩⟩
  · obtain ⟨g, cap, rfl, _⟩ := ho.form h0
    obtain ⟨hH, hg, hc, hm⟩ := own_holds ho rfl h0
    refine (Any.slices_Sort_int Try.lays189 g 0 cap l w hH hg (by omega)).mono ?_
    rintro e w' ⟨rfl, n, os, rfl⟩
    have hr : (l.mergeSort fun x y => decide (x ≤ y)).length = l.length := List.length_mergeSort l
    obtain ⟨h1, h2⟩ := own_all (q := n) ho rfl h0 hr
    exact ⟨rfl, h1.below (Nat.le_refl _) (below_grow _ os), grown_grow h2 os⟩
theorem compactI_any {B : Nat} (l : List Int) (v : Value) (w : World) (ho : OwnV B 3 1 v l.length (ints l) w) (hl : l.length ≤ 1000) :
    Calls Try.prog 39 #[v] w fun e w' => ∃ u, e = .returned u ∧ OwnV B 3 1 u (Lib.compact l).length (ints (Lib.compact l)) w' ∧ w.grownBy w' v.ownBlock ∧ u.ownBlock = v.ownBlock := by
  rcases Nat.eq_zero_or_pos l.length with h0 | h0
  · have hl0 : l = [] := List.eq_nil_of_length_eq_zero h0
    subst hl0
    obtain ⟨ao, cap, rfl⟩ := ho.shape
    refine (Any.slices_Compact_int_empty Try.lays20 ao cap w).mono ?_
    rintro e w' ⟨rfl, rfl⟩
    exact ⟨_, rfl, ho, ⟨rfl, rfl, rfl, Nat.le_refl _, fun _ _ _ => rfl⟩, rfl⟩
  · obtain ⟨g, cap, rfl, _⟩ := ho.form h0
    obtain ⟨hH, hg, hc, hm⟩ := own_holds ho rfl h0
    refine (Any.slices_Compact_int Try.lays20 g 0 cap l w hH (by omega) hc).mono ?_
    rintro e w' ⟨rfl, q, rfl⟩
    have hle := Lib.compact_length_le l
    obtain ⟨h1, h2⟩ := own_all (q := q) (r := Lib.compact l ++ List.replicate (l.length - (Lib.compact l).length) 0) ho rfl h0 (by simp; omega)
    have h3 := own_less h1 (Lib.compact l).length hle
    refine ⟨_, rfl, ?_, h2, rfl⟩
    have e : (ints (Lib.compact l ++ List.replicate (l.length - (Lib.compact l).length) 0)).take (Lib.compact l).length = ints (Lib.compact l) := by
      rw [← ints_take, List.take_left']
      rfl
    rw [e] at h3
    exact h3
theorem eqI_any (l : List Int) (v u : Value) (w : World) (h1 : RdV w v (ints l)) (h2 : RdV w u (ints l)) (hl : l.length ≤ 1000) :
    Calls Try.prog 40 #[v, u] w fun e w' => e = .returned (.bool true) ∧ Below w.heap.size w w' := by
  obtain ⟨a1, c1, rfl, _, _, _, h3⟩ := h1
  obtain ⟨a2, c2, rfl, _, _, _, h4⟩ := h2
  have hln := ints_len l
  rcases Nat.eq_zero_or_pos l.length with h0 | h0
  · have e : (ints l).length = 0 := by omega
    rw [e]
    refine (Any.slices_Equal_int_empty Try.lays111 a1 a2 c1 0 c2 w (by omega)).mono ?_
    rintro e w' ⟨rfl, rfl⟩
    exact ⟨rfl, Below.refl _ _⟩
  · obtain ⟨g1, o1, rfl, hg1⟩ := h3 (by omega)
    obtain ⟨g2, o2, rfl, hg2⟩ := h4 (by omega)
    have key : ∀ (g o : Nat), (∀ i, (h : i < (ints l).length) → w.cell? ⟨g, o + i, none⟩ = some ((ints l)[i]'h)) → ∀ j, j < l.length → w.cell? ⟨g, o + j, none⟩ = some (.int .i64 (l.getD j 0)) := fun g o hg j hj => by
      rw [hg j (by omega)]
      simp [ints, List.getD, hj]
    rw [hln]
    refine (Any.slices_Equal_int Try.lays111 g1 o1 l.length c1 g2 o2 l.length c2 l l w (Nat.le_refl _) (Nat.le_refl _) (by omega) (by omega) (key g1 o1 hg1) (key g2 o2 hg2)).mono ?_
    rintro e w' ⟨rfl, q, rfl⟩
    exact ⟨by simp, below_drewN (Below.refl _ _) _⟩

end Go.Proofs.Ytjhpfnogdjpbmaa
