/-
  slices.Delete of one member; how cells are moved within a row that is owned.
-/
import Derived.Test.YtmkbbhdmfpjfdaaGanew
import Derived.Deep.RegionLaw
import Derived.Lib.SliceRun
import Derived.Deep.DrawnRows
namespace Go.Proofs.Ytmkbbhdmfpjfdaa
open Go.RowKit
set_option linter.unusedVariables false
set_option linter.unusedSimpArgs false

theorem own_setCellsZ {B T z g n cap : Nat} (vs : List Value) : ∀ (o : Nat) (ys : List Value) (w : World), OwnV B T z (.slice (some ⟨g, 0, none⟩) n cap) n ys w → o + vs.length ≤ n * z → OwnV B T z (.slice (some ⟨g, 0, none⟩) n cap) n (ys.take o ++ vs ++ ys.drop (o + vs.length)) (w.setCells g o vs) ∧ w.grownBy (w.setCells g o vs) (some g) := by
  induction vs with
  | nil =>
    intro o ys w h _
    simp only [List.length_nil, Nat.add_zero, List.append_nil, World.setCells]
    rw [List.take_append_drop]
    exact ⟨h, ⟨rfl, rfl, rfl, Nat.le_refl _, fun _ _ _ => rfl⟩⟩
  | cons v vs ih =>
    intro o ys w h hl
    simp only [List.length_cons] at hl
    have hy : ys.length = n * z := by have := h.1.1; omega
    have h1 := h.stored o v
    have g1 := (h.1.stored o v).2
    obtain ⟨h2, g2⟩ := ih (o + 1) (ys.set o v) _ h1 (by omega)
    rw [World.setCells]
    refine ⟨?_, ⟨g2.os.trans g1.os, g2.tape.trans g1.tape, g2.output.trans g1.output, Nat.le_trans g1.size g2.size, fun k hk hr => (g2.block k (Nat.lt_of_lt_of_le hk g1.size) hr).trans (g1.block k hk hr)⟩⟩
    have e1 : (ys.set o v).take (o + 1) = ys.take o ++ [v] := by
      rw [List.take_succ_eq_append_getElem (by rw [List.length_set]; omega), List.getElem_set_self]
      rw [List.take_set, List.set_eq_of_length_le (by rw [List.length_take]; omega)]
    have e2 : (ys.set o v).drop (o + 1 + vs.length) = ys.drop (o + (v :: vs).length) := by
      rw [List.drop_set_of_lt (by omega), List.length_cons]
      congr 1
      omega
    rw [e1, e2] at h2
    simpa using h2

theorem own_lessZ {B T z g n cap : Nat} {xs : List Value} {w : World} (h : OwnV B T z (.slice (some ⟨g, 0, none⟩) n cap) n xs w) (m : Nat) (hm : m ≤ n) : OwnV B T z (.slice (some ⟨g, 0, none⟩) m cap) m (xs.take (m * z)) w := by
  obtain ⟨⟨h1, h2⟩, h4⟩ := h
  rcases h2 with ⟨e, _⟩ | ⟨g', cap', cur, e, r2, r3, r4, r5, r6, r7⟩
  · cases e
  · simp only [Value.slice.injEq, Option.some.injEq, Addr.mk.injEq, and_true] at e
    obtain ⟨rfl, -, rfl⟩ := e
    have hmz : m * z ≤ n * z := Nat.mul_le_mul_right _ hm
    refine ⟨⟨by rw [List.length_take]; omega, .inr ⟨g, cap, cur, rfl, r2, r3, by omega, r5, r6, ?_⟩⟩, h4⟩
    rw [← r7, List.take_take, Nat.min_eq_left hmz]
/-- clear(s), s a slice of elements of however many cells. -/
theorem run_clear_rows (w : World) (t e ty : TypeId) (z : Value) (ht : Try.prog.underlying t = some (.slice e)) (hv : ∀ w, (zeroValue e).run Try.prog w = .ok z w) (h1 : ∀ v ∈ z.cells.toList, v.oneCell' = true) (b o n c : Nat) (hn : 0 < n)
    (hc : ∀ j, j < n * z.cells.size → (w.cell? ⟨b, o + j, none⟩).isSome = true) (hf : ∀ j, j < n * z.cells.size → w.frozen? ⟨b, o + j, none⟩ = false) :
    (Builtin.clear_ #[t] ty #[.slice (some ⟨b, o, none⟩) n c]).run Try.prog w = .ok (.tuple #[]) (w.setCells b o (Builtin.zeroCells z.cells n).toList) := by
  have hl : (Builtin.zeroCells z.cells n).toList.length = n * z.cells.size := by simp [Builtin.zeroCells]
  have h1' : ∀ v ∈ (Builtin.zeroCells z.cells n).toList, v.oneCell' = true := by
    intro v hv'
    simp only [Builtin.zeroCells, Array.toList_map, List.mem_map] at hv'
    obtain ⟨i, hi, rfl⟩ := hv'
    rcases Nat.eq_zero_or_pos z.cells.size with h0 | h0
    · simp [h0] at hi
    · have : i % z.cells.size < z.cells.size := Nat.mod_lt _ h0
      rw [getElem!_pos z.cells _ this]
      exact h1 _ (by simp)
  have hst := run_storeCells_cells (P := Try.prog) b o (Builtin.zeroCells z.cells n).toList 0 w (by rw [hl]; simpa using hc) (by rw [hl]; simpa using hf) h1'
  simp only [Nat.add_zero] at hst
  obtain ⟨m, rfl⟩ : ∃ m, n = m + 1 := ⟨n - 1, by omega⟩
  simp [Builtin.clear_, run_underlying ht, hv, hst]
theorem zeroMem (w : World) : (zeroValue 55).run Try.prog w = .ok zeroMV w := by kernel_rfl

theorem drop_row {α : Type} (E : El α) (us : Nat → Value) (xs : List α) (k i : Nat) : (E.row us xs k).drop (i * E.z) = E.row us (xs.drop i) (k + i) := by
  induction xs generalizing k i with
  | nil => simp [El.row]
  | cons x xs ih =>
    cases i with
    | zero => simp
    | succ i =>
      simp only [El.row, List.drop_succ_cons]
      rw [List.drop_append, List.drop_eq_nil_of_le (by rw [E.len, Nat.succ_mul]; omega), List.nil_append, E.len, show (i + 1) * E.z - E.z = i * E.z by rw [Nat.succ_mul]; omega, ih (k + 1) i, show k + 1 + i = k + (i + 1) by omega]
theorem take_row {α : Type} (E : El α) (us : Nat → Value) (xs : List α) (k i : Nat) : (E.row us xs k).take (i * E.z) = E.row us (xs.take i) k := by
  induction xs generalizing k i with
  | nil => simp [El.row]
  | cons x xs ih =>
    cases i with
    | zero => simp [El.row]
    | succ i =>
      simp only [El.row, List.take_succ_cons]
      rw [List.take_append, List.take_of_length_le (by rw [E.len, Nat.succ_mul]; omega), E.len, show (i + 1) * E.z - E.z = i * E.z by rw [Nat.succ_mul]; omega, ih (k + 1) i]
theorem row_app {α : Type} (E : El α) (us : Nat → Value) (xs ys : List α) (k : Nat) : E.row us (xs ++ ys) k = E.row us xs k ++ E.row us ys (k + xs.length) := by
  induction xs generalizing k with
  | nil => simp [El.row]
  | cons x xs ih => simp only [List.cons_append, El.row, List.append_assoc, List.length_cons]; rw [ih (k + 1), show k + 1 + xs.length = k + (xs.length + 1) by omega]
theorem row_shift {α : Type} (E : El α) (us us' : Nat → Value) (xs : List α) (k k' : Nat) (h : ∀ i, i < xs.length → us (k + i) = us' (k' + i)) : E.row us xs k = E.row us' xs k' := by
  induction xs generalizing k k' with
  | nil => rfl
  | cons x xs ih =>
    simp only [El.row]
    rw [ih (k + 1) (k' + 1) (fun i hi => by have := h (i + 1) (by simpa using hi); rwa [show k + (i + 1) = k + 1 + i by omega, show k' + (i + 1) = k' + 1 + i by omega] at this), show us k = us' k' from h 0 (by simp)]
/-- One is left out. -/
def cut1 {α : Type} (l : List α) (i : Nat) : List α := l.take i ++ l.drop (i + 1)
theorem cut1_len {α : Type} {l : List α} {i : Nat} (h : i < l.length) : (cut1 l i).length = l.length - 1 := by
  unfold cut1
  rw [List.length_append, List.length_take, List.length_drop]
  omega
theorem cut1_at {α : Type} {l : List α} {i k : Nat} (h : i < l.length) (hk : k < (cut1 l i).length) : (cut1 l i)[k]'hk = if h2 : k < i then l[k]'(by omega) else l[k + 1]'(by rw [cut1_len h] at hk; omega) := by
  have hl := cut1_len h
  have hli : (l.take i).length = i := by rw [List.length_take]; omega
  have e : (cut1 l i)[k]? = if k < i then l[k]? else l[k + 1]? := by
    unfold cut1
    by_cases h2 : k < i
    · rw [if_pos h2, List.getElem?_append_left (by rw [hli]; exact h2), List.getElem?_take_of_lt h2]
    · rw [if_neg h2, List.getElem?_append_right (by rw [hli]; omega), List.getElem?_drop]
      congr 1
      rw [hli]
      omega
  rw [List.getElem?_eq_getElem hk] at e
  by_cases h2 : k < i
  · rw [if_pos h2, List.getElem?_eq_getElem (by omega)] at e
    rw [dif_pos h2]
    exact Option.some.inj e
  · rw [if_neg h2, List.getElem?_eq_getElem (by omega)] at e
    rw [dif_neg h2]
    exact Option.some.inj e
def usCut (us : Nat → Value) (i k : Nat) : Value := if k < i then us k else us (k + 1)
theorem row_cut {α : Type} (E : El α) (us : Nat → Value) (xs : List α) (i : Nat) (hi : i < xs.length) : E.row (usCut us i) (cut1 xs i) 0 = (E.row us xs 0).take (i * E.z) ++ (E.row us xs 0).drop ((i + 1) * E.z) := by
  unfold cut1
  rw [row_app, take_row, drop_row]
  congr 1
  · exact row_shift E _ _ _ _ _ (fun j hj => by rw [List.length_take] at hj; unfold usCut; rw [if_pos (by omega)])
  · exact row_shift E _ _ _ _ _ (fun j hj => by
      unfold usCut
      rw [List.length_take, Nat.min_eq_left (by omega), if_neg (by omega)]
      congr 1
      omega)
/-- Behind the moving of cells within its row. -/
theorem OwnW.cut {α : Type} {E : El α} {T B : Nat} {w w' : World} {g n cap : Nat} {xs : List α} {us : Nat → Value} (h : OwnW E T B w (.slice (some ⟨g, 0, none⟩) n cap) xs us) (i : Nat) (hi : i < xs.length) (ho : OwnV B T E.z (.slice (some ⟨g, 0, none⟩) (xs.length - 1) cap) (xs.length - 1) (E.row (usCut us i) (cut1 xs i) 0) w') (hg : w.grownBy w' (some g)) :
    OwnW E T B w' (.slice (some ⟨g, 0, none⟩) (xs.length - 1) cap) (cut1 xs i) (usCut us i) := by
  have hl := cut1_len hi
  refine ⟨by rw [hl]; exact ho, fun k hk => ?_, fun k hk b e e2 => ?_, fun k m hk hm hne b e => ?_⟩
  · rw [cut1_at hi hk]
    unfold usCut
    by_cases h2 : k < i
    · rw [dif_pos h2, if_pos h2]
      exact (h.i k (by omega)).grown hg (fun c e e2 => by cases e2; exact h.a k (by omega) g e rfl)
    · rw [dif_neg h2, if_neg h2]
      exact (h.i (k + 1) (by omega)).grown hg (fun c e e2 => by cases e2; exact h.a (k + 1) (by omega) g e rfl)
  · simp [Value.ownBlock] at e2
    subst e2
    unfold usCut at e
    split at e
    · exact h.a k (by omega) g e rfl
    · exact h.a (k + 1) (by omega) g e rfl
  · unfold usCut at e ⊢
    split at e <;> split
    · exact h.d k m (by omega) (by omega) hne b e
    · exact h.d k (m + 1) (by omega) (by omega) (by omega) b e
    · exact h.d (k + 1) m (by omega) (by omega) (by omega) b e
    · exact h.d (k + 1) (m + 1) (by omega) (by omega) (by omega) b e

set_option maxRecDepth 100000 in
set_option maxHeartbeats 4000000 in
theorem delete_any (ms : List Mem) (us : Nat → Value) (B g cap i : Nat) (w : World) (h : OwnW memE 55 B w (.slice (some ⟨g, 0, none⟩) ms.length cap) ms us) (hi : i < ms.length) (hl : ms.length ≤ 1000) :
    Calls Try.prog 68 #[.slice (some ⟨g, 0, none⟩) ms.length cap, .int .i64 i, .int .i64 ((i : Int) + 1)] w fun e w' => e = .returned (.slice (some ⟨g, 0, none⟩) (ms.length - 1) cap) ∧ OwnW memE 55 B w' (.slice (some ⟨g, 0, none⟩) (ms.length - 1) cap) (cut1 ms i) (usCut us i) ∧ w.grownBy w' (some g) := by
  obtain ⟨i0, hi0, hz0, hz1, hz2⟩ := info_parts infoMem
  obtain ⟨g', cap', e, hB, hgl, hnc, hcm, hfz, hc⟩ := h.o.form (by omega)
  simp only [Value.slice.injEq, Option.some.injEq, Addr.mk.injEq, and_true, true_and] at e
  obtain ⟨rfl, rfl⟩ := e
  unfold maxLen at hcm
  have hrl : (memE.row us ms 0).length = ms.length * 3 := row_len memE us ms 0
  have hc' : ∀ j, j < ms.length * 3 → w.cell? ⟨g, j, none⟩ = (memE.row us ms 0)[j]? := hc
  obtain ⟨N, hN⟩ : ∃ N, (memE.row us ms 0).drop ((i + 1) * 3) = N := ⟨_, rfl⟩
  have hNl : N.length = (ms.length - (i + 1)) * 3 := by rw [← hN, List.length_drop, hrl, Nat.sub_mul]
  have hN1 : ∀ u ∈ N, u.oneCell' = true := fun u hu => row_one memE (fun k hk => by rw [Nat.zero_add]; exact rdv_one (h.i k hk).rdv) u (by rw [← hN] at hu; exact List.mem_of_mem_drop hu)
  obtain ⟨A, hA, hnews⟩ : ∃ A : Addr, (if cap = i + 1 then some (⟨g, 0, none⟩ : Addr) else some ⟨g, (i + 1) * 3, none⟩) = some A ∧ Hid (∀ j u, N[j]? = some u → w.drew.cell? (A.add j) = some u) := by
    by_cases h : cap = i + 1
    · refine ⟨⟨g, 0, none⟩, by simp [h], fun j u hu => ?_⟩
      have h0 : N.length = 0 := by rw [hNl]; have : ms.length - (i + 1) = 0 := by omega
                                   rw [this]
      rw [List.length_eq_zero_iff.1 h0] at hu
      simp at hu
    · refine ⟨⟨g, (i + 1) * 3, none⟩, by simp [h], fun j u hu => ?_⟩
      have hj : j < N.length := (List.getElem?_eq_some_iff.1 hu).1
      rw [Addr.add_lit]
      rw [← hN, List.getElem?_drop] at hu
      exact (hc' _ (by omega)).trans hu
  have s1 : Hid (N.length = (ms.length - (i + 1)) * 3) := hNl
  have s2 : Hid _ := hN1
  have s3 : Hid (∀ j, j < N.length → (w.drew.cell? ⟨g, 0 + i * 3 + j, none⟩).isSome = true ∧ w.drew.frozen? ⟨g, 0 + i * 3 + j, none⟩ = false) := fun j hj => by
    rw [hNl] at hj
    refine ⟨?_, hfz _⟩
    show (w.cell? _).isSome = true
    rw [Nat.zero_add, hc' _ (by omega), List.getElem?_eq_getElem (by omega)]
    rfl
  -- behind the moving
  obtain ⟨R1, hR1⟩ : ∃ R1, (memE.row us ms 0).take (i * 3) ++ N ++ (memE.row us ms 0).drop (i * 3 + N.length) = R1 := ⟨_, rfl⟩
  obtain ⟨ho1, hg1⟩ := own_setCellsZ N (i * 3) (memE.row us ms 0) w.drew (show OwnV B 55 3 _ _ _ w.drew from ⟨h.o.1, h.o.2⟩) (by omega)
  rw [hR1] at ho1
  obtain ⟨W1, hW1⟩ : ∃ W1, w.drew.setCells g (0 + i * 3) N = W1 := ⟨_, rfl⟩
  have hW1' : w.drew.setCells g (i * 3) N = W1 := by rw [← hW1, Nat.zero_add]
  rw [hW1'] at ho1 hg1
  have hR1l : R1.length = ms.length * 3 := by have := ho1.1.1; omega
  have hcl : ∀ ty, (Builtin.clear_ #[22] ty #[.slice (some ⟨g, (ms.length - 1) * 3, none⟩) 1 (cap - (ms.length - 1))]).run Try.prog W1 = .ok (.tuple #[]) (W1.setCells g ((ms.length - 1) * 3) (Builtin.zeroCells zeroMV.cells 1).toList) := fun ty => by
    refine run_clear_rows W1 22 55 ty zeroMV Try.underlying22 zeroMem (fun v hv => by simp [zeroMV, Value.cells] at hv; rcases hv with rfl | rfl | rfl <;> rfl) g _ 1 _ (by omega) (fun j hj => ?_) (fun j _ => ho1.1.frozenAt _)
    have h3 : zeroMV.cells.size = 3 := rfl
    rw [h3] at hj
    rw [ho1.1.cellAt _ (by omega), List.getElem?_eq_getElem (by omega)]
    rfl
  have hzl : (Builtin.zeroCells zeroMV.cells 1).toList.length = 3 := by simp [Builtin.zeroCells, zeroMV, Value.cells]
  obtain ⟨ho2, hg2⟩ := own_setCellsZ (Builtin.zeroCells zeroMV.cells 1).toList ((ms.length - 1) * 3) R1 W1 ho1 (by rw [hzl]; omega)
  have ho3 := own_lessZ ho2 (ms.length - 1) (by omega)
  have HFIN : Hid (OwnW memE 55 B (W1.setCells g ((ms.length - 1) * 3) (Builtin.zeroCells zeroMV.cells 1).toList) (.slice (some ⟨g, 0, none⟩) (ms.length - 1) cap) (cut1 ms i) (usCut us i) ∧ w.grownBy (W1.setCells g ((ms.length - 1) * 3) (Builtin.zeroCells zeroMV.cells 1).toList) (some g)) := by
    have hgg : w.grownBy (W1.setCells g ((ms.length - 1) * 3) (Builtin.zeroCells zeroMV.cells 1).toList) (some g) := grown_trans (a := W1) ⟨hg1.os, hg1.tape, hg1.output, hg1.size, hg1.block⟩ hg2
    refine ⟨h.cut i hi ?_ hgg, hgg⟩
    rw [row_cut memE us ms i hi]
    have e1 : ((R1.take ((ms.length - 1) * 3) ++ (Builtin.zeroCells zeroMV.cells 1).toList ++ R1.drop ((ms.length - 1) * 3 + (Builtin.zeroCells zeroMV.cells 1).toList.length)).take ((ms.length - 1) * 3)) = (memE.row us ms 0).take (i * 3) ++ N := by
      rw [List.append_assoc, List.take_append_of_le_length (by rw [List.length_take]; omega), List.take_take, Nat.min_self, ← hR1, List.take_append_of_le_length (by rw [List.length_append, List.length_take]; omega), List.take_of_length_le (by rw [List.length_append, List.length_take]; omega)]
    rw [e1, ← hN] at ho3
    exact ho3
  obtain ⟨W2, hW2⟩ : ∃ W2, W1.setCells g ((ms.length - 1) * 3) (Builtin.zeroCells zeroMV.cells 1).toList = W2 := ⟨_, rfl⟩
  rw [hW2] at HFIN hcl
  clear hW2
  have hic : i ≤ cap := by omega
  have hwr : IntKind.i64.wrap ((i : Int) + 1) = (i : Int) + 1 := by rw [IntKind.wrap_i64]; omega
  have hp0 : (0 : Int) ≤ (i : Int) + 1 := by omega
  have hp1 : (i : Int) + 1 ≤ (ms.length : Int) := by omega
  have hp2 : ((i : Int) + 1).toNat = i + 1 := by omega
  have hp3 : ((i : Int) == (i : Int) + 1) = false := by simp; omega
  have HW1 : Hid _ := hW1
  have HW1b : Hid _ := hW1'
  clear hc hc' hN hN1 hNl hR1 ho1 hg1 ho2 hg2 ho3 h hfz hW1' hrl hR1l hW1 hzl
  go_enter Try.func68, Try.ntmps68
  go_wp2_with fail
  go_region_law (refine step_append_room rfl (.tmp 22) (.tmp 25) 22 rfl 55 i0 3 Try.underlying22 hi0 hz1 g 0 i cap (by simp [Act.eval, Act.put]) A (ms.length - (i + 1)) (cap - (i + 1)) N (by simp [Act.eval, Act.put]) s1.out hnews.out s2.out (by omega) s3.out ?_)
  first | rw [HW1.out] | rw [HW1b.out]
  go_wp2_with (rw [show i + (ms.length - (i + 1)) = ms.length - 1 by omega])
  have hcl2 : ∀ ty, (Builtin.clear_ #[22] ty #[.slice (some ⟨g, (ms.length - 1) * 3, none⟩) (ms.length - (ms.length - 1)) (cap - (ms.length - 1))]).run Try.prog W1 = .ok (.tuple #[]) W2 := fun ty => by
    rw [show ms.length - (ms.length - 1) = 1 by omega]
    exact hcl ty
  clear hcl
  simp only [hcl2]
  go_wp2
  go_ret
  exact ⟨rfl, HFIN.out⟩

end Go.Proofs.Ytmkbbhdmfpjfdaa
