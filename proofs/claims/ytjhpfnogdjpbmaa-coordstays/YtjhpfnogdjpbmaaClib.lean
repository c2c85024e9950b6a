/-
  slices.BinarySearch, Insert, Delete and Index of numbers, in rows that a call owns.
-/
import Derived.Test.YtjhpfnogdjpbmaaCpure
import Derived.Test.YtjhpfnogdjpbmaaShelf
import Derived.Lib.RowBridge
import Derived.Shelf.Slices.Empties
namespace Go.Proofs.Ytjhpfnogdjpbmaa
open Go.RowKit
set_option linter.unusedVariables false
set_option linter.unusedSimpArgs false

theorem own_setCells {B T g n cap : Nat} (vs : List Value) : ∀ (o : Nat) (ys : List Value) (w : World), OwnV B T 1 (.slice (some ⟨g, 0, none⟩) n cap) n ys w → o + vs.length ≤ n → OwnV B T 1 (.slice (some ⟨g, 0, none⟩) n cap) n (ys.take o ++ vs ++ ys.drop (o + vs.length)) (w.setCells g o vs) ∧ w.grownBy (w.setCells g o vs) (some g) := by
  induction vs with
  | nil =>
    intro o ys w h _
    simp only [List.length_nil, Nat.add_zero, List.append_nil, World.setCells]
    rw [List.take_append_drop]
    exact ⟨h, ⟨rfl, rfl, rfl, Nat.le_refl _, fun _ _ _ => rfl⟩⟩
  | cons v vs ih =>
    intro o ys w h hl
    simp only [List.length_cons] at hl
    have hy : ys.length = n := by have := h.1.1; omega
    have h1 := h.stored o v
    have g1 := (h.1.stored o v).2
    obtain ⟨h2, g2⟩ := ih (o + 1) (ys.set o v) _ h1 (by omega)
    rw [World.setCells]
    refine ⟨?_, ⟨g2.os.trans g1.os, g2.tape.trans g1.tape, g2.output.trans g1.output, Nat.le_trans g1.size g2.size, fun k hk hr => (g2.block k (Nat.lt_of_lt_of_le hk g1.size) hr).trans (g1.block k hk hr)⟩⟩
    have e1 : (ys.set o v).take (o + 1) = ys.take o ++ [v] := by
      rw [List.take_succ_eq_append_getElem (by rw [List.length_set]; omega), List.getElem_set_self]
      rw [List.take_set, List.set_eq_of_length_le (by rw [List.length_take]; omega)]
    have e2 : (ys.set o v).drop (o + 1 + vs.length) = ys.drop (o + (v :: vs).length) := by
      rw [List.drop_set_of_lt (by omega), List.length_cons]
      congr 1
      omega
    rw [e1, e2] at h2
    simpa using h2
/-- One cell of the spare room is taken in. -/
theorem own_more {B T g n cap : Nat} {xs : List Value} {w : World} (h : OwnV B T 1 (.slice (some ⟨g, 0, none⟩) n cap) n xs w) (hc : n < cap) : ∃ y, OwnV B T 1 (.slice (some ⟨g, 0, none⟩) (n + 1) cap) (n + 1) (xs ++ [y]) w := by
  obtain ⟨⟨h1, h2⟩, h4⟩ := h
  rcases h2 with ⟨e, _⟩ | ⟨g', cap', cur, e, r2, r3, r4, r5, r6, r7⟩
  · cases e
  · simp only [Value.slice.injEq, Option.some.injEq, Addr.mk.injEq, and_true] at e
    obtain ⟨rfl, -, rfl⟩ := e
    have hlt : n < cur.toList.length := by rw [Array.length_toList, r6]; omega
    refine ⟨cur.toList[n], ⟨by simp; omega, .inr ⟨g, cap, cur, rfl, r2, r3, by omega, r5, r6, ?_⟩⟩, h4⟩
    rw [Nat.mul_one] at r7 ⊢
    rw [List.take_succ_eq_append_getElem hlt, r7]
theorem own_less {B T g n cap : Nat} {xs : List Value} {w : World} (h : OwnV B T 1 (.slice (some ⟨g, 0, none⟩) n cap) n xs w) (m : Nat) (hm : m ≤ n) : OwnV B T 1 (.slice (some ⟨g, 0, none⟩) m cap) m (xs.take m) w := by
  obtain ⟨⟨h1, h2⟩, h4⟩ := h
  rcases h2 with ⟨e, _⟩ | ⟨g', cap', cur, e, r2, r3, r4, r5, r6, r7⟩
  · cases e
  · simp only [Value.slice.injEq, Option.some.injEq, Addr.mk.injEq, and_true] at e
    obtain ⟨rfl, -, rfl⟩ := e
    refine ⟨⟨by simp; omega, .inr ⟨g, cap, cur, rfl, r2, r3, by omega, r5, r6, ?_⟩⟩, h4⟩
    rw [Nat.mul_one] at r7 ⊢
    rw [← r7, List.take_take, Nat.min_eq_left hm]

theorem below_count (l : List Int) (p : Int) : below l p = l.countP (· < p) := by
  unfold below
  rw [List.countP_eq_length_filter]
theorem rise_sorted {l : List Int} (h : riseB l = true) : l.Pairwise (· ≤ ·) := by
  have := rise_cases h
  simp only [List.mem_cons, List.not_mem_nil, or_false] at this
  rcases this with rfl | rfl | rfl | rfl | rfl | rfl | rfl | rfl | rfl | rfl | rfl | rfl | rfl | rfl | rfl | rfl <;> decide
theorem rise_len {l : List Int} (h : riseB l = true) : l.length ≤ 4 := by
  have := rise_cases h
  simp only [List.mem_cons, List.not_mem_nil, or_false] at this
  rcases this with rfl | rfl | rfl | rfl | rfl | rfl | rfl | rfl | rfl | rfl | rfl | rfl | rfl | rfl | rfl | rfl <;> decide
theorem below_le (l : List Int) (p : Int) : below l p ≤ l.length := by unfold below; exact List.length_filter_le _ _

theorem binSearch_any (l : List Int) (p : Int) (v : Value) (w : World) (hr : RdV w v (ints l)) (hs : riseB l = true) :
    Calls Try.prog 60 #[v, .int .i64 p] w fun e w' => e = .returned (.tuple #[.int .i64 (below l p : Nat), .bool (l.contains p)]) ∧ Below w.heap.size w w' := by
  obtain ⟨ao, cap, rfl, h1, h2, h4, h3⟩ := hr
  rw [ints_len] at *
  have hl := rise_len hs
  rcases Nat.eq_zero_or_pos l.length with h0 | h0
  · have hl0 : l = [] := List.eq_nil_of_length_eq_zero h0
    subst hl0
    refine (Any.slices_BinarySearch_int_empty Try.lays25 ao cap p w).mono ?_
    rintro e w' ⟨rfl, rfl⟩
    exact ⟨rfl, Below.refl _ _⟩
  · obtain ⟨g, off, rfl, hg⟩ := h3 (by rw [ints_len]; exact h0)
    refine (Any.slices_BinarySearch_int Try.lays25 g off l.length cap l p w (Nat.le_refl _) (by omega) (fun j hj => ?_) (by rw [List.take_length]; exact rise_sorted hs)).mono ?_
    · have := hg j (by rw [ints_len]; exact hj)
      rw [this]
      simp [ints, List.getD, hj]
    · rintro e w' ⟨rfl, q, rfl⟩
      rw [List.take_length, ← below_count]
      exact ⟨rfl, below_drewN (Below.refl _ _) _⟩

theorem grown_drew {w w' : World} {r : Option Nat} (h : w.drew.grownBy w' r) : w.grownBy w' r := ⟨h.os, h.tape, h.output, h.size, h.block⟩
theorem grown_drew' {w w' : World} {r : Option Nat} (h : w.grownBy w' r) : w.grownBy w'.drew r := ⟨h.os, h.tape, h.output, h.size, h.block⟩
theorem grown_trans {w a b : World} {r : Option Nat} (h : w.grownBy a r) (k : a.grownBy b r) : w.grownBy b r :=
  ⟨k.os.trans h.os, k.tape.trans h.tape, k.output.trans h.output, Nat.le_trans h.size k.size, fun j hj hr => (k.block j (Nat.lt_of_lt_of_le hj h.size) hr).trans (h.block j hj hr)⟩
theorem grown_alloc (w : World) (o : Obj) (r : Option Nat) : w.grownBy (w.alloc o) r := grown_below (bbox w o) r
theorem ownV_drew {B T z : Nat} {v : Value} {n : Nat} {xs : List Value} {w : World} (h : OwnV B T z v n xs w) : OwnV B T z v n xs w.drew := h
theorem ints_app (l r : List Int) : ints (l ++ r) = ints l ++ ints r := by simp [ints]
theorem ints_take (l : List Int) (k : Nat) : ints (l.take k) = (ints l).take k := by simp [ints]
theorem ints_drop (l : List Int) (k : Nat) : ints (l.drop k) = (ints l).drop k := by simp [ints]
theorem ints_one (l : List Int) : ∀ v ∈ ints l, v.oneCell' = true := by
  intro v hv
  simp [ints] at hv
  obtain ⟨n, _, rfl⟩ := hv
  rfl
/-- A new row, whose first cells are known. -/
theorem own_new {B T cap n : Nat} {xs : List Value} (w : World) (cur : Array Value) (hB : B ≤ w.heap.size) (hn : n ≤ cap) (hm : cap ≤ maxLen) (hs : cur.size = cap) (hx : cur.toList.take n = xs) : OwnV B T 1 (.slice (some ⟨w.heap.size, 0, none⟩) n cap) n xs (w.alloc (.cells cur T)) := by
  refine ⟨⟨?_, .inr ⟨w.heap.size, cap, cur, rfl, hB, heap_alloc_new w _, hn, hm, by omega, by rw [Nat.mul_one]; exact hx⟩⟩, by simp; omega⟩
  rw [← hx, List.length_take, Array.length_toList, hs]
  omega
/-- What is turned in a new block alone. -/
theorem grown_new {w W' : World} {o : Obj} {r : Option Nat} (h : (w.alloc o).grownBy W' (some w.heap.size)) : w.grownBy W' r :=
  have g := grown_alloc w o r
  ⟨h.os.trans g.os, h.tape.trans g.tape, h.output.trans g.output, Nat.le_trans g.size h.size, fun k hk hr => (h.block k (Nat.lt_of_lt_of_le hk g.size) (by intro e; simp at e; omega)).trans (g.block k hk hr)⟩
theorem ins_list {α : Type} (xs R : List α) (x : α) (i : Nat) (hi : i ≤ xs.length) (hR : R.length = xs.length + 1) (ht : R.take i = xs.take i) :
    ((R.take (i + 1) ++ xs.drop i ++ R.drop (i + 1 + (xs.drop i).length)).take i ++ [x] ++ (R.take (i + 1) ++ xs.drop i ++ R.drop (i + 1 + (xs.drop i).length)).drop (i + 1)) = xs.take i ++ x :: xs.drop i := by
  have e0 : R.drop (i + 1 + (xs.drop i).length) = [] := List.drop_eq_nil_of_le (by rw [List.length_drop]; omega)
  have l1 : (R.take (i + 1)).length = i + 1 := by rw [List.length_take]; omega
  rw [e0, List.append_nil, List.take_append_of_le_length (by omega), List.take_take, Nat.min_eq_left (by omega), ht, List.drop_append_of_le_length (by omega), List.drop_eq_nil_of_le (by omega)]
  simp
theorem ins_list2 {α : Type} (xs R : List α) (x : α) (i : Nat) (hi : i ≤ xs.length) (hR : R.length = xs.length + 1) (ht : R.take i = xs.take i) :
    ((R.take i ++ [x] ++ R.drop (i + 1)).take (i + 1) ++ xs.drop i ++ (R.take i ++ [x] ++ R.drop (i + 1)).drop (i + 1 + (xs.drop i).length)) = xs.take i ++ x :: xs.drop i := by
  have l1 : (R.take i ++ [x]).length = i + 1 := by rw [List.length_append, List.length_take]; simp; omega
  have e0 : (R.take i ++ [x] ++ R.drop (i + 1)).drop (i + 1 + (xs.drop i).length) = [] := List.drop_eq_nil_of_le (by simp; omega)
  rw [e0, List.append_nil, List.take_append_of_le_length (by omega), List.take_of_length_le (by omega), ht]
  simp
theorem zc_size (n : Nat) : (Builtin.zeroCells (Value.int .i64 0).cells n).size = n := by
  rw [size_zeroCells]
  simp [Value.cells]

set_option maxHeartbeats 1000000 in
theorem insert_any {B : Nat} (l : List Int) (p : Int) (i : Nat) (v : Value) (w : World) (vb : Nat) (ho : OwnV B 3 1 v l.length (ints l) w) (hi : i ≤ l.length) (hl : l.length ≤ 4) (hvb : w.cell? ⟨vb, 0, none⟩ = some (.int .i64 p)) (hvs : w.shape? vb = some (3, 1)) (hvf : ∀ o, w.frozen? ⟨vb, o, none⟩ = false) (hne : v.ownBlock ≠ some vb) :
    Calls Try.prog 61 #[v, .int .i64 i, .slice (some ⟨vb, 0, none⟩) 1 1] w fun e w' => ∃ u, e = .returned u ∧ OwnV B 3 1 u (l.length + 1) (ints (l.take i ++ p :: l.drop i)) w' ∧ w.grownBy w' v.ownBlock ∧ ∀ b, u.ownBlock = some b → v.ownBlock = some b ∨ b = w.heap.size := by
  have hB := ho.2
  have hln : (ints l).length = l.length := ints_len l
  have hres : ints (l.take i ++ p :: l.drop i) = (ints l).take i ++ .int .i64 p :: (ints l).drop i := by simp [ints]
  have hx1 : ∀ j u, ([Value.int .i64 p] : List Value)[j]? = some u → w.cell? ⟨vb, 0 + j, none⟩ = some u := fun j u hj => by
    cases j with
    | zero => simp at hj; subst hj; simpa using hvb
    | succ j => simp at hj
  have hone : ∀ v ∈ ([Value.int .i64 p] : List Value), v.oneCell' = true := by simp [Value.oneCell']
  rw [hres]
  rcases ho.1.2 with ⟨e, e2⟩ | ⟨g, cap, cur, e, r2, r3, r4, r5, r6, r7⟩
  · have hl0 : l = [] := List.eq_nil_of_length_eq_zero e2
    subst hl0
    obtain rfl : i = 0 := by simpa using hi
    subst e
    refine (Any2.slices_Insert_int_end_grow Try.lays21 none 0 0 vb 0 1 1 [] [.int .i64 p] w (by omega) (Nat.le_refl _) (by omega) (by omega) rfl rfl (fun _ => rfl) (fun a h => by cases h) hx1 hone).mono ?_
    rintro e w' ⟨rfl, rfl⟩
    refine ⟨_, rfl, ?_, grown_drew (grown_alloc w.drew _ _), fun b e => .inr (by simpa [Value.ownBlock] using e.symm)⟩
    have hg := grownCap_ge w 1 0 (Try.lays21_ren.t 3)
    exact own_new w.drew _ hB (by omega) (grownCap_le_maxLen _ _ _ _ (by decide)) (by simp [zc_size]; omega) (by simp [ints])
  · subst e
    have hc63 : cap ≤ 9223372036854775807 := r5
    have hcell : ∀ j u, (ints l)[j]? = some u → w.cell? ⟨g, 0 + j, none⟩ = some u := fun j u hj => by
      have hjl : j < l.length := by have := (List.getElem?_eq_some_iff.1 hj).1; omega
      have := ho.1.cellAt j (by omega)
      rw [Nat.zero_add, this]
      exact hj
    rcases Nat.lt_or_ge l.length cap with hroom | hroom
    · obtain ⟨y, hy⟩ := own_more ho hroom
      have hfz : ∀ o, w.frozen? ⟨g, o, none⟩ = false := by
        obtain ⟨g2, cap2, e2, _, _, _, _, hfz, _⟩ := hy.form (by omega)
        simp only [Value.slice.injEq, Option.some.injEq, Addr.mk.injEq, and_true] at e2
        obtain ⟨rfl, _⟩ := e2
        exact hfz
      have hsome : ∀ j, j < l.length + 1 → (w.cell? ⟨g, 0 + j, none⟩).isSome = true := fun j hj => by
        have := hy.1.cellAt j (by omega)
        rw [Nat.zero_add, this, List.getElem?_eq_getElem (by simp; omega)]
        rfl
      have hR : (ints l ++ [y]).length = (ints l).length + 1 := by simp
      rcases Nat.lt_or_ge i l.length with hil | hil
      · refine (Any2.slices_Insert_int_shift Try.lays21 g 0 l.length cap i vb 0 1 1 (ints l) [.int .i64 p] w hil (by omega) (by omega) hc63 (fun e => hne (by simp [Value.ownBlock, e])) hln rfl hcell hsome (fun j _ => hfz _) hx1 (ints_one l) hone 3 3 1 (cur.size) hvs (by simp [World.shape?, r3]) (by omega) (hvf _) (hvf _)).mono ?_
        rintro e w' ⟨rfl, rfl⟩
        have a1 := own_setCells ((ints l).drop i) (i + 1) (ints l ++ [y]) w.drew (ownV_drew hy) (by rw [List.length_drop]; omega)
        have a2 := own_setCells [.int .i64 p] i _ _ a1.1 (by simp; omega)
        refine ⟨_, rfl, ?_, ?_, fun b e => .inl e⟩
        · have := a2.1
          rw [show i + ([Value.int .i64 p] : List Value).length = i + 1 from rfl, ins_list (ints l) (ints l ++ [y]) _ i (by omega) hR (by rw [List.take_append_of_le_length (by omega)])] at this
          rw [Nat.zero_add, Nat.zero_add]
          exact this
        · rw [Nat.zero_add, Nat.zero_add]
          exact grown_trans (grown_drew a1.2) a2.2
      · obtain rfl : i = l.length := by omega
        refine (Any2.slices_Insert_int_end_room Try.lays21 g 0 l.length cap vb 0 1 1 [.int .i64 p] w (by omega) (by omega) hc63 rfl (fun j hj => by have := hsome (l.length + j) (by omega); rwa [← Nat.add_assoc] at this) (fun j _ => hfz _) hx1 hone).mono ?_
        rintro e w' ⟨rfl, rfl⟩
        have a2 := own_setCells [.int .i64 p] l.length _ _ hy (by simp)
        refine ⟨_, rfl, ?_, ?_, fun b e => .inl e⟩
        · have := a2.1
          rw [Nat.zero_add]
          simp only [← hln] at this ⊢
          simpa using this
        · rw [Nat.zero_add]
          exact a2.2
    · have hce : cap = l.length := by omega
      subst hce
      have hg := grownCap_ge w (l.length + 1) l.length (Try.lays21_ren.t 3)
      have hgm := grownCap_le_maxLen w (l.length + 1) l.length (Try.lays21_ren.t 3) (by unfold maxLen; omega)
      rcases Nat.lt_or_ge i l.length with hil | hil
      · refine (Any2.slices_Insert_int_grow Try.lays21 g 0 l.length l.length i vb 0 1 1 (ints l) [.int .i64 p] w hil (by omega) (Nat.le_refl _) (by omega) (by omega) hln rfl hcell hx1 (ints_one l) hone).mono ?_
        rintro e w' ⟨rfl, rfl⟩
        have a0 := own_new (B := B) (T := 3) (n := l.length + 1) (xs := (ints l).take i ++ (Builtin.zeroCells (Value.int .i64 0).cells (l.length + 1 - i)).toList) w ((((ints l).take i).toArray ++ Builtin.zeroCells (Value.int .i64 0).cells (l.length + 1 - i)) ++ Builtin.zeroCells (Value.int .i64 0).cells (grownCap w (l.length + 1) l.length (Try.lays21_ren.t 3) - (l.length + 1))) hB hg hgm (by simp [zc_size]; omega) (by
          rw [Array.toList_append, Array.toList_append, List.take_append_of_le_length (by simp [zc_size]; omega), List.take_of_length_le (by simp [zc_size]; omega)])
        have a1 := own_setCells [.int .i64 p] i _ _ (ownV_drew a0) (by simp; omega)
        have a2 := own_setCells ((ints l).drop i) (i + 1) _ _ (ownV_drew a1.1) (by rw [List.length_drop]; omega)
        refine ⟨_, rfl, ?_, ?_, fun b e => .inr (by simpa [Value.ownBlock] using e.symm)⟩
        · have := a2.1
          rw [show i + ([Value.int .i64 p] : List Value).length = i + 1 from rfl, ins_list2 (ints l) _ _ i (by omega) (by simp [zc_size]; omega) (by rw [List.take_append_of_le_length (by simp; omega), List.take_of_length_le (by simp; omega)])] at this
          exact this
        · exact grown_new (grown_trans (grown_drew a1.2) (grown_drew a2.2))
      · obtain rfl : i = l.length := by omega
        refine (Any2.slices_Insert_int_end_grow Try.lays21 (some ⟨g, 0, none⟩) l.length l.length vb 0 1 1 (ints l) [.int .i64 p] w (by omega) (Nat.le_refl _) (by omega) (by omega) hln rfl (fun h => by cases h) (fun a h j u hj => by cases h; rw [Addr.add_lit]; exact hcell j u hj) hx1 hone).mono ?_
        rintro e w' ⟨rfl, rfl⟩
        refine ⟨_, rfl, ?_, grown_drew (grown_alloc w.drew _ _), fun b e => .inr (by simpa [Value.ownBlock] using e.symm)⟩
        refine own_new w.drew _ hB hg hgm (by simp [zc_size]; omega) ?_
        rw [Array.toList_append, List.take_append_of_le_length (by simp; omega), List.take_of_length_le (by simp; omega)]
        simp only [← hln]
        simp

end Go.Proofs.Ytjhpfnogdjpbmaa
