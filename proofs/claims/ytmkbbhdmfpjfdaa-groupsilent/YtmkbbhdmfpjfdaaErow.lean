/-
  Rows of structs, of which each holds at most one slice of numbers: how they are read, how they are owned, how they are stored to, how they grow.
-/
import Derived.Test.YtmkbbhdmfpjfdaaEbase
namespace Go.Proofs.Ytmkbbhdmfpjfdaa
open Go.RowKit
set_option linter.unusedVariables false
set_option linter.unusedSimpArgs false

/-- How an element stands in cells, beside its inner slice u; what that holds. -/
structure El (α : Type) where
  z : Nat
  cs : α → Value → List Value
  ns : α → List Int
  len : ∀ x u, (cs x u).length = z
  one : ∀ x u, u.oneCell' = true → ∀ c ∈ cs x u, c.oneCell' = true
variable {α : Type}
/-- The numbers of a slice, as values. -/
def ints (l : List Int) : List Value := l.map (Value.int .i64)
theorem ints_len (l : List Int) : (ints l).length = l.length := by simp [ints]

/-- A slice of such elements that reads as xs; us: their inner slices. -/
def RdW (E : El α) (w : World) (v : Value) (xs : List α) (us : Nat → Value) : Prop :=
  ∃ ao cap, v = .slice ao xs.length cap ∧ xs.length ≤ cap ∧ cap ≤ maxLen ∧ (ao = none → cap = 0) ∧ (0 < xs.length → ∃ g off, ao = some ⟨g, off, none⟩ ∧ ∀ i, (h : i < xs.length) → RdV w (us i) (ints (E.ns (xs[i]'h))) ∧ ∀ j c, (E.cs (xs[i]'h) (us i))[j]? = some c → w.cell? ⟨g, off + i * E.z + j, none⟩ = some c)

theorem RdW.below {E : El α} {C : Nat} {v : Value} {xs : List α} {us : Nat → Value} {w w' : World} (hz : 0 < E.z) (h : RdW E w v xs us) (hC : w.heap.size ≤ C) (hb : Below C w w') : RdW E w' v xs us := by
  obtain ⟨ao, cap, rfl, h1, h2, h4, h3⟩ := h
  refine ⟨ao, cap, rfl, h1, h2, h4, fun h0 => ?_⟩
  obtain ⟨g, off, rfl, hg⟩ := h3 h0
  refine ⟨g, off, rfl, fun i hi => ⟨(hg i hi).1.below hC hb, fun j c hc => ?_⟩⟩
  have := (hg i hi).2 j c hc
  have hlt : g < w.heap.size := cell_lt this
  exact (hb.cell (p := ⟨g, off + i * E.z + j, none⟩) (by show g < C; omega)).trans this
theorem RdW.drewN {E : El α} {v : Value} {xs : List α} {us : Nat → Value} {w : World} (h : RdW E w v xs us) (q : Nat) : RdW E (w.drewN q) v xs us := h
theorem RdW.shape {E : El α} {v : Value} {xs : List α} {us : Nat → Value} {w : World} (h : RdW E w v xs us) : ∃ ao cap, v = .slice ao xs.length cap ∧ xs.length ≤ cap ∧ cap ≤ maxLen := by
  obtain ⟨ao, cap, e, h1, h2, _⟩ := h
  exact ⟨ao, cap, e, h1, h2⟩
theorem RdW.at {E : El α} {ao : Option Addr} {n cap : Nat} {xs : List α} {us : Nat → Value} {w : World} (h : RdW E w (.slice ao n cap) xs us) (i : Nat) (hi : i < xs.length) : ∃ g off, ao = some ⟨g, off, none⟩ ∧ RdV w (us i) (ints (E.ns (xs[i]'hi))) ∧ ∀ j c, (E.cs (xs[i]'hi) (us i))[j]? = some c → w.cell? ⟨g, off + i * E.z + j, none⟩ = some c := by
  obtain ⟨ao', cap', e, h1, h2, h4, h3⟩ := h
  simp only [Value.slice.injEq] at e
  obtain ⟨rfl, rfl, rfl⟩ := e
  obtain ⟨g, off, rfl, hg⟩ := h3 (by omega)
  exact ⟨g, off, rfl, hg i hi⟩

/-- The first k of them. -/
theorem RdW.take {E : El α} {ao : Option Addr} {n cap : Nat} {xs : List α} {us : Nat → Value} {w : World} (h : RdW E w (.slice ao n cap) xs us) (k : Nat) (hk : k ≤ xs.length) : RdW E w (.slice ao k cap) (xs.take k) us := by
  obtain ⟨ao', cap', e, h1, h2, h4, h3⟩ := h
  simp only [Value.slice.injEq] at e
  obtain ⟨rfl, rfl, rfl⟩ := e
  have hl : (xs.take k).length = k := by rw [List.length_take]; omega
  refine ⟨ao, cap, by rw [hl], by omega, h2, h4, fun h0 => ?_⟩
  obtain ⟨g, off, rfl, hg⟩ := h3 (by omega)
  refine ⟨g, off, rfl, fun i hi => ?_⟩
  have := hg i (by omega)
  rw [List.getElem_take]
  exact this

/-- The cells of a row. -/
def El.row (E : El α) (us : Nat → Value) : List α → Nat → List Value
  | [], _ => []
  | x :: xs, k => E.cs x (us k) ++ E.row us xs (k + 1)
theorem row_len (E : El α) (us : Nat → Value) (xs : List α) (k : Nat) : (E.row us xs k).length = xs.length * E.z := by
  induction xs generalizing k with
  | nil => simp [El.row]
  | cons x xs ih => simp only [El.row, List.length_append, List.length_cons, E.len, ih]; rw [Nat.succ_mul]; omega
theorem row_at (E : El α) (us : Nat → Value) (xs : List α) (k i j : Nat) (h : i < xs.length) (hj : j < E.z) : (E.row us xs k)[i * E.z + j]? = (E.cs (xs[i]'h) (us (k + i)))[j]? := by
  induction xs generalizing k i with
  | nil => simp at h
  | cons x xs ih =>
    cases i with
    | zero =>
      simp only [El.row, Nat.zero_mul, Nat.zero_add, List.getElem_cons_zero, Nat.add_zero]
      rw [List.getElem?_append_left (by rw [E.len]; exact hj)]
    | succ i =>
      have := ih (k + 1) i (by simpa using h)
      simp only [El.row, List.getElem_cons_succ]
      rw [List.getElem?_append_right (by rw [E.len, Nat.succ_mul]; omega), E.len, show (i + 1) * E.z + j - E.z = i * E.z + j by rw [Nat.succ_mul]; omega, this, show k + 1 + i = k + (i + 1) by omega]
theorem row_congr (E : El α) {us us' : Nat → Value} (xs : List α) (k : Nat) (h : ∀ i, i < xs.length → us (k + i) = us' (k + i)) : E.row us xs k = E.row us' xs k := by
  induction xs generalizing k with
  | nil => rfl
  | cons x xs ih =>
    simp only [El.row]
    rw [ih (k + 1) (fun i hi => by have := h (i + 1) (by simpa using hi); rwa [show k + (i + 1) = k + 1 + i by omega] at this), show us k = us' k from h 0 (by simp)]
theorem row_snoc (E : El α) (us : Nat → Value) (xs : List α) (x : α) (k : Nat) : E.row us (xs ++ [x]) k = E.row us xs k ++ E.cs x (us (k + xs.length)) := by
  induction xs generalizing k with
  | nil => simp [El.row]
  | cons y xs ih =>
    simp only [List.cons_append, El.row, List.length_cons, List.append_assoc]
    rw [ih (k + 1), show k + 1 + xs.length = k + (xs.length + 1) by omega]
theorem row_set (E : El α) (us us' : Nat → Value) (xs : List α) (k i j : Nat) (h : i < xs.length) (hj : j < E.z) (x' : α) (val : Value) (hc : (E.cs (xs[i]'h) (us (k + i))).set j val = E.cs x' (us' (k + i))) (hu : ∀ m, m < xs.length → m ≠ i → us' (k + m) = us (k + m)) :
    (E.row us xs k).set (i * E.z + j) val = E.row us' (xs.set i x') k := by
  induction xs generalizing k i with
  | nil => simp at h
  | cons y xs ih =>
    cases i with
    | zero =>
      simp only [El.row, Nat.zero_mul, Nat.zero_add, List.set_cons_zero, Nat.add_zero, List.getElem_cons_zero] at hc ⊢
      rw [List.set_append_left _ _ (by rw [E.len]; exact hj), hc, row_congr E xs (k + 1) (us := us) (us' := us') (fun m hm => by have := hu (m + 1) (by simpa using hm) (by omega); rw [show k + 1 + m = k + (m + 1) by omega]; exact this.symm)]
    | succ i =>
      simp only [El.row, List.set_cons_succ]
      rw [List.set_append_right _ _ (by rw [E.len, Nat.succ_mul]; omega), E.len, show (i + 1) * E.z + j - E.z = i * E.z + j by rw [Nat.succ_mul]; omega]
      rw [ih (k + 1) i (by simpa using h) (by simpa [show k + 1 + i = k + (i + 1) by omega] using hc) (fun m hm hne => by have := hu (m + 1) (by simpa using hm) (by omega); rwa [show k + (m + 1) = k + 1 + m by omega] at this)]
      have := hu 0 (by simp) (by omega)
      rw [Nat.add_zero] at this
      rw [this]
theorem row_one (E : El α) {us : Nat → Value} {xs : List α} {k : Nat} (h : ∀ i, i < xs.length → (us (k + i)).oneCell' = true) : ∀ c ∈ E.row us xs k, c.oneCell' = true := by
  induction xs generalizing k with
  | nil => intro c hc; simp [El.row] at hc
  | cons x xs ih =>
    intro c hc
    simp only [El.row, List.mem_append] at hc
    rcases hc with hc | hc
    · exact E.one x _ (h 0 (by simp)) c hc
    · exact ih (fun i hi => by have := h (i + 1) (by simpa using hi); rwa [show k + (i + 1) = k + 1 + i by omega] at this) c hc
theorem rdv_one {w : World} {v : Value} {xs : List Value} (h : RdV w v xs) : v.oneCell' = true := by
  obtain ⟨ao, cap, rfl, _⟩ := h
  rfl
theorem ownRow_rdW {E : El α} {T B : Nat} {w : World} {v : Value} {xs : List α} {us : Nat → Value} (o : OwnV B T E.z v xs.length (E.row us xs 0) w) (h : ∀ i, (hi : i < xs.length) → RdV w (us i) (ints (E.ns (xs[i]'hi)))) : RdW E w v xs us := by
  rcases o.1.2 with ⟨rfl, h2⟩ | ⟨g, cap, cur, rfl, r2, r3, r4, r5, _⟩
  · exact ⟨none, 0, by rw [h2], by omega, by simp [maxLen], fun _ => rfl, fun h => by omega⟩
  · refine ⟨_, cap, rfl, by omega, r5, by simp, fun _ => ⟨g, 0, rfl, fun i hi => ⟨h i hi, fun j c hc => ?_⟩⟩⟩
    have hj : j < E.z := by
      have := (List.getElem?_eq_some_iff.1 hc).1
      rwa [E.len] at this
    have hlt : i * E.z + j < xs.length * E.z := by
      have : (i + 1) * E.z ≤ xs.length * E.z := Nat.mul_le_mul_right _ (by omega)
      rw [Nat.succ_mul] at this
      omega
    rw [Nat.zero_add, o.1.cellAt _ hlt, row_at E us xs 0 i j hi hj, Nat.zero_add]
    exact hc

/-- A row in new memory, from B on, with its inner slices, all apart. -/
structure OwnW (E : El α) (T : TypeId) (B : Nat) (w : World) (v : Value) (xs : List α) (us : Nat → Value) : Prop where
  o : OwnV B T E.z v xs.length (E.row us xs 0) w
  i : ∀ i, (h : i < xs.length) → OwnV B 3 1 (us i) (E.ns (xs[i]'h)).length (ints (E.ns (xs[i]'h))) w
  a : ∀ i, i < xs.length → ∀ b, (us i).ownBlock = some b → v.ownBlock ≠ some b
  d : ∀ i j, i < xs.length → j < xs.length → i ≠ j → ∀ b, (us i).ownBlock = some b → (us j).ownBlock ≠ some b
theorem OwnW.rd {E : El α} {T : TypeId} {B : Nat} {w : World} {v : Value} {xs : List α} {us : Nat → Value} (h : OwnW E T B w v xs us) : RdW E w v xs us := ownRow_rdW h.o (fun i hi => (h.i i hi).rdv)
theorem OwnW.mono {E : El α} {T : TypeId} {B C : Nat} {w : World} {v : Value} {xs : List α} {us : Nat → Value} (h : OwnW E T B w v xs us) (hC : C ≤ B) : OwnW E T C w v xs us :=
  ⟨h.o.mono hC, fun i hi => (h.i i hi).mono hC, h.a, h.d⟩
theorem OwnW.below {E : El α} {T : TypeId} {B C : Nat} {w w' : World} {v : Value} {xs : List α} {us : Nat → Value} (h : OwnW E T B w v xs us) (hC : w.heap.size ≤ C) (hb : Below C w w') : OwnW E T B w' v xs us :=
  ⟨h.o.below hC hb, fun i hi => (h.i i hi).below hC hb, h.a, h.d⟩
/-- What is stored elsewhere. -/
theorem OwnW.far {E : El α} {T : TypeId} {B : Nat} {w : World} {v : Value} {xs : List α} {us : Nat → Value} (h : OwnW E T B w v xs us) {b : Nat} (h1 : v.ownBlock ≠ some b) (h2 : ∀ i, i < xs.length → (us i).ownBlock ≠ some b) (o : Nat) (x : Value) : OwnW E T B (w.setCell ⟨b, o, none⟩ x) v xs us :=
  ⟨h.o.far h1 o x, fun i hi => (h.i i hi).far (h2 i hi) o x, h.a, h.d⟩
theorem OwnW.box {E : El α} {T : TypeId} {B : Nat} {w : World} {v : Value} {xs : List α} {us : Nat → Value} (h : OwnW E T B w v xs us) {b : Nat} (hb : b < B) (o : Nat) (x : Value) : OwnW E T B (w.setCell ⟨b, o, none⟩ x) v xs us :=
  h.far (fun e => by have := (h.o.blk b e).1; omega) (fun i hi e => by have := ((h.i i hi).blk b e).1; omega) o x
theorem ownW_nil (E : El α) (T : TypeId) (B : Nat) (w : World) (hB : B ≤ w.heap.size) : OwnW E T B w (.slice none 0 0) [] (fun _ => .slice none 0 0) :=
  ⟨by have := ownV_nil B T E.z w hB; simpa [El.row] using this, fun i hi => by simp at hi, fun i hi => by simp at hi, fun i j hi => by simp at hi⟩
/-- A cell beside the inner slice is stored. -/
theorem OwnW.set {E : El α} {T : TypeId} {B : Nat} {w : World} {g n cap : Nat} {xs : List α} {us : Nat → Value} (h : OwnW E T B w (.slice (some ⟨g, 0, none⟩) n cap) xs us) (i j : Nat) (hi : i < xs.length) (hj : j < E.z) (x' : α) (val : Value) (hc : (E.cs (xs[i]'hi) (us i)).set j val = E.cs x' (us i)) (hn : E.ns x' = E.ns (xs[i]'hi)) :
    OwnW E T B (w.setCell ⟨g, i * E.z + j, none⟩ val) (.slice (some ⟨g, 0, none⟩) n cap) (xs.set i x') us := by
  have hb : ∀ k, k < xs.length → (us k).ownBlock ≠ some g := fun k hk e => h.a k hk g e rfl
  have hln : n = xs.length := by
    have := h.o.shape
    obtain ⟨ao, c, e⟩ := this
    simp only [Value.slice.injEq] at e
    exact e.2.1
  refine ⟨?_, fun k hk => ?_, fun k hk => h.a k (by simpa using hk), fun k m hk hm => h.d k m (by simpa using hk) (by simpa using hm)⟩
  · subst hln
    have := h.o.stored (i * E.z + j) val
    rw [row_set E us us xs 0 i j hi hj x' val (by simpa using hc) (fun _ _ _ => rfl)] at this
    simpa using this
  · have hk' : k < xs.length := by simpa using hk
    by_cases e : k = i
    · subst e
      have := (h.i k hk').far (hb k hk') (k * E.z + j) val
      rw [List.getElem_set_self, hn]
      exact this
    · have := (h.i k hk').far (hb k hk') (i * E.z + j) val
      rw [List.getElem_set_ne (fun h => e h.symm)]
      exact this
/-- Another inner slice is stored: u, in memory apart. -/
theorem OwnW.setIn {E : El α} {T : TypeId} {B : Nat} {w : World} {g n cap : Nat} {xs : List α} {us : Nat → Value} (h : OwnW E T B w (.slice (some ⟨g, 0, none⟩) n cap) xs us) (i j : Nat) (hi : i < xs.length) (hj : j < E.z) (x' : α) (u : Value) (hc : (E.cs (xs[i]'hi) (us i)).set j u = E.cs x' u)
    (hu : OwnV B 3 1 u (E.ns x').length (ints (E.ns x')) w) (hug : u.ownBlock ≠ some g) (hud : ∀ k, k < xs.length → k ≠ i → ∀ b, (us k).ownBlock = some b → u.ownBlock ≠ some b) :
    OwnW E T B (w.setCell ⟨g, i * E.z + j, none⟩ u) (.slice (some ⟨g, 0, none⟩) n cap) (xs.set i x') (fun k => if k = i then u else us k) := by
  have hb : ∀ k, k < xs.length → (us k).ownBlock ≠ some g := fun k hk e => h.a k hk g e rfl
  have hln : n = xs.length := by
    obtain ⟨ao, c, e⟩ := h.o.shape
    simp only [Value.slice.injEq] at e
    exact e.2.1
  refine ⟨?_, fun k hk => ?_, fun k hk b hbk => ?_, fun k m hk hm hne b hbk => ?_⟩
  · subst hln
    have := h.o.stored (i * E.z + j) u
    rw [row_set E us (fun k => if k = i then u else us k) xs 0 i j hi hj x' u (by simpa using hc) (fun m _ hne => by simp [hne])] at this
    simpa using this
  · have hk' : k < xs.length := by simpa using hk
    by_cases e : k = i
    · subst e
      have := hu.far hug (k * E.z + j) u
      simp only [if_true]
      rw [List.getElem_set_self]
      exact this
    · have := (h.i k hk').far (hb k hk') (i * E.z + j) u
      simp only [if_neg e]
      rw [List.getElem_set_ne (fun h => e h.symm)]
      exact this
  · have hk' : k < xs.length := by simpa using hk
    by_cases e : k = i
    · subst e
      simp only [if_true] at hbk
      intro e2
      exact hug (hbk.trans e2.symm)
    · simp only [if_neg e] at hbk
      exact h.a k hk' b hbk
  · have hk' : k < xs.length := by simpa using hk
    have hm' : m < xs.length := by simpa using hm
    by_cases e : k = i
    · subst e
      simp only [if_true] at hbk
      rw [if_neg (fun h => hne h.symm)]
      exact fun e2 => hud m hm' (fun h => hne h.symm) b e2 hbk
    · simp only [if_neg e] at hbk
      by_cases e2 : m = i
      · subst e2
        simp only [if_true]
        exact hud k hk' e b hbk
      · simp only [if_neg e2]
        exact h.d k m hk' hm' hne b hbk
/-- The inner slice of one is turned in place, or made anew: all others stay. -/
theorem OwnW.turn {E : El α} {T : TypeId} {B : Nat} {w w' : World} {v : Value} {xs : List α} {us : Nat → Value} (h : OwnW E T B w v xs us) (i : Nat) (hi : i < xs.length) (hg : w.grownBy w' (us i).ownBlock) :
    OwnV B T E.z v xs.length (E.row us xs 0) w' ∧ ∀ k, (hk : k < xs.length) → k ≠ i → OwnV B 3 1 (us k) (E.ns (xs[k]'hk)).length (ints (E.ns (xs[k]'hk))) w' :=
  ⟨h.o.grown hg (fun k e e2 => h.a i hi k e2 e), fun k hk hne => (h.i k hk).grown hg (fun b e e2 => h.d k i hk hi hne b e e2)⟩

/-- The row alone is owned; of the inner slices the first k are, all others are only read. -/
structure MidW (E : El α) (T : TypeId) (B : Nat) (w : World) (v : Value) (xs : List α) (us new : Nat → Value) (k : Nat) : Prop where
  o : OwnV B T E.z v xs.length (E.row (fun j => if j < k then new j else us j) xs 0) w
  i : ∀ i, (h : i < xs.length) → i < k → OwnV B 3 1 (new i) (E.ns (xs[i]'h)).length (ints (E.ns (xs[i]'h))) w
  a : ∀ i, i < xs.length → i < k → ∀ b, (new i).ownBlock = some b → v.ownBlock ≠ some b
  d : ∀ i j, i < xs.length → j < xs.length → i < k → j < k → i ≠ j → ∀ b, (new i).ownBlock = some b → (new j).ownBlock ≠ some b
theorem MidW.full {E : El α} {T : TypeId} {B : Nat} {w : World} {v : Value} {xs : List α} {us new : Nat → Value} (h : MidW E T B w v xs us new xs.length) : OwnW E T B w v xs new :=
  ⟨by have := h.o; rwa [row_congr E xs 0 (us' := new) (fun i hi => by simp [hi])] at this, fun i hi => h.i i hi hi, fun i hi => h.a i hi hi, fun i j hi hj => h.d i j hi hj hi hj⟩
theorem MidW.start {E : El α} {T : TypeId} {B : Nat} {w : World} {v : Value} {xs : List α} {us : Nat → Value} (h : OwnV B T E.z v xs.length (E.row us xs 0) w) : MidW E T B w v xs us us 0 :=
  ⟨by rw [row_congr E xs 0 (us' := us) (fun i hi => by simp)]; exact h, fun i _ h0 => by omega, fun i _ h0 => by omega, fun i j _ _ h0 => by omega⟩
theorem MidW.step {E : El α} {T : TypeId} {B : Nat} {w W : World} {g n cap : Nat} {xs : List α} {us new : Nat → Value} {k : Nat} (h : MidW E T B w (.slice (some ⟨g, 0, none⟩) n cap) xs us new k) (hk : k < xs.length) (hb : Below w.heap.size w W) (u : Value) (ho : OwnV w.heap.size 3 1 u (E.ns (xs[k]'hk)).length (ints (E.ns (xs[k]'hk))) W)
    (j : Nat) (hj : j < E.z) (hc : (E.cs (xs[k]'hk) (us k)).set j u = E.cs (xs[k]'hk) u) :
    MidW E T B (W.setCell ⟨g, k * E.z + j, none⟩ u) (.slice (some ⟨g, 0, none⟩) n cap) xs us (fun m => if m = k then u else new m) (k + 1) := by
  have hgr := h.o.blk g rfl
  have hBw := h.o.2
  have hu : u.ownBlock ≠ some g := fun e => by have := (ho.blk g e).1; omega
  have hln : n = xs.length := by
    obtain ⟨ao, c, e⟩ := h.o.shape
    simp only [Value.slice.injEq] at e
    exact e.2.1
  refine ⟨?_, fun i hi hik => ?_, fun i hi hik b e => ?_, fun i m hi hm hik hmk hne b e => ?_⟩
  · subst hln
    have := (h.o.below (Nat.le_refl _) hb).stored (k * E.z + j) u
    rw [row_set E _ (fun m => if m < k + 1 then (if m = k then u else new m) else us m) xs 0 k j hk hj (xs[k]'hk) u (by simpa using hc) (fun m hm hne => by
      simp only [Nat.zero_add]
      by_cases e2 : m < k
      · simp [hne, e2, show m < k + 1 by omega]
      · simp [hne, e2, show ¬ m < k + 1 by omega])] at this
    simpa using this
  · by_cases e : i = k
    · subst e
      simp only [if_true]
      exact (ho.mono hBw).far hu _ _
    · simp only [if_neg e]
      exact ((h.i i hi (by omega)).below (Nat.le_refl _) hb).far (fun e2 => h.a i hi (by omega) g e2 rfl) _ _
  · by_cases e2 : i = k
    · subst e2
      simp only [if_true] at e
      exact fun e3 => hu (e.trans e3.symm)
    · simp only [if_neg e2] at e
      exact h.a i hi (by omega) b e
  · by_cases e2 : i = k
    · subst e2
      simp only [if_true] at e
      rw [if_neg (fun h => hne h.symm)]
      intro e3
      have h1 := (ho.blk b e).1
      have h2 := ((h.i m hm (by omega)).blk b e3).2
      omega
    · simp only [if_neg e2] at e
      by_cases e4 : m = k
      · subst e4
        simp only [if_true]
        intro e3
        have h1 := (ho.blk b e3).1
        have h2 := ((h.i i hi (by omega)).blk b e).2
        omega
      · simp only [if_neg e4]
        exact h.d i m hi hm (by omega) (by omega) hne b e
/-- One element more. -/
theorem OwnW.snoc {E : El α} {T : TypeId} {B : Nat} {w w' : World} {v v' : Value} {xs : List α} {us : Nat → Value} (h : OwnW E T B w v xs us) (x : α) (u : Value) (hu : OwnV B 3 1 u (E.ns x).length (ints (E.ns x)) w) (hua : ∀ b, u.ownBlock = some b → v.ownBlock ≠ some b) (hud : ∀ i, i < xs.length → ∀ b, u.ownBlock = some b → (us i).ownBlock ≠ some b)
    (ho : OwnV B T E.z v' (xs.length + 1) (E.row us xs 0 ++ E.cs x u) w') (hg : w.grownBy w' v.ownBlock) (hat : ∀ b, v'.ownBlock = some b → v.ownBlock = some b ∨ b = w.heap.size) : OwnW E T B w' v' (xs ++ [x]) (fun k => if k = xs.length then u else us k) := by
  have hfresh : ∀ {z : Value} {n : Nat} {l : List Value} {b : Nat}, OwnV B 3 1 z n l w → z.ownBlock = some b → b ≠ w.heap.size := fun h e e2 => by have := (h.blk _ e).2; omega
  refine ⟨?_, fun i hi => ?_, fun i hi b e e2 => ?_, fun i j hi hj hne b e => ?_⟩
  · rw [row_snoc, row_congr E xs 0 (us' := us) (fun i hi => by simp [show ¬ i = xs.length by omega])]
    simpa using ho
  · by_cases e : i = xs.length
    · subst e
      simp only [if_true]
      rw [List.getElem_append_right (by omega)]
      simp only [Nat.sub_self, List.getElem_cons_zero]
      exact hu.grown hg (fun k e e2 => hua k e e2)
    · have hi' : i < xs.length := by simp at hi; omega
      simp only [if_neg e]
      rw [List.getElem_append_left hi']
      exact (h.i i hi').grown hg (fun k e e2 => h.a i hi' k e e2)
  · by_cases e3 : i = xs.length
    · subst e3
      simp only [if_true] at e
      rcases hat b e2 with h5 | h5
      · exact hua b e h5
      · exact hfresh hu e h5
    · have hi' : i < xs.length := by simp at hi; omega
      simp only [if_neg e3] at e
      rcases hat b e2 with h5 | h5
      · exact h.a i hi' b e h5
      · exact hfresh (h.i i hi') e h5
  · by_cases e3 : i = xs.length
    · subst e3
      simp only [if_true] at e
      rw [if_neg (fun h => hne h.symm)]
      exact hud j (by simp at hj; omega) b e
    · have hi' : i < xs.length := by simp at hi; omega
      simp only [if_neg e3] at e
      by_cases e4 : j = xs.length
      · subst e4
        simp only [if_true]
        exact fun e5 => hud i hi' b e5 e
      · simp only [if_neg e4]
        exact h.d i j hi' (by simp at hj; omega) hne b e
theorem rdW_congr {E : El α} {w : World} {v : Value} {xs : List α} {us us' : Nat → Value} (h : RdW E w v xs us) (hu : ∀ i, i < xs.length → us' i = us i) : RdW E w v xs us' := by
  obtain ⟨ao, cap, rfl, h1, h2, h4, h3⟩ := h
  refine ⟨ao, cap, rfl, h1, h2, h4, fun h0 => ?_⟩
  obtain ⟨g, off, rfl, hg⟩ := h3 h0
  exact ⟨g, off, rfl, fun i hi => by rw [hu i hi]; exact hg i hi⟩
theorem OwnW.congr {E : El α} {T : TypeId} {B : Nat} {w : World} {v : Value} {xs : List α} {us us' : Nat → Value} (h : OwnW E T B w v xs us) (hu : ∀ i, i < xs.length → us' i = us i) : OwnW E T B w v xs us' :=
  ⟨by rw [row_congr E xs 0 (us' := us) (fun i hi => by simp [hu i hi])]; exact h.o, fun i hi => by rw [hu i hi]; exact h.i i hi, fun i hi b e => h.a i hi b (by rw [← hu i hi]; exact e), fun i j hi hj hne b e => by rw [hu j hj]; exact h.d i j hi hj hne b (by rw [← hu i hi]; exact e)⟩

end Go.Proofs.Ytmkbbhdmfpjfdaa
