/-
  Rows that a call owns: of bools, of numbers, of replicas; how they grow.
-/
import Derived.Test.YtkakagjffafdiaaPown
namespace Go.Proofs.Ytkakagjffafdiaa
open Go.RowKit
set_option linter.unusedVariables false
set_option linter.unusedSimpArgs false

theorem infoBool : (Try.prog.info? 4).map (fun i => (i.zero, i.size, i.bytes)) = some (some (.bool false), 1, 1) := by kernel_rfl
theorem infoInt : (Try.prog.info? 3).map (fun i => (i.zero, i.size, i.bytes)) = some (some (.int .i64 0), 1, 8) := by kernel_rfl
def zeroR : Value := .agg #[.bool false, .slice none 0 0, .int .i64 0, .int .i64 0]
theorem infoRep : (Try.prog.info? 63).map (fun i => (i.zero, i.size, i.bytes)) = some (some zeroR, 4, 48) := by kernel_rfl

/-- A row of n elements of one cell each, or of four. -/
def OwnV (B : Nat) (T : TypeId) (z : Nat) (v : Value) (n : Nat) (xs : List Value) (w : World) : Prop := w.ownsRow B T z v n xs ∧ B ≤ w.heap.size
theorem OwnV.below {B C T z : Nat} {v : Value} {n : Nat} {xs : List Value} {w w' : World} (h : OwnV B T z v n xs w) (hC : w.heap.size ≤ C) (hb : Below C w w') : OwnV B T z v n xs w' := by
  obtain ⟨⟨h1, h2⟩, h4⟩ := h
  refine ⟨⟨h1, ?_⟩, Nat.le_trans h4 hb.size⟩
  rcases h2 with h2 | ⟨g, cap, cur, r1, r2, r3, r4⟩
  · exact .inl h2
  · have hg : g < w.heap.size := by
      rcases Nat.lt_or_ge g w.heap.size with hg | hg
      · exact hg
      · rw [Array.getElem?_eq_none hg] at r3; simp at r3
    exact .inr ⟨g, cap, cur, r1, r2, by rw [hb.block g (by omega)]; exact r3, r4⟩
theorem OwnV.mono {B C T z : Nat} {v : Value} {n : Nat} {xs : List Value} {w : World} (h : OwnV B T z v n xs w) (hC : C ≤ B) : OwnV C T z v n xs w := by
  obtain ⟨⟨h1, h2⟩, h4⟩ := h
  refine ⟨⟨h1, ?_⟩, by omega⟩
  rcases h2 with h2 | ⟨g, cap, cur, r1, r2, r3⟩
  · exact .inl h2
  · exact .inr ⟨g, cap, cur, r1, by omega, r3⟩
theorem OwnV.shape {B T z : Nat} {v : Value} {n : Nat} {xs : List Value} {w : World} (h : OwnV B T z v n xs w) : ∃ ao cap, v = .slice ao n cap := by
  rcases h.1.2 with ⟨h1, h2⟩ | ⟨g, cap, cur, r1, r2⟩
  · exact ⟨none, 0, by rw [h1, h2]⟩
  · exact ⟨_, cap, r1⟩
theorem ownV_nil (B T z : Nat) (w : World) (hB : B ≤ w.heap.size) : OwnV B T z (.slice none 0 0) 0 [] w := ⟨World.ownsRow_nil w B _ z, hB⟩
theorem ownV_none (w : World) (T z : Nat) : OwnV w.heap.size T z (.slice (some ⟨w.heap.size, 0, none⟩) 0 0) 0 [] (w.alloc (.cells #[] T)) := by
  refine ⟨?_, by simp⟩
  have := World.ownsRow_lit (e := T) (size := z) (base := w.heap.size) w #[] 0 (Nat.le_refl _) (by simp [maxLen]) (by simp)
  simpa using this
/-- Its block, where it has elements. -/
theorem OwnV.form {B T z : Nat} {v : Value} {n : Nat} {xs : List Value} {w : World} (h : OwnV B T z v n xs w) (h0 : 0 < n) : ∃ g cap, v = .slice (some ⟨g, 0, none⟩) n cap ∧ B ≤ g ∧ g < w.heap.size ∧ n ≤ cap ∧ cap ≤ maxLen ∧ (∀ o, w.frozen? ⟨g, o, none⟩ = false) ∧ ∀ j, j < n * z → w.cell? ⟨g, j, none⟩ = xs[j]? := by
  have h1 := h.1
  rcases h.1.2 with ⟨_, h2⟩ | ⟨g, cap, cur, rfl, r2, r3, r4, r5, _⟩
  · omega
  · exact ⟨g, cap, rfl, r2, (Array.getElem?_eq_some_iff.1 r3).1, r4, r5, fun o => h1.frozenAt o, fun j hj => h1.cellAt j hj⟩
theorem OwnV.rdv {B T : Nat} {v : Value} {n : Nat} {xs : List Value} {w : World} (h : OwnV B T 1 v n xs w) : RdV w v xs := by
  have hl : xs.length = n := by have := h.1.1; omega
  rcases h.1.2 with ⟨rfl, h2⟩ | ⟨g, cap, cur, rfl, r2, r3, r4, r5, _⟩
  · exact ⟨none, 0, by rw [hl, h2], by omega, by simp [maxLen], fun _ => rfl, fun h => by omega⟩
  · refine ⟨_, cap, by rw [hl], by omega, r5, by simp, fun _ => ⟨g, 0, rfl, fun i hi => ?_⟩⟩
    have := h.1.cellAt i (by omega)
    rw [Nat.zero_add, this]
    simp [hi]
theorem OwnV.blk {B T z : Nat} {v : Value} {n : Nat} {xs : List Value} {w : World} (h : OwnV B T z v n xs w) (k : Nat) (hk : v.ownBlock = some k) : B ≤ k ∧ k < w.heap.size := h.1.lt k hk

/-- The cells of replicas, whose bytes' slices are told apart. -/
def repCells (us : Nat → Value) : List Rep → Nat → List Value
  | [], _ => []
  | r :: rs, k => .bool r.up :: us k :: .int .i64 r.y :: .int .i64 r.h :: repCells us rs (k + 1)
theorem repCells_len (us : Nat → Value) (rs : List Rep) (k : Nat) : (repCells us rs k).length = rs.length * 4 := by
  induction rs generalizing k with
  | nil => rfl
  | cons r rs ih => simp only [repCells, List.length_cons, ih]; omega
theorem repCells_at (us : Nat → Value) (rs : List Rep) (k i : Nat) (h : i < rs.length) : (repCells us rs k)[i * 4]? = some (.bool (rs[i]'h).up) ∧ (repCells us rs k)[i * 4 + 1]? = some (us (k + i)) ∧ (repCells us rs k)[i * 4 + 2]? = some (.int .i64 (rs[i]'h).y) ∧ (repCells us rs k)[i * 4 + 3]? = some (.int .i64 (rs[i]'h).h) := by
  induction rs generalizing k i with
  | nil => simp at h
  | cons r rs ih =>
    cases i with
    | zero => simp [repCells]
    | succ i =>
      have := ih (k + 1) i (by simpa using h)
      have e : (i + 1) * 4 = i * 4 + 4 := by omega
      simp only [repCells, e, List.getElem_cons_succ]
      rw [show i * 4 + 4 + 1 = (i * 4 + 1) + 4 by omega, show i * 4 + 4 + 2 = (i * 4 + 2) + 4 by omega, show i * 4 + 4 + 3 = (i * 4 + 3) + 4 by omega]
      simp only [List.getElem?_cons_succ]
      rw [show k + (i + 1) = k + 1 + i by omega]
      exact this
theorem repCells_congr {us us' : Nat → Value} (rs : List Rep) (k : Nat) (h : ∀ i, i < rs.length → us (k + i) = us' (k + i)) : repCells us rs k = repCells us' rs k := by
  induction rs generalizing k with
  | nil => rfl
  | cons r rs ih =>
    simp only [repCells]
    rw [ih (k + 1) (fun i hi => by have := h (i + 1) (by simpa using hi); rwa [show k + (i + 1) = k + 1 + i by omega] at this), show us k = us' k from h 0 (by simp)]
theorem repCells_set (us : Nat → Value) (rs : List Rep) (k i : Nat) (h : i < rs.length) (u : Value) : (repCells us rs k).set (i * 4 + 1) u = repCells (fun j => if j = k + i then u else us j) rs k := by
  induction rs generalizing k i with
  | nil => simp at h
  | cons r rs ih =>
    cases i with
    | zero =>
      simp only [repCells, Nat.zero_mul, Nat.zero_add, List.set_cons_succ, List.set_cons_zero, Nat.add_zero, if_true]
      rw [repCells_congr rs (k + 1) (us := us) (us' := fun j => if j = k then u else us j) (fun i _ => by simp [show ¬ k + 1 + i = k by omega])]
    | succ i =>
      have := ih (k + 1) i (by simpa using h)
      rw [show (i + 1) * 4 + 1 = (i * 4 + 1) + 4 by omega]
      simp only [repCells, List.set_cons_succ]
      rw [this, show k + 1 + i = k + (i + 1) by omega, if_neg (by omega)]
theorem repCells_snoc (us : Nat → Value) (rs : List Rep) (r : Rep) (k : Nat) : repCells us (rs ++ [r]) k = repCells us rs k ++ [.bool r.up, us (k + rs.length), .int .i64 r.y, .int .i64 r.h] := by
  induction rs generalizing k with
  | nil => simp [repCells]
  | cons x rs ih =>
    simp only [List.cons_append, repCells, List.length_cons]
    rw [ih (k + 1), show k + 1 + rs.length = k + (rs.length + 1) by omega]
theorem repCells_one {us : Nat → Value} {rs : List Rep} {k : Nat} (h : ∀ i, i < rs.length → (us (k + i)).oneCell' = true) : ∀ u ∈ repCells us rs k, u.oneCell' = true := by
  induction rs generalizing k with
  | nil => intro u hu; simp [repCells] at hu
  | cons r rs ih =>
    intro u hu
    simp only [repCells, List.mem_cons] at hu
    rcases hu with rfl | rfl | rfl | rfl | hu
    · rfl
    · exact h 0 (by simp)
    · rfl
    · rfl
    · exact ih (fun i hi => by have := h (i + 1) (by simpa using hi); rwa [show k + (i + 1) = k + 1 + i by omega] at this) u hu
theorem OwnV.rdrs {B : Nat} {v : Value} {rs : List Rep} {us : Nat → Value} {w : World} (h : OwnV B 63 4 v rs.length (repCells us rs 0) w) (hr : ∀ i, (hi : i < rs.length) → Rd w (us i) (rs[i]'hi).l) : RdRs w v rs us := by
  rcases h.1.2 with ⟨rfl, h2⟩ | ⟨g, cap, cur, rfl, r2, r3, r4, r5, _⟩
  · exact ⟨none, 0, by rw [h2], by omega, by simp [maxLen], fun _ => rfl, fun h => by omega⟩
  · refine ⟨_, cap, rfl, by omega, r5, by simp, fun _ => ⟨g, 0, rfl, fun i hi => ?_⟩⟩
    obtain ⟨c0, c1, c2, c3⟩ := repCells_at us rs 0 i hi
    simp only [Nat.zero_add] at c1 ⊢
    refine ⟨hr i hi, ?_, ?_, ?_, ?_⟩
    · rw [h.1.cellAt _ (by omega)]; exact c0
    · rw [h.1.cellAt _ (by omega)]; exact c1
    · rw [h.1.cellAt _ (by omega)]; exact c2
    · rw [h.1.cellAt _ (by omega)]; exact c3
theorem rd_one' {w : World} {v : Value} {l : List Int} (h : Rd w v l) : v.oneCell' = true := by
  obtain ⟨_, ao, cap, rfl, _⟩ := h
  rfl

section
variable {w : World} {ops : Array Oper} {rest : List Oper} {o : Oper} {a : Act} {Q : Exit → Act → World → Prop}
theorem wp_appB (hgd : o.guard = none) (s x : Operand)
    (ho : o.op = .call { callee := .builtin .append, args := #[s, x], argTypes := #[22, 22] })
    (B : Nat) (v : Value) (n : Nat) (xs : List Value) (hs : a.eval s = v) (hown : OwnV B 4 1 v n xs w) (ad : Addr) (m cap : Nat) (bs : List Bool) (hx : a.eval x = .slice (some ad) m cap) (hr : RdV w (.slice (some ad) m cap) (bs.map Value.bool)) (hlen : n + m ≤ 140737488355328)
    (h : ∀ v' w', OwnV B 4 1 v' (n + m) (xs ++ bs.map Value.bool) w' → Below B w w' → wpList Try.prog ops Q rest (a.put o.dst v') w') : wpList Try.prog ops Q (o :: rest) a w := by
  obtain ⟨i, hi, hz0, hz1, hz2⟩ := info_parts infoBool
  obtain ⟨ao, c', e, h1, h2, h4, h3⟩ := hr
  simp only [Value.slice.injEq] at e
  obtain ⟨rfl, rfl, rfl⟩ := e
  rw [List.length_map] at *
  refine wpList_append_own w hgd s x _ ho B _ i (.bool false) 1 1 Try.underlying22 hi hz0 hz1 hz2 rfl (by decide) v _ _ hs hown.1 ad _ cap (bs.map Value.bool) hx (by simp) ?_ ?_ (by unfold maxLen; omega) (by omega) hown.2 ?_
  · intro j u hj
    have hj' : j < bs.length := by
      have := (List.getElem?_eq_some_iff.1 hj).1
      simpa using this
    obtain ⟨b, off, e, hc'⟩ := h3 (by first | omega | (rw [List.length_map]; omega))
    obtain rfl := Option.some.inj e
    rw [Addr.add_lit, hc' j (by simpa using hj')]
    simp [hj'] at hj
    subst hj
    simp
  · intro u hu
    simp at hu
    rcases hu with ⟨_, rfl⟩ | ⟨_, rfl⟩ <;> rfl
  · intro v' w' ho' hg _
    exact h v' w' ⟨ho', Nat.le_trans hown.2 hg.size⟩ ((Below.refl B w).grown hg hown.2 (fun k hk => (hown.1.lt k hk).1))
theorem wp_appI (hgd : o.guard = none) (s x : Operand)
    (ho : o.op = .call { callee := .builtin .append, args := #[s, x], argTypes := #[23, 23] })
    (B : Nat) (v : Value) (n : Nat) (xs : List Value) (hs : a.eval s = v) (hown : OwnV B 3 1 v n xs w) (ad : Addr) (m cap : Nat) (bs : List Int) (hx : a.eval x = .slice (some ad) m cap) (hr : RdV w (.slice (some ad) m cap) (bs.map (Value.int .i64))) (hlen : (n + m) * 8 ≤ 140737488355328)
    (h : ∀ v' w', OwnV B 3 1 v' (n + m) (xs ++ bs.map (Value.int .i64)) w' → Below B w w' → wpList Try.prog ops Q rest (a.put o.dst v') w') : wpList Try.prog ops Q (o :: rest) a w := by
  obtain ⟨i, hi, hz0, hz1, hz2⟩ := info_parts infoInt
  obtain ⟨ao, c', e, h1, h2, h4, h3⟩ := hr
  simp only [Value.slice.injEq] at e
  obtain ⟨rfl, rfl, rfl⟩ := e
  rw [List.length_map] at *
  refine wpList_append_own w hgd s x _ ho B _ i (.int .i64 0) 1 8 Try.underlying23 hi hz0 hz1 hz2 rfl (by decide) v _ _ hs hown.1 ad _ cap (bs.map (Value.int .i64)) hx (by simp) ?_ ?_ (by unfold maxLen; omega) (by omega) hown.2 ?_
  · intro j u hj
    have hj' : j < bs.length := by
      have := (List.getElem?_eq_some_iff.1 hj).1
      simpa using this
    obtain ⟨b, off, e, hc'⟩ := h3 (by first | omega | (rw [List.length_map]; omega))
    obtain rfl := Option.some.inj e
    rw [Addr.add_lit, hc' j (by simpa using hj')]
    simp [hj'] at hj
    subst hj
    simp
  · intro u hu
    simp at hu
    obtain ⟨n, _, rfl⟩ := hu
    rfl
  · intro v' w' ho' hg _
    exact h v' w' ⟨ho', Nat.le_trans hown.2 hg.size⟩ ((Below.refl B w).grown hg hown.2 (fun k hk => (hown.1.lt k hk).1))
theorem wp_appR (hgd : o.guard = none) (s x : Operand)
    (ho : o.op = .call { callee := .builtin .append, args := #[s, x], argTypes := #[24, 24] })
    (B : Nat) (v : Value) (n : Nat) (xs : List Value) (hs : a.eval s = v) (hown : OwnV B 63 4 v n xs w) (ad : Addr) (m cap : Nat) (rs : List Rep) (us : Nat → Value) (hx : a.eval x = .slice (some ad) m cap) (hr : RdRs w (.slice (some ad) m cap) rs us) (hlen : (n + m) * 48 ≤ 140737488355328)
    (h : ∀ v' w', OwnV B 63 4 v' (n + m) (xs ++ repCells us rs 0) w' → Below B w w' → wpList Try.prog ops Q rest (a.put o.dst v') w') : wpList Try.prog ops Q (o :: rest) a w := by
  obtain ⟨i, hi, hz0, hz1, hz2⟩ := info_parts infoRep
  obtain ⟨ao, c', e, h1, h2, h4, h3⟩ := hr
  simp only [Value.slice.injEq] at e
  obtain ⟨rfl, rfl, rfl⟩ := e
  refine wpList_append_own w hgd s x _ ho B _ i zeroR 4 48 Try.underlying24 hi hz0 hz1 hz2 rfl (by decide) v _ _ hs hown.1 ad _ cap (repCells us rs 0) hx (repCells_len us rs 0) ?_ ?_ (by unfold maxLen; omega) (by omega) hown.2 ?_
  · intro j u hj
    have hj' : j < rs.length * 4 := by
      have := (List.getElem?_eq_some_iff.1 hj).1
      rw [repCells_len] at this
      exact this
    obtain ⟨g, off, e, hc⟩ := h3 (by omega)
    obtain rfl := Option.some.inj e
    obtain ⟨_, d0, d1, d2, d3⟩ := hc (j / 4) (by omega)
    obtain ⟨c0, c1, c2, c3⟩ := repCells_at us rs 0 (j / 4) (by omega)
    rw [Addr.add_lit]
    rw [Nat.zero_add] at c1
    rcases (show j = j / 4 * 4 ∨ j = j / 4 * 4 + 1 ∨ j = j / 4 * 4 + 2 ∨ j = j / 4 * 4 + 3 by omega) with e | e | e | e
    · rw [e] at hj ⊢
      rw [c0] at hj
      rw [d0]
      exact hj
    · rw [e] at hj ⊢
      rw [c1] at hj
      rw [← Nat.add_assoc, d1]
      exact hj
    · rw [e] at hj ⊢
      rw [c2] at hj
      rw [← Nat.add_assoc, d2]
      exact hj
    · rw [e] at hj ⊢
      rw [c3] at hj
      rw [← Nat.add_assoc, d3]
      exact hj
  · exact repCells_one (fun i hi => by
      obtain ⟨g, off, e, hc⟩ := h3 (by omega)
      rw [Nat.zero_add]
      exact rd_one' (hc i hi).1)
  · intro v' w' ho' hg _
    exact h v' w' ⟨ho', Nat.le_trans hown.2 hg.size⟩ ((Below.refl B w).grown hg hown.2 (fun k hk => (hown.1.lt k hk).1))
end

end Go.Proofs.Ytkakagjffafdiaa
