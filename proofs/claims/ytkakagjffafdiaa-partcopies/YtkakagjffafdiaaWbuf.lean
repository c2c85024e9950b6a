/-
  A slice of bytes that a call owns, and the laws by which it grows.
-/
import Derived.Test.YtkakagjffafdiaaWsum
import Derived.Laws.AppendOwnNone
import Derived.Lib.AppendStr
namespace Go.Proofs.Ytkakagjffafdiaa
open Go.RowKit

theorem infoByte : (Try.prog.info? 5).map (fun i => (i.zero, i.size, i.bytes)) = some (some (.int .u8 0), 1, 1) := by kernel_rfl

/-- The slice v owns the bytes l, in a block from B on. -/
def Own (B : Nat) (v : Value) (l : List Int) (w : World) : Prop := w.ownsRow B 5 1 v l.length (l.map (Value.int .u8)) ∧ Bytes l ∧ B ≤ w.heap.size

theorem Own.mono {B C : Nat} {v : Value} {l : List Int} {w : World} (h : Own B v l w) (hC : C ≤ B) : Own C v l w := by
  obtain ⟨⟨h1, h2⟩, h3, h4⟩ := h
  refine ⟨⟨h1, ?_⟩, h3, by omega⟩
  rcases h2 with h2 | ⟨g, cap, cur, r1, r2, r3⟩
  · exact .inl h2
  · exact .inr ⟨g, cap, cur, r1, by omega, r3⟩

theorem Own.alloc {B : Nat} {v : Value} {l : List Int} {w : World} (h : Own B v l w) (o : Obj) : Own B v l (w.alloc o) :=
  ⟨h.1.alloc o, h.2.1, Nat.le_trans h.2.2 ((Below.refl 0 w).alloc (Nat.zero_le _) o).size⟩

theorem Own.drew {B : Nat} {v : Value} {l : List Int} {w : World} (h : Own B v l w) : Own B v l w.drew := h

/-- What is owned stays owned where nothing turns below a number beyond it. -/
theorem Own.below {B C : Nat} {v : Value} {l : List Int} {w w' : World} (h : Own B v l w) (hC : w.heap.size ≤ C) (hb : Below C w w') : Own B v l w' := by
  obtain ⟨⟨h1, h2⟩, h3, h4⟩ := h
  refine ⟨⟨h1, ?_⟩, h3, Nat.le_trans h4 hb.size⟩
  rcases h2 with h2 | ⟨g, cap, cur, r1, r2, r3, r4⟩
  · exact .inl h2
  · have hg : g < w.heap.size := by
      rcases Nat.lt_or_ge g w.heap.size with hg | hg
      · exact hg
      · rw [Array.getElem?_eq_none hg] at r3; simp at r3
    exact .inr ⟨g, cap, cur, r1, r2, by rw [hb.block g (by omega)]; exact r3, r4⟩

theorem own_nil (B : Nat) (w : World) (hB : B ≤ w.heap.size) : Own B (.slice none 0 0) [] w := ⟨World.ownsRow_nil w B _ 1, fun n hn => by simp at hn, hB⟩

/-- A literal of bytes. -/
theorem own_lit (B : Nat) (w : World) (l : List Int) (hb : Bytes l) (hB : B ≤ w.heap.size) (hl : l.length ≤ maxLen) :
    Own B (.slice (some ⟨w.heap.size, 0, none⟩) l.length l.length) l (w.alloc (.cells (l.map (Value.int .u8)).toArray 5)) := by
  refine ⟨?_, hb, Nat.le_trans hB ((Below.refl 0 w).alloc (Nat.zero_le _) _).size⟩
  have := World.ownsRow_lit (e := 5) (size := 1) (base := B) w (l.map (Value.int .u8)).toArray l.length hB hl (by simp)
  simpa using this

/-- What is owned can be read. -/
theorem Own.rd {B : Nat} {v : Value} {l : List Int} {w : World} (h : Own B v l w) : Rd w v l := by
  obtain ⟨h1, h3, h4⟩ := h
  rcases h1.2 with ⟨rfl, h0⟩ | ⟨g, cap, cur, rfl, r2, r3, r4, r5, r6⟩
  · refine ⟨h3, none, 0, by rw [h0], by omega, by unfold maxLen; omega, fun _ => rfl, fun h => by omega⟩
  · refine ⟨h3, _, _, rfl, r4, r5, (fun h => by simp at h), fun _ => ⟨g, 0, rfl, fun i hi => ?_⟩⟩
    have := h1.cellAt i (by omega)
    rw [Nat.zero_add, this]
    simp [List.getD, hi]

theorem rd_lit (w : World) (l : List Int) (hb : Bytes l) (hl : l.length ≤ maxLen) : Rd (w.alloc (.cells (l.map (Value.int .u8)).toArray 5)) (.slice (some ⟨w.heap.size, 0, none⟩) l.length l.length) l :=
  (own_lit 0 w l hb (Nat.zero_le _) hl).rd

theorem own_one (B : Nat) (w : World) (c : Int) (hc : 0 ≤ c ∧ c ≤ 255) (hB : B ≤ w.heap.size) : Own B (.slice (some ⟨w.heap.size, 0, none⟩) 1 1) [c] (w.alloc (.cells #[.int .u8 c] 5)) := by
  have := own_lit B w [c] (by intro n hn; simp at hn; omega) hB (by simp [maxLen])
  simpa using this
theorem rd_one (w : World) (c : Int) (hc : 0 ≤ c ∧ c ≤ 255) : Rd (w.alloc (.cells #[.int .u8 c] 5)) (.slice (some ⟨w.heap.size, 0, none⟩) 1 1) [c] := (own_one 0 w c hc (Nat.zero_le _)).rd
theorem rd_two (w : World) (c d : Int) (hc : 0 ≤ c ∧ c ≤ 255) (hd : 0 ≤ d ∧ d ≤ 255) : Rd (w.alloc (.cells #[.int .u8 c, .int .u8 d] 5)) (.slice (some ⟨w.heap.size, 0, none⟩) 2 2) [c, d] := by
  have := rd_lit w [c, d] (by intro n hn; simp at hn; omega) (by simp [maxLen])
  simpa using this

theorem Rd.below {C : Nat} {v : Value} {l : List Int} {w w' : World} (h : Rd w v l) (hC : w.heap.size ≤ C) (hb : Below C w w') : Rd w' v l := by
  obtain ⟨h3, ao, cap, rfl, r4, r5, r6, hc⟩ := h
  refine ⟨h3, ao, cap, rfl, r4, r5, r6, fun h0 => ?_⟩
  obtain ⟨b, off, rfl, hc'⟩ := hc h0
  refine ⟨b, off, rfl, fun i hi => ?_⟩
  have h1 := hc' i hi
  have hlt : b < w.heap.size := by
    rcases Nat.lt_or_ge b w.heap.size with hg | hg
    · exact hg
    · simp [World.cell?, Array.getElem?_eq_none hg] at h1
  rw [hb.cell (p := ⟨b, off + i, none⟩) (by show b < C; omega)]
  exact h1

section
variable {w : World} {ops : Array Oper} {rest : List Oper} {o : Oper} {a : Act} {Q : Exit → Act → World → Prop}
theorem wp_app (hgd : o.guard = none) (s x : Operand)
    (ho : o.op = .call { callee := .builtin .append, args := #[s, x], argTypes := #[59, 59] })
    (B : Nat) (v : Value) (l : List Int) (hs : a.eval s = v) (hown : Own B v l w) (vx : Value) (r : List Int) (hx : a.eval x = vx) (hr : Rd w vx r) (hlen : l.length + r.length ≤ 140737488355328)
    (h : ∀ v' w', Own B v' (l ++ r) w' → Below B w w' → wpList Try.prog ops Q rest (a.put o.dst v') w') : wpList Try.prog ops Q (o :: rest) a w := by
  obtain ⟨i, hi, hz0, hz1, hz2⟩ := info_parts infoByte
  obtain ⟨hb, ao, cap, rfl, r4, r5, r6, hc⟩ := hr
  have hbel : ∀ w', w.grownBy w' v.ownBlock → Below B w w' := fun w' hg => (Below.refl B w).grown hg hown.2.2 (fun k hk => (hown.1.lt k hk).1)
  cases ao with
  | none =>
    have h0 : r.length = 0 := by have := r6 rfl; omega
    have hr0 : r = [] := List.eq_nil_of_length_eq_zero h0
    subst hr0
    obtain rfl := r6 rfl
    refine wpList_append_own_none hgd s x _ ho B _ i 1 Try.underlying59 hi v _ _ hs hown.1 hx ?_
    exact h v w (by simpa using hown) (Below.refl _ _)
  | some ad =>
    refine wpList_append_own w hgd s x _ ho B _ i (.int .u8 0) 1 1 Try.underlying59 hi hz0 hz1 hz2 rfl (by decide) v _ _ hs hown.1 ad r.length cap (r.map (Value.int .u8)) hx (by simp) ?_ ?_ (by unfold maxLen; omega) (by omega) hown.2.2 ?_
    · intro j u hj
      have hj' : j < r.length := by
        have := (List.getElem?_eq_some_iff.1 hj).1
        simpa using this
      obtain ⟨b, off, e, hc'⟩ := hc (by omega)
      obtain rfl := Option.some.inj e
      rw [Addr.add_lit, hc' j hj']
      simp [hj'] at hj
      subst hj
      simp [List.getD, hj']
    · intro u hu
      simp at hu
      obtain ⟨n, _, rfl⟩ := hu
      rfl
    · intro v' w' ho' hg _
      refine h v' w' ⟨by simpa using ho', bytes_append hown.2.1 hb, Nat.le_trans hown.2.2 hg.size⟩ (hbel w' hg)

/-- The bytes of a text. -/
def strL (s : ByteArray) : List Int := s.data.toList.map fun c => (c.toNat : Int)
theorem strL_len (s : ByteArray) : (strL s).length = s.size := by simp [strL]
theorem strL_bytes (s : ByteArray) : Bytes (strL s) := by
  intro n hn
  simp [strL] at hn
  obtain ⟨c, _, rfl⟩ := hn
  have := c.toNat_lt
  omega

theorem wp_app_str (hgd : o.guard = none) (s x : Operand)
    (ho : o.op = .call { callee := .builtin .append, args := #[s, x], argTypes := #[59, 9] })
    (B : Nat) (v : Value) (l : List Int) (hs : a.eval s = v) (hown : Own B v l w) (t : ByteArray) (hx : a.eval x = .string t) (hlen : l.length + t.size ≤ 140737488355328)
    (h : ∀ v' w', Own B v' (l ++ strL t) w' → Below B w w' → wpList Try.prog ops Q rest (a.put o.dst v') w') : wpList Try.prog ops Q (o :: rest) a w := by
  obtain ⟨i, hi, hz0, hz1, hz2⟩ := info_parts infoByte
  refine Lib.wpList_append_own_string w hgd s x _ _ ho B _ i Try.underlying59 Try.underlying9 hi hz0 hz1 hz2 v _ _ hs hown.1 t hx (by unfold maxLen; omega) hlen hown.2.2 ?_
  intro v' w' ho' hg _
  refine h v' w' ⟨?_, bytes_append hown.2.1 (strL_bytes t), Nat.le_trans hown.2.2 hg.size⟩ ((Below.refl B w).grown hg hown.2.2 (fun k hk => (hown.1.lt k hk).1))
  have e : (l ++ strL t).map (Value.int .u8) = l.map (Value.int .u8) ++ Lib.strCells t := by simp [strL, Lib.strCells]
  rw [e, List.length_append, strL_len]
  exact ho'
end

end Go.Proofs.Ytkakagjffafdiaa
