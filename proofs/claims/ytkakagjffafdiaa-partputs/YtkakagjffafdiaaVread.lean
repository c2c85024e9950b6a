/-
  The walk of the document's ReadOf; a slice of texts that a call owns.
-/
import Derived.Test.YtkakagjffafdiaaAview
namespace Go.Proofs.Ytkakagjffafdiaa
open Go.RowKit
set_option linter.unusedVariables false
set_option linter.unusedSimpArgs false

theorem infoStr : (Try.prog.info? 9).map (fun i => (i.zero, i.size, i.bytes)) = some (some (.string ⟨#[]⟩), 1, 16) := by kernel_rfl

/-- The slice v owns these texts, in a block from B on. -/
def OwnS (B : Nat) (v : Value) (ts : List ByteArray) (w : World) : Prop := w.ownsRow B 9 1 v ts.length (ts.map Value.string) ∧ B ≤ w.heap.size
theorem OwnS.alloc {B : Nat} {v : Value} {ts : List ByteArray} {w : World} (h : OwnS B v ts w) (o : Obj) : OwnS B v ts (w.alloc o) :=
  ⟨h.1.alloc o, Nat.le_trans h.2 ((Below.refl 0 w).alloc (Nat.zero_le _) o).size⟩
theorem OwnS.drewN {B : Nat} {v : Value} {ts : List ByteArray} {w : World} (h : OwnS B v ts w) (n : Nat) : OwnS B v ts (w.drewN n) := h
theorem OwnS.shape {B : Nat} {v : Value} {ts : List ByteArray} {w : World} (h : OwnS B v ts w) : ∃ ao cap, v = .slice ao ts.length cap := by
  rcases h.1.2 with ⟨h1, h2⟩ | ⟨g, cap, cur, r1, r2⟩
  · exact ⟨none, 0, by rw [h1, h2]⟩
  · exact ⟨_, cap, r1⟩
theorem OwnS.below {B C : Nat} {v : Value} {ts : List ByteArray} {w w' : World} (h : OwnS B v ts w) (hC : w.heap.size ≤ C) (hb : Below C w w') : OwnS B v ts w' := by
  obtain ⟨⟨h1, h2⟩, h4⟩ := h
  refine ⟨⟨h1, ?_⟩, Nat.le_trans h4 hb.size⟩
  rcases h2 with h2 | ⟨g, cap, cur, r1, r2, r3, r4⟩
  · exact .inl h2
  · have hg : g < w.heap.size := by
      rcases Nat.lt_or_ge g w.heap.size with hg | hg
      · exact hg
      · rw [Array.getElem?_eq_none hg] at r3; simp at r3
    exact .inr ⟨g, cap, cur, r1, r2, by rw [hb.block g (by omega)]; exact r3, r4⟩
theorem OwnS.mono {B C : Nat} {v : Value} {ts : List ByteArray} {w : World} (h : OwnS B v ts w) (hC : C ≤ B) : OwnS C v ts w := by
  obtain ⟨⟨h1, h2⟩, h4⟩ := h
  refine ⟨⟨h1, ?_⟩, by omega⟩
  rcases h2 with h2 | ⟨g, cap, cur, r1, r2, r3⟩
  · exact .inl h2
  · exact .inr ⟨g, cap, cur, r1, by omega, r3⟩
theorem ownS_nil (B : Nat) (w : World) (hB : B ≤ w.heap.size) : OwnS B (.slice none 0 0) [] w := ⟨World.ownsRow_nil w B _ 1, hB⟩

section
variable {w0 : World} {ops : Array Oper} {rest : List Oper} {o : Oper} {a : Act} {Q : Exit → Act → World → Prop}
/-- One text more. -/
theorem wp_appS (hgd : o.guard = none) (s x : Operand)
    (ho : o.op = .call { callee := .builtin .append, args := #[s, x], argTypes := #[45, 45] })
    (B : Nat) (v : Value) (ts : List ByteArray) (hs : a.eval s = v) (t : ByteArray) (hown : OwnS B v ts w0) (g : Nat) (hx : a.eval x = .slice (some ⟨g, 0, none⟩) 1 1) (hg : g = w0.heap.size) (hlen : ts.length + 1 ≤ 1099511627776)
    (h : ∀ v' w', OwnS B v' (ts ++ [t]) w' → Below B w0 w' → wpList Try.prog ops Q rest (a.put o.dst v') w') :
    wpList Try.prog ops Q (o :: rest) a (w0.alloc (.cells #[.string t] 9)) := by
  subst hg
  obtain ⟨i, hi, hz0, hz1, hz2⟩ := info_parts infoStr
  have hown' := hown.alloc (.cells #[.string t] 9)
  refine wpList_append_own _ hgd s x _ ho B _ i (.string ⟨#[]⟩) 1 16 Try.underlying45 hi hz0 hz1 hz2 rfl (by decide) v _ _ hs hown'.1 ⟨w0.heap.size, 0, none⟩ 1 1 [.string t] hx rfl ?_ ?_ (by unfold maxLen; omega) (by omega) hown'.2 ?_
  · intro j u hj
    have hj' : j < 1 := by
      have := (List.getElem?_eq_some_iff.1 hj).1
      simpa using this
    obtain rfl : j = 0 := by omega
    simp at hj
    subst hj
    simp [Addr.add]
  · intro u hu
    simp at hu
    subst hu
    rfl
  · intro v' w' ho' hg _
    refine h v' w' ⟨by simpa using ho', Nat.le_trans hown'.2 hg.size⟩ ?_
    exact ((Below.refl B w0).alloc hown.2 _).grown hg hown'.2 (fun k hk => (hown'.1.lt k hk).1)
end

/-- What P3.5 answers: texts, a place, an error. -/
def rdA (es : List Ent) (h from_ most : Int) : List ByteArray × Int × Int :=
  if (stf es h).2 ≠ 0 then ([], 0, (stf es h).2)
  else if from_ < 0 ∨ (es.length : Int) < from_ ∨ most < 1 ∨ 20 < most then ([], 0, 2)
  else ((rdF es h.toNat (stb es h.toNat) es.length from_.toNat most.toNat).1, (rdF es h.toNat (stb es h.toNat) es.length from_.toNat most.toNat).2, 0)

/-- How far one has come. -/
def RdSt (es : List Ent) (h fin i0 m0 : Nat) (k : Nat) (ts : List ByteArray) : Prop :=
  ts.length ≤ m0 ∧ ∃ f, fin ≤ k + f ∧ rdF es h fin es.length i0 m0 = (ts ++ (rdF es h fin f k (m0 - ts.length)).1, (rdF es h fin f k (m0 - ts.length)).2)
theorem rdSt_0 (es : List Ent) (h fin i0 m0 : Nat) (hf : fin ≤ es.length) : RdSt es h fin i0 m0 i0 [] := ⟨by simp, es.length, by omega, by simp⟩
theorem rdF_stop (es : List Ent) (h fin f i m : Nat) (hs : fin ≤ i ∨ m = 0) : rdF es h fin f i m = ([], i) := by
  cases f with
  | zero => rfl
  | succ f => simp only [rdF]; rw [if_pos hs]
theorem rdSt_stop {es : List Ent} {h fin i0 m0 k : Nat} {ts : List ByteArray} (H : RdSt es h fin i0 m0 k ts) (hs : fin ≤ k ∨ m0 ≤ ts.length) : rdF es h fin es.length i0 m0 = (ts, k) := by
  obtain ⟨_, f, _, e⟩ := H
  rw [e, rdF_stop es h fin f k _ (by omega)]
  simp
theorem rdSt_next {es : List Ent} {h fin i0 m0 k : Nat} {ts : List ByteArray} (H : RdSt es h fin i0 m0 k ts) (h1 : k < fin) (h2 : ts.length < m0) :
    (seen es h k = true → RdSt es h fin i0 m0 (k + 1) (ts ++ [(Ent.at es k).s])) ∧ (seen es h k = false → RdSt es h fin i0 m0 (k + 1) ts) := by
  obtain ⟨h3, f, h4, e⟩ := H
  obtain ⟨f', rfl⟩ : ∃ f', f = f' + 1 := ⟨f - 1, by omega⟩
  simp only [rdF] at e
  rw [if_neg (by omega)] at e
  refine ⟨fun hs => ?_, fun hs => ?_⟩
  · rw [if_pos hs] at e
    refine ⟨by simp; omega, f', by omega, ?_⟩
    rw [e]
    simp only [List.length_append, List.length_singleton, List.append_assoc, List.singleton_append, Nat.sub_sub]
  · rw [if_neg (by simp [hs])] at e
    exact ⟨h3, f', by omega, e⟩

end Go.Proofs.Ytkakagjffafdiaa
