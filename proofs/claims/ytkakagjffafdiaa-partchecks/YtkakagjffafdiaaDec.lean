/-
  The walk of wire.Decode: all entries, as far as they go, and how many bytes these are.
-/
import Derived.Test.YtkakagjffafdiaaDfirst
namespace Go.Proofs.Ytkakagjffafdiaa
open Go.RowKit
set_option linter.unusedVariables false
set_option linter.unusedSimpArgs false

def Ent.cells (e : Ent) : List Value := [.int .i64 e.a, .int .i64 e.b, .int .i64 e.c, .int .i64 e.d, .int .i64 e.k, .bool e.t, .string e.s]
theorem infoEntry : (Try.prog.info? 36).map (fun i => (i.zero, i.size, i.bytes)) = some (some zeroE.val, 7, 64) := by kernel_rfl

/-- The slice v owns these entries, in a block from B on. -/
def OwnE (B : Nat) (v : Value) (es : List Ent) (w : World) : Prop := w.ownsRow B 36 7 v es.length (es.flatMap Ent.cells) ∧ B ≤ w.heap.size

theorem OwnE.alloc {B : Nat} {v : Value} {es : List Ent} {w : World} (h : OwnE B v es w) (o : Obj) : OwnE B v es (w.alloc o) :=
  ⟨h.1.alloc o, Nat.le_trans h.2 ((Below.refl 0 w).alloc (Nat.zero_le _) o).size⟩
theorem OwnE.mono {B C : Nat} {v : Value} {es : List Ent} {w : World} (h : OwnE B v es w) (hC : C ≤ B) : OwnE C v es w := by
  obtain ⟨⟨h1, h2⟩, h4⟩ := h
  refine ⟨⟨h1, ?_⟩, by omega⟩
  rcases h2 with h2 | ⟨g, cap, cur, r1, r2, r3⟩
  · exact .inl h2
  · exact .inr ⟨g, cap, cur, r1, by omega, r3⟩
theorem OwnE.below {B C : Nat} {v : Value} {es : List Ent} {w w' : World} (h : OwnE B v es w) (hC : w.heap.size ≤ C) (hb : Below C w w') : OwnE B v es w' := by
  obtain ⟨⟨h1, h2⟩, h4⟩ := h
  refine ⟨⟨h1, ?_⟩, Nat.le_trans h4 hb.size⟩
  rcases h2 with h2 | ⟨g, cap, cur, r1, r2, r3, r4⟩
  · exact .inl h2
  · have hg : g < w.heap.size := by
      rcases Nat.lt_or_ge g w.heap.size with hg | hg
      · exact hg
      · rw [Array.getElem?_eq_none hg] at r3; simp at r3
    exact .inr ⟨g, cap, cur, r1, r2, by rw [hb.block g (by omega)]; exact r3, r4⟩
theorem ownE_nil (B : Nat) (w : World) (hB : B ≤ w.heap.size) : OwnE B (.slice none 0 0) [] w := ⟨World.ownsRow_nil w B _ 7, hB⟩
theorem OwnE.shape {B : Nat} {v : Value} {es : List Ent} {w : World} (h : OwnE B v es w) : ∃ ao cap, v = .slice ao es.length cap := by
  rcases h.1.2 with ⟨h1, h2⟩ | ⟨g, cap, cur, r1, r2⟩
  · exact ⟨none, 0, by rw [h1, h2]⟩
  · exact ⟨_, cap, r1⟩

section
variable {w0 : World} {ops : Array Oper} {rest : List Oper} {o : Oper} {a : Act} {Q : Exit → Act → World → Prop}
theorem wp_appE (hgd : o.guard = none) (s x : Operand)
    (ho : o.op = .call { callee := .builtin .append, args := #[s, x], argTypes := #[56, 56] })
    (B : Nat) (v : Value) (es : List Ent) (hs : a.eval s = v) (e : Ent) (hown : OwnE B v es w0) (g : Nat) (hx : a.eval x = .slice (some ⟨g, 0, none⟩) 1 1) (hg : g = w0.heap.size) (hlen : es.length + 1 ≤ 1099511627776)
    (h : ∀ v' w', OwnE B v' (es ++ [e]) w' → Below B w0 w' → wpList Try.prog ops Q rest (a.put o.dst v') w') :
    wpList Try.prog ops Q (o :: rest) a (w0.alloc (.cells #[.int .i64 e.a, .int .i64 e.b, .int .i64 e.c, .int .i64 e.d, .int .i64 e.k, .bool e.t, .string e.s] 36)) := by
  subst hg
  obtain ⟨i, hi, hz0, hz1, hz2⟩ := info_parts infoEntry
  have hown' := hown.alloc (.cells #[.int .i64 e.a, .int .i64 e.b, .int .i64 e.c, .int .i64 e.d, .int .i64 e.k, .bool e.t, .string e.s] 36)
  refine wpList_append_own _ hgd s x _ ho B _ i zeroE.val 7 64 Try.underlying56 hi hz0 hz1 hz2 rfl (by decide) v _ _ hs hown'.1 ⟨w0.heap.size, 0, none⟩ 1 1 e.cells hx rfl ?_ ?_ (by unfold maxLen; omega) (by omega) hown'.2 ?_
  · intro j u hj
    have hj' : j < 7 := by
      have := (List.getElem?_eq_some_iff.1 hj).1
      simpa [Ent.cells] using this
    rcases (show j = 0 ∨ j = 1 ∨ j = 2 ∨ j = 3 ∨ j = 4 ∨ j = 5 ∨ j = 6 from by omega) with rfl | rfl | rfl | rfl | rfl | rfl | rfl <;> (simp [Ent.cells] at hj; subst hj; simp [Addr.add])
  · intro u hu
    simp [Ent.cells] at hu
    rcases hu with rfl | rfl | rfl | rfl | rfl | rfl | rfl <;> rfl
  · intro v' w' ho' hg _
    refine h v' w' ⟨by simpa using ho', Nat.le_trans hown'.2 hg.size⟩ ?_
    exact ((Below.refl B w0).alloc hown.2 _).grown hg hown'.2 (fun k hk => (hown'.1.lt k hk).1)
end

theorem decodeFirst_any (l : List Int) (v : Value) (w : World) (h0 : 0 < l.length) (hl : l.length ≤ 140737488355328) (h : Rd w v l) :
    Calls Try.prog 125 #[v] w fun e w' => e = .returned (.tuple #[(firstV l).1.val, .int .i64 (firstV l).2]) ∧ Below w.heap.size w w' := by
  obtain ⟨hb, ao, cap, rfl, h1, h2, h3, hc⟩ := h
  obtain ⟨b, off, rfl, hc'⟩ := hc h0
  exact decodeFirst_some l b off cap w h0 hl h1 h2 hb hc'

/-- How far one has come. -/
def DecSt (l : List Int) (k : Nat) (es : List Ent) : Prop :=
  k ≤ l.length ∧ es.length ≤ k ∧ ∃ f, (l.drop k).length ≤ f ∧ decL l = (es ++ (decP f (l.drop k)).1, k + (decP f (l.drop k)).2)
theorem decSt_0 (l : List Int) : DecSt l 0 [] := ⟨by omega, by simp, l.length, by simp, by simp [decL]⟩
theorem decSt_stop {l : List Int} {k : Nat} {es : List Ent} (h : DecSt l k es) (hf : firstP (l.drop k) = none) : decL l = (es, k) := by
  obtain ⟨_, _, f, _, h⟩ := h
  rw [h, decP_none _ _ hf]
  simp
theorem decSt_end {l : List Int} {es : List Ent} (h : DecSt l l.length es) : decL l = (es, l.length) := decSt_stop h (by rw [List.drop_length]; rfl)
theorem decSt_next {l : List Int} {k : Nat} {es : List Ent} (h : DecSt l k es) (hb : Bytes l) {e : Ent} {z : Nat} (hf : firstP (l.drop k) = some (e, z)) : DecSt l (k + z) (es ++ [e]) ∧ 8 ≤ z ∧ k + z ≤ l.length := by
  obtain ⟨h1, h2, f, h3, h⟩ := h
  obtain ⟨hf0, hz, he⟩ := first_some _ (bytes_drop hb k) e z hf
  have hz8 : 8 ≤ z := by
    rw [hz, enc_len]
    have : 5 ≤ e.body.length := by
      obtain ⟨ha, hb, hc, hd, hk, hs⟩ := flt_ok hf0
      have s1 : ∀ n : Int, 1 ≤ (sev n).length := by
        intro n
        unfold sev
        by_cases hn : n.toNat < 128
        · rw [sevF_small _ _ hn]; simp
        · rw [sevF_big _ _ hn]; simp
      have s2 := s1 e.a
      have s3 := s1 e.b
      have s4 := s1 e.c
      have s5 := s1 e.d
      simp only [Ent.body, bodyL, List.length_cons, List.length_append]
      omega
    omega
  have hle : k + z ≤ l.length := by
    have := congrArg List.length he
    simp only [List.length_append, List.length_drop] at this
    omega
  refine ⟨⟨hle, by simp; omega, f - 1, by simp only [List.length_drop] at h3 ⊢; omega, ?_⟩, hz8, hle⟩
  obtain ⟨f', rfl⟩ : ∃ f', f = f' + 1 := ⟨f - 1, by simp only [List.length_drop] at h3; omega⟩
  rw [h, decP_some _ _ _ _ hf]
  simp only [List.drop_drop, List.append_assoc, List.singleton_append, Nat.add_sub_cancel]
  rw [Nat.add_assoc]

set_option maxRecDepth 100000 in
set_option maxHeartbeats 1000000 in
theorem decode_some (l : List Int) (b off cap : Nat) (w : World) (hl : l.length ≤ 1099511627775) (hcap : l.length ≤ cap) (hm : cap ≤ maxLen) (hb : Bytes l) (hc : ∀ i, i < l.length → w.cell? ⟨b, off + i, none⟩ = some (.int .u8 (l.getD i 0))) :
    Calls Try.prog 98 #[.slice (some ⟨b, off, none⟩) l.length cap] w fun e w' => ∃ v, e = .returned (.tuple #[v, .int .i64 (decL l).2]) ∧ OwnE w.heap.size v (decL l).1 w' ∧ Below w.heap.size w w' := by
  have hr := fun k h => rd_drop hb hcap hm hc k h
  have HR : Hid _ := hr
  unfold maxLen at hm
  clear hr hc
  go_enter Try.func98, Try.ntmps98
  go_wp2
  go_loopw [4, 5] (fun v a wr => ∃ (k : Nat) (es : List Ent), k ≤ l.length ∧ a = .int .i64 k ∧ Hid (DecSt l k es) ∧ OwnE w.heap.size v es wr ∧ Below w.heap.size w wr) (fun _ a _ => l.length - (intOf a).toNat)
  case atStart => exact ⟨0, [], by omega, rfl, decSt_0 l, ownE_nil _ _ (Nat.le_refl _), Below.refl _ _⟩
  case round =>
    obtain ⟨k, es, hk, rfl, H, hown, hbel⟩ := hrel
    have hes := H.out.2.1
    by_cases hlt : k < l.length
    · have hR := (HR.out k hk).below (Nat.le_refl _) hbel
      rw [if_neg (by omega)] at hR
      go_wp2_with fail
      refine (decodeFirst_any (l.drop k) _ _ (by simp; omega) (by simp; omega) hR).mono ?_
      rintro e w1 ⟨rfl, hb1⟩
      have hown1 := hown.below (Nat.le_refl _) hb1
      have hbel1 := bstep hbel hb1
      clear hb1 hR hown hbel
      rcases hf : firstP (l.drop k) with _ | ⟨e, z⟩
      · rw [firstV_none hf]
        have E : Hid (decL l = (es, k)) := decSt_stop H.out hf
        simp only [zeroE, Ent.val]
        clear hf
        go_wp2
        go_ret2
        rw [E.out]
        refine ⟨_, rfl, hown1.alloc _, ?_⟩
        exact hbel1.alloc hown1.2 _
      · rw [firstV_some hf]
        obtain ⟨hn, hz, hkz⟩ := decSt_next H.out hb hf
        have HN : Hid _ := hn
        have hz' : ((z : Int) == 0) = false := by rw [beq_eq_false_iff_ne]; omega
        clear hn hf H
        simp only [Ent.val]
        go_wp2_with (at_builtin; (refine wp_appE rfl _ _ rfl _ _ es rfl e (hown1.alloc _) _ rfl (by simp) (by omega) ?_))
        intro v2 w2 hown2 hb2
        have hbel2 := (hbel1.alloc hown1.2 _).trans hb2
        clear hb2 hown1 hbel1
        go_wp2
        go_roundw
        case rel => exact ⟨k + z, es ++ [e], hkz, by go_num, HN, hown2, hbel2⟩
        case measure => simp [intOf]; omega
    · have hkl : k = l.length := by omega
      have E : Hid (decL l = (es, k)) := by (rw [hkl] at H ⊢; exact decSt_end H.out)
      clear hkl H
      go_wp2
      go_ret2
      rw [E.out]
      exact ⟨_, rfl, hown, hbel⟩

set_option maxRecDepth 100000 in
set_option maxHeartbeats 400000 in
theorem decode_none (ao : Option Addr) (cap : Nat) (w : World) :
    Calls Try.prog 98 #[.slice ao 0 cap] w fun e w' => ∃ v, e = .returned (.tuple #[v, .int .i64 0]) ∧ OwnE w.heap.size v [] w' ∧ Below w.heap.size w w' := by
  go_enter Try.func98, Try.ntmps98
  go_wp2
  refine wp_loop_rounds 1 ?_
  rw [rounds_succ]
  go_wp2
  go_ret2
  exact ⟨_, rfl, ownE_nil _ _ (Nat.le_refl _), Below.refl _ _⟩

theorem decode_any (l : List Int) (v : Value) (w : World) (hl : l.length ≤ 1099511627775) (h : Rd w v l) :
    Calls Try.prog 98 #[v] w fun e w' => ∃ v, e = .returned (.tuple #[v, .int .i64 (decL l).2]) ∧ OwnE w.heap.size v (decL l).1 w' ∧ Below w.heap.size w w' := by
  obtain ⟨hb, ao, cap, rfl, h1, h2, h3, hc⟩ := h
  by_cases h0 : 0 < l.length
  · obtain ⟨b, off, rfl, hc'⟩ := hc h0
    exact decode_some l b off cap w hl h1 h2 hb hc'
  · have hl : l = [] := List.eq_nil_of_length_eq_zero (by omega)
    subst hl
    exact decode_none ao cap w

end Go.Proofs.Ytkakagjffafdiaa
