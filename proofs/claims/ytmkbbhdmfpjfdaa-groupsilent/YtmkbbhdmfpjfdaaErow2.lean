/-
  append of rows of structs; the document's intsCopy.
-/
import Derived.Test.YtmkbbhdmfpjfdaaErow
namespace Go.Proofs.Ytmkbbhdmfpjfdaa
open Go.RowKit
set_option linter.unusedVariables false
set_option linter.unusedSimpArgs false

section
variable {α : Type} {w : World} {ops : Array Oper} {rest : List Oper} {o : Oper} {a : Act} {Q : Exit → Act → World → Prop}
/-- append(s, x...) of such rows. -/
theorem wp_appW (E : El α) (T Ts : TypeId) (zv : Value) (nb : Nat) (hi : (Try.prog.info? T).map (fun i => (i.zero, i.size, i.bytes)) = some (some zv, E.z, nb)) (hu : Try.prog.underlying Ts = some (.slice T)) (hz : 0 < E.z) (hzv : zv.cells.size = E.z) (hgd : o.guard = none) (s x : Operand)
    (ho : o.op = .call { callee := .builtin .append, args := #[s, x], argTypes := #[Ts, Ts] })
    (B : Nat) (v : Value) (n : Nat) (xs : List Value) (hs : a.eval s = v) (hown : OwnV B T E.z v n xs w) (ad : Addr) (m cap : Nat) (ys : List α) (us : Nat → Value) (hx : a.eval x = .slice (some ad) m cap) (hr : RdW E w (.slice (some ad) m cap) ys us) (hlen : (n + m) * nb ≤ 140737488355328) (hlm : n + m ≤ maxLen)
    (h : ∀ v' w', OwnV B T E.z v' (n + m) (xs ++ E.row us ys 0) w' → Below B w w' → wpList Try.prog ops Q rest (a.put o.dst v') w') : wpList Try.prog ops Q (o :: rest) a w := by
  obtain ⟨i, hi, hz0, hz1, hz2⟩ := info_parts hi
  obtain ⟨ao, c', e, h1, h2, h4, h3⟩ := hr
  simp only [Value.slice.injEq] at e
  obtain ⟨rfl, rfl, rfl⟩ := e
  refine wpList_append_own w hgd s x _ ho B _ i zv E.z nb hu hi hz0 hz1 hz2 hzv hz v _ _ hs hown.1 ad _ cap (E.row us ys 0) hx (row_len E us ys 0) ?_ ?_ hlm hlen hown.2 ?_
  · intro j u hj
    have hj' : j < ys.length * E.z := by
      have := (List.getElem?_eq_some_iff.1 hj).1
      rwa [row_len] at this
    have h0 : 0 < ys.length := by
      rcases Nat.eq_zero_or_pos ys.length with h | h
      · rw [h, Nat.zero_mul] at hj'; omega
      · exact h
    obtain ⟨g, off, e, hc⟩ := h3 h0
    obtain rfl := Option.some.inj e
    have hq : j / E.z < ys.length := Nat.div_lt_of_lt_mul (by rwa [Nat.mul_comm] at hj')
    have hm : j % E.z < E.z := Nat.mod_lt _ hz
    have hjj : j = j / E.z * E.z + j % E.z := by rw [Nat.mul_comm]; exact (Nat.div_add_mod j E.z).symm
    rw [Addr.add_lit]
    rw [hjj] at hj ⊢
    rw [row_at E us ys 0 _ _ hq hm, Nat.zero_add] at hj
    rw [← Nat.add_assoc]
    exact (hc (j / E.z) hq).2 (j % E.z) u hj
  · exact row_one E (fun i hi => by
      obtain ⟨g, off, e, hc⟩ := h3 (by omega)
      rw [Nat.zero_add]
      exact rdv_one (hc i hi).1)
  · intro v' w' ho' hg _
    exact h v' w' ⟨ho', Nat.le_trans hown.2 hg.size⟩ ((Below.refl B w).grown hg hown.2 (fun k hk => (hown.1.lt k hk).1))
end

section
variable {α : Type} {w : World} {ops : Array Oper} {rest : List Oper} {o : Oper} {a : Act} {Q : Exit → Act → World → Prop}
/-- append(s, x), x in a literal's block. -/
theorem wp_rowW (E : El α) (T Ts : TypeId) (zv : Value) (nb : Nat) (hi : (Try.prog.info? T).map (fun i => (i.zero, i.size, i.bytes)) = some (some zv, E.z, nb)) (hu : Try.prog.underlying Ts = some (.slice T)) (hz : 0 < E.z) (hzv : zv.cells.size = E.z) (hgd : o.guard = none) (s x : Operand)
    (ho : o.op = .call { callee := .builtin .append, args := #[s, x], argTypes := #[Ts, Ts] })
    (B : Nat) (v : Value) (xs : List α) (n : Nat) (hn : xs.length = n) (us : Nat → Value) (hs : a.eval s = v) (hown : OwnW E T B w v xs us) (g : Nat) (hx : a.eval x = .slice (some ⟨g, 0, none⟩) 1 1) (y : α) (u : Value) (hc : ∀ j c, (E.cs y u)[j]? = some c → w.cell? ⟨g, j, none⟩ = some c)
    (hy : OwnV B 3 1 u (E.ns y).length (ints (E.ns y)) w) (hya : ∀ b, u.ownBlock = some b → v.ownBlock ≠ some b) (hyd : ∀ i, i < xs.length → ∀ b, u.ownBlock = some b → (us i).ownBlock ≠ some b) (hlen : (n + 1) * nb ≤ 140737488355328) (hlm : n + 1 ≤ maxLen) (H : Nat) (hH : w.heap.size = H)
    (h : ∀ g' cap w', OwnW E T B w' (.slice (some ⟨g', 0, none⟩) (n + 1) cap) (xs ++ [y]) (fun k => if k = n then u else us k) → w.grownBy w' v.ownBlock → (v.ownBlock = some g' ∨ g' = H) → g' < w'.heap.size → wpList Try.prog ops Q rest (a.put o.dst (.slice (some ⟨g', 0, none⟩) (n + 1) cap)) w') :
    wpList Try.prog ops Q (o :: rest) a w := by
  subst hn
  obtain ⟨i, hi, hz0, hz1, hz2⟩ := info_parts hi
  refine wpList_append_lies _ hgd s x _ ho B _ i zv E.z nb hu hi hz0 hz1 hz2 hzv hz v xs.length (E.row us xs 0) hs hown.o.1 ⟨g, 0, none⟩ 1 1 (E.cs y u) hx (by rw [E.len]; omega) ?_ ?_ (by omega) hlm hlen hown.o.2 H hH ?_
  · intro j c hj
    rw [Addr.add_lit, Nat.zero_add]
    exact hc j c hj
  · exact E.one y u (rdv_one hy.rdv)
  · intro g' cap w' ho' hg hat hlt
    refine h g' cap w' (hown.snoc y u hy hya hyd ⟨ho', Nat.le_trans hown.o.2 hg.size⟩ hg (fun b e => ?_)) hg hat hlt
    simp [Value.ownBlock] at e
    subst e
    rw [hH]
    exact hat
end

section
variable {α : Type} {w : World} {ops : Array Oper} {o : Oper} {a : Act} {K : Act → World → Prop} {Q : Exit → Act → World → Prop} {X : Prop}
/-- .. and as one step of a region that draws. -/
theorem step_rowW (E : El α) (T Ts : TypeId) (zv : Value) (nb : Nat) (hi : (Try.prog.info? T).map (fun i => (i.zero, i.size, i.bytes)) = some (some zv, E.z, nb)) (hu : Try.prog.underlying Ts = some (.slice T)) (hz : 0 < E.z) (hzv : zv.cells.size = E.z) (hgd : o.guard = none) (s x : Operand)
    (ho : o.op = .call { callee := .builtin .append, args := #[s, x], argTypes := #[Ts, Ts] })
    (B : Nat) (v : Value) (xs : List α) (n : Nat) (hn : xs.length = n) (us : Nat → Value) (hs : a.eval s = v) (hown : OwnW E T B w v xs us) (g : Nat) (hx : a.eval x = .slice (some ⟨g, 0, none⟩) 1 1) (y : α) (u : Value) (hc : ∀ j c, (E.cs y u)[j]? = some c → w.cell? ⟨g, j, none⟩ = some c)
    (hy : OwnV B 3 1 u (E.ns y).length (ints (E.ns y)) w) (hya : ∀ b, u.ownBlock = some b → v.ownBlock ≠ some b) (hyd : ∀ i, i < xs.length → ∀ b, u.ownBlock = some b → (us i).ownBlock ≠ some b) (hlen : (n + 1) * nb ≤ 140737488355328) (hlm : n + 1 ≤ maxLen) (H : Nat) (hH : w.heap.size = H)
    (h : ∀ g' cap w', OwnW E T B w' (.slice (some ⟨g', 0, none⟩) (n + 1) cap) (xs ++ [y]) (fun k => if k = n then u else us k) → w.grownBy w' v.ownBlock → (v.ownBlock = some g' ∨ g' = H) → g' < w'.heap.size → K (a.put o.dst (.slice (some ⟨g', 0, none⟩) (n + 1) cap)) w') :
    if Region.wanted o (yielded ops a.tmps) = true then Oper.wp Try.prog o a w K Q else X := by
  subst hn
  obtain ⟨i, hi, hz0, hz1, hz2⟩ := info_parts hi
  refine step_append_lies _ hgd s x _ ho B _ i zv E.z nb hu hi hz0 hz1 hz2 hzv hz v xs.length (E.row us xs 0) hs hown.o.1 ⟨g, 0, none⟩ 1 1 (E.cs y u) hx (by rw [E.len]; omega) ?_ ?_ (by omega) hlm hlen hown.o.2 H hH ?_
  · intro j c hj
    rw [Addr.add_lit, Nat.zero_add]
    exact hc j c hj
  · exact E.one y u (rdv_one hy.rdv)
  · intro g' cap w' ho' hg hat hlt
    refine h g' cap w' (hown.snoc y u hy hya hyd ⟨ho', Nat.le_trans hown.o.2 hg.size⟩ hg (fun b e => ?_)) hg hat hlt
    simp [Value.ownBlock] at e
    subst e
    rw [hH]
    exact hat
end

set_option maxRecDepth 100000 in
set_option maxHeartbeats 1000000 in
theorem intsCopy_any (l : List Int) (v : Value) (w : World) (hl : l.length * 8 ≤ 140737488355328) (h : RdV w v (ints l)) :
    Calls Try.prog 60 #[v] w fun e w' => ∃ v', e = .returned v' ∧ OwnV w.heap.size 3 1 v' l.length (ints l) w' ∧ Below w.heap.size w w' := by
  obtain ⟨ao, cap, rfl, h1⟩ := h.shape
  rw [ints_len] at *
  have H : Hid _ := h
  clear h
  go_enter Try.func60, Try.ntmps60
  go_wp2
  go_loopw [3, 4] (fun out i W => ∃ k : Nat, k ≤ l.length ∧ i = .int .i64 k ∧ Hid (OwnV w.heap.size 3 1 out k (ints (l.take k)) W) ∧ Hid (Below w.heap.size w W)) (fun _ i _ => l.length - (intOf i).toNat)
  case atStart => exact ⟨0, by omega, rfl, ownV_nil _ _ _ _ (Nat.le_refl _), Below.refl _ _⟩
  case round =>
    obtain ⟨k, hk, rfl, HO, HB⟩ := hrel
    obtain ⟨a0, c0, rfl⟩ := HO.out.shape
    by_cases hlt : k < l.length
    · have hltv : (k : Int) < l.length := by omega
      obtain ⟨g, off, rfl, -, c1⟩ := (RdV.below H.out (Nat.le_refl _) HB.out).cellAt k (by rw [ints_len]; exact hlt)
      have e1 : (ints l)[k]'(by rw [ints_len]; exact hlt) = .int .i64 (l[k]'hlt) := by simp [ints]
      rw [e1] at c1
      have HE : Hid (ints (l.take (k + 1)) = ints (l.take k) ++ [.int .i64 (l[k]'hlt)]) := show _ = _ by
        unfold ints
        rw [List.take_succ_eq_append_getElem hlt, List.map_append]; rfl
      generalize l[k]'hlt = x at *
      clear e1
      go_wp2_with (at_builtin; refine wp_rowI rfl _ _ rfl w.heap.size _ k _ rfl (HO.out.below (Nat.le_refl _) (bbox _ _)) wr.heap.size rfl x (by simp) (by omega) _ rfl ?_)
      intro g' cap' w' ho' hg hat hlt'
      have HO' : Hid (OwnV w.heap.size 3 1 (.slice (some ⟨g', 0, none⟩) (k + 1) cap') (k + 1) (ints (l.take (k + 1))) w') := show OwnV _ _ _ _ _ _ _ by rw [HE.out]; exact ho'
      have HB' : Hid (Below w.heap.size w w') := below_grown (bstep HB.out (bbox wr (.cells #[.int .i64 x] 3))) hg (by simp; have := HB.out.size; omega) (fun j e => (HO.out.blk j e).1)
      clear ho' hg hat hlt' c1
      go_wp2
      go_roundw
      case rel => exact ⟨k + 1, by omega, by go_num, HO', HB'⟩
      case measure => simp [intOf]; omega
    · have hke : k = l.length := by omega
      subst hke
      have HF : Hid (OwnV w.heap.size 3 1 (.slice a0 l.length c0) l.length (ints l) wr) := show OwnV _ _ _ _ _ _ _ by have := HO.out; rwa [List.take_length] at this
      go_wp2
      go_ret
      exact ⟨_, rfl, HF.out, HB.out⟩

end Go.Proofs.Ytmkbbhdmfpjfdaa
