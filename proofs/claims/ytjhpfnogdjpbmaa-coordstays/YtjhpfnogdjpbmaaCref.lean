/-
  The document's intsCopy and CoordCopy; rows that grow by one struct.
-/
import Derived.Test.YtjhpfnogdjpbmaaCcopy
namespace Go.Proofs.Ytjhpfnogdjpbmaa
open Go.RowKit
set_option linter.unusedVariables false
set_option linter.unusedSimpArgs false

section
variable {α : Type} {w : World} {ops : Array Oper} {rest : List Oper} {o : Oper} {a : Act} {Q : Exit → Act → World → Prop}
/-- append(s, x), x in a literal's block. -/
theorem wp_rowW (E : El α) (T Ts : TypeId) (zv : Value) (nb : Nat) (hi : (Try.prog.info? T).map (fun i => (i.zero, i.size, i.bytes)) = some (some zv, E.z, nb)) (hu : Try.prog.underlying Ts = some (.slice T)) (hz : 0 < E.z) (hzv : zv.cells.size = E.z) (hgd : o.guard = none) (s x : Operand)
    (ho : o.op = .call { callee := .builtin .append, args := #[s, x], argTypes := #[Ts, Ts] })
    (B : Nat) (v : Value) (xs : List α) (n : Nat) (hn : xs.length = n) (us : Nat → Value) (hs : a.eval s = v) (hown : OwnW E T B w v xs us) (g : Nat) (hx : a.eval x = .slice (some ⟨g, 0, none⟩) 1 1) (y : α) (u : Value) (hc : ∀ j c, (E.cs y u)[j]? = some c → w.cell? ⟨g, j, none⟩ = some c)
    (hy : OwnV B 3 1 u (E.ns y).length (ints (E.ns y)) w) (hya : ∀ b, u.ownBlock = some b → v.ownBlock ≠ some b) (hyd : ∀ i, i < xs.length → ∀ b, u.ownBlock = some b → (us i).ownBlock ≠ some b) (hlen : (n + 1) * nb ≤ 140737488355328) (hlm : n + 1 ≤ maxLen) (H : Nat) (hH : w.heap.size = H)
    (h : ∀ g' cap w', OwnW E T B w' (.slice (some ⟨g', 0, none⟩) (n + 1) cap) (xs ++ [y]) (fun k => if k = n then u else us k) → w.grownBy w' v.ownBlock → (v.ownBlock = some g' ∨ g' = H) → g' < w'.heap.size → wpList Try.prog ops Q rest (a.put o.dst (.slice (some ⟨g', 0, none⟩) (n + 1) cap)) w') :
    wpList Try.prog ops Q (o :: rest) a w := by
  subst hn
  obtain ⟨i, hi, hz0, hz1, hz2⟩ := info_parts hi
  refine wpList_append_lies _ hgd s x _ ho B _ i zv E.z nb hu hi hz0 hz1 hz2 hzv hz v xs.length (E.row us xs 0) hs hown.o.1 ⟨g, 0, none⟩ 1 1 (E.cs y u) hx (by rw [E.len]; omega) ?_ ?_ (by omega) hlm hlen hown.o.2 H hH ?_
  · intro j c hj
    rw [Addr.add_lit, Nat.zero_add]
    exact hc j c hj
  · exact E.one y u (rdv_one hy.rdv)
  · intro g' cap w' ho' hg hat hlt
    refine h g' cap w' (hown.snoc y u hy hya hyd ⟨ho', Nat.le_trans hown.o.2 hg.size⟩ hg (fun b e => ?_)) hg hat hlt
    simp [Value.ownBlock] at e
    subst e
    rw [hH]
    exact hat
end

set_option maxRecDepth 100000 in
set_option maxHeartbeats 1000000 in
theorem intsCopy_any (l : List Int) (v : Value) (w : World) (hl : l.length * 8 ≤ 140737488355328) (h : RdV w v (ints l)) :
    Calls Try.prog 51 #[v] w fun e w' => ∃ v', e = .returned v' ∧ OwnV w.heap.size 3 1 v' l.length (ints l) w' ∧ Below w.heap.size w w' := by
  obtain ⟨ao, cap, rfl, h1⟩ := h.shape
  rw [ints_len] at *
  have H : Hid _ := h
  clear h
  go_enter Try.func51, Try.ntmps51
  go_wp2
  go_loopw [3, 4] (fun out i W => ∃ k : Nat, k ≤ l.length ∧ i = .int .i64 k ∧ Hid (OwnV w.heap.size 3 1 out k (ints (l.take k)) W) ∧ Hid (Below w.heap.size w W)) (fun _ i _ => l.length - (intOf i).toNat)
  case atStart => exact ⟨0, by omega, rfl, ownV_nil _ _ _ _ (Nat.le_refl _), Below.refl _ _⟩
  case round =>
    obtain ⟨k, hk, rfl, HO, HB⟩ := hrel
    obtain ⟨a0, c0, rfl⟩ := HO.out.shape
    by_cases hlt : k < l.length
    · have hltv : (k : Int) < l.length := by omega
      obtain ⟨g, off, rfl, -, c1⟩ := (RdV.below H.out (Nat.le_refl _) HB.out).cellAt k (by rw [ints_len]; exact hlt)
      have e1 : (ints l)[k]'(by rw [ints_len]; exact hlt) = .int .i64 (l[k]'hlt) := by simp [ints]
      rw [e1] at c1
      have HE : Hid (ints (l.take (k + 1)) = ints (l.take k) ++ [.int .i64 (l[k]'hlt)]) := show _ = _ by
        unfold ints
        rw [List.take_succ_eq_append_getElem hlt, List.map_append]; rfl
      generalize l[k]'hlt = x at *
      clear e1
      go_wp2_with (at_builtin; refine wp_rowI rfl _ _ rfl w.heap.size _ k _ rfl (HO.out.below (Nat.le_refl _) (bbox _ _)) wr.heap.size rfl x (by simp) (by omega) _ rfl ?_)
      intro g' cap' w' ho' hg hat hlt'
      have HO' : Hid (OwnV w.heap.size 3 1 (.slice (some ⟨g', 0, none⟩) (k + 1) cap') (k + 1) (ints (l.take (k + 1))) w') := show OwnV _ _ _ _ _ _ _ by rw [HE.out]; exact ho'
      have HB' : Hid (Below w.heap.size w w') := below_grown (bstep HB.out (bbox wr (.cells #[.int .i64 x] 3))) hg (by simp; have := HB.out.size; omega) (fun j e => (HO.out.blk j e).1)
      clear ho' hg hat hlt' c1
      go_wp2
      go_roundw
      case rel => exact ⟨k + 1, by omega, by go_num, HO', HB'⟩
      case measure => simp [intOf]; omega
    · have hke : k = l.length := by omega
      subst hke
      have HF : Hid (OwnV w.heap.size 3 1 (.slice a0 l.length c0) l.length (ints l) wr) := show OwnV _ _ _ _ _ _ _ by have := HO.out; rwa [List.take_length] at this
      go_wp2
      go_ret
      exact ⟨_, rfl, HF.out, HB.out⟩

/-- In the midst of CoordCopy: the argument's box, the result's, the copy's; what was copied. -/
structure DocC (w : World) (c : Crd) (vt : Value) (k : Nat) (v : Value) (us : Nat → Value) (W : World) : Prop where
  bel : Below w.heap.size w W
  src : CB W w.heap.size c vt
  zr : CB W (w.heap.size + 1) Crd.zero (.slice none 0 0)
  out : CB W (w.heap.size + 1 + 1) c v
  own : OwnW txnE 62 (w.heap.size + 3) W v (c.ts.take k) us
theorem DocC.below {w : World} {c : Crd} {vt : Value} {k : Nat} {v : Value} {us : Nat → Value} {W W' : World} (h : DocC w c vt k v us W) (hb : Below W.heap.size W W') : DocC w c vt k v us W' :=
  ⟨bstep h.bel hb, h.src.below h.src.1 hb, h.zr.below h.zr.1 hb, h.out.below h.out.1 hb, h.own.below (Nat.le_refl _) hb⟩
theorem CB.grown {w w' : World} {b : Nat} {c : Crd} {vt : Value} {r : Option Nat} (h : CB w b c vt) (hg : w.grownBy w' r) (hne : r ≠ some b) : CB w' b c vt := by
  obtain ⟨s, ⟨a0, a1, a2, a3⟩, f⟩ := h
  have hn : some b ≠ r := fun e => hne e.symm
  refine ⟨Nat.lt_of_lt_of_le s hg.size, ⟨?_, ?_, ?_, ?_⟩, fun o => by rw [hg.frozen_far _ s hn]; exact f o⟩
  all_goals rw [hg.cell_far _ s hn]; assumption
theorem DocC.grow {w : World} {c : Crd} {vt : Value} {k : Nat} {v v' : Value} {us us' : Nat → Value} {W W' : World} (h : DocC w c vt k v us W) (ho : OwnW txnE 62 (w.heap.size + 3) W' v' (c.ts.take (k + 1)) us') (hg : W.grownBy W' v.ownBlock) : DocC w c vt (k + 1) v' us' (W'.setCell ⟨w.heap.size + 1 + 1, 3, none⟩ v') := by
  have hrow : ∀ b, v.ownBlock = some b → w.heap.size + 3 ≤ b := fun b e => (h.own.o.blk b e).1
  have n2 : v.ownBlock ≠ some (w.heap.size + 1 + 1) := fun e => by have := hrow _ e; omega
  have n1 : v.ownBlock ≠ some (w.heap.size + 1) := fun e => by have := hrow _ e; omega
  have n0 : v.ownBlock ≠ some w.heap.size := fun e => by have := hrow _ e; omega
  exact ⟨(below_grown h.bel hg h.bel.size (fun b e => by have := hrow b e; omega)).setCell (p := ⟨w.heap.size + 1 + 1, 3, none⟩) (by show _ ≤ w.heap.size + 1 + 1; omega) _, (h.src.grown hg n0).far (by omega) _ _, (h.zr.grown hg n1).far (by omega) _ _, cb_set _ _ _ _ _ (h.out.grown hg n2), ho.box (by omega) _ _⟩

theorem lit7 (w : World) (T : TypeId) (x0 x1 x2 x3 x4 x5 x6 : Value) {g : Nat} (hg : g = w.heap.size) (j : Nat) (x : Value) (hx : ([x0, x1, x2, x3, x4, x5, x6] : List Value)[j]? = some x) : (w.alloc (.cells #[x0, x1, x2, x3, x4, x5, x6] T)).cell? ⟨g, j, none⟩ = some x := by
  subst hg
  have hj : j < 7 := (List.getElem?_eq_some_iff.1 hx).1
  rcases (show j = 0 ∨ j = 1 ∨ j = 2 ∨ j = 3 ∨ j = 4 ∨ j = 5 ∨ j = 6 by omega) with rfl | rfl | rfl | rfl | rfl | rfl | rfl <;> (simp at hx; subst hx; simp [go_sem])

set_option maxRecDepth 100000 in
set_option maxHeartbeats 2000000 in
theorem coordCopy_any (c : Crd) (vt : Value) (us : Nat → Value) (w : World) (h : RdC w c vt us) (hf : c.fits) :
    Calls Try.prog 23 #[.agg #[.int .i64 c.ck, .int .i64 c.nx, .int .i64 c.wt, vt]] w fun e w' => ∃ vt' us', e = .returned (.agg #[.int .i64 c.ck, .int .i64 c.nx, .int .i64 c.wt, vt']) ∧ FreshC w.heap.size w' c vt' us' ∧ Below w.heap.size w w' := by
  have HR : Hid (∀ W, Below w.heap.size w W → RdC W c vt us) := fun W hW => h.below (Nat.le_refl _) hW
  have HF : Hid c.fits := hf
  obtain ⟨av, cv, rfl, hl1, hl2⟩ := h.shape
  unfold maxLen at hl2
  have l3 : (c.ts.length : Int) ≤ 9223372036854775807 := by omega
  have hl4 : c.ts.length * 80 ≤ 140737488355328 := hf.t
  have HL4 : Hid (c.ts.length * 80 ≤ 140737488355328) := hl4
  clear h hf hl1 hl2 hl4
  go_enter Try.func23, Try.ntmps23
  go_upto_region 2 with fail
  have HD : Hid (DocC w c (.slice av c.ts.length cv) 0 (.slice none 0 0) (fun _ => .slice none 0 0) (((w.alloc (.cells #[.int .i64 c.ck, .int .i64 c.nx, .int .i64 c.wt, .slice av c.ts.length cv] 24)).alloc (.cells #[.int .i64 0, .int .i64 0, .int .i64 0, .slice none 0 0] 24)).alloc (.cells #[.int .i64 c.ck, .int .i64 c.nx, .int .i64 c.wt, .slice none 0 0] 24))) := by
    have e1 : (w.alloc (.cells #[.int .i64 c.ck, .int .i64 c.nx, .int .i64 c.wt, .slice av c.ts.length cv] 24)).heap.size = w.heap.size + 1 := by simp
    have e2 : ((w.alloc (.cells #[.int .i64 c.ck, .int .i64 c.nx, .int .i64 c.wt, .slice av c.ts.length cv] 24)).alloc (.cells #[.int .i64 0, .int .i64 0, .int .i64 0, .slice none 0 0] 24)).heap.size = w.heap.size + 1 + 1 := by simp
    have b1 := bbox w (.cells #[.int .i64 c.ck, .int .i64 c.nx, .int .i64 c.wt, .slice av c.ts.length cv] 24)
    have b2 := bbox (w.alloc (.cells #[.int .i64 c.ck, .int .i64 c.nx, .int .i64 c.wt, .slice av c.ts.length cv] 24)) (.cells #[.int .i64 0, .int .i64 0, .int .i64 0, .slice none 0 0] 24)
    have b3 := bbox ((w.alloc (.cells #[.int .i64 c.ck, .int .i64 c.nx, .int .i64 c.wt, .slice av c.ts.length cv] 24)).alloc (.cells #[.int .i64 0, .int .i64 0, .int .i64 0, .slice none 0 0] 24)) (.cells #[.int .i64 c.ck, .int .i64 c.nx, .int .i64 c.wt, .slice none 0 0] 24)
    have s0 := cb_new w c (.slice av c.ts.length cv) 24 w.heap.size rfl
    have z0 := cb_new (w.alloc (.cells #[.int .i64 c.ck, .int .i64 c.nx, .int .i64 c.wt, .slice av c.ts.length cv] 24)) Crd.zero (.slice none 0 0) 24 (w.heap.size + 1) e1.symm
    have o0 := cb_new ((w.alloc (.cells #[.int .i64 c.ck, .int .i64 c.nx, .int .i64 c.wt, .slice av c.ts.length cv] 24)).alloc (.cells #[.int .i64 0, .int .i64 0, .int .i64 0, .slice none 0 0] 24)) c (.slice none 0 0) 24 (w.heap.size + 1 + 1) e2.symm
    have s1 := s0.below s0.1 b2
    exact ⟨bstep (bstep b1 b2) b3, s1.below s1.1 b3, CB.below z0 z0.1 b3, o0, ownW_nil _ _ _ _ (by simp)⟩
  generalize ((w.alloc (.cells #[.int .i64 c.ck, .int .i64 c.nx, .int .i64 c.wt, .slice av c.ts.length cv] 24)).alloc (.cells #[.int .i64 0, .int .i64 0, .int .i64 0, .slice none 0 0] 24)).alloc (.cells #[.int .i64 c.ck, .int .i64 c.nx, .int .i64 c.wt, .slice none 0 0] 24) = W0 at *
  go_wp2
  go_loopw [4] (fun i W => ∃ k : Nat, k ≤ c.ts.length ∧ i = .int .i64 k ∧ Hid (∃ v us', DocC w c (.slice av c.ts.length cv) k v us' W)) (fun i _ => c.ts.length - (intOf i).toNat)
  case atStart => exact ⟨0, by omega, rfl, _, _, HD.out⟩
  case round =>
    obtain ⟨k, hk, rfl, HN⟩ := hrel
    obtain ⟨v, us', hd⟩ := HN.out
    have HD : Hid (DocC w c (.slice av c.ts.length cv) k v us' wr) := hd
    obtain ⟨s1, ⟨a0, a1, a2, a3⟩, f1⟩ := HD.out.src
    obtain ⟨z1, ⟨e0, e1, e2, e3⟩, g1⟩ := HD.out.zr
    obtain ⟨o1, ⟨d0, d1, d2, d3⟩, h1⟩ := HD.out.out
    by_cases hlt : k < c.ts.length
    · have hltv : (k : Int) < c.ts.length := by omega
      obtain ⟨gg, off, rfl, hq, q0, q1, q2, q3, q4, q5, q6⟩ := (HR.out wr HD.out.bel).txn k hlt
      have HTK : Hid (c.ts.take (k + 1) = c.ts.take k ++ [c.ts[k]'hlt]) := show _ = _ from List.take_succ_eq_append_getElem hlt
      have HTL : Hid ((c.ts.take k).length = k) := show _ = _ by rw [List.length_take]; omega
      have HL : Hid ((c.ts[k]'hlt).ps.length * 8 ≤ 140737488355328) := HF.out.p _ (List.getElem_mem hlt)
      obtain ⟨t, ht⟩ : ∃ t, c.ts[k]'hlt = t := ⟨_, rfl⟩
      rw [ht] at hq q0 q1 q2 q3 q5 q6 HTK HL
      obtain ⟨u, hu⟩ : ∃ u, us k = u := ⟨_, rfl⟩
      rw [hu] at q4 hq
      obtain ⟨bu, eu, rfl⟩ : ∃ au cu, u = .slice au t.ps.length cu := by
        obtain ⟨au, cu, e⟩ := hq.shape
        rw [ints_len] at e
        exact ⟨au, cu, e⟩
      have HQ : Hid (∀ W, Below wr.heap.size wr W → RdV W (.slice bu t.ps.length eu) (ints t.ps)) := fun W hW => hq.below (Nat.le_refl _) hW
      clear ht hu hq hd HN
      go_upto_region 6 with fail
      have HTB : Hid (TBox _ wr.heap.size 0 t (.slice bu t.ps.length eu)) := tbox_new wr t (.slice bu t.ps.length eu) 62
      have HBX : Hid (Below wr.heap.size wr _) := bbox wr (.cells #[.string t.nm, .int .i64 t.id, .int .i64 t.v, .int .i64 t.st, .slice bu t.ps.length eu, .int .i64 t.sn, .int .i64 t.dn] 62)
      have hz1 : wr.heap.size < (wr.alloc (.cells #[.string t.nm, .int .i64 t.id, .int .i64 t.v, .int .i64 t.st, .slice bu t.ps.length eu, .int .i64 t.sn, .int .i64 t.dn] 62)).heap.size := by simp
      have hfz : ∀ o, (wr.alloc (.cells #[.string t.nm, .int .i64 t.id, .int .i64 t.v, .int .i64 t.st, .slice bu t.ps.length eu, .int .i64 t.sn, .int .i64 t.dn] 62)).frozen? ⟨wr.heap.size, o, none⟩ = false := fun o => by simp [go_sem]
      generalize wr.alloc (.cells #[.string t.nm, .int .i64 t.id, .int .i64 t.v, .int .i64 t.st, .slice bu t.ps.length eu, .int .i64 t.sn, .int .i64 t.dn] 62) = W1 at *
      clear a0 a1 a2 a3 f1 s1 z1 e0 e1 e2 e3 g1 o1 d0 d1 d2 d3 h1 q0 q1 q2 q3 q4 q5 q6
      obtain ⟨q0, q1, q2, q3, q4, q5, q6⟩ := HTB.out
      go_wp2_with fail
      refine (intsCopy_any t.ps (.slice bu t.ps.length eu) _ HL.out (HQ.out _ HBX.out)).mono ?_
      rintro e w5 ⟨u5, rfl, ho5, hb5⟩
      obtain ⟨au, cu, rfl⟩ := ho5.shape
      have HD5 : Hid (DocC w c (.slice (some ⟨gg, off, none⟩) c.ts.length cv) k v us' w5) := (HD.out.below HBX.out).below hb5
      have HT5 : Hid (TBox w5 wr.heap.size 0 t (.slice bu t.ps.length eu)) := HTB.out.below hz1 hb5
      have hz5 : wr.heap.size < w5.heap.size := Nat.lt_of_lt_of_le hz1 hb5.size
      have hf5 : ∀ o, w5.frozen? ⟨wr.heap.size, o, none⟩ = false := fun o => (hb5.frozen (p := ⟨wr.heap.size, o, none⟩) hz1).trans (hfz o)
      have HO5 : Hid (OwnV W1.heap.size 3 1 (.slice au t.ps.length cu) t.ps.length (ints t.ps) w5) := ho5
      have hwW : wr.heap.size ≤ W1.heap.size := by omega
      clear q0 q1 q2 q3 q4 q5 q6 ho5 hb5 hfz
      obtain ⟨q0, q1, q2, q3, q4, q5, q6⟩ := HT5.out
      obtain ⟨o1, ⟨d0, d1, d2, d3⟩, h1⟩ := HD5.out.out
      obtain ⟨ax, cx, hv⟩ := HD.out.own.o.shape
      rw [HTL.out] at hv
      subst hv
      have hBw : w.heap.size + 3 ≤ wr.heap.size := HD.out.own.o.2
      have hne : w.heap.size + 1 + 1 ≠ wr.heap.size := by omega
      have HD6 : Hid (∀ x, DocC w c (.slice (some ⟨gg, off, none⟩) c.ts.length cv) k (.slice ax k cx) us' (w5.setCell ⟨wr.heap.size, 4, none⟩ x)) := fun x => by
        have h := HD5.out
        have hw : w.heap.size ≤ wr.heap.size := by omega
        exact ⟨h.bel.setCell (p := ⟨wr.heap.size, 4, none⟩) hw _, h.src.far (by omega) _ _, h.zr.far (by omega) _ _, h.out.far hne _ _, h.own.far (fun e => by have := (HD.out.own.o.blk _ e).2; omega) (fun i hi e => by have := ((HD.out.own.i i hi).blk _ e).2; omega) _ _⟩
      have HO6 : Hid (∀ x, OwnV W1.heap.size 3 1 (.slice au t.ps.length cu) t.ps.length (ints t.ps) (w5.setCell ⟨wr.heap.size, 4, none⟩ x)) := fun x => HO5.out.far (fun e => by have := (HO5.out.blk _ e).1; omega) _ _
      have hla : (w5.setCell ⟨wr.heap.size, 4, none⟩ (.slice au t.ps.length cu)).heap.size = w5.heap.size := by simp
      have HY1 : Hid (∀ b, (Value.slice au t.ps.length cu).ownBlock = some b → (Value.slice ax k cx).ownBlock ≠ some b) := fun b e e2 => by
        have h1 := (HO5.out.blk b e).1
        have h2 := (HD.out.own.o.blk b e2).2
        omega
      have HY2 : Hid (∀ i, i < (c.ts.take k).length → ∀ b, (Value.slice au t.ps.length cu).ownBlock = some b → (us' i).ownBlock ≠ some b) := fun i hi b e e2 => by
        have h1 := (HO5.out.blk b e).1
        have h2 := ((HD.out.own.i i hi).blk b e2).2
        omega
      have HY3 : Hid ((k + 1) * 80 ≤ 140737488355328 ∧ k + 1 ≤ maxLen) := show _ ∧ _ by
        have := HL4.out
        unfold maxLen
        omega
      go_wp2_with (at_builtin; go_must (refine wp_rowW txnE 62 22 zeroTV 80 infoTxn Try.underlying22 (by decide) rfl rfl _ _ rfl (w.heap.size + 3) (.slice ax k cx) (c.ts.take k) k HTL.out us' rfl ((HD6.out _).own.below (Nat.le_refl _) (bbox _ _)) _ rfl t (.slice au t.ps.length cu) (fun j x hx => lit7 _ _ _ _ _ _ _ _ _ (by simp) j x hx) (((HO6.out _).mono (by omega)).below (Nat.le_refl _) (bbox _ _)) HY1.out HY2.out HY3.out.1 HY3.out.2 _ rfl ?_))
      intro g' cap' w' ho' hg hat hlt'
      have HD7 : Hid (∃ v us', DocC w c (.slice (some ⟨gg, off, none⟩) c.ts.length cv) (k + 1) v us' (w'.setCell ⟨w.heap.size + 1 + 1, 3, none⟩ (.slice (some ⟨g', 0, none⟩) (k + 1) cap'))) := ⟨_, _, DocC.grow ((HD6.out _).below (bbox _ _)) (by rw [HTK.out]; exact ho') hg⟩
      have hxx : ∀ b, (Value.slice ax k cx).ownBlock = some b → w.heap.size + 3 ≤ b := fun b e => (HD.out.own.o.blk b e).1
      obtain ⟨p1, ⟨b0, b1, b2, b3⟩, l1⟩ := ((HD6.out (.slice au t.ps.length cu)).below (bbox _ (.cells #[.string t.nm, .int .i64 t.id, .int .i64 t.v, .int .i64 t.st, .slice au t.ps.length cu, .int .i64 t.sn, .int .i64 t.dn] 62))).out.grown hg (fun e => by have := hxx _ e; omega)
      clear ho' hg hat hlt' hxx
      go_wp2
      go_roundw
      case rel => exact ⟨k + 1, by omega, by go_num, HD7⟩
      case measure => simp [intOf]; omega
    · have hke : k = c.ts.length := by omega
      subst hke
      have HFF : Hid (FreshC w.heap.size (put4 wr (w.heap.size + 1) c v) c v us') := (FreshC.put4 (b := w.heap.size + 1) (by have := hd.own; rw [List.take_length] at this; exact this) (by omega) c _).mono (by omega)
      have HBz : Hid (Below w.heap.size w (put4 wr (w.heap.size + 1) c v)) := below_put4 hd.bel (by omega) _ _
      obtain ⟨ax, cx, hv⟩ := HD.out.own.o.shape
      rw [List.take_length] at hv
      subst hv
      clear hd HN
      go_wp2
      refine bodyPost_ret (v := .agg #[.int .i64 c.ck, .int .i64 c.nx, .int .i64 c.wt, .slice ax c.ts.length cx]) (by simp [results, Try.results23, go_sem, e0, e1, e2, e3]) rfl ⟨_, us', rfl, HFF.out, HBz.out⟩

end Go.Proofs.Ytjhpfnogdjpbmaa
