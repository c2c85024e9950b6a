/-
  The walk of the law LogCuts, and of slices.Clone of entries.
-/
import Derived.Test.YtknipikmbfdcnaaKgrow
import Derived.Lib.BufferMore
import Derived.Deep.RegionHeld3
import Derived.Deep.DeepCutAuto
namespace Go.Proofs.Ytknipikmbfdcnaa
open Go.RowKit
set_option linter.unusedVariables false
set_option linter.unusedSimpArgs false

section
variable {w : World} {ops : Array Oper} {rest : List Oper} {o : Oper} {a : Act} {Q : Exit → Act → World → Prop}
theorem wp_appEs (hgd : o.guard = none) (s x : Operand)
    (ho : o.op = .call { callee := .builtin .append, args := #[s, x], argTypes := #[30, 30] })
    (B : Nat) (v : Value) (es : List Ent) (hs : a.eval s = v) (hown : OwnE B v es w) (ad : Addr) (n cap : Nat) (r : List Ent) (hx : a.eval x = .slice (some ad) n cap) (hr : RdE w (.slice (some ad) n cap) r) (hlen : es.length + r.length ≤ 1099511627776)
    (h : ∀ v' w', OwnE B v' (es ++ r) w' → Below B w w' → wpList Try.prog ops Q rest (a.put o.dst v') w') :
    wpList Try.prog ops Q (o :: rest) a w := by
  obtain ⟨i, hi, hz0, hz1, hz2⟩ := info_parts infoEntry
  obtain ⟨ao, c', e, h1, h2, h3⟩ := hr
  simp only [Value.slice.injEq] at e
  obtain ⟨rfl, rfl, rfl⟩ := e
  have hfl : (r.flatMap Ent.cells).length = r.length * 7 := by
    clear h3 h1 hlen h hx
    induction r with
    | nil => simp
    | cons e r ih => rw [List.flatMap_cons, List.length_append, ih, cells_len, List.length_cons]; omega
  refine wpList_append_own _ hgd s x _ ho B _ i zeroE.val 7 64 Try.underlying30 hi hz0 hz1 hz2 rfl (by decide) v _ _ hs hown.1 ad r.length cap (r.flatMap Ent.cells) hx hfl ?_ ?_ (by unfold maxLen; omega) (by omega) hown.2 ?_
  · intro j u hj
    have hj' : j < r.length * 7 := by
      have := (List.getElem?_eq_some_iff.1 hj).1
      omega
    obtain ⟨g, e, hc⟩ := h3 (by omega)
    obtain rfl := Option.some.inj e
    have hd : j = j / 7 * 7 + j % 7 := by omega
    have hq := hc (j / 7) (by omega) (j % 7) (by omega)
    rw [← flat_get r (j / 7) (j % 7) (by omega) (by omega), ← hd, hj] at hq
    rw [Addr.add_lit, Nat.zero_add]
    exact hq
  · intro u hu
    obtain ⟨e, _, hu⟩ := List.mem_flatMap.1 hu
    simp [Ent.cells] at hu
    rcases hu with rfl | rfl | rfl | rfl | rfl | rfl | rfl <;> rfl
  · intro v' w' ho' hg _
    refine h v' w' ⟨by simpa [List.flatMap_append] using ho', Nat.le_trans hown.2 hg.size⟩ ?_
    exact (Below.refl B w).grown hg hown.2 (fun k hk => (hown.1.lt k hk).1)
end

section
variable {w : World} {ops : Array Oper} {o : Oper} {a : Act} {K : Act → World → Prop} {Q : Exit → Act → World → Prop} {E : Prop}
/-- An entry more, as one step of a region that draws its order. -/
theorem step_appE (hw : Region.wanted o (yielded ops a.tmps) = true) (s x : Operand)
    (ho : o.op = .call { callee := .builtin .append, args := #[s, x], argTypes := #[30, 30] })
    (B : Nat) (v : Value) (es : List Ent) (hs : a.eval s = v) (e : Ent) (hown : OwnE B v es w) (g : Nat) (hx : a.eval x = .slice (some ⟨g, 0, none⟩) 1 1)
    (hc : EBox w g e) (hlen : es.length + 1 ≤ 1099511627776)
    (h : ∀ v' w', OwnE B v' (es ++ [e]) w' → Below B w w' → K (a.put o.dst v') w') :
    if Region.wanted o (yielded ops a.tmps) = true then Oper.wp Try.prog o a w K Q else E := by
  rw [if_pos hw]
  obtain ⟨i, hi, hz0, hz1, hz2⟩ := info_parts infoEntry
  obtain ⟨_, c0, c1, c2, c3, c4, c5, c6⟩ := hc
  refine wp_append_own w s x _ ho B _ i zeroE.val 7 64 Try.underlying30 hi hz0 hz1 hz2 rfl (by decide) v _ _ hs hown.1 ⟨g, 0, none⟩ 1 1 e.cells hx rfl ?_ ?_ (by unfold maxLen; omega) (by omega) hown.2 ?_
  · intro j u hj
    have hj' : j < 7 := by
      have := (List.getElem?_eq_some_iff.1 hj).1
      simpa [Ent.cells] using this
    rw [Addr.add_lit, Nat.zero_add]
    rcases (show j = 0 ∨ j = 1 ∨ j = 2 ∨ j = 3 ∨ j = 4 ∨ j = 5 ∨ j = 6 from by omega) with rfl | rfl | rfl | rfl | rfl | rfl | rfl <;> (simp [Ent.cells] at hj; subst hj; assumption)
  · intro u hu
    simp [Ent.cells] at hu
    rcases hu with rfl | rfl | rfl | rfl | rfl | rfl | rfl <;> rfl
  · intro v' w' ho' hg _
    refine h v' w' ⟨by simpa [List.flatMap_append] using ho', Nat.le_trans hown.2 hg.size⟩ ?_
    exact (Below.refl B w).grown hg hown.2 (fun k hk => (hown.1.lt k hk).1)
end

set_option maxRecDepth 100000 in
set_option maxHeartbeats 1000000 in
theorem cloneE_none (w : World) : Calls Try.prog 49 #[.slice none 0 0] w fun e w' => ∃ v, e = .returned v ∧ OwnE w.heap.size v [] w' ∧ Below w.heap.size w w' := by
  have e0 := Lib.run_eql_slice_nil_nil (P := Try.prog) w (t := 30) 0 0 Try.underlying30
  go_enter Try.func49, Try.ntmps49
  go_wp2
  go_ret
  exact ⟨_, rfl, ownE_nil _ _ (Nat.le_refl _), Below.refl _ _⟩

set_option maxRecDepth 100000 in
set_option maxHeartbeats 1000000 in
theorem cloneE_some (es : List Ent) (ad : Addr) (n cap : Nat) (w : World) (hl : (es.length : Int) ≤ 1000) (h : RdE w (.slice (some ad) n cap) es) : Calls Try.prog 49 #[.slice (some ad) n cap] w fun e w' => ∃ v, e = .returned v ∧ OwnE w.heap.size v es w' ∧ Below w.heap.size w w' := by
  have e0 := Lib.run_eql_slice_some_nil (P := Try.prog) w (t := 30) ad n cap Try.underlying30
  have H : Hid (RdE w (.slice (some ad) n cap) es) := h
  clear h
  have o0 : OwnE w.heap.size (.slice (some ⟨w.heap.size, 0, none⟩) 0 0) [] (w.alloc (.cells #[] 23)) :=
    ⟨⟨by simp, .inr ⟨w.heap.size, 0, #[], rfl, Nat.le_refl _, Deep.blk_alloc_new w _, by simp, by simp [maxLen], by simp, by simp⟩⟩, (bbox _ _).size⟩
  go_enter Try.func49, Try.ntmps49
  go_wp2_with (at_builtin; refine wp_appEs rfl _ _ rfl _ _ _ rfl o0 _ _ _ es rfl (RdE.below H.out (Nat.le_refl _) (bbox _ _)) (by simp; omega) ?_)
  intro v' w' hown hb
  clear o0 H
  go_wp2
  go_ret
  exact ⟨_, rfl, by simpa using hown, (bbox _ _).trans hb⟩

theorem cloneE_any (es : List Ent) (ao : Option Addr) (n cap : Nat) (w : World) (hl : (es.length : Int) ≤ 1000) (hc : ao = none → cap = 0) (h : RdE w (.slice ao n cap) es) :
    Calls Try.prog 49 #[.slice ao n cap] w fun e w' => ∃ v, e = .returned v ∧ OwnE w.heap.size v es w' ∧ Below w.heap.size w w' := by
  cases ao with
  | none =>
    obtain ⟨a', c', e, h1, _, _⟩ := h
    simp only [Value.slice.injEq] at e
    obtain ⟨rfl, rfl, rfl⟩ := e
    obtain rfl := hc rfl
    have hl : es = [] := List.eq_nil_of_length_eq_zero (by omega)
    subst hl
    exact cloneE_none w
  | some ad => exact cloneE_some es ad n cap w hl h

/-- A log that is cut. -/
theorem cut_flat {es : List Ent} (h : Oks es) (hl : es.length ≤ 400) (k : Nat) (hk : k ≤ es.length) (u : Value) (w : World) (hr : Rd w u (flat es)) :
    Calls Try.prog 44 #[.agg #[u, .int .i64 0], .int .i64 k] w fun e w' => ∃ a c, e = .returned (.tuple #[.agg #[.slice a (flat (es.take k)).length c, .int .i64 0], .int .i64 0]) ∧ Own w.heap.size (.slice a (flat (es.take k)).length c) (flat (es.take k)) w' ∧ Below w.heap.size w w' := by
  have hfl := flat_len es h
  obtain ⟨h1, h2, _⟩ := lft_flat h hl 0 (by omega)
  rw [endOf_zero] at h1
  have h0 : cuf (flat es) 0 k = 0 := by
    unfold cuf
    rw [if_neg (by simpa using h1), h2, if_neg (by omega)]
  have hy : cutY (flat es) 0 k = 0 := by
    unfold cutY
    rw [if_pos (by omega)]
  refine (segCut_any (flat es) u 0 k w (by show (es.flatMap Ent.enc).length ≤ _; omega) hr).mono ?_
  rintro e w' ⟨hb, _, h3⟩
  obtain ⟨v, e1, e2⟩ := h3 h0
  simp only [Int.toNat_natCast, hy, h2] at e1 e2
  obtain ⟨a, c, rfl⟩ := e2.shape
  exact ⟨a, c, e1, e2, hb⟩
theorem cut_bad {es : List Ent} (h : Oks es) (hl : es.length ≤ 400) (u : Value) (w : World) (hr : Rd w u (flat es)) :
    Calls Try.prog 44 #[.agg #[u, .int .i64 0], .int .i64 ((es.length : Int) + 1)] w fun e w' => e = .returned (.tuple #[noLog, .int .i64 2]) ∧ Below w.heap.size w w' := by
  have hfl := flat_len es h
  obtain ⟨h1, h2, _⟩ := lft_flat h hl 0 (by omega)
  rw [endOf_zero] at h1
  have h0 : cuf (flat es) 0 ((es.length : Int) + 1) = 2 := by
    unfold cuf
    rw [if_neg (by simpa using h1), h2, if_pos (by omega)]
  refine (segCut_any (flat es) u 0 _ w (by show (es.flatMap Ent.enc).length ≤ _; omega) hr).mono ?_
  rintro e w' ⟨hb, h3, _⟩
  rw [h0] at h3
  exact ⟨h3 (by omega), hb⟩

set_option maxRecDepth 100000 in
set_option maxHeartbeats 4000000 in
theorem logCuts_core (rs : List Raw4) (v : Value) (n kd ra rb rc : Int) (w : World) (hl : (rs.length : Int) ≤ 9223372036854775807) (hn : I64 n) (hkd : I64 kd) (hra : I64 ra) (hrb : I64 rb) (hrc : I64 rc) (h : RdR w v rs) :
    Calls Try.prog 19 #[v, .int .i64 n, .agg #[.int .i64 kd, .int .i64 ra, .int .i64 rb, .int .i64 rc]] w fun e w' => e = .returned (.bool true) ∧ Below w.heap.size w w' := by
  have hok : Oks ((rs.map Raw4.ent).take 20) := fun e he => by
    obtain ⟨r, _, rfl⟩ := List.mem_map.1 (List.mem_of_mem_take he)
    exact r.ent_ok
  have hes : ((rs.map Raw4.ent).take 20).length ≤ 20 := by simp; omega
  have HM : Hid (∀ w, RdR w v rs → _) := fun w h => many_any rs v 20 w (by omega) hl h
  have HR : Hid (RdR w v rs) := h
  have HX : Hid (∀ w, _) := fun w => entry_any kd ra rb rc w hkd hra hrb hrc
  have hx := rawE_ok kd ra rb rc
  generalize rawE kd ra rb rc = x at *
  have HXO : Hid (x.flt = 0) := hx
  clear h hl hx
  go_enter Try.func19, Try.ntmps19
  go_wp2_with fail
  refine (HM.out _ (HR.out.below (bbox _ _))).mono ?_
  rintro e' w2 ⟨va, rfl, hva, hb2⟩
  have B2 := bstep (bbox _ _) hb2
  have hbx := box_cells (by simpa using hb2 : Below (w.heap.size + 1) _ w2)
  have R2 : w.heap.size < w2.heap.size ∧ w2.cell? ⟨w.heap.size, 0, none⟩ = some (.int .i64 kd) ∧ w2.cell? ⟨w.heap.size, 1, none⟩ = some (.int .i64 ra) ∧ w2.cell? ⟨w.heap.size, 2, none⟩ = some (.int .i64 rb) ∧ w2.cell? ⟨w.heap.size, 3, none⟩ = some (.int .i64 rc) :=
    ⟨by have := hb2.size; simp at this; omega, by rw [hbx 0]; simp, by rw [hbx 1]; simp, by rw [hbx 2]; simp, by rw [hbx 3]; simp⟩
  have HRB : Hid (∀ W, Below w2.heap.size w2 W → W.cell? ⟨w.heap.size, 0, none⟩ = some (.int .i64 kd) ∧ W.cell? ⟨w.heap.size, 1, none⟩ = some (.int .i64 ra) ∧ W.cell? ⟨w.heap.size, 2, none⟩ = some (.int .i64 rb) ∧ W.cell? ⟨w.heap.size, 3, none⟩ = some (.int .i64 rc)) := fun W hb => by
    obtain ⟨h0, h1, h2, h3, h4⟩ := R2
    exact ⟨(hb.cell (p := ⟨w.heap.size, 0, none⟩) h0).trans h1, (hb.cell (p := ⟨w.heap.size, 1, none⟩) h0).trans h2, (hb.cell (p := ⟨w.heap.size, 2, none⟩) h0).trans h3, (hb.cell (p := ⟨w.heap.size, 3, none⟩) h0).trans h4⟩
  clear HM HR hb2 hbx R2
  generalize (rs.map Raw4.ent).take 20 = es at *
  obtain ⟨a2, c2, rfl⟩ := hva.shape
  have hpk := pick_bd n ((es.length : Int) + 1) (by omega)
  have HP : Hid (∀ w, _) := fun w => picked_any n ((es.length : Int) + 1) w hn (by omega)
  have hes' : (es.length : Int) ≤ 20 := by omega
  go_wp2_with fail
  refine (HP.out _).mono ?_
  rintro e' w4 ⟨rfl, rfl⟩
  obtain ⟨kk, hkk⟩ := Int.eq_ofNat_of_zero_le hpk.1
  rw [hkk]
  have hk1 : kk ≤ es.length := by omega
  have hk' : (kk : Int) ≤ es.length := by omega
  obtain ⟨_, hd1, hd2, hd3⟩ := hva.caps
  have hd1' : (es.length : Int) ≤ c2 := by omega
  unfold maxLen at hd2
  have HV : Hid (RdE w4 (.slice a2 es.length c2) es) := hva.rd
  have HK1 : Hid (kk ≤ es.length ∧ es.length ≤ 20) := ⟨hk1, hes⟩
  have HLO : Hid (∀ W v, RdE W v es → _) := fun W v h => logOf_any es v W (by omega) hok h
  have HCU : Hid (∀ u W, Rd W u (flat es) → _) := fun u W h => cut_flat hok (by omega) kk hk1 u W h
  have HCB : Hid (∀ u W, Rd W u (flat es) → _) := fun u W h => cut_bad hok (by omega) u W h
  have HAP : Hid (∀ u W, Rd W u (flat (es.take kk)) → _) := fun u W h => append_flat (hok.take kk) (by simp; omega) 0 (by omega) HXO.out u 0 (by rw [endOf_zero]; rfl) W h
  have HEN : Hid (∀ u W, Rd W u (flat (es.take kk ++ [x])) → _) := fun u W h => entries_flat ((hok.take kk).snoc HXO.out) (by simp; omega) 0 (by omega) u 0 (by rw [endOf_zero]; rfl) W h
  have hbl := flat_len es hok
  have hF0 : ((flat es).length : Int) ≤ 1280 := by show ((es.flatMap Ent.enc).length : Int) ≤ _; omega
  clear HP hpk hkk hva hd1 hk1 hok hes hbl
  generalize flat es = F at *
  generalize flat (es.take kk ++ [x]) = F2 at *
  generalize flat (es.take kk) = F1 at *
  go_wp2_with fail
  refine (HLO.out _ _ HV.out).mono ?_
  rintro e' w5 ⟨a5, c5, rfl, hg5, hb5⟩
  have B5 := bstep B2 hb5
  have HV5 : Hid (RdE w5 (.slice a2 es.length c2) es) := RdE.below HV.out (Nat.le_refl _) hb5
  have HB45 : Hid (Below w4.heap.size w4 w5) := hb5
  clear hb5 B2 HV HLO
  go_wp2_with fail
  refine (HCU.out _ _ (hg5.rd.below (Nat.le_refl _) (bbox _ _))).mono ?_
  rintro e' w6 ⟨a6, c6, rfl, hg6, hb6⟩
  have hb6' := bstep (bbox _ _) hb6
  have B6 := bstep B5 hb6'
  have HV6 : Hid (RdE w6 (.slice a2 es.length c2) es) := RdE.below HV5.out (Nat.le_refl _) hb6'
  have HG6 : Hid (Own w4.heap.size (.slice a5 F.length c5) F w6) := hg5.below (Nat.le_refl _) hb6'
  have HL6 : Hid (LBox w6 w5.heap.size (.slice a5 F.length c5) 0) := (lbox_new w5 (.slice a5 F.length c5) 0 46).below hb6
  have HB46 : Hid (Below w4.heap.size w4 w6) := bstep HB45.out hb6'
  obtain ⟨q0, q1, q2, q3⟩ := HRB.out _ HB46.out
  clear hb6 hb6' B5 HV5 HCU hg5 HB45
  have hq := cell_lt q0
  have hqn := Nat.ne_of_lt hq
  go_wp2_with fail
  go_cut [13] (fun f W => f = .int .i64 0 ∧ ∃ a8 c8, LBox W w6.heap.size (.slice a8 F2.length c8) 0 ∧ Own (w6.heap.size + 1) (.slice a8 F2.length c8) F2 W ∧ Below w6.heap.size w6 W)
  case first =>
    go_region_with (first | (go_at_call 31; refine (HX.out _).mono ?_; rintro e w7 ⟨rfl, hb7⟩; have hb7' : Below (w6.alloc (.cells #[.slice a6 F1.length c6, .int .i64 0] 46)).heap.size (w6.alloc (.cells #[.slice a6 F1.length c6, .int .i64 0] 46)) w7 := bstep (by repeat (first | exact Below.refl _ _ | refine Below.drew ?_)) hb7; simp only [Ent.val]; have hg7 := (hg6.alloc (.cells #[.slice a6 F1.length c6, .int .i64 0] 46)).below (Nat.le_refl _) hb7'; obtain ⟨s1, s2, s3, s4⟩ := (lbox_new w6 (.slice a6 F1.length c6) 0 46).below hb7'; clear hb7) | (go_at_call 39; refine (HAP.out _ _ (hg7.rd.below (Nat.le_refl _) (by repeat (first | exact Below.refl _ _ | refine Below.drew ?_)))).mono ?_; rintro e w8 ⟨a8, c8, rfl, hg8, hb8⟩; have hB8 : Below w7.heap.size w7 w8 := bstep (by repeat (first | exact Below.refl _ _ | refine Below.drew ?_)) hb8; obtain ⟨t1, t2, t3, t4⟩ := LBox.below ⟨s1, s2, s3, s4⟩ hB8))
    all_goals
      go_wp2_with fail
      go_meet
    all_goals
      refine ⟨rfl, a8, c8, lbox_set (show LBox w8 w6.heap.size _ _ from ⟨t1, t2, t3, t4⟩) _ _, ?_, below_two (k := 0) (bstep (bstep (bbox _ _) hb7') hB8)⟩
      exact ((hg8.mono (C := w6.heap.size + 1) (by have := hb7'.size; simp at this ⊢; omega)).setCell (by omega) _ _).setCell (by omega) _ _
  case rest =>
    obtain ⟨rfl, a8, c8, LC, GC, B6W⟩ := hcut
    have BW := B6.trans (B6W.mono B6.size)
    have HLG : Hid (LBox wc w5.heap.size (.slice a5 F.length c5) 0) := LBox.below HL6.out B6W
    have HGG : Hid (Own w4.heap.size (.slice a5 F.length c5) F wc) := Own.below HG6.out (Nat.le_refl _) B6W
    have HVW : Hid (RdE wc (.slice a2 es.length c2) es) := RdE.below HV6.out (Nat.le_refl _) B6W
    have HB4W : Hid (Below w4.heap.size w4 wc) := HB46.out.trans (B6W.mono HB46.out.size)
    obtain ⟨u1, u2, u3, u4⟩ := LC
    clear B6W HL6 HG6 HV6 HB46 B6 hg6 q0 q1 q2 q3 HAP
    go_wp2_with fail
    refine (HEN.out _ _ GC.rd).mono ?_
    rintro e' w9 ⟨a9, c9, rfl, hv9, hb9⟩
    have B9 := bstep BW hb9
    have HLG9 := LBox.below HLG.out hb9
    have G9 := Own.below HGG.out (Nat.le_refl _) hb9
    have HV9 : Hid (RdE w9 (.slice a2 es.length c2) es) := RdE.below HVW.out (Nat.le_refl _) hb9
    have HB49 : Hid (Below w4.heap.size w4 w9) := bstep HB4W.out hb9
    obtain ⟨l1, l2, l3, l4⟩ := HLG9
    clear hb9 BW HLG HGG HVW HB4W u1 u2 u3 u4 GC HEN
    go_wp2_with fail
    refine (HCB.out _ _ G9.rd).mono ?_
    rintro e' w10 ⟨rfl, hb10⟩
    have B10 := bstep B9 hb10
    have hv10 := hv9.below (Nat.le_refl _) hb10
    have HV10 : Hid (RdE w10 (.slice a2 es.length c2) es) := RdE.below HV9.out (Nat.le_refl _) hb10
    have HB410 : Hid (Below w4.heap.size w4 w10) := bstep HB49.out hb10
    obtain ⟨q0, q1, q2, q3⟩ := HRB.out _ HB410.out
    clear hb10 B9 hv9 HV9 HB49 l1 l2 l3 l4 G9 HCB
    simp only [noLog]
    have hlen : (es.take kk ++ [x]).length = min kk es.length + 1 := by simp
    rw [hlen] at hv10
    have HG10 : Hid (RdE w10 (.slice a9 (min kk es.length + 1) c9) (es.take kk ++ [x])) := hv10.rd
    have HVt : Hid (RdE w10 (.slice a2 kk c2) (es.take kk)) := RdE.take HV10.out kk HK1.out.1
    have hkc : (kk : Int) ≤ (c2 : Int) := by omega
    have hk0 : (0 : Int) ≤ (kk : Int) := by omega
    have hq := cell_lt q0
    have hqn := Nat.ne_of_lt hq
    clear hv10 hlen
    go_wp2_with fail
    go_region_held3 (fun W => W.cell? ⟨w.heap.size, 0, none⟩ = some (.int .i64 kd) ∧ W.cell? ⟨w.heap.size, 1, none⟩ = some (.int .i64 ra) ∧ W.cell? ⟨w.heap.size, 2, none⟩ = some (.int .i64 rb) ∧ W.cell? ⟨w.heap.size, 3, none⟩ = some (.int .i64 rc)) (first | exact ⟨by assumption, by assumption, by assumption, by assumption⟩ | go_keep) (first | (go_at_call 49; refine (cloneE_any (es.take kk) _ _ _ _ (by have := HK1.out; simp; omega) hd3 (RdE.below HVt.out (Nat.le_refl _) (by repeat (first | exact Below.refl _ _ | refine Below.drew ?_ | refine Below.alloc ?_ (by simp) _)))).mono ?_; rintro e w11 ⟨v11, rfl, hv11, hb11⟩; have hB11 : Below w10.heap.size w10 w11 := bstep (by repeat (first | exact Below.refl _ _ | refine Below.drew ?_ | refine Below.alloc ?_ (by simp) _)) hb11; obtain ⟨r0, r1, r2, r3⟩ := HRB.out _ (bstep HB410.out hB11)) | (go_at_call 31; refine (HX.out _).mono ?_; rintro e w12 ⟨rfl, hb12⟩; have hB12 : Below w11.heap.size w11 w12 := bstep (by repeat (first | exact Below.refl _ _ | refine Below.drew ?_ | refine Below.alloc ?_ (by simp) _)) hb12; have hv12 := hv11.below (Nat.le_refl _) hB12; simp only [Ent.val]; obtain ⟨t0, t1, t2, t3⟩ := HRB.out _ (bstep (bstep HB410.out hB11) hB12)) | (refine step_appE (by first | rfl | (simp [Region.wanted, yielded, go_sem]; done)) _ _ rfl _ _ (es.take kk) rfl x (OwnE.below hv12 (Nat.le_refl _) (by repeat (first | exact Below.refl _ _ | refine Below.drew ?_ | refine Below.alloc ?_ (by simp) _))) _ rfl (EBox.below (ebox_new w12 x 23 w12.heap.size rfl) (by repeat (first | exact Below.refl _ _ | refine Below.drew ?_ | refine Below.alloc ?_ (by simp) _))) (by have := HK1.out; simp; omega) ?_; intro v13 w13 hv13 hb13; have hB13 : Below w10.heap.size w10 w13 := (bstep (bstep hB11 hB12) (by repeat (first | exact Below.refl _ _ | refine Below.drew ?_ | refine Below.alloc ?_ (by simp) _))).trans (hb13.mono (by simp)); obtain ⟨z0, z1, z2, z3⟩ := HRB.out _ (bstep HB410.out hB13)) | (go_at_call 29; refine (eqEntries_any (es.take kk ++ [x]) _ _ _ (by have := HK1.out; simp; omega) (RdE.below HG10.out (Nat.le_refl _) (bstep hB13 (by repeat (first | exact Below.refl _ _ | refine Below.drew ?_ | refine Below.alloc ?_ (by simp) _)))) (RdE.below hv13.rd (Nat.le_refl _) (by repeat (first | exact Below.refl _ _ | refine Below.drew ?_ | refine Below.alloc ?_ (by simp) _)))).mono ?_; rintro e w14 ⟨rfl, hb14⟩; have hB14 : Below w10.heap.size w10 w14 := bstep (bstep hB13 (by repeat (first | exact Below.refl _ _ | refine Below.drew ?_ | refine Below.alloc ?_ (by simp) _))) hb14; obtain ⟨y0, y1, y2, y3⟩ := HRB.out _ (bstep HB410.out hB14)))
    all_goals
      clear z0 z1 z2 z3 y0 y1 y2 y3 r0 r1 r2 r3 t0 t1 t2 t3 hv13 hv12 hv11 hb11 hb12 hb13 hb14
      go_wp2
      go_ret
      exact ⟨rfl, bstep B10 hB14⟩

end Go.Proofs.Ytknipikmbfdcnaa
