/-
  The walk of the law LogCrashes.
-/
import Derived.Test.YtknipikmbfdcnaaKgrow
import Derived.Deep.RegionHeld3
import Derived.Deep.DeepCutAuto
namespace Go.Proofs.Ytknipikmbfdcnaa
open Go.RowKit
set_option linter.unusedVariables false
set_option linter.unusedSimpArgs false

/-- A log that a call has answered, boxed. -/
def Res (wr W : World) (bc : Nat) (V : Value) (y : Int) (L : List Int) : Prop := LBox W bc V y ∧ Own wr.heap.size V L W ∧ Below wr.heap.size wr W
theorem res_new {wr w8 : World} {V : Value} {L : List Int} (hB : Below wr.heap.size wr w8) (ho : Own wr.heap.size V L w8) (y : Int) (T : TypeId) : Res wr (w8.alloc (.cells #[V, .int .i64 y] T)) w8.heap.size V y L :=
  ⟨lbox_new _ _ _ _, ho.alloc _, bstep hB (bbox _ _)⟩
theorem res_old {wr w8 : World} {V u0 : Value} {y0 : Int} {L : List Int} {bo C : Nat} (hB : Below wr.heap.size wr w8) (ho : Own C V L w8) (hO : LBox w8 bo u0 y0) (h1 : wr.heap.size ≤ bo) (h2 : bo < C) (y : Int) : Res wr ((w8.setCell ⟨bo, 0, none⟩ V).setCell ⟨bo, 1, none⟩ (.int .i64 y)) bo V y L :=
  ⟨lbox_set hO _ _, ((ho.setCell h2 _ _).setCell h2 _ _).mono (by omega), (hB.setCell (p := ⟨bo, 0, none⟩) h1 _).setCell (p := ⟨bo, 1, none⟩) h1 _⟩

theorem endOf_mono (es : List Ent) (i j : Nat) (hij : i ≤ j) (hj : j ≤ es.length) : endOf es i ≤ endOf es j := by
  by_cases h : i = j
  · subst h; exact Nat.le_refl _
  · exact Nat.le_of_lt (endOf_lt es i j (by omega) hj)

/-- A log behind a crash: what was safe is there, and some of the others. -/
theorem crash_flat {es : List Ent} (h : Oks es) (hl : es.length ≤ 400) (k : Nat) (hk : k ≤ es.length) (u : Value) (y : Int) (hy : y = endOf es k) (m : Int) (hm : 0 ≤ m) (w : World) (hr : Rd w u (flat es)) :
    Calls Try.prog 46 #[.agg #[u, .int .i64 y], .int .i64 m] w fun e w' => ∃ j a c, k ≤ j ∧ j ≤ es.length ∧ (m = 0 → j = k) ∧ e = .returned (.tuple #[.agg #[.slice a (flat (es.take j)).length c, .int .i64 (endOf es j : Nat)], .int .i64 0]) ∧ Own w.heap.size (.slice a (flat (es.take j)).length c) (flat (es.take j)) w' ∧ Below w.heap.size w w' := by
  subst hy
  have hfl : (flat es).length ≤ 64 * es.length := flat_len es h
  have hle : endOf es k ≤ (flat es).length := endOf_le es k
  obtain ⟨h1, h2, h3⟩ := lft_flat h hl k hk
  have h0 : crf (flat es) (endOf es k) m = 0 := by
    unfold crf
    rw [if_neg (by simpa using h1), if_neg (by omega)]
  have hlo : endOf es k ≤ leftOf (flat es) (endOf es k) m ∧ leftOf (flat es) (endOf es k) m ≤ (flat es).length ∧ (m = 0 → leftOf (flat es) (endOf es k) m = endOf es k) := by
    unfold leftOf
    split <;> omega
  have hcr := segCrash_any (flat es) u (endOf es k) m w (by omega) hr
  generalize leftOf (flat es) (endOf es k) m = left at hlo hcr
  obtain ⟨j, hj, hd, hej, hnj⟩ := decP_cut es h left ((flat es).take left).length (by simp only [List.length_take]; omega)
  have hd' : decL ((flat es).take left) = (es.take j, endOf es j) := hd
  have htk : (flat es).take (endOf es j) = flat (es.take j) := endOf_take es j
  have hkj : k ≤ j := by
    rcases Nat.lt_or_ge j k with hlt | hge
    · have e1 := hnj (by omega)
      have e2 := endOf_mono es (j + 1) k (by omega) hk
      omega
    · exact hge
  refine hcr.mono ?_
  rintro e w' ⟨hb, _, hh⟩
  obtain ⟨v, e1, e2⟩ := hh h0
  rw [hd'] at e1 e2
  simp only [htk] at e1 e2
  obtain ⟨a, c, rfl⟩ := e2.shape
  refine ⟨j, a, c, hkj, hj, fun hm0 => ?_, e1, e2, hb⟩
  have e3 := hlo.2.2 hm0
  rcases Nat.lt_or_ge k j with hlt | hge
  · have := endOf_lt es k j hlt hj
    omega
  · omega

set_option maxRecDepth 100000 in
set_option maxHeartbeats 4000000 in
theorem logCrashes_core (rs : List Raw4) (v : Value) (n m : Int) (w : World) (hl : (rs.length : Int) ≤ 9223372036854775807) (hn : I64 n) (hm : I64 m) (h : RdR w v rs) :
    Calls Try.prog 18 #[v, .int .i64 n, .int .i64 m] w fun e w' => e = .returned (.bool true) ∧ Below w.heap.size w w' := by
  have hok : Oks ((rs.map Raw4.ent).take 20) := fun e he => by
    obtain ⟨r, _, rfl⟩ := List.mem_map.1 (List.mem_of_mem_take he)
    exact r.ent_ok
  have hes : ((rs.map Raw4.ent).take 20).length ≤ 20 := by simp; omega
  have HM : Hid (∀ w, RdR w v rs → _) := fun w h => many_any rs v 20 w (by omega) hl h
  have HR : Hid (RdR w v rs) := h
  clear h hl
  go_enter Try.func18, Try.ntmps18
  go_wp2_with fail
  refine (HM.out _ HR.out).mono ?_
  rintro e' w2 ⟨va, rfl, hva, B2⟩
  clear HM HR
  generalize (rs.map Raw4.ent).take 20 = es at *
  obtain ⟨a2, c2, rfl⟩ := hva.shape
  have hpk := pick_bd n ((es.length : Int) + 1) (by omega)
  have HP : Hid (∀ w, _) := fun w => picked_any n ((es.length : Int) + 1) w hn (by omega)
  have hes' : (es.length : Int) ≤ 20 := by omega
  go_wp2_with fail
  refine (HP.out _).mono ?_
  rintro e' w4 ⟨rfl, rfl⟩
  obtain ⟨kk, hkk⟩ := Int.eq_ofNat_of_zero_le hpk.1
  rw [hkk]
  have hk1 : kk ≤ es.length := by omega
  have hk' : (kk : Int) ≤ es.length := by omega
  have htk : (es.take kk).length = kk := by simp; omega
  obtain ⟨_, hd1, hd2, hd3⟩ := hva.caps
  have hd1' : (es.length : Int) ≤ c2 := by omega
  unfold maxLen at hd2
  have HV : Hid (OwnE w.heap.size (.slice a2 es.length c2) es w4) := hva
  have HVt : Hid (RdE w4 (.slice a2 kk c2) (es.take kk)) := hva.rd.take kk hk1
  have HLO : Hid (∀ W v, RdE W v (es.take kk) → _) := fun W v h => logOf_any (es.take kk) v W (by omega) (hok.take kk) h
  have HSY : Hid (∀ u W, Rd W u (flat (es.take kk)) → _) := fun u W h => sync_flat (hok.take kk) (by omega) u W h
  have HK1 : Hid (kk ≤ es.length ∧ es.length ≤ 20) := ⟨hk1, hes⟩
  have HOK : Hid (Oks es) := hok
  have HE0 : Hid ((flat (es.take kk)).length = endOf es kk) := show _ = _ from rfl
  have hF0 : ((flat (es.take kk)).length : Int) ≤ 1280 := by
    have := flat_len (es.take kk) (hok.take kk)
    show (((es.take kk).flatMap Ent.enc).length : Int) ≤ _
    omega
  clear HP hpk hkk hva hd1 hk1 hok hes htk
  generalize hF : flat (es.take kk) = F0 at *
  have HF0 : Hid (flat (es.take kk) = F0) := hF
  clear hF
  go_wp2_with fail
  refine (HLO.out _ _ HVt.out).mono ?_
  rintro e' w5 ⟨a5, c5, rfl, hg5, hb5⟩
  have B5 := bstep B2 hb5
  have HV5 : Hid (OwnE w.heap.size (.slice a2 es.length c2) es w5) := OwnE.below HV.out (Nat.le_refl _) hb5
  clear hb5 B2 HV HVt HLO
  go_wp2_with fail
  refine (HSY.out _ _ (hg5.rd.below (Nat.le_refl _) (bbox _ _))).mono ?_
  rintro e' w6 ⟨a6, c6, rfl, hg6, hb6⟩
  have hb6' := bstep (bbox _ _) hb6
  have B6 := bstep B5 hb6'
  have HV6 : Hid (OwnE w.heap.size (.slice a2 es.length c2) es w6) := OwnE.below HV5.out (Nat.le_refl _) hb6'
  have L6 := (lbox_new w5 (.slice a5 F0.length c5) 0 46).below hb6
  have HL6 : Hid _ := L6
  obtain ⟨l1, l2, l3, l4⟩ := L6
  have HY : Hid ((F0.length : Int) = endOf es kk) := show _ = _ by rw [HE0.out]
  have hsz5 : w.heap.size ≤ w5.heap.size := B5.size
  have BB6 : Below w5.heap.size w5 ((w6.setCell ⟨w5.heap.size, 0, none⟩ (.slice a6 F0.length c6)).setCell ⟨w5.heap.size, 1, none⟩ (.int .i64 F0.length)) := below_two (k := 0) hb6'
  have LL6 := lbox_set HL6.out (.slice a6 F0.length c6) F0.length
  have GG6 : Own (w5.heap.size + 1) (.slice a6 F0.length c6) F0 ((w6.setCell ⟨w5.heap.size, 0, none⟩ (.slice a6 F0.length c6)).setCell ⟨w5.heap.size, 1, none⟩ (.int .i64 F0.length)) := ((hg6.mono (C := w5.heap.size + 1) (by simp)).setCell (by omega) _ _).setCell (by omega) _ _
  have HBB : Hid _ := BB6
  have HLL : Hid _ := LL6
  have HGG : Hid (Own (w5.heap.size + 1) (.slice a6 F0.length c6) F0 ((w6.setCell ⟨w5.heap.size, 0, none⟩ (.slice a6 F0.length c6)).setCell ⟨w5.heap.size, 1, none⟩ (.int .i64 F0.length))) := GG6
  have HB5 : Hid (Below w.heap.size w w5) := B5
  clear BB6 LL6 GG6 hb6 hb6' B5 HSY hg5 hg6 B6 HV6 HE0
  by_cases hkl : kk < es.length
  · obtain ⟨a', c', e0, _, _, h3⟩ := (OwnE.rd (show OwnE w.heap.size (.slice a2 es.length c2) es w5 from HV5.out))
    simp only [Value.slice.injEq] at e0
    obtain ⟨rfl, _, rfl⟩ := e0
    obtain ⟨g, rfl, hcells⟩ := h3 (by omega)
    have HCE : Hid (∀ i, (h : i < es.length) → ∀ j, j < 7 → w5.cell? ⟨g, i * 7 + j, none⟩ = (es[i]'h).cells[j]?) := hcells
    have hck : ¬ (c2 = kk) := by omega
    have hkl' : (kk : Int) < es.length := by omega
    have hsub : ((es.length - kk : Nat) : Int) = (es.length : Int) - kk := by omega
    have HV5R : Hid (RdE w5 (.slice (some ⟨g, 0, none⟩) es.length c2) es) := OwnE.rd (show OwnE w.heap.size _ es w5 from HV5.out)
    clear hcells h3 HV5
    go_wp2
    go_loopw [47] (fun i wr => ∃ k : Nat, k ≤ es.length - kk ∧ i = .int .i64 k ∧ ∃ a c, LBox wr w5.heap.size (.slice a (flat (es.take (kk + k))).length c) F0.length ∧ Own (w5.heap.size + 1) (.slice a (flat (es.take (kk + k))).length c) (flat (es.take (kk + k))) wr ∧ Below w5.heap.size w5 wr) (fun i _ => (es.length - kk) - (intOf i).toNat)
    case atStart =>
      refine ⟨0, by omega, rfl, a6, c6, ?_⟩
      rw [Nat.add_zero, HF0.out]
      exact ⟨HLL.out, HGG.out, HBB.out⟩
    case round =>
      obtain ⟨k, hk, rfl, a, c, hL, hown, hbel⟩ := hrel
      clear HLL HGG HBB HL6
      by_cases hlt : k < es.length - kk
      · have hidx : kk + k < es.length := by omega
        obtain ⟨a0, a1, a2, a3, a4, a5, a6⟩ := seven (HCE.out (kk + k) hidx)
        have hge := cell_lt a0
        have hadd : (kk + k) * 7 = kk * 7 + k * 7 := by omega
        rw [hadd] at a0 a1 a2 a3 a4 a5 a6
        have q0 := (hbel.cell (p := ⟨g, kk * 7 + k * 7, none⟩) hge).trans a0
        have q1 := (hbel.cell (p := ⟨g, kk * 7 + k * 7 + 1, none⟩) hge).trans a1
        have q2 := (hbel.cell (p := ⟨g, kk * 7 + k * 7 + 2, none⟩) hge).trans a2
        have q3 := (hbel.cell (p := ⟨g, kk * 7 + k * 7 + 3, none⟩) hge).trans a3
        have q4 := (hbel.cell (p := ⟨g, kk * 7 + k * 7 + 4, none⟩) hge).trans a4
        have q5 := (hbel.cell (p := ⟨g, kk * 7 + k * 7 + 5, none⟩) hge).trans a5
        have q6 := (hbel.cell (p := ⟨g, kk * 7 + k * 7 + 6, none⟩) hge).trans a6
        have hok := HOK.out es[kk + k] (List.getElem_mem hidx)
        have htl : (es.take (kk + k)).length < 400 := by have := HK1.out; simp; omega
        have HC : Hid (∀ u w, Rd w u (flat (es.take (kk + k))) → _) := fun u w hr => append_flat (HOK.out.take (kk + k)) htl kk (by simp; omega) hok u F0.length (by rw [endOf_take_le es (kk + k) kk (by omega)]; exact HY.out) w hr
        have HS : Hid (es.take (kk + k) ++ [es[kk + k]] = es.take (kk + (k + 1))) := show _ = _ from (List.take_succ_eq_append_getElem hidx).symm
        rw [HS.out] at HC
        generalize es[kk + k] = x at *
        clear a0 a1 a2 a3 a4 a5 a6 hok htl HS hadd
        obtain ⟨l1, l2, l3, l4⟩ := hL
        have HL0 : Hid (LBox wr w5.heap.size (.slice a (flat (es.take (kk + k))).length c) F0.length) := ⟨l1, l2, l3, l4⟩
        generalize hF1 : flat (es.take (kk + (k + 1))) = F1 at *
        generalize flat (es.take (kk + k)) = FK at *
        have hlt' : (k : Int) < (es.length : Int) - kk := by omega
        go_wp2_with fail
        refine (HC.out _ _ (hown.rd.below (Nat.le_refl _) (bbox _ _))).mono ?_
        rintro e' w3 ⟨a3, c3, rfl, hown3, hb3⟩
        have hb3' := bstep (bbox _ _) hb3
        have L3 := LBox.below HL0.out hb3'
        have hbel3 := bstep hbel hb3'
        have HL3 : Hid (LBox w3 w5.heap.size (.slice a FK.length c) F0.length) := L3
        obtain ⟨m1, m2, m3, m4⟩ := L3
        clear hb3 hb3' hown HC q0 q1 q2 q3 q4 q5 q6 l2 l3 l4 hbel HL0
        go_wp2
        go_roundw
        case rel =>
          refine ⟨k + 1, by omega, by go_num, a3, c3, ?_⟩
          rw [hF1]
          refine ⟨lbox_set HL3.out _ _, ?_, ?_⟩
          · exact ((hown3.mono (C := w5.heap.size + 1) (by simp; omega)).setCell (by omega) _ _).setCell (by omega) _ _
          · exact below_two (k := 0) (v0 := .slice a3 F1.length c3) (v1 := .int .i64 F0.length) hbel3
        case measure => simp [intOf]; omega
      · have hke : kk + k = es.length := by omega
        rw [hke, List.take_length] at hL hown
        have BW := HB5.out.trans (hbel.mono hsz5)
        have EVW := RdE.below HV5R.out (Nat.le_refl _) hbel
        have GW := hown
        have LW : Hid (LBox wr w5.heap.size (.slice a (flat es).length c) F0.length) := hL
        have HYY : Hid ((F0.length : Int) = endOf es kk) := HY.out
        obtain ⟨m1, m2, m3, m4⟩ := hL
        clear hke HCE hown hbel HV5R HF0
        generalize hFE : flat es = FE at *
        have HFE : Hid (flat es = FE) := hFE
        clear hFE
        have HPK : Hid (∀ w, _) := fun w => picked_any m 300 w hm (by omega)
        have hpm := pick_bd m 300 (by omega)
        have HCR : Hid (∀ (mm : Int), 0 ≤ mm → ∀ u W, Rd W u FE → _) := fun mm hmm u W hr => crash_flat HOK.out (by have := HK1.out; omega) kk HK1.out.1 u _ HYY.out mm hmm W (by rw [HFE.out]; exact hr)
        have HEN : Hid (∀ j, j ≤ es.length → ∀ u W, Rd W u (flat (es.take j)) → _) := fun j hj u W hr => entries_flat (HOK.out.take j) (by have := HK1.out; simp; omega) j (by simp; omega) u (endOf es j : Nat) (by rw [endOf_take_le es j j (Nat.le_refl _)]) W hr
        have HBW : Hid _ := BW
        have HEW : Hid _ := EVW
        have HGW : Hid (Own (w5.heap.size + 1) _ FE wr) := GW
        have hm1 := m1
        have hmn := Nat.ne_of_lt m1
        go_wp2_with fail
        go_cut [14, 15] (fun pc f W => ∃ bc j a8 c8, pc = .pointer (some ⟨bc, 0, none⟩) ∧ f = .int .i64 0 ∧ Hid (kk ≤ j ∧ j ≤ es.length) ∧ Res wr W bc (.slice a8 (flat (es.take j)).length c8) (endOf es j : Nat) (flat (es.take j)))
        case first =>
          go_region_held3 (fun W => W.cell? ⟨w5.heap.size, 0, none⟩ = some (.slice a FE.length c) ∧ W.cell? ⟨w5.heap.size, 1, none⟩ = some (.int .i64 F0.length)) (first | exact ⟨by assumption, by assumption⟩ | (refine ⟨?_, ?_⟩ <;> (rw [lcell_far _ _ _ hmn, lcell_far _ _ _ hmn]; assumption)) | go_keep) (first | (go_at_call 33; refine (HPK.out _).mono ?_; rintro e wp ⟨rfl, rfl⟩) | (go_at_call 46; refine (HCR.out _ hpm.1 _ _ (HGW.out.rd.below (Nat.le_refl _) (by repeat (first | exact Below.refl _ _ | refine Below.drew ?_ | refine Below.alloc ?_ (by simp) _)))).mono ?_; rintro e w8 ⟨j, a8, c8, hkj, hj, _, rfl, hg8, hb8⟩; (have hB8 : Below wr.heap.size wr w8 := bstep (by repeat (first | exact Below.refl _ _ | refine Below.drew ?_ | refine Below.alloc ?_ (by simp) _)) hb8); obtain ⟨n1, n2, n3, n4⟩ := LBox.below LW.out hB8; obtain ⟨hcc, hff⟩ := bcell hb8; have p0 := hcc wr.heap.size 0; have p1 := hcc wr.heap.size 1; have p2 := hff wr.heap.size; (try simp at p0 p1 p2); clear hcc hff; generalize hFJ : flat (es.take j) = FJ at *; (have HFJ : Hid (flat (es.take j) = FJ) := hFJ); clear hFJ; have hn1 := Nat.ne_of_lt n1))
          all_goals
            go_wp2_with fail
            go_meet
          all_goals first | (refine ⟨_, j, a8, c8, rfl, rfl, ⟨hkj, hj⟩, ?_⟩; rw [HFJ.out]; exact res_new hB8 (hg8.mono (by simp)) _ _) | (refine ⟨_, j, a8, c8, rfl, rfl, ⟨hkj, hj⟩, ?_⟩; rw [HFJ.out]; exact res_old hB8 hg8 ⟨cell_lt p0, p0, p1, p2⟩ (Nat.le_refl _) (by simp) _)
        case rest =>
          obtain ⟨bc, j, a8, c8, rfl, rfl, HJ, ⟨o1, o2, o3, o4⟩, ho, hbw⟩ := hcut
          have B8 := HBW.out.trans (hbw.mono HBW.out.size)
          have HEV8 : Hid (RdE wc _ es) := RdE.below HEW.out (Nat.le_refl _) hbw
          have HG8 : Hid (Own (w5.heap.size + 1) _ FE wc) := Own.below HGW.out (Nat.le_refl _) hbw
          have HLG8 : Hid _ := LBox.below LW.out hbw
          have hen := HEN.out j HJ.out.2
          have HENJ : Hid _ := hen
          have hjl : (es.take j).length = j := by have := HJ.out; simp; omega
          rw [hjl] at HENJ
          have hkj' : (kk : Int) ≤ j := by have := HJ.out; omega
          have hj' : (j : Int) ≤ es.length := by have := HJ.out; omega
          clear hbw HBW HEW HGW LW m1 m2 m3 m4 hpm HPK hen hjl hm1 hmn BW EVW GW
          generalize flat (es.take j) = FJ at *
          generalize endOf es j = ej at *
          go_wp2_with fail
          refine (HENJ.out _ _ ho.rd).mono ?_
          rintro e' w9 ⟨a9, c9, rfl, hv9, hb9⟩
          have B9 := bstep B8 hb9
          have HEV9 : Hid (RdE w9 _ es) := RdE.below HEV8.out (Nat.le_refl _) hb9
          have G9 := Own.below HG8.out (Nat.le_refl _) hb9
          have HLG9 := LBox.below HLG8.out hb9
          clear hb9 B8 HEV8 HG8 HLG8 ho HENJ o1 o2 o3 o4
          obtain ⟨m1, m2, m3, m4⟩ := HLG9
          go_wp2_with fail
          refine (HCR.out 0 (by omega) _ _ G9.rd).mono ?_
          rintro e' w10 ⟨i, a10, c10, hik0, hi, hi0, rfl, hg10, hb10⟩
          have hik : i = kk := hi0 rfl
          rw [hik] at hg10 ⊢
          have B10 := bstep B9 hb10
          have HEV10 : Hid (RdE w10 _ es) := RdE.below HEV9.out (Nat.le_refl _) hb10
          have hv10 := hv9.below (Nat.le_refl _) hb10
          have hen := HEN.out kk HK1.out.1
          have HENK : Hid _ := hen
          have hil : (es.take kk).length = kk := by have := HK1.out; rw [List.length_take]; omega
          rw [hil] at HENK
          clear hb10 B9 HEV9 G9 m1 m2 m3 m4 hv9 HCR HEN hen hil hi0 hi hik hik0 i
          generalize flat (es.take kk) = FK0 at *
          generalize endOf es kk = ek at *
          have hjj : ((j : Int) == (j : Int)) = true := by simp
          go_wp2_with fail
          refine (HENK.out _ _ (hg10.rd.below (Nat.le_refl _) (bbox _ _))).mono ?_
          rintro e' w11 ⟨a11, c11, rfl, hv11, hb11⟩
          have hb11' := bstep (bbox _ _) hb11
          have B11 := bstep B10 hb11'
          have EV11 := RdE.below HEV10.out (Nat.le_refl _) hb11'
          have hv11' := hv10.below (Nat.le_refl _) hb11'
          have EVj := EV11.take j HJ.out.2
          have EVk := EV11.take kk HK1.out.1
          have HEJ : Hid (RdE w11 _ (es.take j)) := EVj
          have HEK : Hid (RdE w11 _ (es.take kk)) := EVk
          have HGJ : Hid (RdE w11 _ (es.take j)) := hv11'.rd
          have HGK : Hid (RdE w11 _ (es.take kk)) := hv11.rd
          clear hb11 hb11' B10 HEV10 hv10 EV11 hv11' hv11 EVj EVk hg10 HENK
          go_wp2_with fail
          refine (eqEntries_any (es.take j) _ _ _ (by have := HK1.out; simp; omega) HGJ.out HEJ.out).mono ?_
          rintro e' w12 ⟨rfl, hb12⟩
          have B12 := bstep B11 hb12
          have HEK2 : Hid (RdE w12 _ (es.take kk)) := RdE.below HEK.out (Nat.le_refl _) hb12
          have HGK2 : Hid (RdE w12 _ (es.take kk)) := RdE.below HGK.out (Nat.le_refl _) hb12
          clear hb12 B11 HEJ HEK HGJ HGK
          go_wp2_with fail
          refine (eqEntries_any (es.take kk) _ _ _ (by have := HK1.out; simp; omega) HGK2.out HEK2.out).mono ?_
          rintro e' w13 ⟨rfl, hb13⟩
          have B13 := bstep B12 hb13
          clear hb13 B12 HEK2 HGK2
          go_wp2_with fail
          go_ret
          exact ⟨rfl, B13⟩
  · have hke : es.length = kk := by have := HK1.out; omega
    subst hke
    have BW := HB5.out.trans (HBB.out.mono hsz5)
    have EVW := RdE.below (OwnE.rd (show OwnE w.heap.size (.slice a2 es.length c2) es w5 from HV5.out)) (Nat.le_refl _) HBB.out
    have GW := HGG.out
    have hTL := HF0.out
    rw [List.take_length] at hTL
    have LW := HLL
    have HYY : Hid ((F0.length : Int) = endOf es es.length) := HY.out
    have HFE : Hid (flat es = F0) := hTL
    clear hTL HBB HGG HLL HV5
    by_cases hck : c2 = es.length
    all_goals
      try subst hck
      go_wp2
      refine wp_loop_rounds 1 ?_
      rw [rounds_succ]
      obtain ⟨m1, m2, m3, m4⟩ := LW.out
      generalize ((w6.setCell ⟨w5.heap.size, 0, none⟩ (.slice a6 F0.length c6)).setCell ⟨w5.heap.size, 1, none⟩ (.int .i64 F0.length)) = wr at *
      have HPK : Hid (∀ w, _) := fun w => picked_any m 300 w hm (by omega)
      have hpm := pick_bd m 300 (by omega)
      have HCR : Hid (∀ (mm : Int), 0 ≤ mm → ∀ u W, Rd W u F0 → _) := fun mm hmm u W hr => crash_flat HOK.out (by have := HK1.out; omega) es.length HK1.out.1 u _ HYY.out mm hmm W (by rw [HFE.out]; exact hr)
      have HEN : Hid (∀ j, j ≤ es.length → ∀ u W, Rd W u (flat (es.take j)) → _) := fun j hj u W hr => entries_flat (HOK.out.take j) (by have := HK1.out; simp; omega) j (by simp; omega) u (endOf es j : Nat) (by rw [endOf_take_le es j j (Nat.le_refl _)]) W hr
      have HBW : Hid _ := BW
      have HEW : Hid _ := EVW
      have HGW : Hid (Own (w5.heap.size + 1) _ F0 wr) := GW
      have hm1 := m1
      have hmn := Nat.ne_of_lt m1
      go_wp2_with fail
      go_cut [14, 15] (fun pc f W => ∃ bc j a8 c8, pc = .pointer (some ⟨bc, 0, none⟩) ∧ f = .int .i64 0 ∧ Hid (es.length ≤ j ∧ j ≤ es.length) ∧ Res wr W bc (.slice a8 (flat (es.take j)).length c8) (endOf es j : Nat) (flat (es.take j)))
      case first =>
        go_region_held3 (fun W => W.cell? ⟨w5.heap.size, 0, none⟩ = some (.slice a6 F0.length c6) ∧ W.cell? ⟨w5.heap.size, 1, none⟩ = some (.int .i64 F0.length)) (first | exact ⟨by assumption, by assumption⟩ | (refine ⟨?_, ?_⟩ <;> (rw [lcell_far _ _ _ hmn, lcell_far _ _ _ hmn]; assumption)) | go_keep) (first | (go_at_call 33; refine (HPK.out _).mono ?_; rintro e wp ⟨rfl, rfl⟩) | (go_at_call 46; refine (HCR.out _ hpm.1 _ _ (HGW.out.rd.below (Nat.le_refl _) (by repeat (first | exact Below.refl _ _ | refine Below.drew ?_ | refine Below.alloc ?_ (by simp) _)))).mono ?_; rintro e w8 ⟨j, a8, c8, hkj, hj, _, rfl, hg8, hb8⟩; (have hB8 : Below wr.heap.size wr w8 := bstep (by repeat (first | exact Below.refl _ _ | refine Below.drew ?_ | refine Below.alloc ?_ (by simp) _)) hb8); obtain ⟨n1, n2, n3, n4⟩ := LBox.below LW.out hB8; obtain ⟨hcc, hff⟩ := bcell hb8; have p0 := hcc wr.heap.size 0; have p1 := hcc wr.heap.size 1; have p2 := hff wr.heap.size; (try simp at p0 p1 p2); clear hcc hff; generalize hFJ : flat (es.take j) = FJ at *; (have HFJ : Hid (flat (es.take j) = FJ) := hFJ); clear hFJ; have hn1 := Nat.ne_of_lt n1))
        all_goals
          go_wp2_with fail
          go_meet
        all_goals first | (refine ⟨_, j, a8, c8, rfl, rfl, ⟨hkj, hj⟩, ?_⟩; rw [HFJ.out]; exact res_new hB8 (hg8.mono (by simp)) _ _) | (refine ⟨_, j, a8, c8, rfl, rfl, ⟨hkj, hj⟩, ?_⟩; rw [HFJ.out]; exact res_old hB8 hg8 ⟨cell_lt p0, p0, p1, p2⟩ (Nat.le_refl _) (by simp) _)
      case rest =>
        obtain ⟨bc, j, a8, c8, rfl, rfl, HJ, ⟨o1, o2, o3, o4⟩, ho, hbw⟩ := hcut
        have B8 := HBW.out.trans (hbw.mono HBW.out.size)
        have HEV8 : Hid (RdE wc _ es) := RdE.below HEW.out (Nat.le_refl _) hbw
        have HG8 : Hid (Own (w5.heap.size + 1) _ F0 wc) := Own.below HGW.out (Nat.le_refl _) hbw
        have HLG8 : Hid _ := LBox.below LW.out hbw
        have hen := HEN.out j HJ.out.2
        have HENJ : Hid _ := hen
        have hjl : (es.take j).length = j := by have := HJ.out; simp; omega
        rw [hjl] at HENJ
        have hkj' : (es.length : Int) ≤ j := by have := HJ.out; omega
        have hj' : (j : Int) ≤ es.length := by have := HJ.out; omega
        clear hbw HBW HEW HGW LW m1 m2 m3 m4 hpm HPK hen hjl hm1 hmn BW EVW GW
        generalize flat (es.take j) = FJ at *
        generalize endOf es j = ej at *
        go_wp2_with fail
        refine (HENJ.out _ _ ho.rd).mono ?_
        rintro e' w9 ⟨a9, c9, rfl, hv9, hb9⟩
        have B9 := bstep B8 hb9
        have HEV9 : Hid (RdE w9 _ es) := RdE.below HEV8.out (Nat.le_refl _) hb9
        have G9 := Own.below HG8.out (Nat.le_refl _) hb9
        have HLG9 := LBox.below HLG8.out hb9
        clear hb9 B8 HEV8 HG8 HLG8 ho HENJ o1 o2 o3 o4
        obtain ⟨m1, m2, m3, m4⟩ := HLG9
        go_wp2_with fail
        refine (HCR.out 0 (by omega) _ _ G9.rd).mono ?_
        rintro e' w10 ⟨i, a10, c10, hik0, hi, hi0, rfl, hg10, hb10⟩
        have hik : i = es.length := hi0 rfl
        rw [hik] at hg10 ⊢
        have B10 := bstep B9 hb10
        have HEV10 : Hid (RdE w10 _ es) := RdE.below HEV9.out (Nat.le_refl _) hb10
        have hv10 := hv9.below (Nat.le_refl _) hb10
        have hen := HEN.out es.length HK1.out.1
        have HENK : Hid _ := hen
        have hil : (es.take es.length).length = es.length := by have := HK1.out; rw [List.length_take]; omega
        rw [hil] at HENK
        clear hb10 B9 HEV9 G9 m1 m2 m3 m4 hv9 HCR HEN hen hil hi0 hi hik hik0 i
        generalize flat (es.take es.length) = FK0 at *
        generalize endOf es es.length = ek at *
        have hjj : ((j : Int) == (j : Int)) = true := by simp
        go_wp2_with fail
        refine (HENK.out _ _ (hg10.rd.below (Nat.le_refl _) (bbox _ _))).mono ?_
        rintro e' w11 ⟨a11, c11, rfl, hv11, hb11⟩
        have hb11' := bstep (bbox _ _) hb11
        have B11 := bstep B10 hb11'
        have EV11 := RdE.below HEV10.out (Nat.le_refl _) hb11'
        have hv11' := hv10.below (Nat.le_refl _) hb11'
        have EVj := EV11.take j HJ.out.2
        have EVk := EV11.take es.length HK1.out.1
        have HEJ : Hid (RdE w11 _ (es.take j)) := EVj
        have HEK : Hid (RdE w11 _ (es.take es.length)) := EVk
        have HGJ : Hid (RdE w11 _ (es.take j)) := hv11'.rd
        have HGK : Hid (RdE w11 _ (es.take es.length)) := hv11.rd
        clear hb11 hb11' B10 HEV10 hv10 EV11 hv11' hv11 EVj EVk hg10 HENK
        go_wp2_with fail
        refine (eqEntries_any (es.take j) _ _ _ (by have := HK1.out; simp; omega) HGJ.out HEJ.out).mono ?_
        rintro e' w12 ⟨rfl, hb12⟩
        have B12 := bstep B11 hb12
        have HEK2 : Hid (RdE w12 _ (es.take es.length)) := RdE.below HEK.out (Nat.le_refl _) hb12
        have HGK2 : Hid (RdE w12 _ (es.take es.length)) := RdE.below HGK.out (Nat.le_refl _) hb12
        clear hb12 B11 HEJ HEK HGJ HGK
        go_wp2_with fail
        refine (eqEntries_any (es.take es.length) _ _ _ (by have := HK1.out; simp; omega) HGK2.out HEK2.out).mono ?_
        rintro e' w13 ⟨rfl, hb13⟩
        have B13 := bstep B12 hb13
        clear hb13 B12 HEK2 HGK2
        go_wp2_with fail
        go_ret
        exact ⟨rfl, B13⟩

end Go.Proofs.Ytknipikmbfdcnaa
