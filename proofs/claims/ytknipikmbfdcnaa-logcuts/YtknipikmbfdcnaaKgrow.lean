/-
  The walk of the law LogGrows.
-/
import Derived.Test.YtknipikmbfdcnaaKtorn
namespace Go.Proofs.Ytknipikmbfdcnaa
open Go.RowKit
set_option linter.unusedVariables false
set_option linter.unusedSimpArgs false

theorem endOf_take_le (es : List Ent) (m k : Nat) (h : k ≤ m) : endOf (es.take m) k = endOf es k := by
  unfold endOf
  rw [List.take_take, Nat.min_eq_left h]

/-- A log that is synced: all is safe. -/
theorem sync_flat {es : List Ent} (h : Oks es) (hl : es.length ≤ 400) (u : Value) (w : World) (hr : Rd w u (flat es)) :
    Calls Try.prog 42 #[.agg #[u, .int .i64 0]] w fun e w' => ∃ a c, e = .returned (.tuple #[.agg #[.slice a (flat es).length c, .int .i64 (flat es).length], .int .i64 0]) ∧ Own w.heap.size (.slice a (flat es).length c) (flat es) w' ∧ Below w.heap.size w w' := by
  have hfl := flat_len es h
  have h0 : lft (flat es) 0 = 0 := by have := (lft_flat h hl 0 (by omega)).1; rw [endOf_zero] at this; exact this
  refine (segSync_any (flat es) u 0 w (by show (es.flatMap Ent.enc).length ≤ _; omega) hr).mono ?_
  rintro e w' ⟨hb, _, h1⟩
  obtain ⟨v, e1, e2⟩ := h1 h0
  obtain ⟨a, c, rfl⟩ := e2.shape
  exact ⟨a, c, e1, e2, hb⟩
theorem entries_flat {es : List Ent} (h : Oks es) (hl : es.length ≤ 400) (k : Nat) (hk : k ≤ es.length) (u : Value) (y : Int) (hy : y = endOf es k) (w : World) (hr : Rd w u (flat es)) :
    Calls Try.prog 37 #[.agg #[u, .int .i64 y]] w fun e w' => ∃ a c, e = .returned (.tuple #[.slice a es.length c, .int .i64 k, .int .i64 0]) ∧ OwnE w.heap.size (.slice a es.length c) es w' ∧ Below w.heap.size w w' := by
  subst hy
  have hfl := flat_len es h
  obtain ⟨h1, h2, h3⟩ := lft_flat h hl k hk
  refine (segEntries_ok (flat es) u _ w (by show (es.flatMap Ent.enc).length ≤ _; omega) hr h1).mono ?_
  rintro e w' ⟨v, e1, e2, hb⟩
  rw [h2] at e2
  simp only [Int.toNat_natCast] at e1
  rw [h3] at e1
  obtain ⟨a, c, rfl⟩ := e2.shape
  refine ⟨a, c, ?_, e2, hb⟩
  rw [e1]
  simp [Nat.min_eq_left hk]
theorem check_flat {es : List Ent} (h : Oks es) (hl : es.length ≤ 400) (k : Nat) (hk : k ≤ es.length) (u : Value) (y : Int) (hy : y = endOf es k) (w : World) (hr : Rd w u (flat es)) :
    Calls Try.prog 34 #[.agg #[u, .int .i64 y]] w fun e w' => e = .returned (.int .i64 0) ∧ Below w.heap.size w w' := by
  subst hy
  have hfl := flat_len es h
  obtain ⟨h1, _⟩ := lft_flat h hl k hk
  have := segCheck_any (flat es) u (endOf es k) w (by show (es.flatMap Ent.enc).length ≤ _; omega) hr
  rw [h1] at this
  exact this

theorem OwnE.caps {B : Nat} {ao : Option Addr} {n cap : Nat} {es : List Ent} {w : World} (h : OwnE B (.slice ao n cap) es w) : n = es.length ∧ es.length ≤ cap ∧ cap ≤ maxLen ∧ (ao = none → cap = 0) := by
  obtain ⟨a', c', e, h1, h2, h3⟩ := h.rd
  simp only [Value.slice.injEq] at e
  obtain ⟨rfl, rfl, rfl⟩ := e
  refine ⟨rfl, h1, h2, fun h0 => ?_⟩
  rcases h.1.2 with ⟨h4, _⟩ | ⟨g, cap, cur, r1, _⟩
  · simp only [Value.slice.injEq] at h4
    exact h4.2.2
  · simp [h0] at r1

set_option maxRecDepth 100000 in
set_option maxHeartbeats 4000000 in
theorem logGrows_core (rs : List Raw4) (v : Value) (n : Int) (w : World) (hl : (rs.length : Int) ≤ 9223372036854775807) (hn : I64 n) (h : RdR w v rs) :
    Calls Try.prog 17 #[v, .int .i64 n] w fun e w' => e = .returned (.bool true) ∧ Below w.heap.size w w' := by
  have hok : Oks ((rs.map Raw4.ent).take 20) := fun e he => by
    obtain ⟨r, _, rfl⟩ := List.mem_map.1 (List.mem_of_mem_take he)
    exact r.ent_ok
  have hes : ((rs.map Raw4.ent).take 20).length ≤ 20 := by simp; omega
  have HM : Hid (∀ w, RdR w v rs → _) := fun w h => many_any rs v 20 w (by omega) hl h
  have HR : Hid (RdR w v rs) := h
  clear h hl
  go_enter Try.func17, Try.ntmps17
  go_wp2_with fail
  refine (HM.out _ HR.out).mono ?_
  rintro e' w2 ⟨va, rfl, hva, B2⟩
  clear HM HR
  generalize (rs.map Raw4.ent).take 20 = es at *
  obtain ⟨a2, c2, rfl⟩ := hva.shape
  have hpk := pick_bd n ((es.length : Int) + 1) (by omega)
  have HP : Hid (∀ w, _) := fun w => picked_any n ((es.length : Int) + 1) w hn (by omega)
  have hes' : (es.length : Int) ≤ 20 := by omega
  go_wp2_with fail
  refine (HP.out _).mono ?_
  rintro e' w4 ⟨rfl, rfl⟩
  obtain ⟨kk, hkk⟩ := Int.eq_ofNat_of_zero_le hpk.1
  rw [hkk]
  have hk1 : kk ≤ es.length := by omega
  have hk' : (kk : Int) ≤ es.length := by omega
  have htk : (es.take kk).length = kk := by simp; omega
  obtain ⟨_, hd1, hd2, hd3⟩ := hva.caps
  have hd1' : (es.length : Int) ≤ c2 := by omega
  unfold maxLen at hd2
  have HV : Hid (OwnE w.heap.size (.slice a2 es.length c2) es w4) := hva
  have HVt : Hid (RdE w4 (.slice a2 kk c2) (es.take kk)) := hva.rd.take kk hk1
  have HLO : Hid (∀ W v, RdE W v (es.take kk) → _) := fun W v h => logOf_any (es.take kk) v W (by omega) (hok.take kk) h
  have HSY : Hid (∀ u W, Rd W u (flat (es.take kk)) → _) := fun u W h => sync_flat (hok.take kk) (by omega) u W h
  have HK1 : Hid (kk ≤ es.length ∧ es.length ≤ 20) := ⟨hk1, hes⟩
  have HOK : Hid (Oks es) := hok
  have HE0 : Hid ((flat (es.take kk)).length = endOf es kk) := show _ = _ from rfl
  have hF0 : ((flat (es.take kk)).length : Int) ≤ 1280 := by
    have := flat_len (es.take kk) (hok.take kk)
    show (((es.take kk).flatMap Ent.enc).length : Int) ≤ _
    omega
  clear HP hpk hkk hva hd1 hk1 hok hes htk
  generalize hF : flat (es.take kk) = F0 at *
  have HF0 : Hid (flat (es.take kk) = F0) := hF
  clear hF
  go_wp2_with fail
  refine (HLO.out _ _ HVt.out).mono ?_
  rintro e' w5 ⟨a5, c5, rfl, hg5, hb5⟩
  have B5 := bstep B2 hb5
  have HV5 : Hid (OwnE w.heap.size (.slice a2 es.length c2) es w5) := OwnE.below HV.out (Nat.le_refl _) hb5
  clear hb5 B2 HV HVt HLO
  go_wp2_with fail
  refine (HSY.out _ _ (hg5.rd.below (Nat.le_refl _) (bbox _ _))).mono ?_
  rintro e' w6 ⟨a6, c6, rfl, hg6, hb6⟩
  have hb6' := bstep (bbox _ _) hb6
  have B6 := bstep B5 hb6'
  have HV6 : Hid (OwnE w.heap.size (.slice a2 es.length c2) es w6) := OwnE.below HV5.out (Nat.le_refl _) hb6'
  have L6 := (lbox_new w5 (.slice a5 F0.length c5) 0 46).below hb6
  have HL6 : Hid _ := L6
  obtain ⟨l1, l2, l3, l4⟩ := L6
  have HY : Hid ((F0.length : Int) = endOf es kk) := show _ = _ by rw [HE0.out]
  have hsz5 : w.heap.size ≤ w5.heap.size := B5.size
  have BB6 : Below w5.heap.size w5 ((w6.setCell ⟨w5.heap.size, 0, none⟩ (.slice a6 F0.length c6)).setCell ⟨w5.heap.size, 1, none⟩ (.int .i64 F0.length)) := below_two (k := 0) hb6'
  have LL6 := lbox_set HL6.out (.slice a6 F0.length c6) F0.length
  have GG6 : Own (w5.heap.size + 1) (.slice a6 F0.length c6) F0 ((w6.setCell ⟨w5.heap.size, 0, none⟩ (.slice a6 F0.length c6)).setCell ⟨w5.heap.size, 1, none⟩ (.int .i64 F0.length)) := ((hg6.mono (C := w5.heap.size + 1) (by simp)).setCell (by omega) _ _).setCell (by omega) _ _
  have HBB : Hid _ := BB6
  have HLL : Hid _ := LL6
  have HGG : Hid (Own (w5.heap.size + 1) (.slice a6 F0.length c6) F0 ((w6.setCell ⟨w5.heap.size, 0, none⟩ (.slice a6 F0.length c6)).setCell ⟨w5.heap.size, 1, none⟩ (.int .i64 F0.length))) := GG6
  have HB5 : Hid (Below w.heap.size w w5) := B5
  clear BB6 LL6 GG6 hb6 hb6' B5 HSY hg5 hg6 B6 HV6 HE0
  by_cases hkl : kk < es.length
  · obtain ⟨a', c', e0, _, _, h3⟩ := (OwnE.rd (show OwnE w.heap.size (.slice a2 es.length c2) es w5 from HV5.out))
    simp only [Value.slice.injEq] at e0
    obtain ⟨rfl, _, rfl⟩ := e0
    obtain ⟨g, rfl, hcells⟩ := h3 (by omega)
    have HCE : Hid (∀ i, (h : i < es.length) → ∀ j, j < 7 → w5.cell? ⟨g, i * 7 + j, none⟩ = (es[i]'h).cells[j]?) := hcells
    have hck : ¬ (c2 = kk) := by omega
    have hkl' : (kk : Int) < es.length := by omega
    have hsub : ((es.length - kk : Nat) : Int) = (es.length : Int) - kk := by omega
    have HV5R : Hid (RdE w5 (.slice (some ⟨g, 0, none⟩) es.length c2) es) := OwnE.rd (show OwnE w.heap.size _ es w5 from HV5.out)
    clear hcells h3 HV5
    go_wp2
    go_loopw [40] (fun i wr => ∃ k : Nat, k ≤ es.length - kk ∧ i = .int .i64 k ∧ ∃ a c, LBox wr w5.heap.size (.slice a (flat (es.take (kk + k))).length c) F0.length ∧ Own (w5.heap.size + 1) (.slice a (flat (es.take (kk + k))).length c) (flat (es.take (kk + k))) wr ∧ Below w5.heap.size w5 wr) (fun i _ => (es.length - kk) - (intOf i).toNat)
    case atStart =>
      refine ⟨0, by omega, rfl, a6, c6, ?_⟩
      rw [Nat.add_zero, HF0.out]
      exact ⟨HLL.out, HGG.out, HBB.out⟩
    case round =>
      obtain ⟨k, hk, rfl, a, c, hL, hown, hbel⟩ := hrel
      clear HLL HGG HBB HL6
      by_cases hlt : k < es.length - kk
      · have hidx : kk + k < es.length := by omega
        obtain ⟨a0, a1, a2, a3, a4, a5, a6⟩ := seven (HCE.out (kk + k) hidx)
        have hge := cell_lt a0
        have hadd : (kk + k) * 7 = kk * 7 + k * 7 := by omega
        rw [hadd] at a0 a1 a2 a3 a4 a5 a6
        have q0 := (hbel.cell (p := ⟨g, kk * 7 + k * 7, none⟩) hge).trans a0
        have q1 := (hbel.cell (p := ⟨g, kk * 7 + k * 7 + 1, none⟩) hge).trans a1
        have q2 := (hbel.cell (p := ⟨g, kk * 7 + k * 7 + 2, none⟩) hge).trans a2
        have q3 := (hbel.cell (p := ⟨g, kk * 7 + k * 7 + 3, none⟩) hge).trans a3
        have q4 := (hbel.cell (p := ⟨g, kk * 7 + k * 7 + 4, none⟩) hge).trans a4
        have q5 := (hbel.cell (p := ⟨g, kk * 7 + k * 7 + 5, none⟩) hge).trans a5
        have q6 := (hbel.cell (p := ⟨g, kk * 7 + k * 7 + 6, none⟩) hge).trans a6
        have hok := HOK.out es[kk + k] (List.getElem_mem hidx)
        have htl : (es.take (kk + k)).length < 400 := by have := HK1.out; simp; omega
        have HC : Hid (∀ u w, Rd w u (flat (es.take (kk + k))) → _) := fun u w hr => append_flat (HOK.out.take (kk + k)) htl kk (by simp; omega) hok u F0.length (by rw [endOf_take_le es (kk + k) kk (by omega)]; exact HY.out) w hr
        have HS : Hid (es.take (kk + k) ++ [es[kk + k]] = es.take (kk + (k + 1))) := show _ = _ from (List.take_succ_eq_append_getElem hidx).symm
        rw [HS.out] at HC
        generalize es[kk + k] = x at *
        clear a0 a1 a2 a3 a4 a5 a6 hok htl HS hadd
        obtain ⟨l1, l2, l3, l4⟩ := hL
        have HL0 : Hid (LBox wr w5.heap.size (.slice a (flat (es.take (kk + k))).length c) F0.length) := ⟨l1, l2, l3, l4⟩
        generalize hF1 : flat (es.take (kk + (k + 1))) = F1 at *
        generalize flat (es.take (kk + k)) = FK at *
        have hlt' : (k : Int) < (es.length : Int) - kk := by omega
        go_wp2_with fail
        refine (HC.out _ _ (hown.rd.below (Nat.le_refl _) (bbox _ _))).mono ?_
        rintro e' w3 ⟨a3, c3, rfl, hown3, hb3⟩
        have hb3' := bstep (bbox _ _) hb3
        have L3 := LBox.below HL0.out hb3'
        have hbel3 := bstep hbel hb3'
        have HL3 : Hid (LBox w3 w5.heap.size (.slice a FK.length c) F0.length) := L3
        obtain ⟨m1, m2, m3, m4⟩ := L3
        clear hb3 hb3' hown HC q0 q1 q2 q3 q4 q5 q6 l2 l3 l4 hbel HL0
        go_wp2
        go_roundw
        case rel =>
          refine ⟨k + 1, by omega, by go_num, a3, c3, ?_⟩
          rw [hF1]
          refine ⟨(lbox_set HL3.out _ _).alloc _, ?_, ?_⟩
          · exact (((hown3.mono (C := w5.heap.size + 1) (by simp; omega)).setCell (by omega) _ _).setCell (by omega) _ _).alloc _
          · have hset := below_two (k := 0) (v0 := .slice a3 F1.length c3) (v1 := .int .i64 F0.length) hbel3
            exact hset.alloc hset.size _
        case measure => simp [intOf]; omega
      · have hke : kk + k = es.length := by omega
        rw [hke, List.take_length] at hL hown
        have BW := HB5.out.trans (hbel.mono hsz5)
        have EVW := RdE.below HV5R.out (Nat.le_refl _) hbel
        have GW := hown
        have LW : Hid (LBox wr w5.heap.size (.slice a (flat es).length c) F0.length) := hL
        have HYY : Hid ((F0.length : Int) = endOf es kk) := HY.out
        obtain ⟨m1, m2, m3, m4⟩ := hL
        clear hke HCE hown hbel HV5R HF0
        generalize hFE : flat es = FE at *
        have HFE : Hid (flat es = FE) := hFE
        clear hFE
        go_wp2_with fail
        refine (entries_flat HOK.out (by have := HK1.out; omega) kk HK1.out.1 _ _ HYY.out _ (by rw [HFE.out]; exact GW.rd)).mono ?_
        rintro e' w8 ⟨a8, c8, rfl, hv8, hb8⟩
        have B8 := bstep BW hb8
        have EV8 := RdE.below EVW (Nat.le_refl _) hb8
        have G8 := GW.below (Nat.le_refl _) hb8
        obtain ⟨n1, n2, n3, n4⟩ := LBox.below LW.out hb8
        clear hb8 BW EVW GW LW m1 m2 m3 m4
        have hkk : ((kk : Int) == (kk : Int)) = true := by simp
        go_wp2_with fail
        refine (eqEntries_any es _ _ _ (by have := HK1.out; omega) hv8.rd EV8).mono ?_
        rintro e' w9 ⟨rfl, hb9⟩
        have B9 := bstep B8 hb9
        have G9 := G8.below (Nat.le_refl _) hb9
        obtain ⟨p1, p2, p3, p4⟩ := LBox.below ⟨n1, n2, n3, n4⟩ hb9
        clear hb9 B8 EV8 G8 n1 n2 n3 n4 hv8
        go_wp2_with fail
        refine (check_flat HOK.out (by have := HK1.out; omega) kk HK1.out.1 _ _ HYY.out _ (by rw [HFE.out]; exact G9.rd)).mono ?_
        rintro e' w10 ⟨rfl, hb10⟩
        have B10 := bstep B9 hb10
        clear hb10 B9 G9 p1 p2 p3 p4
        go_wp2_with fail
        go_ret
        exact ⟨rfl, B10⟩
  · have hke : es.length = kk := by have := HK1.out; omega
    subst hke
    have BW := HB5.out.trans (HBB.out.mono hsz5)
    have EVW := RdE.below (OwnE.rd (show OwnE w.heap.size (.slice a2 es.length c2) es w5 from HV5.out)) (Nat.le_refl _) HBB.out
    have GW := HGG.out
    have hTL := HF0.out
    rw [List.take_length] at hTL
    have LW := HLL
    have HYY : Hid ((F0.length : Int) = endOf es es.length) := HY.out
    have HFE : Hid (flat es = F0) := hTL
    clear hTL HBB HGG HLL HV5
    by_cases hck : c2 = es.length
    all_goals
      try subst hck
      go_wp2
      refine wp_loop_rounds 1 ?_
      rw [rounds_succ]
      obtain ⟨m1, m2, m3, m4⟩ := LW.out
      generalize ((w6.setCell ⟨w5.heap.size, 0, none⟩ (.slice a6 F0.length c6)).setCell ⟨w5.heap.size, 1, none⟩ (.int .i64 F0.length)) = wr at *
      go_wp2_with fail
      refine (entries_flat HOK.out (by have := HK1.out; omega) es.length HK1.out.1 _ _ HYY.out _ (by rw [HFE.out]; exact GW.rd)).mono ?_
      rintro e' w8 ⟨a8, c8, rfl, hv8, hb8⟩
      have B8 := bstep BW hb8
      have EV8 := RdE.below EVW (Nat.le_refl _) hb8
      have G8 := GW.below (Nat.le_refl _) hb8
      obtain ⟨n1, n2, n3, n4⟩ := LBox.below LW.out hb8
      clear hb8 BW EVW GW LW m1 m2 m3 m4
      have hkk : ((es.length : Int) == (es.length : Int)) = true := by simp
      go_wp2_with fail
      refine (eqEntries_any es _ _ _ (by have := HK1.out; omega) hv8.rd EV8).mono ?_
      rintro e' w9 ⟨rfl, hb9⟩
      have B9 := bstep B8 hb9
      have G9 := G8.below (Nat.le_refl _) hb9
      obtain ⟨p1, p2, p3, p4⟩ := LBox.below ⟨n1, n2, n3, n4⟩ hb9
      clear hb9 B8 EV8 G8 n1 n2 n3 n4 hv8
      go_wp2_with fail
      refine (check_flat HOK.out (by have := HK1.out; omega) es.length HK1.out.1 _ _ HYY.out _ (by rw [HFE.out]; exact G9.rd)).mono ?_
      rintro e' w10 ⟨rfl, hb10⟩
      have B10 := bstep B9 hb10
      clear hb10 B9 G9 p1 p2 p3 p4
      go_wp2_with fail
      go_ret
      exact ⟨rfl, B10⟩

end Go.Proofs.Ytknipikmbfdcnaa
