/-
  The walk of the law EntryTorn.
-/
import Derived.Test.YtknipikmbfdcnaaKlog
import Derived.Test.YtknipikmbfdcnaaKfixed
import Derived.Test.YtknipikmbfdcnaaKback
namespace Go.Proofs.Ytknipikmbfdcnaa
open Go.RowKit
set_option linter.unusedVariables false
set_option linter.unusedSimpArgs false

theorem RdE.below {C : Nat} {v : Value} {es : List Ent} {w w' : World} (h : RdE w v es) (hC : w.heap.size ≤ C) (hb : Below C w w') : RdE w' v es := by
  obtain ⟨ao, cap, rfl, h1, h2, h3⟩ := h
  refine ⟨ao, cap, rfl, h1, h2, fun h0 => ?_⟩
  obtain ⟨g, rfl, hg⟩ := h3 h0
  have hlt : g < w.heap.size := by
    have := hg 0 h0 0 (by omega)
    exact cell_lt (v := .int .i64 (es[0]'h0).a) (by simpa [Ent.cells] using this)
  exact ⟨g, rfl, fun i hi j hj => by rw [hb.cell (p := ⟨g, i * 7 + j, none⟩) (by show g < C; omega)]; exact hg i hi j hj⟩

set_option maxRecDepth 100000 in
set_option maxHeartbeats 2000000 in
theorem entryTorn_core (rs : List Raw4) (v : Value) (n : Int) (w : World) (hl : (rs.length : Int) ≤ 9223372036854775807) (hn : I64 n) (h : RdR w v rs) :
    Calls Try.prog 15 #[v, .int .i64 n] w fun e w' => e = .returned (.bool true) ∧ Below w.heap.size w w' := by
  have hok : Oks ((rs.map Raw4.ent).take 20) := fun e he => by
    obtain ⟨r, _, rfl⟩ := List.mem_map.1 (List.mem_of_mem_take he)
    exact r.ent_ok
  have hes : ((rs.map Raw4.ent).take 20).length ≤ 20 := by simp; omega
  have HM : Hid (∀ w, RdR w v rs → _) := fun w h => many_any rs v 20 w (by omega) hl h
  have HRB : Hid (∀ w', Below w.heap.size w w' → RdR w' v rs) := fun w' hb => h.below hb
  clear h hl
  go_enter Try.func15, Try.ntmps15
  go_wp2_with fail
  refine (wireTells_any _).mono ?_
  rintro e' w1 ⟨rfl, hb1⟩
  go_wp2_with fail
  refine (HM.out _ (HRB.out _ hb1)).mono ?_
  rintro e' w2 ⟨va, rfl, hva, hb2⟩
  have B2 := bstep hb1 hb2
  clear hb1 hb2 HM HRB
  generalize (rs.map Raw4.ent).take 20 = es at *
  go_wp2_with fail
  refine (logOf_any es _ _ (by omega) hok hva.rd).mono ?_
  rintro e' w3 ⟨a3, c3, rfl, hg, hb3⟩
  have B3 := bstep B2 hb3
  clear hb3 B2 hva
  have hfl : (flat es).length ≤ 64 * es.length := flat_len es hok
  have HD : Hid (decL (flat es) = (es, (flat es).length)) := dec_encs es hok
  have HX : Hid (∀ k, k ≤ (flat es).length → ∃ j, j ≤ es.length ∧ decL ((flat es).take k) = (es.take j, endOf es j) ∧ endOf es j ≤ k ∧ (j < es.length → k < endOf es (j + 1))) := fun k hk => by
    have := decP_cut es hok k ((flat es).take k).length (by simp only [List.length_take]; omega)
    exact this
  have HALL : Hid (endOf es es.length = (flat es).length) := endOf_all es
  have HOK : Hid (Oks es) := hok
  generalize hF : flat es = F at *
  have hpk := pick_bd n ((F.length : Int) + 1) (by omega)
  have HP : Hid (∀ w, _) := fun w => picked_any n ((F.length : Int) + 1) w hn (by omega)
  have hFl : (F.length : Int) ≤ 1280 := by omega
  have HES : Hid (es.length ≤ 20 ∧ F.length ≤ 1280) := ⟨hes, by omega⟩
  clear hF hes hfl hok
  go_wp2_with fail
  refine (HP.out _).mono ?_
  rintro e' w4 ⟨rfl, rfl⟩
  have B4 : Below w.heap.size w (w3.alloc (.cells #[.slice a3 F.length c3, .int .i64 0] 46)) := bstep B3 (bbox _ _)
  obtain ⟨kk, hkk⟩ := Int.eq_ofNat_of_zero_le hpk.1
  rw [hkk]
  have hkF : kk ≤ F.length := by omega
  obtain ⟨j, hj, hdj, hej, hnj⟩ := HX.out kk hkF
  have hkF' : (kk : Int) ≤ F.length := by omega
  obtain ⟨a3', c3', e3, hc1, hc2, hc3, hcut⟩ := (hg.alloc (.cells #[.slice a3 F.length c3, .int .i64 0] 46)).rd.cuts
  simp only [Value.slice.injEq] at e3
  obtain ⟨rfl, _, rfl⟩ := e3
  have HT : Hid _ := hcut kk hkF
  have HG : Hid _ := hg.alloc (.cells #[.slice a3 F.length c3, .int .i64 0] 46)
  have hc1' : (F.length : Int) ≤ c3 := by omega
  unfold maxLen at hc2
  have HJ : Hid (j ≤ es.length ∧ decL (F.take kk) = (es.take j, endOf es j) ∧ endOf es j ≤ kk ∧ (j < es.length → kk < endOf es (j + 1))) := ⟨hj, hdj, hej, hnj⟩
  clear HX HP hpk hkk B3 hg hcut hc1 hj hdj hej hnj
  go_wp2_with fail
  refine (decode_any (F.take kk) _ _ (by have := HES.out; simp; omega) HT.out).mono ?_
  rintro e' w5 ⟨v5, rfl, hv5, hb5⟩
  rw [HJ.out.2.1] at hv5 ⊢
  have B5 := bstep B4 hb5
  have G5 := Own.below (show Own w2.heap.size _ F _ from HG.out) (Nat.le_refl _) hb5
  obtain ⟨l1, l2, l3, l4⟩ := (lbox_new w3 (.slice a3 F.length c3) 0 46).below hb5
  clear B4 hb5 HT HG
  go_wp2_with fail
  refine (decode_any F _ _ (by have := HES.out; omega) G5.rd).mono ?_
  rintro e' w6 ⟨v6, rfl, hv6, hb6⟩
  rw [HD.out] at hv6 ⊢
  have B6 := bstep B5 hb6
  have hv56 := hv5.below (Nat.le_refl _) hb6
  have L6 := LBox.below ⟨l1, l2, l3, l4⟩ hb6
  clear B5 hb6 G5 l1 l2 l3 l4 hv5
  obtain ⟨l1, l2, l3, l4⟩ := L6
  have htl : (es.take j).length = j := by have := HJ.out.1; simp; omega
  obtain ⟨a5, c5, rfl⟩ := hv56.shape
  obtain ⟨a6, c6, rfl⟩ := hv6.shape
  have HE5 : Hid (RdE w6 (.slice a5 (es.take j).length c5) (es.take j)) := hv56.rd
  have HE6 : Hid (RdE w6 (.slice a6 es.length c6) es) := hv6.rd
  have HEt : Hid (RdE w6 (.slice a6 j c6) (es.take j)) := hv6.rd.take j HJ.out.1
  obtain ⟨hd1, hd2, hd3⟩ : es.length ≤ c6 ∧ c6 ≤ maxLen ∧ (a6 = none → c6 = 0) := by
    obtain ⟨a', c', e, h1, h2, h3⟩ := hv6.rd
    simp only [Value.slice.injEq] at e
    obtain ⟨rfl, _, rfl⟩ := e
    refine ⟨h1, h2, fun h => ?_⟩
    rcases hv6.1.2 with ⟨h4, _⟩ | ⟨g, cap, cur, r1, _⟩
    · simp only [Value.slice.injEq] at h4
      exact h4.2.2
    · simp [h] at r1
  have hj' : (j : Int) ≤ es.length := by have := HJ.out.1; omega
  have hd1' : (es.length : Int) ≤ c6 := by omega
  have hes' : (es.length : Int) ≤ 20 := by have := HES.out; omega
  have hej' : (endOf es j : Int) ≤ kk := by have := HJ.out.2.2.1; omega
  unfold maxLen at hd2
  clear hv56 hv6 hd1
  rw [htl] at HE5 ⊢
  have hFF : ((F.length : Int) != F.length) = false := by simp
  generalize hEE : endOf es j = EE at *
  have HEE : Hid (endOf es j = EE) := hEE
  clear hEE htl
  go_wp2_with fail
  refine (eqEntries_any (es.take j) _ _ _ (by have := HES.out; simp; omega) HE5.out HEt.out).mono ?_
  rintro e' w7 ⟨rfl, hb7⟩
  have B7 := bstep B6 hb7
  have HE7 : Hid (RdE w7 (.slice a6 es.length c6) es) := RdE.below HE6.out (Nat.le_refl _) hb7
  clear hb7 B6 HE5 HEt HE6 l1 l2 l3 l4
  by_cases hje : j = es.length
  · have hkm : (kk : Int) = F.length := by
      have h1 := HJ.out.2.2.1
      have h2 := HEE.out
      rw [hje, HALL.out] at h2
      omega
    have hkm' : ((kk : Int) == (F.length : Int)) = true := by simp [hkm]
    have hjj : ((j : Int) == (es.length : Int)) = true := by simp [hje]
    have Hk : Hid _ := hkm
    have Hj : Hid _ := hje
    clear hkm hje
    go_wp2_with fail
    go_ret
    exact ⟨rfl, B7⟩
  · have hjl : j < es.length := by have := HJ.out.1; omega
    have hjj : ((j : Int) == (es.length : Int)) = false := by simp; omega
    have hjl' : (j : Int) < es.length := by omega
    obtain ⟨a', c', e, _, _, h3⟩ := HE7.out
    simp only [Value.slice.injEq] at e
    obtain ⟨rfl, _, rfl⟩ := e
    obtain ⟨g, rfl, hF⟩ := h3 (by omega)
    obtain ⟨q0, q1, q2, q3, q4, q5, q6⟩ := seven (hF j hjl)
    have hok := HOK.out es[j] (List.getElem_mem hjl)
    have hnx := HJ.out.2.2.2 hjl
    rw [endOf_succ es j hjl, HEE.out] at hnx
    have hbl := body_len' es[j] hok
    have hen := enc_len es[j]
    have HC : Hid (∀ w, Calls Try.prog 22 #[.agg #[.int .i64 es[j].a, .int .i64 es[j].b, .int .i64 es[j].c, .int .i64 es[j].d, .int .i64 es[j].k, .bool es[j].t, .string es[j].s]] w fun e w' => ∃ v, e = .returned (.tuple #[v, .int .i64 0]) ∧ Own w.heap.size v es[j].enc w' ∧ Below w.heap.size w w') := fun w => encode_ok es[j].a es[j].b es[j].c es[j].d es[j].k es[j].t es[j].s w hok
    have hnx' : (kk : Int) < EE + es[j].enc.length := by omega
    have hn1 : (es[j].enc.length : Int) ≤ 64 := by omega
    generalize es[j] = x at *
    clear hF hok hnx hbl hen hje
    go_wp2_with fail
    refine (HC.out _).mono ?_
    rintro e' w8 ⟨vb, rfl, hvb, hb8⟩
    obtain ⟨a8, c8, rfl⟩ := hvb.shape
    have B8 := bstep B7 hb8
    clear hb8 B7 HC hvb q0 q1 q2 q3 q4 q5 q6
    go_wp2_with fail
    go_ret
    exact ⟨rfl, B8⟩

end Go.Proofs.Ytknipikmbfdcnaa
