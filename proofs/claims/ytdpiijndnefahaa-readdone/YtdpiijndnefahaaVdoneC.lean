/-
  The walk of ReadDone, given what view.Check, view.Stable and view.Read answer.
-/
import Derived.Test.YtdpiijndnefahaaVpages
import Derived.Test.YtdpiijndnefahaaVfunc
import Derived.Test.YtdpiijndnefahaaVtdrop
namespace Go.Proofs.Ytdpiijndnefahaa
open Go.RowKit
set_option linter.unusedVariables false
set_option linter.unusedSimpArgs false

set_option maxRecDepth 100000 in
set_option maxHeartbeats 1000000 in
/-- Is it a mark of the same producer? -/
theorem readDone_fn (B : Nat) (x : Ent) (w : World) (hB : B < w.heap.size) (hx : Seven w B x) : PredE 30 #[.pointer (some ⟨B, 0, none⟩)] (fun y => y.b == x.b && y.k != 1) w := by
  intro W y hbel
  have hx' := hx.below hB hbel
  have hBW : B < W.heap.size := Nat.lt_of_lt_of_le hB hbel.size
  have hne := Nat.ne_of_lt hBW
  obtain ⟨x0, x1, x2, x3, x4, x5, x6⟩ := hx'
  clear x0 x2 x3 x4 x5 x6 hx
  show Calls Try.prog 30 #[.agg #[.int .i64 y.a, .int .i64 y.b, .int .i64 y.c, .int .i64 y.d, .int .i64 y.k, .bool y.t, .string y.s], .pointer (some ⟨B, 0, none⟩)] W fun e w' => e = .returned (.bool (y.b == x.b && y.k != 1)) ∧ Below w.heap.size w w'
  by_cases h1 : y.b = x.b
  · by_cases h2 : y.k = 1
    · have e : (y.b == x.b && y.k != 1) = false := by simp [h2]
      rw [e]
      go_enter Try.func30, Try.ntmps30
      go_wp2
      go_ret
      exact ⟨by first | rfl | (simp [h2]; done) | (simp; omega), hbel.alloc hbel.size _⟩
    · have e : (y.b == x.b && y.k != 1) = true := by simp [h1, h2]
      rw [e]
      go_enter Try.func30, Try.ntmps30
      go_wp2
      go_ret
      exact ⟨by first | rfl | (simp [h2]; done) | (simp; omega), hbel.alloc hbel.size _⟩
  · have e : (y.b == x.b && y.k != 1) = false := by simp [h1]
    rw [e]
    go_enter Try.func30, Try.ntmps30
    go_wp2
    go_ret
    exact ⟨by first | rfl | (simp [h2]; done) | (simp; omega), hbel.alloc hbel.size _⟩

/-- Where the next mark stands, told from a place on. -/
theorem scan_from (es : List Ent) (x : Ent) (i : Nat) (hi : i ≤ es.length) :
    (scan (isMark es x.b) (es.length - i) i < 0 → scan (fun j => (fun y : Ent => y.b == x.b && y.k != 1) (Ent.at (es.drop i) j) = true) (es.drop i).length 0 = -1) ∧
    (∀ k : Nat, scan (isMark es x.b) (es.length - i) i = k → i ≤ k ∧ k < es.length ∧ scan (fun j => (fun y : Ent => y.b == x.b && y.k != 1) (Ent.at (es.drop i) j) = true) (es.drop i).length 0 = ((k - i : Nat) : Int)) := by
  have key : ∀ j, (fun j => (fun y : Ent => y.b == x.b && y.k != 1) (Ent.at (es.drop i) j) = true) j ↔ isMark es x.b (i + j) := fun j => by
    simp only [at_drop]
    unfold isMark
    simp
  constructor
  · intro h
    have hn := scan_none.1 h
    rcases scan_cases (P := fun j => (fun y : Ent => y.b == x.b && y.k != 1) (Ent.at (es.drop i) j) = true) (es.drop i).length 0 with e | ⟨k, k1, k2, k3, k4, k5⟩
    · exact e
    · rw [List.length_drop] at k2
      exact absurd ((key k).1 k3) (hn (i + k) (by omega) (by omega))
  · intro k hk
    rcases scan_cases (P := isMark es x.b) (es.length - i) i with e | ⟨k', k1, k2, k3, k4, k5⟩
    · omega
    · have hkk : k' = k := by omega
      subst hkk
      refine ⟨k1, by omega, ?_⟩
      refine scan_some (Nat.zero_le _) (by rw [List.length_drop]; omega) ((key _).2 ?_) (fun j _ hj hc => k4 (i + j) (by omega) (by omega) ((key j).1 hc))
      rw [show i + (k' - i) = k' by omega]
      exact k3
theorem tx_next (es : List Ent) (h k : Nat) : tx es h 0 (k + 1) = if seen es h k then tx es h 0 k ++ [(Ent.at es k).s] else tx es h 0 k := by
  rw [tx_add, Nat.zero_add]
  simp only [tx]
  split <;> simp

set_option maxRecDepth 100000 in
set_option maxHeartbeats 2000000 in
theorem readDone_core (HV : CheckC) (HS : StableC) (HD : ReadC) (rs : List Raw4) (v : Value) (w : World) (hl : (rs.length : Int) ≤ 9223372036854775807) (h : RdR w v rs) :
    Calls Try.prog 10 #[v] w fun e w' => e = .returned (.bool true) ∧ Below w.heap.size w w' := by
  have HSS : Hid StableC := HS
  have HDD : Hid ReadC := HD
  have HR : Hid (RdR w v rs) := h
  have HL : Hid ((rs.length : Int) ≤ 9223372036854775807) := hl
  have HT : Hid (∀ w, _) := viewTells_any HV HD
  have HSent : Hid (∀ v1 w1, RdX w1 v1 (manyL rs 18) → _) := fun v1 w1 h1 => sent_any HV (manyL rs 18) v1 w1 (by simp [manyL]; omega) (manyL_plain rs 18) h1
  have HPl : Hid (Plain (sentL rs 18)) := sentL_plain rs 18
  have HTx : Hid _ := sentL_notx rs 18
  have hln := sentL_len rs 18
  clear h hl HV HS HD
  go_enter Try.func10, Try.ntmps10
  go_wp2_with fail
  refine (HT.out _).mono ?_
  rintro e w0 ⟨rfl, hb0⟩
  go_wp2_with fail
  refine (many_any rs v 18 w0 (by omega) HL.out (RdR.below HR.out hb0)).mono ?_
  rintro e w1 ⟨v1, rfl, hv1, hb1⟩
  go_wp2_with fail
  refine (HSent.out v1 w1 hv1.rdX).mono ?_
  rintro e w2 ⟨u, rfl, hu, hb2⟩
  have HB2 : Hid _ := bstep (bstep hb0 hb1) hb2
  have HU : Hid (RdX w2 u (sentL rs 18)) := hu.rdX
  clear HR HL HSent hv1 hb1 hb2 hu HT hb0
  generalize sentL rs 18 = es at *
  obtain ⟨ao, cap, rfl, h1, h2, h4, h3⟩ := HU.out
  clear h3 h2 h4
  have hfn := stb_high es es.length
  have HA0 : Hid (rdA es es.length 0 20 = _) := rdA_ok es es.length 0 20 (Nat.le_refl _) (Nat.zero_le _) (by omega)
  have HP0 : Hid _ := rdF_page es es.length (stb es es.length) es.length 0 20 (Nat.zero_le _) (by omega)
  have hsf : stf es (es.length : Nat) = ((stb es es.length : Int), 0) := by unfold stf; rw [if_neg (by omega), Int.toNat_natCast]
  have HSF : Hid _ := hsf
  clear hsf
  go_wp2_with fail
  refine (HDD.out es _ (es.length : Nat) 0 20 _ (by omega) HPl.out HTx.out HU.out).mono ?_
  rw [HA0.out]
  rintro e w3 ⟨u3, rfl, hu3, hb3⟩
  obtain ⟨p1, p2, p3, p4, p5, p6⟩ := HP0.out
  have p7 := p6 (by omega)
  rw [p7] at p3 ⊢
  rw [p3, Nat.sub_zero] at hu3
  have HU3 : Hid _ := hu3
  have HB3 : Hid _ := bstep HB2.out hb3
  have HR3 : Hid _ := RdX.below HU.out (Nat.le_refl _) hb3
  clear p1 p2 p3 p4 p5 p6 p7 HP0 HA0 hu3 hb3 HU HB2 HDD
  obtain ⟨av3, cv3, rfl⟩ := OwnS.shape HU3.out
  go_wp2_with fail
  refine (HSS.out es _ (es.length : Nat) _ (by omega) HPl.out HR3.out).mono ?_
  rw [HSF.out]
  rintro e w4 ⟨rfl, hb4⟩
  have HU4 : Hid _ := OwnS.below HU3.out (Nat.le_refl _) hb4
  have HB4 : Hid _ := bstep HB3.out hb4
  have HR4 : Hid _ := RdX.below HR3.out (Nat.le_refl _) hb4
  clear HSF HSS HPl HTx HU3 HB3 HR3 hb4
  generalize hfin : stb es es.length = fin at *
  clear hfin
  have hfc : (fin : Int) ≤ cap := by omega
  go_wp2
  go_loopw [9, 37] (fun want i wr => ∃ (k : Nat) (ts : List ByteArray), k ≤ fin ∧ i = .int .i64 k ∧ Hid (ts = tx es es.length 0 k) ∧ OwnS w4.heap.size want ts wr ∧ Below w4.heap.size w4 wr) (fun _ i _ => fin - (intOf i).toNat)
  case atStart => exact ⟨0, [], by omega, rfl, show _ = _ from rfl, ownS_nil _ _ (Nat.le_refl _), Below.refl _ _⟩
  case round =>
    obtain ⟨k, ts, hk, rfl, HTS, hown, hbel⟩ := hrel
    obtain ⟨av, cv, rfl⟩ := hown.shape
    have htl := tx_len es es.length 0 k
    rw [← HTS.out] at htl
    by_cases hlt : k < fin
    · have hke : k < es.length := by omega
      have hkf : (k : Int) < fin := by omega
      have hke' : (k : Int) < es.length := by omega
      have HTN : Hid _ := tx_next es es.length k
      rw [← HTS.out] at HTN
      have HSE : Hid _ := seen_from es (h := es.length) (i := k) hke
      have HSC : Hid _ := scan_from es (Ent.at es k) k (by omega)
      have hRr := RdX.below HR4.out (Nat.le_refl _) hbel
      have hRc := hRr
      obtain ⟨ao', cap', e0, _, _, _, h3⟩ := hRc
      simp only [Value.slice.injEq] at e0
      obtain ⟨rfl, _, rfl⟩ := e0
      obtain ⟨g, off, rfl, hc⟩ := h3 (by omega)
      obtain ⟨q0, q1, q2, q3, q4, q5, q6⟩ := RdX.cells hc k hke
      have HCC : Hid (∀ i, i < es.length → _) := fun i hi => RdX.cells hc i hi
      have HDR : Hid _ := hRr.drop k hke
      clear hc h3 hRr
      generalize Ent.at es k = x at *
      have hB0 := bbox wr (.cells #[.int .i64 x.a, .int .i64 x.b, .int .i64 x.c, .int .i64 x.d, .int .i64 x.k, .bool x.t, .string x.s] 24)
      have HS0 : Hid (Seven _ wr.heap.size x) := seven_new wr x 24 _ rfl
      have HB0 : Hid (Below wr.heap.size wr _) := hB0
      have hlt0 : wr.heap.size < (wr.alloc (.cells #[.int .i64 x.a, .int .i64 x.b, .int .i64 x.c, .int .i64 x.d, .int .i64 x.k, .bool x.t, .string x.s] 24)).heap.size := by simp
      by_cases hk1 : x.k = 1
      · have hk1' : (x.k != 1) = false := by simp [hk1]
        have HIX : Hid _ := indexFunc_any 30 #[.pointer (some ⟨wr.heap.size, 0, none⟩)] (fun y => y.b == x.b && y.k != 1) (enters_of Try.func30 (by kernel_rfl) rfl) (es.drop k) _ _ (by simp; omega) (RdX.below HDR.out (Nat.le_refl _) hB0) (readDone_fn wr.heap.size x _ hlt0 HS0.out)
        clear hB0 hlt0
        cases ht : x.t with
        | false =>
          have HN : Hid (ts ++ [x.s] = tx es es.length 0 (k + 1)) := show _ = _ by rw [HTN.out, if_pos (HSE.out.2 ⟨hk1, .inl ht⟩)]
          clear HTN HSE HSC hk1
          generalize scan (fun j => (fun y : Ent => y.b == x.b && y.k != 1) (Ent.at (es.drop k) j) = true) (es.drop k).length 0 = sc at *
          rw [ht] at q5 HB0 HIX
          clear HS0 HDR
          go_wp2_with fail
          refine Calls.mono HIX.out ?_
          rintro e w5 ⟨rfl, hb5⟩
          have hb05 := bstep HB0.out hb5
          obtain ⟨s0, s1, s2, s3, s4, s5, s6⟩ := (seven_new wr (⟨x.a, x.b, x.c, x.d, x.k, false, x.s⟩ : Ent) 24 _ rfl).below (by simp) hb5
          have hwl5 := cell_lt s0
          have hown5 := hown.below (Nat.le_refl _) hb05
          have hbel5 := hbel.trans (hb05.mono hbel.size)
          simp only at s0 s1 s2 s3 s4 s5 s6
          clear ht
          go_wp2_with (at_builtin; refine wp_appS rfl _ _ rfl _ _ ts rfl x.s hown5 _ rfl (by simp) (by omega) ?_)
          intro v6 w6 hown6 hb6
          have hbel6 := hbel5.trans hb6
          clear hown5 hb6 hbel5 s0 s1 s2 s3 s4 s5 s6
          go_wp2
          go_roundw
          case rel => exact ⟨k + 1, ts ++ [x.s], by omega, by go_num, HN, hown6, hbel6⟩
          case measure => simp [intOf]; omega
        | true =>
          by_cases hsc : scan (isMark es x.b) (es.length - k) k < 0
          · have HN : Hid (ts = tx es es.length 0 (k + 1)) := show _ = _ by
              rw [HTN.out, if_neg]
              intro hh
              rcases (HSE.out.1 hh).2 with h | h
              · rw [ht] at h; cases h
              · omega
            rw [HSC.out.1 hsc] at HIX
            clear HTN HSE HSC hk1 hsc
            rw [ht] at q5 HB0 HIX
            clear HS0 HDR
            go_wp2_with fail
            refine Calls.mono HIX.out ?_
            rintro e w5 ⟨rfl, hb5⟩
            have hb05 := bstep HB0.out hb5
            obtain ⟨s0, s1, s2, s3, s4, s5, s6⟩ := (seven_new wr (⟨x.a, x.b, x.c, x.d, x.k, true, x.s⟩ : Ent) 24 _ rfl).below (by simp) hb5
            have hwl5 := cell_lt s0
            have hown5 := hown.below (Nat.le_refl _) hb05
            have hbel5 := hbel.trans (hb05.mono hbel.size)
            simp only at s0 s1 s2 s3 s4 s5 s6
            clear ht
            go_wp2
            go_roundw
            case rel => exact ⟨k + 1, ts, by omega, by go_num, HN, hown5, hbel5⟩
            case measure => simp [intOf]; omega
          · obtain ⟨j, hj⟩ := Int.eq_ofNat_of_zero_le (show 0 ≤ scan (isMark es x.b) (es.length - k) k by omega)
            obtain ⟨j1, j2, j3⟩ := HSC.out.2 j hj
            obtain ⟨d, rfl⟩ : ∃ d, j = k + d := ⟨j - k, by omega⟩
            rw [j3, show k + d - k = d by omega] at HIX
            have HSE' : Hid (seen es es.length k = true ↔ (Ent.at es (k + d)).k = 2) := by
              have h1 := HSE.out
              rw [hj, Int.toNat_natCast] at h1
              constructor
              · intro hh
                rcases (h1.1 hh).2 with h | h
                · rw [ht] at h; cases h
                · exact h.2
              · exact fun hh => h1.2 ⟨hk1, .inr ⟨by omega, hh⟩⟩
            obtain ⟨r0, r1, r2, r3, r4, r5, r6⟩ := HCC.out (k + d) j2
            have hgl := cell_lt r0
            have hkd : (k : Int) + (d : Int) < es.length := by omega
            clear HSE HSC hk1 hsc hj j3
            generalize Ent.at es (k + d) = y at *
            rw [ht] at q5 HB0 HIX
            clear HS0 HDR
            go_wp2_with fail
            refine Calls.mono HIX.out ?_
            rintro e w5 ⟨rfl, hb5⟩
            have hb05 := bstep HB0.out hb5
            obtain ⟨s0, s1, s2, s3, s4, s5, s6⟩ := (seven_new wr (⟨x.a, x.b, x.c, x.d, x.k, true, x.s⟩ : Ent) 24 _ rfl).below (by simp) hb5
            have hwl5 := cell_lt s0
            have hown5 := hown.below (Nat.le_refl _) hb05
            have hbel5 := hbel.trans (hb05.mono hbel.size)
            simp only at s0 s1 s2 s3 s4 s5 s6
            have r4' := (hb05.cell (p := ⟨g, off + (k + d) * 7 + 4, none⟩) hgl).trans r4
            clear ht r0 r1 r2 r3 r4 r5 r6
            by_cases hy : y.k = 2
            · have hy' : (y.k == 2) = true := by simp [hy]
              have HN : Hid (ts ++ [x.s] = tx es es.length 0 (k + 1)) := show _ = _ by rw [HTN.out, if_pos (HSE'.out.2 hy)]
              clear HTN HSE' hy
              go_wp2_with (at_builtin; refine wp_appS rfl _ _ rfl _ _ ts rfl x.s hown5 _ rfl (by simp) (by omega) ?_)
              intro v6 w6 hown6 hb6
              have hbel6 := hbel5.trans hb6
              clear hown5 hb6 hbel5 s0 s1 s2 s3 s4 s5 s6
              go_wp2
              go_roundw
              case rel => exact ⟨k + 1, ts ++ [x.s], by omega, by go_num, HN, hown6, hbel6⟩
              case measure => simp [intOf]; omega
            · have hy' : (y.k == 2) = false := by simp [hy]
              have HN : Hid (ts = tx es es.length 0 (k + 1)) := show _ = _ by rw [HTN.out, if_neg (fun hh => hy (HSE'.out.1 hh))]
              clear HTN HSE' hy
              go_wp2
              go_roundw
              case rel => exact ⟨k + 1, ts, by omega, by go_num, HN, hown5, hbel5⟩
              case measure => simp [intOf]; omega
      · have hk1' : (x.k != 1) = true := by simp [hk1]
        have HN : Hid (ts = tx es es.length 0 (k + 1)) := show _ = _ by rw [HTN.out, if_neg (fun hh => hk1 (HSE.out.1 hh).1)]
        have hown5 := hown.below (Nat.le_refl _) hB0
        have hbel5 := hbel.trans (hB0.mono hbel.size)
        clear HTN HSE HSC hk1 HS0 HDR hlt0 hown hbel hB0
        go_wp2
        go_roundw
        case rel => exact ⟨k + 1, ts, by omega, by go_num, HN, hown5, hbel5⟩
        case measure => simp [intOf]; omega
    · have hkf : k = fin := by omega
      subst hkf
      have hall := OwnS.below HU4.out (Nat.le_refl _) hbel
      have HTE : Hid (tx es es.length 0 k = ts) := HTS.out.symm
      rw [HTE.out] at hall
      have HB5 : Hid _ := HB4.out.trans (hbel.mono HB4.out.size)
      have HALL : Hid _ := hall.rd
      have HOWN : Hid _ := hown.rd
      clear hall hown hbel HU4
      go_wp2_with fail
      refine (eqTexts_any ts _ _ _ (by omega) ?_ HOWN.out).mono ?_
      · have := HALL.out
        rw [← HTE.out] at this ⊢
        exact this
      rintro e w6 ⟨rfl, hb6⟩
      have hB6 := bstep HB5.out hb6
      go_wp2
      go_ret
      exact ⟨rfl, hB6⟩

end Go.Proofs.Ytdpiijndnefahaa
