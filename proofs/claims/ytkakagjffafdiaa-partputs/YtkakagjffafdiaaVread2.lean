/-
  The walk of the document's ReadOf.
-/
import Derived.Test.YtkakagjffafdiaaVread
namespace Go.Proofs.Ytkakagjffafdiaa
open Go.RowKit
set_option linter.unusedVariables false
set_option linter.unusedSimpArgs false

theorem stb_le (es : List Ent) (h : Nat) : stb es h ≤ h := by
  unfold stb
  rcases scan_cases (P := begins es h) h 0 with e | ⟨k, _, k2, _, _, e⟩
  · rw [e, if_pos (by omega)]; exact Nat.le_refl _
  · rw [e, if_neg (by omega)]; simp; omega

set_option maxRecDepth 100000 in
set_option maxHeartbeats 4000000 in
theorem readOf_ok (es : List Ent) (ao : Option Addr) (cap : Nat) (n fr ms : Nat) (w : World) (hl : (es.length : Int) ≤ 2199023255552) (hr : RdX w (.slice ao es.length cap) es) (hn : n ≤ es.length) (hfr : fr ≤ es.length) (hms : 1 ≤ ms ∧ ms ≤ 20) :
    Calls Try.prog 97 #[.slice ao es.length cap, .int .i64 n, .int .i64 fr, .int .i64 ms] w fun e w' => ∃ v, e = .returned (.tuple #[v, .int .i64 (rdF es n (stb es n) es.length fr ms).2, .int .i64 0]) ∧ OwnS w.heap.size v (rdF es n (stb es n) es.length fr ms).1 w' ∧ Below w.heap.size w w' := by
  have hst := stb_le es n
  have HR : Hid (RdX w (.slice ao es.length cap) es) := hr
  have hsf : stf es n = ((stb es n : Int), 0) := by unfold stf; rw [if_neg (by omega)]; simp
  have i1 : inR fr 0 es.length = true := by unfold inR; simp; omega
  have i2 : inR ms 1 20 = true := by unfold inR; simp; omega
  clear hr
  go_enter Try.func97, Try.ntmps97
  go_wp2_with fail
  refine (stableOf_any es _ n _ hl HR.out).mono ?_
  rintro e w1 ⟨rfl, hb1⟩
  rw [hsf]
  have HR1 : Hid (RdX w1 (.slice ao es.length cap) es) := RdX.below HR.out (Nat.le_refl _) hb1
  clear hsf HR
  generalize hfin : stb es n = fin at *
  have hfl : (fin : Int) ≤ n := by omega
  have hnl : (n : Int) ≤ es.length := by omega
  have hfrl : (fr : Int) ≤ es.length := by omega
  have hms1 : (1 : Int) ≤ ms := by omega
  have hms2 : (ms : Int) ≤ 20 := by omega
  have HN : Hid (n ≤ es.length ∧ fr ≤ es.length ∧ fin ≤ n ∧ ms ≤ 20) := ⟨hn, hfr, hst, hms.2⟩
  have HFIN : Hid (stb es n = fin) := hfin
  clear hfin hst hn hfr hms
  go_wp2_with fail
  refine (In_any _ _ _ _).mono ?_
  rintro e w' ⟨rfl, rfl⟩
  rw [i1]
  go_wp2_with fail
  refine (In_any _ _ _ _).mono ?_
  rintro e w' ⟨rfl, rfl⟩
  rw [i2]
  clear i1 i2
  go_wp2
  go_loopw [13, 14] (fun v a wr => ∃ (k : Nat) (ts : List ByteArray), k ≤ es.length ∧ a = .int .i64 k ∧ Hid (RdSt es n fin fr ms k ts) ∧ OwnS w'.heap.size v ts wr ∧ Below w'.heap.size w' wr) (fun _ a _ => es.length - (intOf a).toNat)
  case atStart => exact ⟨fr, [], HN.out.2.1, rfl, rdSt_0 es n fin fr ms (by have := HN.out; omega), ownS_nil _ _ (Nat.le_refl _), Below.refl _ _⟩
  case round =>
    obtain ⟨k, ts, hk, rfl, H, hown, hbel⟩ := hrel
    obtain ⟨av, cv, rfl⟩ := hown.shape
    have htl := H.out.1
    by_cases hlt : k < fin
    · by_cases htm : ts.length < ms
      · have hke : k < es.length := by have := HN.out; omega
        have hke' : (k : Int) < es.length := by omega
        have hlt' : (k : Int) < fin := by omega
        have htm' : (ts.length : Int) < ms := by omega
        have hRr := RdX.below HR1.out (Nat.le_refl _) hbel
        obtain ⟨ao', cap', e0, _, _, _, h3⟩ := hRr
        simp only [Value.slice.injEq] at e0
        obtain ⟨rfl, _, rfl⟩ := e0
        obtain ⟨g, off, rfl, hc⟩ := h3 (by omega)
        obtain ⟨q0, q1, q2, q3, q4, q5, q6⟩ := RdX.cells hc k hke
        have hgl := cell_lt q0
        have HC : Hid _ := hc
        obtain ⟨hn1, hn2⟩ := rdSt_next H.out hlt htm
        have HN1 : Hid _ := hn1
        have HN2 : Hid _ := hn2
        have HSN : Hid (seen es n k = if (Ent.at es k).k ≠ 1 then false else if (Ent.at es k).t = false then true else if scan (isMark es (Ent.at es k).b) (n - (k + 1)) (k + 1) < 0 then false else (Ent.at es (scan (isMark es (Ent.at es k).b) (n - (k + 1)) (k + 1)).toNat).k == 2) := show _ = _ from rfl
        clear hc h3 hn1 hn2 H
        generalize Ent.at es k = x at HN1 HSN q0 q1 q2 q3 q4 q5 q6
        by_cases hk1 : x.k = 1
        · have hk1' : (x.k == 1) = true := by simp [hk1]
          rw [if_neg (by simp [hk1])] at HSN
          by_cases ht : x.t = false
          · rw [if_pos ht] at HSN
            have HB : Hid _ := HN1.out HSN.out
            clear hk1 HN1 HN2 HSN
            go_wp2_with (at_builtin; refine wp_appS rfl _ _ rfl _ _ ts rfl x.s (hown.alloc _) _ rfl (by simp) (by omega) ?_)
            intro v2 w2 hown2 hb2
            have hbel2 := (hbel.alloc hown.2 _).trans hb2
            clear hb2 hown hbel q0 q1 q2 q3 q4 q5 q6
            go_wp2
            go_roundw
            case rel => exact ⟨k + 1, ts ++ [x.s], by omega, by go_num, HB, hown2, hbel2⟩
            case measure => simp [intOf]; omega
          · have ht' : x.t = true := by simpa using ht
            rw [if_neg ht] at HSN
            have hkn : k + 1 ≤ n := by have := HN.out; omega
            have hkn' : (k : Int) + 1 ≤ n := by omega
            clear hk1 ht
            go_wp2
            go_loopw [16, 17] (fun sn i wi => ∃ j : Nat, k + 1 ≤ j ∧ j ≤ n ∧ sn = .bool false ∧ i = .int .i64 j ∧ Hid (∀ t, k + 1 ≤ t → t < j → ¬ isMark es x.b t) ∧ ∃ q, wi = (wr.alloc (.cells #[.int .i64 x.a, .int .i64 x.b, .int .i64 x.c, .int .i64 x.d, .int .i64 x.k, .bool true, .string x.s] 36)).drewN q) (fun _ i _ => n - (intOf i).toNat)
            case atStart => exact ⟨k + 1, Nat.le_refl _, hkn, rfl, by go_num, fun t t1 t2 => by omega, 0, rfl⟩
            case round =>
              obtain ⟨j, hj1, hj2, rfl, rfl, HJ, q, rfl⟩ := hrel
              by_cases hjn : j < n
              · have hje : j < es.length := by have := HN.out; omega
                have hje' : (j : Int) < es.length := by omega
                have hje0 : (0 : Int) ≤ (j : Int) := by omega
                obtain ⟨s0, s1, s2, s3, s4, s5, s6⟩ := RdX.cells HC.out j hje
                have HT : Hid (isMark es x.b j ↔ (Ent.at es j).b = x.b ∧ (Ent.at es j).k ≠ 1) := Iff.rfl
                have HSM : Hid (isMark es x.b j → seen es n k = ((Ent.at es j).k == 2)) := fun hmk => by
                  rw [HSN.out, scan_some hj1 (by omega) hmk HJ.out, if_neg (by omega)]
                  simp
                generalize Ent.at es j = y at HT HSM s0 s1 s2 s3 s4 s5 s6
                by_cases y1 : y.b = x.b
                · have y1' : (y.b == x.b) = true := by simp [y1]
                  by_cases y2 : y.k = 1
                  · have y2' : (y.k != 1) = false := by simp [y2]
                    have HJJ : Hid (∀ t, k + 1 ≤ t → t < j + 1 → ¬ isMark es x.b t) := fun t t1 t2 => by
                      by_cases e : t = j
                      · subst e; exact fun h => (HT.out.1 h).2 y2
                      · exact HJ.out t t1 (by omega)
                    clear y1 y2 HT HJ HSM
                    go_wp2
                    go_quiet (fail)
                    go_wp2
                    go_roundw
                    case rel => exact ⟨j + 1, by omega, by omega, rfl, by go_num, HJJ, q + nq, rfl⟩
                    case measure => simp [intOf]; omega
                  · have y2' : (y.k != 1) = true := by simp [y2]
                    have HSE : Hid _ := HSM.out (HT.out.2 ⟨y1, y2⟩)
                    by_cases y3 : y.k = 2
                    · have y3' : (y.k == 2) = true := by simp [y3]
                      have HB : Hid _ := HN1.out (by rw [HSE.out, y3'])
                      clear y1 y2 y3 HT HJ HSM HSE HN1 HN2 HSN
                      go_wp2
                      go_quiet (fail)
                      go_wp2_with (at_builtin; refine wp_appS rfl _ _ rfl _ _ ts rfl x.s (((hown.alloc _).drewN _)) _ rfl (by simp) (by omega) ?_)
                      intro v2 w2 hown2 hb2
                      have hbel2 := (below_drewN (hbel.alloc hown.2 _) _).trans hb2
                      clear hb2 hown hbel q0 q1 q2 q3 q4 q5 q6 s0 s1 s2 s3 s4 s5 s6
                      go_wp2
                      go_roundw
                      case rel => exact ⟨k + 1, ts ++ [x.s], by omega, by go_num, HB, hown2, hbel2⟩
                      case measure => simp [intOf]; omega
                    · have y3' : (y.k == 2) = false := by simp [y3]
                      have HB : Hid _ := HN2.out (by rw [HSE.out, y3'])
                      clear y1 y2 y3 HT HJ HSM HSE HN1 HN2 HSN
                      go_wp2
                      go_quiet (fail)
                      go_wp2
                      go_roundw
                      case rel => exact ⟨k + 1, ts, by omega, by go_num, HB, (hown.alloc _).drewN _, below_drewN (hbel.alloc hown.2 _) _⟩
                      case measure => simp [intOf]; omega
                · have y1' : (y.b == x.b) = false := by simp [y1]
                  have HJJ : Hid (∀ t, k + 1 ≤ t → t < j + 1 → ¬ isMark es x.b t) := fun t t1 t2 => by
                    by_cases e : t = j
                    · subst e; exact fun h => y1 (HT.out.1 h).1
                    · exact HJ.out t t1 (by omega)
                  clear y1 HT HJ HSM
                  go_wp2
                  go_quiet (fail)
                  go_wp2
                  go_roundw
                  case rel => exact ⟨j + 1, by omega, by omega, rfl, by go_num, HJJ, q + nq, rfl⟩
                  case measure => simp [intOf]; omega
              · have hjn' : j = n := by omega
                have HB : Hid _ := HN2.out (by rw [HSN.out, if_pos (scan_none.2 (fun t t1 t2 => HJ.out t t1 (by omega)))])
                have hjn'' : (n : Int) ≤ j := by omega
                clear HN1 HN2 HSN HJ hjn' hjn
                go_wp2
                go_roundw
                case rel => exact ⟨k + 1, ts, by omega, by go_num, HB, (hown.alloc _).drewN _, below_drewN (hbel.alloc hown.2 _) _⟩
                case measure => simp [intOf]; omega
        · have hk1' : (x.k == 1) = false := by simp [hk1]
          rw [if_pos hk1] at HSN
          have HB : Hid _ := HN2.out HSN.out
          clear hk1 HN1 HN2 HSN
          go_wp2
          go_roundw
          case rel => exact ⟨k + 1, ts, by omega, by go_num, HB, hown.alloc _, hbel.alloc hown.2 _⟩
          case measure => simp [intOf]; omega
      · have E : Hid _ := rdSt_stop H.out (.inr (by omega))
        have htm' : (ms : Int) ≤ ts.length := by omega
        have hlt' : (k : Int) < fin := by omega
        clear H htl
        go_wp2
        go_ret3
        rw [HFIN.out, E.out]
        exact ⟨_, rfl, hown.mono hb1.size, hb1.trans (hbel.mono hb1.size)⟩
    · have E : Hid _ := rdSt_stop H.out (.inl (by omega))
      have hlt' : (fin : Int) ≤ k := by omega
      clear H htl
      go_wp2
      go_ret3
      rw [HFIN.out, E.out]
      exact ⟨_, rfl, hown.mono hb1.size, hb1.trans (hbel.mono hb1.size)⟩

end Go.Proofs.Ytkakagjffafdiaa
