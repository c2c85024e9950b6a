/-
  The walk of ReadPages, given what view.Check, view.Stable and view.Read answer.
-/
import Derived.Test.YtdpiijndnefahaaVtexts
import Derived.Test.YtdpiijndnefahaaVkeep
import Derived.Test.YtdpiijndnefahaaVcon1
import Derived.Test.YtdpiijndnefahaaVdread
namespace Go.Proofs.Ytdpiijndnefahaa
open Go.RowKit
set_option linter.unusedVariables false
set_option linter.unusedSimpArgs false

theorem sentL_notx (rs : List Raw4) (m : Nat) : NoTx (sentL rs m) := by
  intro e he hb
  obtain ⟨i, hi, rfl⟩ := List.mem_iff_getElem.1 he
  have := sentL_txn rs m i hi
  rw [at_get hi] at this
  cases ht : ((sentL rs m)[i]'hi).t with
  | false => rfl
  | true => have := this ht; omega
theorem rdA_ok (es : List Ent) (n f m : Nat) (hn : n ≤ es.length) (hf : f ≤ es.length) (hm : 1 ≤ m ∧ m ≤ 20) : rdA es n f m = ((rdF es n (stb es n) es.length f m).1, ((rdF es n (stb es n) es.length f m).2 : Int), 0) := by
  have hs : stf es n = ((stb es n : Int), 0) := by unfold stf; rw [if_neg (by omega), Int.toNat_natCast]
  unfold rdA
  rw [hs, if_neg (by simp), if_neg (by omega)]
  simp

set_option maxRecDepth 100000 in
set_option maxHeartbeats 2000000 in
theorem readPages_core (HV : CheckC) (HS : StableC) (HD : ReadC) (rs : List Raw4) (v : Value) (a : Int) (w : World) (hl : (rs.length : Int) ≤ 9223372036854775807) (ha : I64 a) (h : RdR w v rs) :
    Calls Try.prog 9 #[v, .int .i64 a] w fun e w' => e = .returned (.bool true) ∧ Below w.heap.size w w' := by
  have HSS : Hid StableC := HS
  have HDD : Hid ReadC := HD
  have HR : Hid (RdR w v rs) := h
  have HL : Hid ((rs.length : Int) ≤ 9223372036854775807) := hl
  have HT : Hid (∀ w, _) := viewTells_any HV HD
  have HSent : Hid (∀ v1 w1, RdX w1 v1 (manyL rs 18) → _) := fun v1 w1 h1 => sent_any HV (manyL rs 18) v1 w1 (by simp [manyL]; omega) (manyL_plain rs 18) h1
  have HPl : Hid (Plain (sentL rs 18)) := sentL_plain rs 18
  have HTx : Hid _ := sentL_notx rs 18
  have hln := sentL_len rs 18
  clear h hl HV HS HD
  go_enter Try.func9, Try.ntmps9
  go_wp2_with fail
  refine (HT.out _).mono ?_
  rintro e w0 ⟨rfl, hb0⟩
  go_wp2_with fail
  refine (many_any rs v 18 w0 (by omega) HL.out (RdR.below HR.out hb0)).mono ?_
  rintro e w1 ⟨v1, rfl, hv1, hb1⟩
  go_wp2_with fail
  refine (HSent.out v1 w1 hv1.rdX).mono ?_
  rintro e w2 ⟨u, rfl, hu, hb2⟩
  have HB2 : Hid _ := bstep (bstep hb0 hb1) hb2
  have HU : Hid (RdX w2 u (sentL rs 18)) := hu.rdX
  clear HR HL HSent hv1 hb1 hb2 hu HT hb0
  generalize sentL rs 18 = es at *
  obtain ⟨ao, cap, rfl, h1, h2, h4, h3⟩ := HU.out
  clear h3 h2 h4
  have hfn := stb_high es es.length
  have HA : Hid (∀ f m : Nat, f ≤ es.length → 1 ≤ m ∧ m ≤ 20 → _) := fun f m hf hm => rdA_ok es es.length f m (Nat.le_refl _) hf hm
  have HP : Hid (∀ i m, i ≤ stb es es.length → stb es es.length - i ≤ es.length → _) := fun i m => rdF_page es es.length (stb es es.length) es.length i m
  have HNX : Hid (∀ i m, i ≤ stb es es.length → stb es es.length - i ≤ es.length → _) := fun i m => rdF_next es es.length (stb es es.length) es.length i m
  have hsf : stf es (es.length : Nat) = ((stb es es.length : Int), 0) := by unfold stf; rw [if_neg (by omega), Int.toNat_natCast]
  have HSF : Hid _ := hsf
  clear hsf
  have HP0 : Hid _ := HP.out 0 20 (Nat.zero_le _) (by omega)
  have HA0 : Hid (rdA es es.length 0 20 = _) := HA.out 0 20 (Nat.zero_le _) (by omega)
  go_wp2_with fail
  refine (HDD.out es _ (es.length : Nat) 0 20 _ (by omega) HPl.out HTx.out HU.out).mono ?_
  rw [HA0.out]
  rintro e w3 ⟨u3, rfl, hu3, hb3⟩
  obtain ⟨p1, p2, p3, p4, p5, p6⟩ := HP0.out
  have p7 := p6 (by omega)
  rw [p7] at p3 ⊢
  rw [p3] at hu3
  have HU3 : Hid _ := hu3
  have hb3' := bstep HB2.out hb3
  have HB3 : Hid _ := hb3'
  have HR3 : Hid _ := RdX.below HU.out (Nat.le_refl _) hb3
  clear p1 p2 p3 p4 p5 p6 p7 HP0 HA0 hu3 hb3 hb3' HU HB2
  go_wp2_with fail
  refine (picked_any a 4 _ ha (by omega)).mono ?_
  rintro e w4 ⟨rfl, rfl⟩
  have hpa := pick_bd a 4 (by omega)
  obtain ⟨m, hm⟩ : ∃ m : Nat, pick a 4 = m := ⟨(pick a 4).toNat, by omega⟩
  rw [hm] at hpa ⊢
  clear hm ha
  obtain ⟨av3, cv3, rfl⟩ := OwnS.shape HU3.out
  generalize hfin : stb es es.length = fin at *
  rw [Nat.sub_zero] at HU3
  clear hfin
  go_wp2
  go_loopw [10, 11, 33] (fun at' got i wr => ∃ (r k : Nat) (ts : List ByteArray), r ≤ 30 ∧ k ≤ fin ∧ (fin ≤ k ∨ r ≤ k) ∧ at' = .int .i64 k ∧ i = .int .i64 r ∧ Hid (ts = tx es es.length 0 k) ∧ OwnS w4.heap.size got ts wr ∧ Below w4.heap.size w4 wr) (fun _ _ i _ => 30 - (intOf i).toNat)
  case atStart => exact ⟨0, 0, [], by omega, by omega, by omega, rfl, rfl, show _ = _ from rfl, ownS_nil _ _ (Nat.le_refl _), Below.refl _ _⟩
  case round =>
    obtain ⟨r, k, ts, hr, hk, hrk, rfl, rfl, HTS, hown, hbel⟩ := hrel
    obtain ⟨av, cv, rfl⟩ := hown.shape
    by_cases hlt : r < 30
    · have HAk : Hid _ := HA.out k (1 + m) (by omega) (by omega)
      have HPk : Hid _ := HP.out k (1 + m) hk (by omega)
      have HNk : Hid _ := HNX.out k (1 + m) hk (by omega)
      have hRr := RdX.below HR3.out (Nat.le_refl _) hbel
      have HRD : Hid _ := HDD.out es _ (es.length : Nat) (k : Nat) ((1 + m : Nat)) _ (by omega) HPl.out HTx.out hRr
      rw [HAk.out] at HRD
      clear HAk hRr
      have hc1 : ((1 + m : Nat) : Int) = 1 + (m : Int) := by omega
      rw [hc1] at HRD
      clear hc1
      go_wp2_with fail
      refine Calls.mono HRD.out ?_
      rintro e w5 ⟨u5, rfl, hu5, hb5⟩
      obtain ⟨p1, p2, p3, p4, p5, p6⟩ := HPk.out
      have HNk' : Hid _ := HNk.out
      generalize rdF es es.length fin es.length k (1 + m) = R at *
      obtain ⟨R1, n1⟩ := R
      simp only at p1 p2 p3 p4 p5 p6 hu5
      have htl := tx_len es es.length 0 k
      rw [← HTS.out] at htl
      have HTN : Hid (ts ++ R1 = tx es es.length 0 n1) := show _ = _ by rw [HTS.out]; exact HNk'.out
      have p4' : (R1.length : Int) ≤ 1 + m := by omega
      have p1' : (k : Int) ≤ n1 := by omega
      have hown5 := hown.below (Nat.le_refl _) hb5
      have hbel5 := hbel.trans (hb5.mono hbel.size)
      obtain ⟨av5, cv5, rfl⟩ := hu5.shape
      clear p3 p6 HPk HNk HNk' HRD HTS hb5 hown hbel
      go_wp2_with (at_builtin; refine wp_appSS rfl _ _ rfl _ _ _ ts rfl hown5 _ R1 rfl hu5 (by omega) ?_)
      intro v6 w6 hown6 hb6
      have hbel6 := hbel5.trans hb6
      clear hown5 hu5 hb6 hbel5
      go_wp2
      go_roundw
      case rel => exact ⟨r + 1, n1, ts ++ R1, by omega, p2, by omega, rfl, by go_num, HTN, hown6, hbel6⟩
      case measure => simp [intOf]; omega
    · have hkf : k = fin := by omega
      subst hkf
      have hRr := RdX.below HR3.out (Nat.le_refl _) hbel
      have HBr : Hid _ := HB3.out.trans (hbel.mono HB3.out.size)
      have htl := tx_len es es.length 0 k
      clear HA HP HNX HDD
      go_wp2_with fail
      refine (HSS.out es _ (es.length : Nat) _ (by omega) HPl.out hRr).mono ?_
      rw [HSF.out]
      rintro e w5 ⟨rfl, hb5⟩
      have hown5 := hown.below (Nat.le_refl _) hb5
      have hall := OwnS.below (OwnS.below HU3.out (Nat.le_refl _) hbel) (Nat.le_refl _) hb5
      have HTE : Hid (tx es es.length 0 k = ts) := HTS.out.symm
      rw [HTE.out] at hall htl
      have HB5 : Hid _ := bstep HBr.out hb5
      have HALL : Hid _ := hall.rd
      have HOWN : Hid _ := hown5.rd
      clear hb5 hown5 hall hown hbel hRr HBr HU3
      go_wp2_with fail
      refine (eqTexts_any ts _ _ _ (by omega) ?_ HOWN.out).mono ?_
      · have := HALL.out
        rw [← HTE.out] at this ⊢
        exact this
      rintro e w6 ⟨rfl, hb6⟩
      have hB6 := bstep HB5.out hb6
      go_wp2
      go_ret
      exact ⟨rfl, hB6⟩

end Go.Proofs.Ytdpiijndnefahaa
