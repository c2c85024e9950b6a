/-
  What replicas do, with bytes and with entries alone: Fetch; and that all of that keeps the invariant.
-/
import Derived.Test.YtkolelpdedmkeaaQops2
namespace Go.Proofs.Ytkolelpdedmkeaa
open Go.RowKit
set_option linter.unusedVariables false
set_option linter.unusedSimpArgs false

/-- How many entries come. -/
def Ap.came (A : Ap) (r d : Nat) : Nat := if com (A.es r) (A.es d) < (A.es d).length then 1 else 0
/-- P4.6. -/
def Ap.fetchA (A : Ap) (r d : Nat) : Ap := (A.meet r d).raise.copy r d (com (A.es r) (A.es d) + A.came r d) (min (max (A.hi r) ((A.meet r d).raise.hi d)) (com (A.es r) (A.es d) + A.came r d))
theorem Fine.fetchA {A : Ap} (F : Fine A) {r d : Nat} (hr : r < A.n) (hd : A.ld = some d) (hh : A.hi r ≤ com (A.es r) (A.es d)) : Fine (A.fetchA r d) := by
  have FM := (F.meet hr hh).raise
  obtain ⟨q1, q2, q3⟩ := F.led d hd
  obtain ⟨c1, c2⟩ := com_le (A.es r) (A.es d)
  have hc : com (A.es r) (A.es d) + A.came r d ≤ (A.es d).length := by unfold Ap.came; split <;> omega
  have h4 := (F.ent d q1)
  unfold Ap.fetchA
  by_cases hrd : r = d
  · subst hrd
    refine ⟨F.cnt, F.few, F.epo, F.bas, FM.kno, fun i hi => ?_, fun i hi => ?_, fun i hi => ?_, F.led, F.som⟩
    · by_cases e : i = r
      · subst e; simp only [Ap.copy, upd_same]; exact ⟨(FM.ent i hi).1.take _, by rw [List.length_take]; have := (FM.ent i hi).2; omega⟩
      · simp only [Ap.copy, upd_other _ _ e]; exact FM.ent i hi
    · by_cases e : i = r
      · subst e
        simp only [Ap.copy, upd_same, List.length_take]
        have hs : (A.meet i i).raise.sf i = min (A.sf i) (com (A.es i) (A.es i)) := by simp only [Ap.meet, Ap.raise, upd_same]
        have he : (A.meet i i).raise.es i = (A.es i).take (com (A.es i) (A.es i)) := by simp only [Ap.meet, Ap.raise, upd_same]
        rw [hs, he, List.length_take]
        omega
      · simp only [Ap.copy, upd_other _ _ e]; exact FM.saf i hi
    · by_cases e : i = r
      · subst e
        have hcc : com (A.es i) (A.es i) = (A.es i).length := by
          have := com_pre (A.es i) (A.es i) (A.es i) (Pre.refl _) (Pre.refl _)
          omega
        have hca : A.came i i = 0 := by unfold Ap.came; rw [hcc, if_neg (by omega)]
        have he : (A.meet i i).raise.es i = (A.es i).take (com (A.es i) (A.es i)) := by simp only [Ap.meet, Ap.raise, upd_same]
        simp only [Ap.copy, upd_same]
        rw [he, hca, hcc, List.length_take, List.length_take]
        omega
      · simp only [Ap.copy, upd_other _ _ e]; exact FM.hig i hi
  · have hed : (A.meet r d).raise.es d = A.es d := by simp only [Ap.meet, Ap.raise, upd_other _ _ (Ne.symm hrd)]
    have hlen : ((A.es d).take (com (A.es r) (A.es d) + A.came r d)).length = com (A.es r) (A.es d) + A.came r d := by rw [List.length_take]; omega
    refine ⟨F.cnt, F.few, F.epo, F.bas, FM.kno, fun i hi => ?_, fun i hi => ?_, fun i hi => ?_, F.led, F.som⟩
    · by_cases e : i = r
      · subst e; simp only [Ap.copy, upd_same, hed]; exact ⟨h4.1.take _, by omega⟩
      · simp only [Ap.copy, upd_other _ _ e]; exact FM.ent i hi
    · by_cases e : i = r
      · subst e
        simp only [Ap.copy, upd_same, hed, hlen]
        have hs : (A.meet i d).raise.sf i = min (A.sf i) (com (A.es i) (A.es d)) := by simp only [Ap.meet, Ap.raise, upd_same]
        rw [hs]
        omega
      · simp only [Ap.copy, upd_other _ _ e]; exact FM.saf i hi
    · by_cases e : i = r
      · subst e; simp only [Ap.copy, upd_same, hed, hlen]; omega
      · simp only [Ap.copy, upd_other _ _ e]; exact FM.hig i hi

theorem fetch_prt {A : Ap} (F : Fine A) {r d : Nat} (hr : r < A.n) (hd : A.ld = some d) (hne : d ≠ r) (hh : A.hi r ≤ com (A.es r) (A.es d)) (hcs : (A.es r).take (com (A.es r) (A.es d)) = (A.es d).take (com (A.es r) (A.es d))) :
    A.prt.fetchP r = if A.up r = false then (Prt.zero, 0, 7) else ((A.fetchA r d).prt, (A.came r d : Int), 0) := by
  obtain ⟨q1, q2, q3⟩ := F.led d hd
  obtain ⟨c1, c2⟩ := com_le (A.es r) (A.es d)
  have FM := (F.meet hr hh).raise
  have FF := F.fetchA hr hd hh
  unfold Prt.fetchP
  rw [fine_flt F hr, if_neg (by simp), if_neg (show ¬ (A.prt.ld < 0 ∨ A.prt.ld = (r : Int)) from fun h => by
    rcases h with h | h
    · rw [(ld_prt A).1.1 h] at hd; cases hd
    · rw [((ld_prt A).2.1 r).1 h] at hd; exact hne (Option.some.inj hd).symm), Int.toNat_natCast, (prt_up A hr).1]
  by_cases hu : A.up r = false
  · rw [if_pos hu, if_pos hu]
  rw [if_neg hu, if_neg hu]
  simp only
  rw [(ld_prt A).2.2 d hd, prt_at A r hr, prt_at A d q1, (rep_es F hr).1, (rep_es F q1).1, met_prt F hr hh]
  have hBr : (A.meet r d).raise.prt.at r = (A.meet r d).raise.rep r := prt_at _ r hr
  have hBd : (A.meet r d).raise.prt.at d = (A.meet r d).raise.rep d := prt_at _ d q1
  have hes : (A.meet r d).raise.es r = (A.es r).take (com (A.es r) (A.es d)) := by simp only [Ap.meet, Ap.raise, upd_same]
  have hed : (A.meet r d).raise.es d = A.es d := by simp only [Ap.meet, Ap.raise, upd_other _ _ hne]
  have hsf : (A.meet r d).raise.sf r = min (A.sf r) (com (A.es r) (A.es d)) := by simp only [Ap.meet, Ap.raise, upd_same]
  have hup : (A.meet r d).raise.up r = A.up r := rfl
  rw [hBr, hBd]
  have hlr : ((A.rep r).h : Int) = (A.hi r : Int) := rfl
  have hld : (((A.meet r d).raise.rep d).h : Int) = ((A.meet r d).raise.hi d : Int) := rfl
  rw [hlr, hld]
  have happ : ∀ x, x.flt = 0 → com (A.es r) (A.es d) < (A.es d).length → appF ((A.meet r d).raise.rep r).l ((A.meet r d).raise.rep r).y x = 0 := fun x hx hlt => by
    have e1 := (FM.ent r hr).1
    have e2 := FM.saf r hr
    have e3 := (F.ent d q1).2
    exact app_flat e1 (by rw [hes, List.length_take]; omega) _ e2 hx
  have hcame : (if com (A.es r) (A.es d) < (A.es d).length ∧ appF ((A.meet r d).raise.rep r).l ((A.meet r d).raise.rep r).y (Ent.at (A.es d) (com (A.es r) (A.es d))) = 0 then 1 else 0) = A.came r d := by
    unfold Ap.came
    by_cases hlt : com (A.es r) (A.es d) < (A.es d).length
    · rw [if_pos hlt, if_pos]
      refine ⟨hlt, happ _ ?_ hlt⟩
      rw [at_get hlt]
      exact (F.ent d q1).1 _ (List.getElem_mem hlt)
    · rw [if_neg hlt, if_neg (fun h => hlt h.1)]
  rw [hcame]
  have key : (A.meet r d).raise.prt.setR r (fun z => { z with l := if A.came r d = 1 then z.l ++ (Ent.at (A.es d) (com (A.es r) (A.es d))).enc else z.l, h := min (max (A.hi r : Int) ((A.meet r d).raise.hi d : Int)) ((com (A.es r) (A.es d) + A.came r d : Nat) : Int) }) = (A.fetchA r d).prt := by
    generalize hB : (A.meet r d).raise = B at *
    have hBn : B.n = A.n := by rw [← hB]; rfl
    unfold Prt.setR
    show Prt.mk B.ep (ldI B.ld) _ _ (((List.range B.n).map B.rep).modify r _) _ _ = _
    rw [range_modify]
    have hfl : (if A.came r d = 1 then flat (B.es r) ++ (Ent.at (A.es d) (com (A.es r) (A.es d))).enc else flat (B.es r)) = flat ((A.es d).take (com (A.es r) (A.es d) + A.came r d)) := by
      rw [hes, hcs]
      unfold Ap.came
      by_cases hlt : com (A.es r) (A.es d) < (A.es d).length
      · rw [if_pos hlt, if_pos rfl, at_get hlt]
        exact (flat_take_succ (A.es d) _ hlt).symm
      · rw [if_neg hlt, if_neg (by simp)]
        rfl
    have hend : endOf (B.es r) (B.sf r) = endOf ((A.es d).take (com (A.es r) (A.es d) + A.came r d)) (B.sf r) := by
      rw [hes, hcs, hsf]
      unfold endOf
      rw [List.take_take, List.take_take]
      congr 3
      omega
    have hmin : min (max (A.hi r : Int) (B.hi d : Int)) ((com (A.es r) (A.es d) + A.came r d : Nat) : Int) = ((min (max (A.hi r) (B.hi d)) (com (A.es r) (A.es d) + A.came r d) : Nat) : Int) := by omega
    show Prt.mk B.ep (ldI B.ld) _ _ ((List.range B.n).map (upd B.rep r ⟨B.up r, if A.came r d = 1 then flat (B.es r) ++ (Ent.at (A.es d) (com (A.es r) (A.es d))).enc else flat (B.es r), (endOf (B.es r) (B.sf r) : Nat), min (max (A.hi r : Int) (B.hi d : Int)) ((com (A.es r) (A.es d) + A.came r d : Nat) : Int)⟩)) _ _ = _
    rw [hfl, hend, hmin]
    have e4 := rep_upd B r (B.up r) ((A.es d).take (com (A.es r) (A.es d) + A.came r d)) (B.sf r) (min (max (A.hi r) (B.hi d)) (com (A.es r) (A.es d) + A.came r d))
    simp only [upd_self] at e4
    rw [e4]
    unfold Ap.fetchA
    rw [hB]
    unfold Ap.copy
    rw [hed]
    rfl
  exact congrArg (fun z => (z, (A.came r d : Int), (0 : Int))) key

end Go.Proofs.Ytkolelpdedmkeaa
