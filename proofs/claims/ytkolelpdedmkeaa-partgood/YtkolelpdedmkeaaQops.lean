/-
  What replicas do, with bytes and with entries alone.
-/
import Derived.Test.YtkolelpdedmkeaaQprt
namespace Go.Proofs.Ytkolelpdedmkeaa
open Go.RowKit
set_option linter.unusedVariables false
set_option linter.unusedSimpArgs false

theorem endOf_full (es : List Ent) : endOf es es.length = (flat es).length := endOf_all es
theorem prt_up (A : Ap) {r : Nat} (h : r < A.n) : (A.prt.at r).up = A.up r ∧ (A.prt.at r).h = A.hi r ∧ (A.prt.at r).l = flat (A.es r) ∧ (A.prt.at r).y = endOf (A.es r) (A.sf r) := by
  rw [prt_at A r h]
  exact ⟨rfl, rfl, rfl, rfl⟩
theorem prt_isr (A : Ap) {r : Nat} (h : r < A.n) : A.prt.isr.getD r false = A.isr r := range_get _ _ _ _ h
theorem prt_kn (A : Ap) {r : Nat} (h : r < A.n) : A.prt.kn.getD r 0 = (A.kn r : Int) := range_get _ _ _ _ h

theorem Fine.sync {A : Ap} (F : Fine A) (r : Nat) : Fine (A.sync r) := by
  refine ⟨F.cnt, F.few, F.epo, F.bas, F.kno, F.ent, fun i hi => ?_, F.hig, F.led, F.som⟩
  by_cases e : i = r
  · subst e; simp only [Ap.sync, upd_same]; exact Nat.le_refl _
  · simp only [Ap.sync, upd_other _ _ e]; exact F.saf i hi
theorem Fine.know {A : Ap} (F : Fine A) (d : Nat) : Fine (A.know d) := by
  refine ⟨F.cnt, F.few, F.epo, F.bas, fun i hi => ?_, F.ent, F.saf, F.hig, F.led, F.som⟩
  by_cases e : i = d
  · subst e; simp only [Ap.know, upd_same]; exact (F.ent i hi).2
  · simp only [Ap.know, upd_other _ _ e]; exact F.kno i hi
/-- P4.5. -/
def Ap.syncA (A : Ap) (r : Nat) : Ap := if A.ld = some r then ((A.sync r).know r).raise else A.sync r
theorem Fine.syncA {A : Ap} (F : Fine A) (r : Nat) : Fine (A.syncA r) := by
  unfold Ap.syncA
  split
  · exact ((F.sync r).know r).raise
  · exact F.sync r
theorem sync_setR (A : Ap) (r : Nat) : A.prt.setR r (fun x => { x with y := x.l.length }) = (A.sync r).prt := by
  unfold Prt.setR
  show Prt.mk A.ep (ldI A.ld) _ _ (((List.range A.n).map A.rep).modify r _) _ _ = _
  rw [range_modify]
  have e2 := rep_upd A r (A.up r) (A.es r) (A.es r).length (A.hi r)
  simp only [upd_self] at e2
  show Prt.mk A.ep (ldI A.ld) _ _ ((List.range A.n).map (upd A.rep r ⟨A.up r, flat (A.es r), (flat (A.es r)).length, A.hi r⟩)) _ _ = _
  rw [← endOf_full, e2]
  rfl
theorem sync_prt {A : Ap} (F : Fine A) {r : Nat} (hr : r < A.n) : A.prt.syncP r = if A.up r = false then (Prt.zero, 7) else ((A.syncA r).prt, 0) := by
  unfold Prt.syncP
  rw [fine_flt F hr, if_neg (by simp), Int.toNat_natCast, (prt_up A hr).1]
  by_cases hu : A.up r = false
  · rw [if_pos hu, if_pos hu]
  · rw [if_neg hu, if_neg hu, sync_setR]
    have hl : ((r : Int) = A.prt.ld) ↔ A.ld = some r := by
      rw [← (ld_prt A).2.1 r]
      exact eq_comm
    unfold Ap.syncA
    by_cases hd : A.ld = some r
    · rw [if_pos (hl.2 hd), if_pos hd, prt_at A r hr, (rep_es F hr).1, ← raise_prt ((F.sync r).know r)]
      congr 2
      show Prt.mk _ _ _ ((A.prt.kn).set r ((A.es r).length : Int)) _ _ _ = _
      rw [kn_upd]
      rfl
    · rw [if_neg (fun h => hd (hl.1 h)), if_neg hd]

/-- P4.7. -/
theorem Fine.rise {A : Ap} (F : Fine A) (r : Nat) : Fine (A.rise r) := by
  refine ⟨F.cnt, F.few, F.epo, F.bas, F.kno, F.ent, F.saf, F.hig, fun d hd => ?_, F.som⟩
  obtain ⟨q1, q2, q3⟩ := F.led d hd
  refine ⟨q1, q2, ?_⟩
  by_cases e : d = r
  · subst e; simp only [Ap.rise, upd_same]
  · simp only [Ap.rise, upd_other _ _ e]; exact q3
theorem rise_prt {A : Ap} (F : Fine A) {r : Nat} (hr : r < A.n) : A.prt.riseP r = if A.up r = true then (Prt.zero, 6) else ((A.rise r).prt, 0) := by
  unfold Prt.riseP
  rw [fine_flt F hr, if_neg (by simp), Int.toNat_natCast, (prt_up A hr).1]
  by_cases hu : A.up r = true
  · rw [if_pos hu, if_pos hu]
  · rw [if_neg hu, if_neg hu]
    congr 1
    unfold Prt.setR
    show Prt.mk A.ep (ldI A.ld) _ _ (((List.range A.n).map A.rep).modify r _) _ _ = _
    rw [range_modify]
    have e2 := rep_upd A r true (A.es r) (A.sf r) (A.hi r)
    simp only [upd_self] at e2
    show Prt.mk A.ep (ldI A.ld) _ _ ((List.range A.n).map (upd A.rep r ⟨true, flat (A.es r), endOf (A.es r) (A.sf r), A.hi r⟩)) _ _ = _
    rw [e2]
    rfl

/-- Another one of the first j keeps up. -/
theorem prt_other {A : Ap} (r : Nat) (j : Nat) (h : j ≤ A.n) : A.prt.other r j = true ↔ ∃ i, i < j ∧ i ≠ r ∧ A.isr i = true := by
  induction j with
  | zero => simp [Prt.other]
  | succ j ih =>
    simp only [Prt.other]
    rw [prt_isr A (by omega), Bool.or_eq_true, ih (by omega), Bool.and_eq_true, decide_eq_true_eq]
    constructor
    · rintro (⟨i, h1, h2⟩ | h2)
      · exact ⟨i, by omega, h2⟩
      · exact ⟨j, by omega, by omega, h2.2⟩
    · rintro ⟨i, h1, h2, h3⟩
      by_cases e : i = j
      · rw [e] at h2 h3; exact .inr ⟨by omega, h3⟩
      · exact .inl ⟨i, by omega, h2, h3⟩
theorem Fine.wipe {A : Ap} (F : Fine A) (r : Nat) (hu : A.up r = false) (ho : ∃ i, i < A.n ∧ i ≠ r ∧ A.isr i = true) : Fine (A.wipe r) := by
  refine ⟨F.cnt, F.few, F.epo, F.bas, fun i hi => ?_, fun i hi => ?_, fun i hi => ?_, fun i hi => ?_, fun d hd => ?_, ?_⟩
  · by_cases e : i = r
    · subst e; simp [Ap.wipe, upd_same]
    · simp only [Ap.wipe, upd_other _ _ e]; exact F.kno i hi
  · by_cases e : i = r
    · subst e; simp [Ap.wipe, upd_same, Oks]
    · simp only [Ap.wipe, upd_other _ _ e]; exact F.ent i hi
  · by_cases e : i = r
    · subst e; simp [Ap.wipe, upd_same]
    · simp only [Ap.wipe, upd_other _ _ e]; exact F.saf i hi
  · by_cases e : i = r
    · subst e; simp [Ap.wipe, upd_same]
    · simp only [Ap.wipe, upd_other _ _ e]; exact F.hig i hi
  · obtain ⟨q1, q2, q3⟩ := F.led d hd
    have e : d ≠ r := fun e => by rw [e, hu] at q3; cases q3
    exact ⟨q1, by simp only [Ap.wipe, upd_other _ _ e]; exact q2, by simp only [Ap.wipe, upd_other _ _ e]; exact q3⟩
  · obtain ⟨i, h1, h2, h3⟩ := ho
    exact ⟨i, h1, by simp only [Ap.wipe, upd_other _ _ h2]; exact h3⟩
theorem wipe_prt {A : Ap} (F : Fine A) {r : Nat} (hr : r < A.n) : A.prt.wipeP r = if A.up r = true then (Prt.zero, 12) else if A.prt.other r A.n = false then (Prt.zero, 8) else ((A.wipe r).prt, 0) := by
  unfold Prt.wipeP
  rw [fine_flt F hr, if_neg (by simp), Int.toNat_natCast, (prt_up A hr).1, (prt_len A).2.1]
  by_cases hu : A.up r = true
  · rw [if_pos hu, if_pos hu]
  · rw [if_neg hu, if_neg hu]
    by_cases ho : A.prt.other r A.n = false
    · rw [if_pos ho, if_pos ho]
    · rw [if_neg ho, if_neg ho]
      congr 1
      unfold Prt.setR
      show Prt.mk A.ep (ldI A.ld) ((A.prt.isr).set r false) ((A.prt.kn).set r ((0 : Nat) : Int)) (((List.range A.n).map A.rep).modify r _) _ _ = _
      rw [range_modify, kn_upd, isr_upd]
      have e2 := rep_upd A r false [] 0 0
      show Prt.mk A.ep (ldI A.ld) _ _ ((List.range A.n).map (upd A.rep r ⟨false, flat [], endOf [] 0, (0 : Nat)⟩)) _ _ = _
      rw [e2]
      rfl

/-- P4.9. -/
theorem Fine.lead {A : Ap} (F : Fine A) (r : Nat) (hr : r < A.n) (hi : A.isr r = true) (hu : A.up r = true) (he : A.ep < 1073741824) : Fine (A.lead r) := by
  have e := F.epo
  refine ⟨F.cnt, F.few, by show 0 ≤ A.ep + 1 ∧ A.ep + 1 ≤ 1073741824; omega, (F.ent r hr).2, fun i hi' => ?_, F.ent, F.saf, F.hig, fun d hd => ?_, F.som⟩
  · by_cases e : i = r
    · subst e
      have h1 := F.saf i hr
      have h2 := (F.ent i hr).2
      simp only [Ap.lead, upd_same]
      omega
    · simp only [Ap.lead, upd_other _ _ e]; exact Nat.zero_le _
  · obtain rfl : r = d := Option.some.inj hd
    exact ⟨hr, hi, hu⟩
theorem elect_prt {A : Ap} (F : Fine A) {r : Nat} (hr : r < A.n) : A.prt.electP r = if A.up r = false then (Prt.zero, 7) else if A.isr r = false then (Prt.zero, 13) else if A.ld = some r then (Prt.zero, 6) else if A.ep = 1073741824 then (Prt.zero, 2) else ((A.lead r).raise.prt, 0) := by
  unfold Prt.electP
  rw [fine_flt F hr, if_neg (by simp), Int.toNat_natCast, (prt_up A hr).1, prt_isr A hr]
  have hl : (A.prt.ld = (r : Int)) ↔ A.ld = some r := (ld_prt A).2.1 r
  by_cases hu : A.up r = false
  · rw [if_pos hu, if_pos hu]
  rw [if_neg hu, if_neg hu]
  by_cases hi : A.isr r = false
  · rw [if_pos hi, if_pos hi]
  rw [if_neg hi, if_neg hi]
  by_cases hd : A.ld = some r
  · rw [if_pos (hl.2 hd), if_pos hd]
  rw [if_neg (fun h => hd (hl.1 h)), if_neg hd]
  show (if A.ep = 1073741824 then _ else _) = _
  by_cases he : A.ep = 1073741824
  · rw [if_pos he, if_pos he]
  rw [if_neg he, if_neg he]
  have e := F.epo
  have hu' : A.up r = true := by simpa using hu
  have hi' : A.isr r = true := by simpa using hi
  rw [← raise_prt (F.lead r hr hi' hu' (by omega)), prt_at A r hr, (rep_es F hr).1, (rep_es F hr).2.1, (prt_len A).2.2]
  congr 2
  show Prt.mk (A.ep + 1) (r : Int) _ ((List.replicate A.n (0 : Int)).set r (A.sf r : Int)) _ _ _ = _
  have e1 : List.replicate A.n (0 : Int) = (List.range A.n).map (fun _ => (0 : Int)) := by
    apply List.ext_getElem
    · simp
    · intro i h1 h2; simp
  rw [e1, range_set]
  have e2 : (List.range A.n).map (upd (fun _ => (0 : Int)) r (A.sf r : Int)) = (List.range A.n).map (fun i => ((upd (fun _ => 0) r (A.sf r) i : Nat) : Int)) := by
    apply List.map_congr_left
    intro i _
    by_cases e : i = r
    · subst e; simp only [upd_same]
    · simp only [upd_other _ _ e]; rfl
  rw [e2]
  rfl

/-- P4.10. -/
theorem ofl_prt {A : Ap} (F : Fine A) {r : Nat} (hr : r < A.n) : A.prt.ofl r = if A.ld = none ∨ A.ld = some r then 8 else 0 := by
  unfold Prt.ofl
  rw [fine_flt F hr, if_neg (by simp)]
  have h1 := (ld_prt A).1
  have h2 := (ld_prt A).2.1 r
  by_cases h : A.ld = none ∨ A.ld = some r
  · rw [if_pos h, if_pos (by rcases h with h | h; exact .inl (h1.2 h); exact .inr (h2.2 h))]
  · rw [if_neg h, if_neg (fun hh => h (by rcases hh with hh | hh; exact .inl (h1.1 hh); exact .inr (h2.1 hh)))]
theorem Fine.shrink {A : Ap} (F : Fine A) (r : Nat) {d : Nat} (hd : A.ld = some d) (hn : d ≠ r) : Fine (A.shrink r) := by
  obtain ⟨q1, q2, q3⟩ := F.led d hd
  refine ⟨F.cnt, F.few, F.epo, F.bas, F.kno, F.ent, F.saf, F.hig, fun d' hd' => ?_, ⟨d, q1, by simp only [Ap.shrink, upd_other _ _ hn]; exact q2⟩⟩
  obtain rfl : d' = d := Option.some.inj (hd'.symm.trans hd)
  exact ⟨q1, by simp only [Ap.shrink, upd_other _ _ hn]; exact q2, q3⟩
theorem shrink_prt {A : Ap} (F : Fine A) {r : Nat} (hr : r < A.n) : A.prt.shrinkP r = if A.ld = none ∨ A.ld = some r then (Prt.zero, 8) else if A.isr r = false then (Prt.zero, 13) else ((A.shrink r).raise.prt, 0) := by
  unfold Prt.shrinkP
  rw [ofl_prt F hr]
  by_cases h : A.ld = none ∨ A.ld = some r
  · rw [if_pos h, if_pos h, if_pos (by simp)]
  · rw [if_neg h, if_neg h, if_neg (by simp), Int.toNat_natCast, prt_isr A hr]
    by_cases hi : A.isr r = false
    · rw [if_pos hi, if_pos hi]
    · rw [if_neg hi, if_neg hi]
      rcases ld_cases A with hd | ⟨d, hd⟩
      · exact absurd (.inl hd) h
      · have hn : d ≠ r := fun e => h (.inr (by rw [← e]; exact hd))
        rw [← raise_prt (F.shrink r hd hn)]
        congr 2
        show Prt.mk A.ep (ldI A.ld) ((A.prt.isr).set r false) _ _ _ _ = _
        rw [isr_upd]
        rfl
theorem Fine.expand {A : Ap} (F : Fine A) (r : Nat) : Fine (A.expand r) := by
  refine ⟨F.cnt, F.few, F.epo, F.bas, F.kno, F.ent, F.saf, F.hig, fun d hd => ?_, ?_⟩
  · obtain ⟨q1, q2, q3⟩ := F.led d hd
    refine ⟨q1, ?_, q3⟩
    by_cases e : d = r
    · subst e; simp only [Ap.expand, upd_same]
    · simp only [Ap.expand, upd_other _ _ e]; exact q2
  · obtain ⟨i, h1, h2⟩ := F.som
    refine ⟨i, h1, ?_⟩
    by_cases e : i = r
    · subst e; simp only [Ap.expand, upd_same]
    · simp only [Ap.expand, upd_other _ _ e]; exact h2
theorem expand_prt {A : Ap} (F : Fine A) {r d : Nat} (hr : r < A.n) (hd : A.ld = some d) (hn : d ≠ r) : A.prt.expandP r = if A.isr r = true then (Prt.zero, 6) else if A.up r = false then (Prt.zero, 7) else if A.kn r < A.bs ∨ A.kn r < A.hi d then (Prt.zero, 13) else ((A.expand r).prt, 0) := by
  obtain ⟨q1, q2, q3⟩ := F.led d hd
  unfold Prt.expandP
  rw [ofl_prt F hr, if_neg (show ¬ (A.ld = none ∨ A.ld = some r) from fun h => by rcases h with h | h; (rw [h] at hd; cases hd); (rw [h] at hd; exact hn (Option.some.inj hd).symm)), if_neg (by simp), Int.toNat_natCast, prt_isr A hr, (prt_up A hr).1, prt_kn A hr, (ld_prt A).2.2 d hd, (prt_up A q1).2.1]
  by_cases h1 : A.isr r = true
  · rw [if_pos h1, if_pos h1]
  rw [if_neg h1, if_neg h1]
  by_cases h2 : A.up r = false
  · rw [if_pos h2, if_pos h2]
  rw [if_neg h2, if_neg h2]
  have hb : A.prt.bs = (A.bs : Int) := rfl
  rw [hb]
  by_cases h3 : A.kn r < A.bs ∨ A.kn r < A.hi d
  · rw [if_pos h3, if_pos (by omega)]
  · rw [if_neg h3, if_neg (by omega)]
    congr 1
    show Prt.mk A.ep (ldI A.ld) ((A.prt.isr).set r true) _ _ _ _ = _
    rw [isr_upd]
    rfl

end Go.Proofs.Ytkolelpdedmkeaa
