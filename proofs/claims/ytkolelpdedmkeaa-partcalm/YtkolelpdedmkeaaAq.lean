/-
  Replicas with bytes, of such with entries: what the document's chapter 4 answers of these is what the plain ones become.
  What replicas do, with bytes and with entries alone.
  What replicas do, with bytes and with entries alone: Put, Crash, Fetch.
  What replicas do, with bytes and with entries alone: Fetch; and that all of that keeps the invariant.
  Parts that may be, with what was ever kept by all: whatever replicas do leads to such a part, and of what was kept nothing is lost.
  What is done to replicas by raw numbers, as plain data: the parts that come of it, and each High that was ever told with the entries below it; what was once kept stays kept.
-/
import Derived.Test.YtkolelpdedmkeaaAplain
import Derived.Test.YtkolelpdedmkeaaKflat
import Derived.Test.YtkolelpdedmkeaaAraw
namespace Go.Proofs.Ytkolelpdedmkeaa

section
open Go.RowKit
set_option linter.unusedVariables false
set_option linter.unusedSimpArgs false

theorem range_get {α : Type} (f : Nat → α) (n i : Nat) (d : α) (h : i < n) : ((List.range n).map f).getD i d = f i := by simp [List.getD, h]
theorem range_set {α : Type} (f : Nat → α) (n i : Nat) (v : α) : ((List.range n).map f).set i v = (List.range n).map (upd f i v) := by
  apply List.ext_getElem?
  intro k
  rw [List.getElem?_set]
  by_cases hk : k < n
  · by_cases e : i = k
    · subst e
      simp [hk, upd_same]
    · simp [hk, e, upd_other f v (Ne.symm e)]
  · by_cases e : i = k
    · subst e
      simp [hk]
    · simp [hk, e]
theorem range_modify {α : Type} (f : Nat → α) (n i : Nat) (g : α → α) : ((List.range n).map f).modify i g = (List.range n).map (upd f i (g (f i))) := by
  apply List.ext_getElem?
  intro k
  rw [List.getElem?_modify]
  by_cases hk : k < n
  · by_cases e : i = k
    · subst e
      simp [hk, upd_same]
    · simp [hk, e, upd_other f _ (Ne.symm e)]
  · by_cases e : i = k
    · subst e
      simp [hk]
    · simp [hk, e]

/-- With bytes. -/
def Ap.rep (A : Ap) (i : Nat) : Rep := ⟨A.up i, flat (A.es i), endOf (A.es i) (A.sf i), A.hi i⟩
def ldI : Option Nat → Int
  | none => -1
  | some d => d
def Ap.prt (A : Ap) : Prt := ⟨A.ep, ldI A.ld, (List.range A.n).map A.isr, (List.range A.n).map (fun i => (A.kn i : Int)), (List.range A.n).map A.rep, A.fw, A.bs⟩
/-- It may be. -/
structure Fine (A : Ap) : Prop where
  cnt : 1 ≤ A.n ∧ A.n ≤ 5
  few : 1 ≤ A.fw ∧ A.fw ≤ A.n
  epo : 0 ≤ A.ep ∧ A.ep ≤ 1073741824
  bas : A.bs ≤ 400
  kno : ∀ i, i < A.n → A.kn i ≤ 400
  ent : ∀ i, i < A.n → Oks (A.es i) ∧ (A.es i).length ≤ 400
  saf : ∀ i, i < A.n → A.sf i ≤ (A.es i).length
  hig : ∀ i, i < A.n → A.hi i ≤ (A.es i).length
  led : ∀ d, A.ld = some d → d < A.n ∧ A.isr d = true ∧ A.up d = true
  som : ∃ i, i < A.n ∧ A.isr i = true

theorem prt_at (A : Ap) (i : Nat) (h : i < A.n) : A.prt.at i = A.rep i := range_get _ _ _ _ h
theorem prt_len (A : Ap) : A.prt.rs.length = A.n ∧ A.prt.isr.length = A.n ∧ A.prt.kn.length = A.n := by simp [Ap.prt]
theorem rep_es {A : Ap} (F : Fine A) {i : Nat} (h : i < A.n) : (A.rep i).es = A.es i ∧ (A.rep i).safe = A.sf i ∧ lft (A.rep i).l (A.rep i).y = 0 := by
  obtain ⟨h1, h2⟩ := F.ent i h
  obtain ⟨l1, l2, l3⟩ := lft_flat h1 h2 (A.sf i) (F.saf i h)
  refine ⟨l2, ?_, l1⟩
  show (decL ((flat (A.es i)).take ((endOf (A.es i) (A.sf i) : Nat) : Int).toNat)).1.length = A.sf i
  rw [Int.toNat_natCast, l3, List.length_take]
  have := F.saf i h
  omega
theorem ld_prt (A : Ap) : (A.prt.ld < 0 ↔ A.ld = none) ∧ (∀ d : Nat, A.prt.ld = d ↔ A.ld = some d) ∧ (∀ d, A.ld = some d → A.prt.ld.toNat = d) := by
  show (ldI A.ld < 0 ↔ _) ∧ (∀ d : Nat, ldI A.ld = d ↔ _) ∧ (∀ d, A.ld = some d → (ldI A.ld).toNat = d)
  cases A.ld with
  | none => exact ⟨by simp [ldI], fun d => by simp [ldI] <;> omega, fun d h => by cases h⟩
  | some e =>
    refine ⟨by simp [ldI] <;> omega, fun d => ?_, fun d h => ?_⟩
    · simp [ldI] <;> omega
    · simp [ldI]; simpa using h
theorem prt_oks {A : Ap} (F : Fine A) (j : Nat) (h : j ≤ A.n) : A.prt.oks j = true := by
  induction j with
  | zero => rfl
  | succ j ih =>
    simp only [Prt.oks]
    rw [ih (by omega), prt_at A j (by omega)]
    obtain ⟨e1, e2, e3⟩ := rep_es F (show j < A.n by omega)
    have hk : A.prt.kn.getD j 0 = (A.kn j : Int) := range_get _ _ _ _ (by omega)
    have h1 := F.hig j (by omega)
    have h2 := F.kno j (by omega)
    unfold Rep.okB inR
    rw [e1, e3, hk]
    show (true && ((0 : Int) == 0 && decide (0 ≤ (A.hi j : Int) ∧ (A.hi j : Int) ≤ _) && _)) = true
    simp
    omega
theorem prt_some {A : Ap} (j : Nat) (h : j ≤ A.n) : A.prt.some j = true ↔ ∃ i, i < j ∧ A.isr i = true := by
  induction j with
  | zero => simp [Prt.some]
  | succ j ih =>
    simp only [Prt.some]
    have hk : A.prt.isr.getD j false = A.isr j := range_get _ _ _ _ (by omega)
    rw [hk, Bool.or_eq_true, ih (by omega)]
    constructor
    · rintro (⟨i, h1, h2⟩ | h2)
      · exact ⟨i, by omega, h2⟩
      · exact ⟨j, by omega, h2⟩
    · rintro ⟨i, h1, h2⟩
      by_cases e : i = j
      · rw [e] at h2; exact .inr h2
      · exact .inl ⟨i, by omega, h2⟩
theorem fine_may {A : Ap} (F : Fine A) : A.prt.mayB = true := by
  obtain ⟨l1, l2, l3⟩ := prt_len A
  have c := F.cnt
  have f := F.few
  have e := F.epo
  have b := F.bas
  have hform : A.prt.formB = true := by
    unfold Prt.formB inR
    rw [l1, l2, l3]
    have hl : -1 ≤ A.prt.ld ∧ A.prt.ld ≤ (A.n : Int) - 1 := by
      show -1 ≤ ldI A.ld ∧ ldI A.ld ≤ _
      cases hd : A.ld with
      | none => simp [ldI]; omega
      | some d => have := (F.led d hd).1; simp [ldI]; omega
    have he : A.prt.ep = A.ep := rfl
    have hf : A.prt.fw = A.fw := rfl
    have hb : A.prt.bs = A.bs := rfl
    rw [he, hf, hb]
    simp
    omega
  have hled : A.prt.ledB = true := by
    unfold Prt.ledB
    rcases ld_cases A with hd | ⟨d, hd⟩
    · have := (ld_prt A).1.2 hd
      simp [this]
    · obtain ⟨q1, q2, q3⟩ := F.led d hd
      rw [(ld_prt A).2.2 d hd, prt_at A d q1]
      have hk : A.prt.isr.getD d false = A.isr d := range_get _ _ _ _ q1
      rw [hk, q2]
      show (_ || (true && A.up d)) = true
      rw [q3]
      simp
  unfold Prt.mayB
  rw [hform, l1, prt_oks F A.n (Nat.le_refl _), hled, (prt_some A.n (Nat.le_refl _)).2 F.som]
  rfl
theorem fine_flt {A : Ap} (F : Fine A) {r : Nat} (hr : r < A.n) : A.prt.flt r = 0 := by
  unfold Prt.flt inR
  rw [fine_may F, (prt_len A).1]
  simp
  omega

theorem prt_low {A B : Ap} (h : B.n = A.n) (n j : Nat) (hj : j ≤ A.n) : A.prt.low n j = (A.low n j : Int) := by
  induction j with
  | zero => rfl
  | succ j ih =>
    simp only [Prt.low, Ap.low]
    have h1 : A.prt.isr.getD j false = A.isr j := range_get _ _ _ _ (by omega)
    have h2 : A.prt.kn.getD j 0 = (A.kn j : Int) := range_get _ _ _ _ (by omega)
    rw [h1, h2, ih (by omega)]
    by_cases hc : A.isr j = true ∧ A.kn j < A.low n j
    · rw [if_pos hc, if_pos ⟨hc.1, by omega⟩]
    · rw [if_neg hc, if_neg (fun h => hc ⟨h.1, by omega⟩)]
theorem prt_ext {A B : Ap} (h1 : B.n = A.n) (h2 : B.ep = A.ep) (h3 : B.ld = A.ld) (h4 : B.bs = A.bs) (h5 : B.fw = A.fw) (h6 : B.isr = A.isr) (h7 : B.kn = A.kn) (h8 : B.up = A.up) (h9 : B.es = A.es) (h10 : B.sf = A.sf) (h11 : B.hi = A.hi) : B = A := by
  cases A
  cases B
  simp_all
/-- A replica's parts, one by one. -/
theorem rep_upd (A : Ap) (r : Nat) (u : Bool) (l : List Ent) (s x : Nat) : (List.range A.n).map (upd A.rep r ⟨u, flat l, endOf l s, x⟩) = (List.range A.n).map (Ap.rep { A with up := upd A.up r u, es := upd A.es r l, sf := upd A.sf r s, hi := upd A.hi r x }) := by
  apply List.map_congr_left
  intro i _
  by_cases e : i = r
  · subst e
    simp only [upd_same, Ap.rep]
  · simp only [upd_other _ _ e, Ap.rep]
theorem upd_self {α : Type} (f : Nat → α) (i : Nat) : upd f i (f i) = f := by
  funext j
  by_cases e : j = i
  · rw [e, upd_same]
  · rw [upd_other f _ e]
theorem kn_upd (A : Ap) (r k : Nat) : (A.prt.kn).set r (k : Int) = (List.range A.n).map (fun i => ((upd A.kn r k i : Nat) : Int)) := by
  show ((List.range A.n).map (fun i => (A.kn i : Int))).set r (k : Int) = _
  rw [range_set]
  apply List.map_congr_left
  intro i _
  by_cases e : i = r
  · subst e; simp only [upd_same]
  · simp only [upd_other _ _ e]
theorem isr_upd (A : Ap) (r : Nat) (b : Bool) : (A.prt.isr).set r b = (List.range A.n).map (upd A.isr r b) := range_set _ _ _ _

/-- P4.3. -/
theorem raise_prt {A : Ap} (F : Fine A) : A.prt.raised = A.raise.prt := by
  unfold Prt.raised
  rcases ld_cases A with hd | ⟨d, hd⟩
  · rw [if_pos ((ld_prt A).1.2 hd)]
    have e : A.hiR = A.hi := by unfold Ap.hiR; rw [hd]
    unfold Ap.raise
    rw [e]
  · obtain ⟨q1, q2, q3⟩ := F.led d hd
    rw [if_neg (fun h => by rw [(ld_prt A).1.1 h] at hd; cases hd), (ld_prt A).2.2 d hd, prt_at A d q1, (rep_es F q1).1, (prt_len A).2.1, prt_low rfl (A.es d).length A.n (Nat.le_refl _)]
    show (if (A.hi d : Int) < _ then _ else _) = _
    by_cases hc : A.hi d < A.low (A.es d).length A.n
    · rw [if_pos (by omega)]
      have e : A.hiR = upd A.hi d (A.low (A.es d).length A.n) := by unfold Ap.hiR; rw [hd]; exact if_pos hc
      unfold Ap.raise Prt.setR
      rw [e]
      generalize A.low (A.es d).length A.n = m at *
      show Prt.mk A.ep (ldI A.ld) _ _ (((List.range A.n).map A.rep).modify d (fun r => { r with h := (m : Int) })) _ _ = _
      rw [range_modify]
      have e2 := rep_upd A d (A.up d) (A.es d) (A.sf d) m
      simp only [upd_self] at e2
      show Prt.mk A.ep (ldI A.ld) _ _ ((List.range A.n).map (upd A.rep d ⟨A.up d, flat (A.es d), endOf (A.es d) (A.sf d), m⟩)) _ _ = _
      rw [e2]
      rfl
    · rw [if_neg (by omega)]
      have e : A.hiR = A.hi := by unfold Ap.hiR; rw [hd]; exact if_neg hc
      unfold Ap.raise
      rw [e]
theorem Fine.raise {A : Ap} (F : Fine A) : Fine A.raise := by
  refine ⟨F.cnt, F.few, F.epo, F.bas, F.kno, F.ent, F.saf, fun i hi => ?_, F.led, F.som⟩
  show A.hiR i ≤ _
  unfold Ap.hiR
  rcases ld_cases A with hd | ⟨d, hd⟩
  · rw [hd]; exact F.hig i hi
  · rw [hd]
    show (if _ then _ else _ : Nat → Nat) i ≤ _
    split
    · by_cases e : i = d
      · subst e; rw [upd_same]; exact (low_le A _ _).1
      · rw [upd_other _ _ e]; exact F.hig i hi
    · exact F.hig i hi
end

section
open Go.RowKit
set_option linter.unusedVariables false
set_option linter.unusedSimpArgs false

theorem endOf_full (es : List Ent) : endOf es es.length = (flat es).length := endOf_all es
theorem prt_up (A : Ap) {r : Nat} (h : r < A.n) : (A.prt.at r).up = A.up r ∧ (A.prt.at r).h = A.hi r ∧ (A.prt.at r).l = flat (A.es r) ∧ (A.prt.at r).y = endOf (A.es r) (A.sf r) := by
  rw [prt_at A r h]
  exact ⟨rfl, rfl, rfl, rfl⟩
theorem prt_isr (A : Ap) {r : Nat} (h : r < A.n) : A.prt.isr.getD r false = A.isr r := range_get _ _ _ _ h
theorem prt_kn (A : Ap) {r : Nat} (h : r < A.n) : A.prt.kn.getD r 0 = (A.kn r : Int) := range_get _ _ _ _ h

theorem Fine.sync {A : Ap} (F : Fine A) (r : Nat) : Fine (A.sync r) := by
  refine ⟨F.cnt, F.few, F.epo, F.bas, F.kno, F.ent, fun i hi => ?_, F.hig, F.led, F.som⟩
  by_cases e : i = r
  · subst e; simp only [Ap.sync, upd_same]; exact Nat.le_refl _
  · simp only [Ap.sync, upd_other _ _ e]; exact F.saf i hi
theorem Fine.know {A : Ap} (F : Fine A) (d : Nat) : Fine (A.know d) := by
  refine ⟨F.cnt, F.few, F.epo, F.bas, fun i hi => ?_, F.ent, F.saf, F.hig, F.led, F.som⟩
  by_cases e : i = d
  · subst e; simp only [Ap.know, upd_same]; exact (F.ent i hi).2
  · simp only [Ap.know, upd_other _ _ e]; exact F.kno i hi
/-- P4.5. -/
def Ap.syncA (A : Ap) (r : Nat) : Ap := if A.ld = some r then ((A.sync r).know r).raise else A.sync r
theorem Fine.syncA {A : Ap} (F : Fine A) (r : Nat) : Fine (A.syncA r) := by
  unfold Ap.syncA
  split
  · exact ((F.sync r).know r).raise
  · exact F.sync r
theorem sync_setR (A : Ap) (r : Nat) : A.prt.setR r (fun x => { x with y := x.l.length }) = (A.sync r).prt := by
  unfold Prt.setR
  show Prt.mk A.ep (ldI A.ld) _ _ (((List.range A.n).map A.rep).modify r _) _ _ = _
  rw [range_modify]
  have e2 := rep_upd A r (A.up r) (A.es r) (A.es r).length (A.hi r)
  simp only [upd_self] at e2
  show Prt.mk A.ep (ldI A.ld) _ _ ((List.range A.n).map (upd A.rep r ⟨A.up r, flat (A.es r), (flat (A.es r)).length, A.hi r⟩)) _ _ = _
  rw [← endOf_full, e2]
  rfl
theorem sync_prt {A : Ap} (F : Fine A) {r : Nat} (hr : r < A.n) : A.prt.syncP r = if A.up r = false then (Prt.zero, 7) else ((A.syncA r).prt, 0) := by
  unfold Prt.syncP
  rw [fine_flt F hr, if_neg (by simp), Int.toNat_natCast, (prt_up A hr).1]
  by_cases hu : A.up r = false
  · rw [if_pos hu, if_pos hu]
  · rw [if_neg hu, if_neg hu, sync_setR]
    have hl : ((r : Int) = A.prt.ld) ↔ A.ld = some r := by
      rw [← (ld_prt A).2.1 r]
      exact eq_comm
    unfold Ap.syncA
    by_cases hd : A.ld = some r
    · rw [if_pos (hl.2 hd), if_pos hd, prt_at A r hr, (rep_es F hr).1, ← raise_prt ((F.sync r).know r)]
      congr 2
      show Prt.mk _ _ _ ((A.prt.kn).set r ((A.es r).length : Int)) _ _ _ = _
      rw [kn_upd]
      rfl
    · rw [if_neg (fun h => hd (hl.1 h)), if_neg hd]

/-- P4.7. -/
theorem Fine.rise {A : Ap} (F : Fine A) (r : Nat) : Fine (A.rise r) := by
  refine ⟨F.cnt, F.few, F.epo, F.bas, F.kno, F.ent, F.saf, F.hig, fun d hd => ?_, F.som⟩
  obtain ⟨q1, q2, q3⟩ := F.led d hd
  refine ⟨q1, q2, ?_⟩
  by_cases e : d = r
  · subst e; simp only [Ap.rise, upd_same]
  · simp only [Ap.rise, upd_other _ _ e]; exact q3
theorem rise_prt {A : Ap} (F : Fine A) {r : Nat} (hr : r < A.n) : A.prt.riseP r = if A.up r = true then (Prt.zero, 6) else ((A.rise r).prt, 0) := by
  unfold Prt.riseP
  rw [fine_flt F hr, if_neg (by simp), Int.toNat_natCast, (prt_up A hr).1]
  by_cases hu : A.up r = true
  · rw [if_pos hu, if_pos hu]
  · rw [if_neg hu, if_neg hu]
    congr 1
    unfold Prt.setR
    show Prt.mk A.ep (ldI A.ld) _ _ (((List.range A.n).map A.rep).modify r _) _ _ = _
    rw [range_modify]
    have e2 := rep_upd A r true (A.es r) (A.sf r) (A.hi r)
    simp only [upd_self] at e2
    show Prt.mk A.ep (ldI A.ld) _ _ ((List.range A.n).map (upd A.rep r ⟨true, flat (A.es r), endOf (A.es r) (A.sf r), A.hi r⟩)) _ _ = _
    rw [e2]
    rfl

/-- Another one of the first j keeps up. -/
theorem prt_other {A : Ap} (r : Nat) (j : Nat) (h : j ≤ A.n) : A.prt.other r j = true ↔ ∃ i, i < j ∧ i ≠ r ∧ A.isr i = true := by
  induction j with
  | zero => simp [Prt.other]
  | succ j ih =>
    simp only [Prt.other]
    rw [prt_isr A (by omega), Bool.or_eq_true, ih (by omega), Bool.and_eq_true, decide_eq_true_eq]
    constructor
    · rintro (⟨i, h1, h2⟩ | h2)
      · exact ⟨i, by omega, h2⟩
      · exact ⟨j, by omega, by omega, h2.2⟩
    · rintro ⟨i, h1, h2, h3⟩
      by_cases e : i = j
      · rw [e] at h2 h3; exact .inr ⟨by omega, h3⟩
      · exact .inl ⟨i, by omega, h2, h3⟩
theorem Fine.wipe {A : Ap} (F : Fine A) (r : Nat) (hu : A.up r = false) (ho : ∃ i, i < A.n ∧ i ≠ r ∧ A.isr i = true) : Fine (A.wipe r) := by
  refine ⟨F.cnt, F.few, F.epo, F.bas, fun i hi => ?_, fun i hi => ?_, fun i hi => ?_, fun i hi => ?_, fun d hd => ?_, ?_⟩
  · by_cases e : i = r
    · subst e; simp [Ap.wipe, upd_same]
    · simp only [Ap.wipe, upd_other _ _ e]; exact F.kno i hi
  · by_cases e : i = r
    · subst e; simp [Ap.wipe, upd_same, Oks]
    · simp only [Ap.wipe, upd_other _ _ e]; exact F.ent i hi
  · by_cases e : i = r
    · subst e; simp [Ap.wipe, upd_same]
    · simp only [Ap.wipe, upd_other _ _ e]; exact F.saf i hi
  · by_cases e : i = r
    · subst e; simp [Ap.wipe, upd_same]
    · simp only [Ap.wipe, upd_other _ _ e]; exact F.hig i hi
  · obtain ⟨q1, q2, q3⟩ := F.led d hd
    have e : d ≠ r := fun e => by rw [e, hu] at q3; cases q3
    exact ⟨q1, by simp only [Ap.wipe, upd_other _ _ e]; exact q2, by simp only [Ap.wipe, upd_other _ _ e]; exact q3⟩
  · obtain ⟨i, h1, h2, h3⟩ := ho
    exact ⟨i, h1, by simp only [Ap.wipe, upd_other _ _ h2]; exact h3⟩
theorem wipe_prt {A : Ap} (F : Fine A) {r : Nat} (hr : r < A.n) : A.prt.wipeP r = if A.up r = true then (Prt.zero, 12) else if A.prt.other r A.n = false then (Prt.zero, 8) else ((A.wipe r).prt, 0) := by
  unfold Prt.wipeP
  rw [fine_flt F hr, if_neg (by simp), Int.toNat_natCast, (prt_up A hr).1, (prt_len A).2.1]
  by_cases hu : A.up r = true
  · rw [if_pos hu, if_pos hu]
  · rw [if_neg hu, if_neg hu]
    by_cases ho : A.prt.other r A.n = false
    · rw [if_pos ho, if_pos ho]
    · rw [if_neg ho, if_neg ho]
      congr 1
      unfold Prt.setR
      show Prt.mk A.ep (ldI A.ld) ((A.prt.isr).set r false) ((A.prt.kn).set r ((0 : Nat) : Int)) (((List.range A.n).map A.rep).modify r _) _ _ = _
      rw [range_modify, kn_upd, isr_upd]
      have e2 := rep_upd A r false [] 0 0
      show Prt.mk A.ep (ldI A.ld) _ _ ((List.range A.n).map (upd A.rep r ⟨false, flat [], endOf [] 0, (0 : Nat)⟩)) _ _ = _
      rw [e2]
      rfl

/-- P4.9. -/
theorem Fine.lead {A : Ap} (F : Fine A) (r : Nat) (hr : r < A.n) (hi : A.isr r = true) (hu : A.up r = true) (he : A.ep < 1073741824) : Fine (A.lead r) := by
  have e := F.epo
  refine ⟨F.cnt, F.few, by show 0 ≤ A.ep + 1 ∧ A.ep + 1 ≤ 1073741824; omega, (F.ent r hr).2, fun i hi' => ?_, F.ent, F.saf, F.hig, fun d hd => ?_, F.som⟩
  · by_cases e : i = r
    · subst e
      have h1 := F.saf i hr
      have h2 := (F.ent i hr).2
      simp only [Ap.lead, upd_same]
      omega
    · simp only [Ap.lead, upd_other _ _ e]; exact Nat.zero_le _
  · obtain rfl : r = d := Option.some.inj hd
    exact ⟨hr, hi, hu⟩
theorem elect_prt {A : Ap} (F : Fine A) {r : Nat} (hr : r < A.n) : A.prt.electP r = if A.up r = false then (Prt.zero, 7) else if A.isr r = false then (Prt.zero, 13) else if A.ld = some r then (Prt.zero, 6) else if A.ep = 1073741824 then (Prt.zero, 2) else ((A.lead r).raise.prt, 0) := by
  unfold Prt.electP
  rw [fine_flt F hr, if_neg (by simp), Int.toNat_natCast, (prt_up A hr).1, prt_isr A hr]
  have hl : (A.prt.ld = (r : Int)) ↔ A.ld = some r := (ld_prt A).2.1 r
  by_cases hu : A.up r = false
  · rw [if_pos hu, if_pos hu]
  rw [if_neg hu, if_neg hu]
  by_cases hi : A.isr r = false
  · rw [if_pos hi, if_pos hi]
  rw [if_neg hi, if_neg hi]
  by_cases hd : A.ld = some r
  · rw [if_pos (hl.2 hd), if_pos hd]
  rw [if_neg (fun h => hd (hl.1 h)), if_neg hd]
  show (if A.ep = 1073741824 then _ else _) = _
  by_cases he : A.ep = 1073741824
  · rw [if_pos he, if_pos he]
  rw [if_neg he, if_neg he]
  have e := F.epo
  have hu' : A.up r = true := by simpa using hu
  have hi' : A.isr r = true := by simpa using hi
  rw [← raise_prt (F.lead r hr hi' hu' (by omega)), prt_at A r hr, (rep_es F hr).1, (rep_es F hr).2.1, (prt_len A).2.2]
  congr 2
  show Prt.mk (A.ep + 1) (r : Int) _ ((List.replicate A.n (0 : Int)).set r (A.sf r : Int)) _ _ _ = _
  have e1 : List.replicate A.n (0 : Int) = (List.range A.n).map (fun _ => (0 : Int)) := by
    apply List.ext_getElem
    · simp
    · intro i h1 h2; simp
  rw [e1, range_set]
  have e2 : (List.range A.n).map (upd (fun _ => (0 : Int)) r (A.sf r : Int)) = (List.range A.n).map (fun i => ((upd (fun _ => 0) r (A.sf r) i : Nat) : Int)) := by
    apply List.map_congr_left
    intro i _
    by_cases e : i = r
    · subst e; simp only [upd_same]
    · simp only [upd_other _ _ e]; rfl
  rw [e2]
  rfl

/-- P4.10. -/
theorem ofl_prt {A : Ap} (F : Fine A) {r : Nat} (hr : r < A.n) : A.prt.ofl r = if A.ld = none ∨ A.ld = some r then 8 else 0 := by
  unfold Prt.ofl
  rw [fine_flt F hr, if_neg (by simp)]
  have h1 := (ld_prt A).1
  have h2 := (ld_prt A).2.1 r
  by_cases h : A.ld = none ∨ A.ld = some r
  · rw [if_pos h, if_pos (by rcases h with h | h; exact .inl (h1.2 h); exact .inr (h2.2 h))]
  · rw [if_neg h, if_neg (fun hh => h (by rcases hh with hh | hh; exact .inl (h1.1 hh); exact .inr (h2.1 hh)))]
theorem Fine.shrink {A : Ap} (F : Fine A) (r : Nat) {d : Nat} (hd : A.ld = some d) (hn : d ≠ r) : Fine (A.shrink r) := by
  obtain ⟨q1, q2, q3⟩ := F.led d hd
  refine ⟨F.cnt, F.few, F.epo, F.bas, F.kno, F.ent, F.saf, F.hig, fun d' hd' => ?_, ⟨d, q1, by simp only [Ap.shrink, upd_other _ _ hn]; exact q2⟩⟩
  obtain rfl : d' = d := Option.some.inj (hd'.symm.trans hd)
  exact ⟨q1, by simp only [Ap.shrink, upd_other _ _ hn]; exact q2, q3⟩
theorem shrink_prt {A : Ap} (F : Fine A) {r : Nat} (hr : r < A.n) : A.prt.shrinkP r = if A.ld = none ∨ A.ld = some r then (Prt.zero, 8) else if A.isr r = false then (Prt.zero, 13) else ((A.shrink r).raise.prt, 0) := by
  unfold Prt.shrinkP
  rw [ofl_prt F hr]
  by_cases h : A.ld = none ∨ A.ld = some r
  · rw [if_pos h, if_pos h, if_pos (by simp)]
  · rw [if_neg h, if_neg h, if_neg (by simp), Int.toNat_natCast, prt_isr A hr]
    by_cases hi : A.isr r = false
    · rw [if_pos hi, if_pos hi]
    · rw [if_neg hi, if_neg hi]
      rcases ld_cases A with hd | ⟨d, hd⟩
      · exact absurd (.inl hd) h
      · have hn : d ≠ r := fun e => h (.inr (by rw [← e]; exact hd))
        rw [← raise_prt (F.shrink r hd hn)]
        congr 2
        show Prt.mk A.ep (ldI A.ld) ((A.prt.isr).set r false) _ _ _ _ = _
        rw [isr_upd]
        rfl
theorem Fine.expand {A : Ap} (F : Fine A) (r : Nat) : Fine (A.expand r) := by
  refine ⟨F.cnt, F.few, F.epo, F.bas, F.kno, F.ent, F.saf, F.hig, fun d hd => ?_, ?_⟩
  · obtain ⟨q1, q2, q3⟩ := F.led d hd
    refine ⟨q1, ?_, q3⟩
    by_cases e : d = r
    · subst e; simp only [Ap.expand, upd_same]
    · simp only [Ap.expand, upd_other _ _ e]; exact q2
  · obtain ⟨i, h1, h2⟩ := F.som
    refine ⟨i, h1, ?_⟩
    by_cases e : i = r
    · subst e; simp only [Ap.expand, upd_same]
    · simp only [Ap.expand, upd_other _ _ e]; exact h2
theorem expand_prt {A : Ap} (F : Fine A) {r d : Nat} (hr : r < A.n) (hd : A.ld = some d) (hn : d ≠ r) : A.prt.expandP r = if A.isr r = true then (Prt.zero, 6) else if A.up r = false then (Prt.zero, 7) else if A.kn r < A.bs ∨ A.kn r < A.hi d then (Prt.zero, 13) else ((A.expand r).prt, 0) := by
  obtain ⟨q1, q2, q3⟩ := F.led d hd
  unfold Prt.expandP
  rw [ofl_prt F hr, if_neg (show ¬ (A.ld = none ∨ A.ld = some r) from fun h => by rcases h with h | h; (rw [h] at hd; cases hd); (rw [h] at hd; exact hn (Option.some.inj hd).symm)), if_neg (by simp), Int.toNat_natCast, prt_isr A hr, (prt_up A hr).1, prt_kn A hr, (ld_prt A).2.2 d hd, (prt_up A q1).2.1]
  by_cases h1 : A.isr r = true
  · rw [if_pos h1, if_pos h1]
  rw [if_neg h1, if_neg h1]
  by_cases h2 : A.up r = false
  · rw [if_pos h2, if_pos h2]
  rw [if_neg h2, if_neg h2]
  have hb : A.prt.bs = (A.bs : Int) := rfl
  rw [hb]
  by_cases h3 : A.kn r < A.bs ∨ A.kn r < A.hi d
  · rw [if_pos h3, if_pos (by omega)]
  · rw [if_neg h3, if_neg (by omega)]
    congr 1
    show Prt.mk A.ep (ldI A.ld) ((A.prt.isr).set r true) _ _ _ _ = _
    rw [isr_upd]
    rfl
end

section
open Go.RowKit
set_option linter.unusedVariables false
set_option linter.unusedSimpArgs false

theorem app_flat {es : List Ent} (h : Oks es) (hl : es.length < 400) (k : Nat) (hk : k ≤ es.length) {x : Ent} (hx : x.flt = 0) : appF (flat es) (endOf es k) x = 0 := by
  obtain ⟨h1, h2, _⟩ := lft_flat h (by omega) k hk
  have hfl := flat_len es h
  have hb := body_len' x hx
  have he := enc_len x
  unfold appF
  rw [if_neg (by simp [h1]), if_neg (by simp [hx]), if_neg]
  rw [h2]
  show ¬ (400 ≤ es.length ∨ 40000 < (es.flatMap Ent.enc).length + x.enc.length)
  omega
theorem app_full {es : List Ent} (h : Oks es) (hl : es.length = 400) (k : Nat) (hk : k ≤ es.length) {x : Ent} (hx : x.flt = 0) : appF (flat es) (endOf es k) x = 16 := by
  obtain ⟨h1, h2, _⟩ := lft_flat h (by omega) k hk
  unfold appF
  rw [if_neg (by simp [h1]), if_neg (by simp [hx]), if_pos]
  rw [h2]
  exact .inl (by omega)
/-- Of the first j so many keep up and are up. -/
def Ap.ups (A : Ap) : Nat → Nat
  | 0 => 0
  | j + 1 => A.ups j + if A.isr j = true ∧ A.up j = true then 1 else 0
theorem prt_ups (A : Ap) (j : Nat) (h : j ≤ A.n) : A.prt.ups j = A.ups j := by
  induction j with
  | zero => rfl
  | succ j ih =>
    simp only [Prt.ups, Ap.ups]
    rw [ih (by omega), prt_isr A (by omega), (prt_up A (show j < A.n by omega)).1]
theorem Fine.put {A : Ap} (F : Fine A) (d : Nat) (x : Ent) (hx : x.flt = 0) (hl : (A.es d).length < 400) : Fine (A.put d x) := by
  refine ⟨F.cnt, F.few, F.epo, F.bas, F.kno, fun i hi => ?_, fun i hi => ?_, fun i hi => ?_, F.led, F.som⟩
  · by_cases e : i = d
    · subst e
      simp only [Ap.put, upd_same]
      exact ⟨(F.ent i hi).1.snoc hx, by simp; omega⟩
    · simp only [Ap.put, upd_other _ _ e]; exact F.ent i hi
  · have := F.saf i hi
    by_cases e : i = d
    · subst e; simp only [Ap.put, upd_same]; simp; omega
    · simp only [Ap.put, upd_other _ _ e]; exact this
  · have := F.hig i hi
    by_cases e : i = d
    · subst e; simp only [Ap.put, upd_same]; simp; omega
    · simp only [Ap.put, upd_other _ _ e]; exact this
/-- P4.4, of what nobody sends. -/
theorem put_prt {A : Ap} (F : Fine A) (x : Ent) (hb : x.b = 0) (hx : (A.prt.ent x).flt = 0) :
    A.prt.putP x = match A.ld with
      | none => (Prt.zero, 0, 8)
      | some d => if A.ups A.n < A.fw then (Prt.zero, 0, 9) else if (A.es d).length = 400 then (Prt.zero, 0, 16) else ((A.put d (A.prt.ent x)).prt, ((A.es d).length : Int), 0) := by
  unfold Prt.putP
  rw [fine_may F, if_neg (by simp)]
  rcases ld_cases A with hd | ⟨d, hd⟩
  · rw [if_pos ((ld_prt A).1.2 hd), hd]
  · obtain ⟨q1, q2, q3⟩ := F.led d hd
    have hc : chk (A.prt.at A.prt.ld.toNat).es (A.prt.ent x) = (-1, 0) := by
      unfold chk
      rw [if_pos (show (A.prt.ent x).b = 0 from hb)]
    rw [if_neg (fun h => by rw [(ld_prt A).1.1 h] at hd; cases hd), if_neg (by simp [hx]), hc, if_neg (by simp), if_neg (by simp), (ld_prt A).2.2 d hd, (prt_len A).2.1, prt_ups A A.n (Nat.le_refl _), (prt_up A q1).2.2.1, (prt_up A q1).2.2.2, prt_at A d q1, (rep_es F q1).1, hd]
    have hf : A.prt.fw = (A.fw : Int) := rfl
    rw [hf]
    simp only
    by_cases h1 : A.ups A.n < A.fw
    · rw [if_pos h1, if_pos (by omega)]
    rw [if_neg h1, if_neg (by omega)]
    obtain ⟨e1, e2⟩ := F.ent d q1
    have e3 := F.saf d q1
    by_cases h2 : (A.es d).length = 400
    · rw [if_pos h2, app_full e1 h2 _ e3 hx, if_pos (by simp)]
    · rw [if_neg h2, app_flat e1 (by omega) _ e3 hx, if_neg (by simp)]
      generalize A.prt.ent x = z at *
      congr 1
      unfold Prt.setR
      show Prt.mk A.ep (ldI A.ld) _ _ (((List.range A.n).map A.rep).modify d _) _ _ = _
      rw [range_modify]
      have e4 := rep_upd A d (A.up d) (A.es d ++ [z]) (A.sf d) (A.hi d)
      simp only [upd_self] at e4
      show Prt.mk A.ep (ldI A.ld) _ _ ((List.range A.n).map (upd A.rep d ⟨A.up d, flat (A.es d) ++ z.enc, endOf (A.es d) (A.sf d), A.hi d⟩)) _ _ = _
      rw [← flat_snoc, ← endOf_snoc (A.es d) z (A.sf d) e3, e4]
      rfl

/-- A crash leaves whole entries, and all safe ones. -/
theorem stay_flat {es : List Ent} (h : Oks es) (k : Nat) (hk : k ≤ es.length) (m : Int) (hm : 0 ≤ m) : ∃ j, k ≤ j ∧ j ≤ es.length ∧ stayOf (flat es) (endOf es k) m = endOf es j ∧ (m = 0 → j = k) := by
  have hle : endOf es k ≤ (flat es).length := endOf_le es k
  have hlo : ∀ left, left = (if m < ((flat es).length : Int) - (endOf es k : Int) then ((endOf es k : Int) + m).toNat else (flat es).length) → endOf es k ≤ left ∧ left ≤ (flat es).length ∧ (m = 0 → left = endOf es k) := by
    intro left hl
    rw [hl]
    split <;> omega
  unfold stayOf
  generalize hg : (if m < ((flat es).length : Int) - (endOf es k : Int) then ((endOf es k : Int) + m).toNat else (flat es).length) = left
  obtain ⟨l1, l2, l3⟩ := hlo left hg.symm
  obtain ⟨j, hj, hd, hej, hnj⟩ := decP_cut es h left ((flat es).take left).length (by simp only [List.length_take]; omega)
  have hd' : decL ((flat es).take left) = (es.take j, endOf es j) := hd
  have hkj : k ≤ j := by
    rcases Nat.lt_or_ge j k with hlt | hge
    · have e1 := hnj (by omega)
      have e2 : endOf es (j + 1) ≤ endOf es k := by
        rcases Nat.lt_or_ge (j + 1) k with h1 | h1
        · exact Nat.le_of_lt (endOf_lt es (j + 1) k h1 hk)
        · rw [show k = j + 1 by omega]; exact Nat.le_refl _
      omega
    · exact hge
  refine ⟨j, hkj, hj, by rw [hd'], fun hm0 => ?_⟩
  have e3 := l3 hm0
  rcases Nat.lt_or_ge k j with h1 | h1
  · have := endOf_lt es k j h1 hj
    omega
  · omega
theorem Fine.crash {A : Ap} (F : Fine A) (r m : Nat) (h2 : m ≤ (A.es r).length) : Fine (A.crash r m) := by
  refine ⟨F.cnt, F.few, F.epo, F.bas, fun i hi => ?_, fun i hi => ?_, fun i hi => ?_, fun i hi => ?_, fun d hd => ?_, F.som⟩
  · by_cases e : i = r
    · subst e; simp [Ap.crash, upd_same]
    · simp only [Ap.crash, upd_other _ _ e]; exact F.kno i hi
  · obtain ⟨e1, e2⟩ := F.ent i hi
    by_cases e : i = r
    · subst e; simp only [Ap.crash, upd_same]; exact ⟨e1.take m, by rw [List.length_take]; omega⟩
    · simp only [Ap.crash, upd_other _ _ e]; exact ⟨e1, e2⟩
  · by_cases e : i = r
    · subst e; simp only [Ap.crash, upd_same, List.length_take]; omega
    · simp only [Ap.crash, upd_other _ _ e]; exact F.saf i hi
  · by_cases e : i = r
    · subst e; simp only [Ap.crash, upd_same, List.length_take]; omega
    · simp only [Ap.crash, upd_other _ _ e]; exact F.hig i hi
  · simp only [Ap.crash] at hd
    split at hd
    · cases hd
    · rename_i hn
      obtain ⟨q1, q2, q3⟩ := F.led d hd
      have e : d ≠ r := fun e => hn (by rw [hd, e])
      exact ⟨q1, q2, by simp only [Ap.crash, upd_other _ _ e]; exact q3⟩
theorem crash_prt {A : Ap} (F : Fine A) {r : Nat} (hr : r < A.n) (k : Int) (hk : 0 ≤ k) : ∃ m, A.sf r ≤ m ∧ m ≤ (A.es r).length ∧ (k = 0 → m = A.sf r) ∧ A.prt.crashP r k = if A.up r = false then (Prt.zero, 7) else ((A.crash r m).prt, 0) := by
  obtain ⟨e1, e2⟩ := F.ent r hr
  obtain ⟨m, m1, m2, m3, m4⟩ := stay_flat e1 (A.sf r) (F.saf r hr) k hk
  refine ⟨m, m1, m2, m4, ?_⟩
  unfold Prt.crashP
  rw [fine_flt F hr, if_neg (by simp), Int.toNat_natCast, (prt_up A hr).1]
  by_cases hu : A.up r = false
  · rw [if_pos hu, if_pos hu]
  rw [if_neg hu, if_neg hu]
  have hc : crashF (A.prt.at r).l (A.prt.at r).y k = 0 := by
    unfold crashF
    rw [prt_at A r hr, (rep_es F hr).2.2, if_neg (by simp), if_neg (by omega)]
  rw [hc, if_neg (by simp)]
  congr 1
  unfold Prt.setR
  have hz : ((0 : Int)) = ((0 : Nat) : Int) := rfl
  have hl : (A.prt.ld = (r : Int)) ↔ A.ld = some r := (ld_prt A).2.1 r
  have hld : (if A.prt.ld = (r : Int) then -1 else A.prt.ld) = ldI (if A.ld = some r then none else A.ld) := by
    by_cases h : A.ld = some r
    · rw [if_pos h, if_pos (hl.2 h)]; rfl
    · rw [if_neg h, if_neg (fun hh => h (hl.1 hh))]; rfl
  rw [hld]
  show Prt.mk A.ep _ _ ((A.prt.kn).set r ((0 : Nat) : Int)) (((List.range A.n).map A.rep).modify r _) _ _ = _
  rw [range_modify, kn_upd]
  have ht : (flat (A.es r)).take (endOf (A.es r) m) = flat ((A.es r).take m) := endOf_take (A.es r) m
  have hd : (decL (flat ((A.es r).take m))).1 = (A.es r).take m := by
    have := dec_encs ((A.es r).take m) (e1.take m)
    rw [show decL (flat ((A.es r).take m)) = _ from this]
  have hn : ((A.es r).take m).length = m := by rw [List.length_take]; omega
  have hem : endOf ((A.es r).take m) m = endOf (A.es r) m := by
    unfold endOf
    rw [List.take_take, Nat.min_self]
  have hrep : (⟨false, (A.rep r).l.take (stayOf (A.rep r).l (A.rep r).y k), stayOf (A.rep r).l (A.rep r).y k, min (A.rep r).h (decL ((A.rep r).l.take (stayOf (A.rep r).l (A.rep r).y k))).1.length⟩ : Rep) = ⟨false, flat ((A.es r).take m), (endOf ((A.es r).take m) m : Nat), ((min (A.hi r) m : Nat) : Int)⟩ := by
    show (⟨false, (flat (A.es r)).take (stayOf (flat (A.es r)) (endOf (A.es r) (A.sf r)) k), (stayOf (flat (A.es r)) (endOf (A.es r) (A.sf r)) k : Nat), min (A.hi r : Int) ((decL ((flat (A.es r)).take (stayOf (flat (A.es r)) (endOf (A.es r) (A.sf r)) k))).1.length : Nat)⟩ : Rep) = _
    rw [m3, ht, hd, hn, hem]
    congr 1
    omega
  rw [hrep]
  have e4 := rep_upd A r false ((A.es r).take m) m (min (A.hi r) m)
  rw [e4]
  rfl

theorem cut_flatS {es : List Ent} (h : Oks es) (k n : Nat) (hk : k ≤ es.length) (hn : n ≤ es.length) : cutS (flat es) (endOf es k) n = ((endOf (es.take n) (min k n) : Nat) : Int) := by
  have hd : (decL (flat es)).1 = es := by rw [show decL (flat es) = _ from dec_encs es h]
  unfold cutS
  rw [hd]
  have e1 : endOf (es.take n) (min k n) = endOf es (min k n) := by
    unfold endOf
    rw [List.take_take, Nat.min_eq_left (Nat.min_le_right _ _)]
  rw [e1]
  rcases Nat.lt_or_ge n k with hlt | hge
  · have := endOf_lt es n k hlt hk
    rw [if_neg (by omega), Nat.min_eq_right (by omega)]
  · have : endOf es k ≤ endOf es n := by
      rcases Nat.lt_or_ge k n with h1 | h1
      · exact Nat.le_of_lt (endOf_lt es k n h1 hn)
      · rw [show k = n by omega]; exact Nat.le_refl _
    rw [if_pos (by omega), Nat.min_eq_left hge]
theorem Fine.meet {A : Ap} (F : Fine A) {r d : Nat} (hr : r < A.n) (hh : A.hi r ≤ com (A.es r) (A.es d)) : Fine (A.meet r d) := by
  obtain ⟨c1, c2⟩ := com_le (A.es r) (A.es d)
  have h4 := (F.ent r hr).2
  refine ⟨F.cnt, F.few, F.epo, F.bas, fun i hi => ?_, fun i hi => ?_, fun i hi => ?_, fun i hi => ?_, F.led, F.som⟩
  · by_cases e : i = r
    · subst e; simp only [Ap.meet, upd_same]; omega
    · simp only [Ap.meet, upd_other _ _ e]; exact F.kno i hi
  · obtain ⟨e1, e2⟩ := F.ent i hi
    by_cases e : i = r
    · subst e; simp only [Ap.meet, upd_same]; exact ⟨e1.take _, by rw [List.length_take]; omega⟩
    · simp only [Ap.meet, upd_other _ _ e]; exact ⟨e1, e2⟩
  · have := F.saf i hi
    by_cases e : i = r
    · subst e; simp only [Ap.meet, upd_same, List.length_take]; omega
    · simp only [Ap.meet, upd_other _ _ e]; exact this
  · by_cases e : i = r
    · subst e; simp only [Ap.meet, upd_same, List.length_take]; omega
    · simp only [Ap.meet, upd_other _ _ e]; exact F.hig i hi
/-- A replica's log, cut to what is as the leader's. -/
theorem met_prt {A : Ap} (F : Fine A) {r d : Nat} (hr : r < A.n) (hh : A.hi r ≤ com (A.es r) (A.es d)) : A.prt.met r (com (A.es r) (A.es d)) = (A.meet r d).raise.prt := by
  obtain ⟨e1, e2⟩ := F.ent r hr
  have e3 := F.saf r hr
  have FM := F.meet hr hh
  rw [← raise_prt FM]
  have hsf := (rep_es FM (show r < (A.meet r d).n from hr)).2.1
  have hme : (A.meet r d).es r = (A.es r).take (com (A.es r) (A.es d)) := by simp only [Ap.meet, upd_same]
  have hms : (A.meet r d).sf r = min (A.sf r) (com (A.es r) (A.es d)) := by simp only [Ap.meet, upd_same]
  obtain ⟨c1, c2⟩ := com_le (A.es r) (A.es d)
  have hn := (show ((A.es r).take (com (A.es r) (A.es d))).length = com (A.es r) (A.es d) by rw [List.length_take]; omega)
  unfold Prt.met
  rw [prt_at A r hr, (rep_es F hr).1]
  have ht : (A.rep r).l.take (endOf (A.es r) (com (A.es r) (A.es d))) = flat ((A.es r).take (com (A.es r) (A.es d))) := endOf_take (A.es r) _
  have hc : cutS (A.rep r).l (A.rep r).y (com (A.es r) (A.es d)) = ((endOf ((A.es r).take (com (A.es r) (A.es d))) (min (A.sf r) (com (A.es r) (A.es d))) : Nat) : Int) := cut_flatS e1 _ _ e3 c1
  have hs : Rep.safe ⟨false, (A.rep r).l.take (endOf (A.es r) (com (A.es r) (A.es d))), cutS (A.rep r).l (A.rep r).y (com (A.es r) (A.es d)), 0⟩ = min (A.sf r) (com (A.es r) (A.es d)) := by
    rw [ht, hc]
    have := hsf
    unfold Rep.safe Ap.rep at this
    unfold Rep.safe
    rw [hme, hms] at this
    exact this
  rw [hs]
  congr 1
  unfold Prt.setR
  show Prt.mk A.ep (ldI A.ld) _ ((A.prt.kn).set r ((min (A.sf r) (com (A.es r) (A.es d)) : Nat) : Int)) (((List.range A.n).map A.rep).modify r _) _ _ = _
  rw [range_modify, kn_upd]
  have e4 := rep_upd A r (A.up r) ((A.es r).take (com (A.es r) (A.es d))) (min (A.sf r) (com (A.es r) (A.es d))) (A.hi r)
  simp only [upd_self] at e4
  show Prt.mk A.ep (ldI A.ld) _ _ ((List.range A.n).map (upd A.rep r ⟨A.up r, (A.rep r).l.take (endOf (A.rep r).es (com (A.es r) (A.es d))), cutS (A.rep r).l (A.rep r).y (com (A.es r) (A.es d)), A.hi r⟩)) _ _ = _
  rw [(rep_es F hr).1, ht, hc, e4]
  rfl
end

section
open Go.RowKit
set_option linter.unusedVariables false
set_option linter.unusedSimpArgs false

/-- How many entries come. -/
def Ap.came (A : Ap) (r d : Nat) : Nat := if com (A.es r) (A.es d) < (A.es d).length then 1 else 0
/-- P4.6. -/
def Ap.fetchA (A : Ap) (r d : Nat) : Ap := (A.meet r d).raise.copy r d (com (A.es r) (A.es d) + A.came r d) (min (max (A.hi r) ((A.meet r d).raise.hi d)) (com (A.es r) (A.es d) + A.came r d))
theorem Fine.fetchA {A : Ap} (F : Fine A) {r d : Nat} (hr : r < A.n) (hd : A.ld = some d) (hh : A.hi r ≤ com (A.es r) (A.es d)) : Fine (A.fetchA r d) := by
  have FM := (F.meet hr hh).raise
  obtain ⟨q1, q2, q3⟩ := F.led d hd
  obtain ⟨c1, c2⟩ := com_le (A.es r) (A.es d)
  have hc : com (A.es r) (A.es d) + A.came r d ≤ (A.es d).length := by unfold Ap.came; split <;> omega
  have h4 := (F.ent d q1)
  unfold Ap.fetchA
  by_cases hrd : r = d
  · subst hrd
    refine ⟨F.cnt, F.few, F.epo, F.bas, FM.kno, fun i hi => ?_, fun i hi => ?_, fun i hi => ?_, F.led, F.som⟩
    · by_cases e : i = r
      · subst e; simp only [Ap.copy, upd_same]; exact ⟨(FM.ent i hi).1.take _, by rw [List.length_take]; have := (FM.ent i hi).2; omega⟩
      · simp only [Ap.copy, upd_other _ _ e]; exact FM.ent i hi
    · by_cases e : i = r
      · subst e
        simp only [Ap.copy, upd_same, List.length_take]
        have hs : (A.meet i i).raise.sf i = min (A.sf i) (com (A.es i) (A.es i)) := by simp only [Ap.meet, Ap.raise, upd_same]
        have he : (A.meet i i).raise.es i = (A.es i).take (com (A.es i) (A.es i)) := by simp only [Ap.meet, Ap.raise, upd_same]
        rw [hs, he, List.length_take]
        omega
      · simp only [Ap.copy, upd_other _ _ e]; exact FM.saf i hi
    · by_cases e : i = r
      · subst e
        have hcc : com (A.es i) (A.es i) = (A.es i).length := by
          have := com_pre (A.es i) (A.es i) (A.es i) (Pre.refl _) (Pre.refl _)
          omega
        have hca : A.came i i = 0 := by unfold Ap.came; rw [hcc, if_neg (by omega)]
        have he : (A.meet i i).raise.es i = (A.es i).take (com (A.es i) (A.es i)) := by simp only [Ap.meet, Ap.raise, upd_same]
        simp only [Ap.copy, upd_same]
        rw [he, hca, hcc, List.length_take, List.length_take]
        omega
      · simp only [Ap.copy, upd_other _ _ e]; exact FM.hig i hi
  · have hed : (A.meet r d).raise.es d = A.es d := by simp only [Ap.meet, Ap.raise, upd_other _ _ (Ne.symm hrd)]
    have hlen : ((A.es d).take (com (A.es r) (A.es d) + A.came r d)).length = com (A.es r) (A.es d) + A.came r d := by rw [List.length_take]; omega
    refine ⟨F.cnt, F.few, F.epo, F.bas, FM.kno, fun i hi => ?_, fun i hi => ?_, fun i hi => ?_, F.led, F.som⟩
    · by_cases e : i = r
      · subst e; simp only [Ap.copy, upd_same, hed]; exact ⟨h4.1.take _, by omega⟩
      · simp only [Ap.copy, upd_other _ _ e]; exact FM.ent i hi
    · by_cases e : i = r
      · subst e
        simp only [Ap.copy, upd_same, hed, hlen]
        have hs : (A.meet i d).raise.sf i = min (A.sf i) (com (A.es i) (A.es d)) := by simp only [Ap.meet, Ap.raise, upd_same]
        rw [hs]
        omega
      · simp only [Ap.copy, upd_other _ _ e]; exact FM.saf i hi
    · by_cases e : i = r
      · subst e; simp only [Ap.copy, upd_same, hed, hlen]; omega
      · simp only [Ap.copy, upd_other _ _ e]; exact FM.hig i hi

theorem fetch_prt {A : Ap} (F : Fine A) {r d : Nat} (hr : r < A.n) (hd : A.ld = some d) (hne : d ≠ r) (hh : A.hi r ≤ com (A.es r) (A.es d)) (hcs : (A.es r).take (com (A.es r) (A.es d)) = (A.es d).take (com (A.es r) (A.es d))) :
    A.prt.fetchP r = if A.up r = false then (Prt.zero, 0, 7) else ((A.fetchA r d).prt, (A.came r d : Int), 0) := by
  obtain ⟨q1, q2, q3⟩ := F.led d hd
  obtain ⟨c1, c2⟩ := com_le (A.es r) (A.es d)
  have FM := (F.meet hr hh).raise
  have FF := F.fetchA hr hd hh
  unfold Prt.fetchP
  rw [fine_flt F hr, if_neg (by simp), if_neg (show ¬ (A.prt.ld < 0 ∨ A.prt.ld = (r : Int)) from fun h => by
    rcases h with h | h
    · rw [(ld_prt A).1.1 h] at hd; cases hd
    · rw [((ld_prt A).2.1 r).1 h] at hd; exact hne (Option.some.inj hd).symm), Int.toNat_natCast, (prt_up A hr).1]
  by_cases hu : A.up r = false
  · rw [if_pos hu, if_pos hu]
  rw [if_neg hu, if_neg hu]
  simp only
  rw [(ld_prt A).2.2 d hd, prt_at A r hr, prt_at A d q1, (rep_es F hr).1, (rep_es F q1).1, met_prt F hr hh]
  have hBr : (A.meet r d).raise.prt.at r = (A.meet r d).raise.rep r := prt_at _ r hr
  have hBd : (A.meet r d).raise.prt.at d = (A.meet r d).raise.rep d := prt_at _ d q1
  have hes : (A.meet r d).raise.es r = (A.es r).take (com (A.es r) (A.es d)) := by simp only [Ap.meet, Ap.raise, upd_same]
  have hed : (A.meet r d).raise.es d = A.es d := by simp only [Ap.meet, Ap.raise, upd_other _ _ hne]
  have hsf : (A.meet r d).raise.sf r = min (A.sf r) (com (A.es r) (A.es d)) := by simp only [Ap.meet, Ap.raise, upd_same]
  have hup : (A.meet r d).raise.up r = A.up r := rfl
  rw [hBr, hBd]
  have hlr : ((A.rep r).h : Int) = (A.hi r : Int) := rfl
  have hld : (((A.meet r d).raise.rep d).h : Int) = ((A.meet r d).raise.hi d : Int) := rfl
  rw [hlr, hld]
  have happ : ∀ x, x.flt = 0 → com (A.es r) (A.es d) < (A.es d).length → appF ((A.meet r d).raise.rep r).l ((A.meet r d).raise.rep r).y x = 0 := fun x hx hlt => by
    have e1 := (FM.ent r hr).1
    have e2 := FM.saf r hr
    have e3 := (F.ent d q1).2
    exact app_flat e1 (by rw [hes, List.length_take]; omega) _ e2 hx
  have hcame : (if com (A.es r) (A.es d) < (A.es d).length ∧ appF ((A.meet r d).raise.rep r).l ((A.meet r d).raise.rep r).y (Ent.at (A.es d) (com (A.es r) (A.es d))) = 0 then 1 else 0) = A.came r d := by
    unfold Ap.came
    by_cases hlt : com (A.es r) (A.es d) < (A.es d).length
    · rw [if_pos hlt, if_pos]
      refine ⟨hlt, happ _ ?_ hlt⟩
      rw [at_get hlt]
      exact (F.ent d q1).1 _ (List.getElem_mem hlt)
    · rw [if_neg hlt, if_neg (fun h => hlt h.1)]
  rw [hcame]
  have key : (A.meet r d).raise.prt.setR r (fun z => { z with l := if A.came r d = 1 then z.l ++ (Ent.at (A.es d) (com (A.es r) (A.es d))).enc else z.l, h := min (max (A.hi r : Int) ((A.meet r d).raise.hi d : Int)) ((com (A.es r) (A.es d) + A.came r d : Nat) : Int) }) = (A.fetchA r d).prt := by
    generalize hB : (A.meet r d).raise = B at *
    have hBn : B.n = A.n := by rw [← hB]; rfl
    unfold Prt.setR
    show Prt.mk B.ep (ldI B.ld) _ _ (((List.range B.n).map B.rep).modify r _) _ _ = _
    rw [range_modify]
    have hfl : (if A.came r d = 1 then flat (B.es r) ++ (Ent.at (A.es d) (com (A.es r) (A.es d))).enc else flat (B.es r)) = flat ((A.es d).take (com (A.es r) (A.es d) + A.came r d)) := by
      rw [hes, hcs]
      unfold Ap.came
      by_cases hlt : com (A.es r) (A.es d) < (A.es d).length
      · rw [if_pos hlt, if_pos rfl, at_get hlt]
        exact (flat_take_succ (A.es d) _ hlt).symm
      · rw [if_neg hlt, if_neg (by simp)]
        rfl
    have hend : endOf (B.es r) (B.sf r) = endOf ((A.es d).take (com (A.es r) (A.es d) + A.came r d)) (B.sf r) := by
      rw [hes, hcs, hsf]
      unfold endOf
      rw [List.take_take, List.take_take]
      congr 3
      omega
    have hmin : min (max (A.hi r : Int) (B.hi d : Int)) ((com (A.es r) (A.es d) + A.came r d : Nat) : Int) = ((min (max (A.hi r) (B.hi d)) (com (A.es r) (A.es d) + A.came r d) : Nat) : Int) := by omega
    show Prt.mk B.ep (ldI B.ld) _ _ ((List.range B.n).map (upd B.rep r ⟨B.up r, if A.came r d = 1 then flat (B.es r) ++ (Ent.at (A.es d) (com (A.es r) (A.es d))).enc else flat (B.es r), (endOf (B.es r) (B.sf r) : Nat), min (max (A.hi r : Int) (B.hi d : Int)) ((com (A.es r) (A.es d) + A.came r d : Nat) : Int)⟩)) _ _ = _
    rw [hfl, hend, hmin]
    have e4 := rep_upd B r (B.up r) ((A.es d).take (com (A.es r) (A.es d) + A.came r d)) (B.sf r) (min (max (A.hi r) (B.hi d)) (com (A.es r) (A.es d) + A.came r d))
    simp only [upd_self] at e4
    rw [e4]
    unfold Ap.fetchA
    rw [hB]
    unfold Ap.copy
    rw [hed]
    rfl
  exact congrArg (fun z => (z, (A.came r d : Int), (0 : Int))) key
end

section
open Go.RowKit
set_option linter.unusedVariables false
set_option linter.unusedSimpArgs false

theorem Inv.hh {A : Ap} {C : List Ent} (h : Inv A C) {r d : Nat} (hr : r < A.n) (hd : A.ld = some d) : A.hi r ≤ com (A.es r) (A.es d) ∧ (A.es r).take (com (A.es r) (A.es d)) = (A.es d).take (com (A.es r) (A.es d)) := by
  obtain ⟨q1, q2, q3⟩ := h.led d hd
  obtain ⟨t1, t2⟩ := h.thr r hr
  obtain ⟨o1, o2⟩ := h.one d q1 q2
  have := com_pre (C.take (A.hi r)) _ _ t2 (o2.take (A.hi r))
  rw [List.length_take, Nat.min_eq_left t1] at this
  exact ⟨this, com_same _ _ (fun k e f he hf => h.fou r d hr q1 k e f he hf)⟩
theorem Inv.fetchA {A : Ap} {C : List Ent} (h : Inv A C) {r d : Nat} (hr : r < A.n) (hd : A.ld = some d) (hne : r ≠ d) : ∃ C', Pre C C' ∧ Inv (A.fetchA r d) C' := by
  obtain ⟨h1, h2⟩ := h.hh hr hd
  obtain ⟨c1, c2⟩ := com_le (A.es r) (A.es d)
  obtain ⟨C', hp, hI⟩ := (h.meet hr hd hne).raise
  refine ⟨C', hp, ?_⟩
  have hes : (A.meet r d).raise.es r = (A.es r).take (com (A.es r) (A.es d)) := by simp only [Ap.meet, Ap.raise, upd_same]
  have hed : (A.meet r d).raise.es d = A.es d := by simp only [Ap.meet, Ap.raise, upd_other _ _ (Ne.symm hne)]
  have hc : com (A.es r) (A.es d) + A.came r d ≤ (A.es d).length := by unfold Ap.came; split <;> omega
  unfold Ap.fetchA
  have q := h.led d hd
  refine hI.copy hr hd hne _ _ ?_ ?_ ?_ ?_ ?_
  · rw [hes, List.length_take]; omega
  · rw [hed]; exact hc
  · rw [hes, hed, h2]; exact pre_take _ _ c2
  · omega
  · have a1 := (hI.thr d q.1).1
    have a2 := (h.thr r hr).1
    have a3 := hp.len
    omega

/-- A part that may be, and what was ever kept by all. -/
def Kept (p : Prt) (C : List Ent) : Prop := ∃ A : Ap, p = A.prt ∧ Fine A ∧ Inv A C
theorem Kept.may {p : Prt} {C : List Ent} (h : Kept p C) : p.mayB = true := by
  obtain ⟨A, rfl, F, _⟩ := h
  exact fine_may F
theorem Kept.flt {p : Prt} {C : List Ent} (h : Kept p C) {r : Nat} (hr : r < p.rs.length) : p.flt r = 0 := by
  obtain ⟨A, rfl, F, _⟩ := h
  exact fine_flt F (by rw [← (prt_len A).1]; exact hr)
theorem Kept.sync {p : Prt} {C : List Ent} (h : Kept p C) {r : Nat} (hr : r < p.rs.length) (h0 : (p.syncP r).2 = 0) : ∃ C', Pre C C' ∧ Kept (p.syncP r).1 C' := by
  obtain ⟨A, rfl, F, I⟩ := h
  have hr' : r < A.n := by rw [← (prt_len A).1]; exact hr
  rw [sync_prt F hr'] at h0 ⊢
  by_cases hu : A.up r = false
  · rw [if_pos hu] at h0; simp at h0
  · rw [if_neg hu]
    have FS := F.syncA r
    unfold Ap.syncA at FS ⊢
    by_cases hd : A.ld = some r
    · rw [if_pos hd] at FS ⊢
      obtain ⟨C', hp, hI⟩ := ((I.sync r hr').know (d := r) hd (by simp only [Ap.sync, upd_same])).raise
      exact ⟨C', hp, _, rfl, FS, hI⟩
    · rw [if_neg hd] at FS ⊢
      exact ⟨C, Pre.refl C, _, rfl, FS, I.sync r hr'⟩
theorem Kept.rise {p : Prt} {C : List Ent} (h : Kept p C) {r : Nat} (hr : r < p.rs.length) (h0 : (p.riseP r).2 = 0) : ∃ C', Pre C C' ∧ Kept (p.riseP r).1 C' := by
  obtain ⟨A, rfl, F, I⟩ := h
  have hr' : r < A.n := by rw [← (prt_len A).1]; exact hr
  rw [rise_prt F hr'] at h0 ⊢
  by_cases hu : A.up r = true
  · rw [if_pos hu] at h0; simp at h0
  · rw [if_neg hu]
    exact ⟨C, Pre.refl C, _, rfl, F.rise r, I.rise r⟩
theorem Kept.wipe {p : Prt} {C : List Ent} (h : Kept p C) {r : Nat} (hr : r < p.rs.length) (h0 : (p.wipeP r).2 = 0) : ∃ C', Pre C C' ∧ Kept (p.wipeP r).1 C' := by
  obtain ⟨A, rfl, F, I⟩ := h
  have hr' : r < A.n := by rw [← (prt_len A).1]; exact hr
  rw [wipe_prt F hr'] at h0 ⊢
  by_cases hu : A.up r = true
  · rw [if_pos hu] at h0; simp at h0
  · rw [if_neg hu] at h0 ⊢
    have hu' : A.up r = false := by simpa using hu
    by_cases ho : A.prt.other r A.n = false
    · rw [if_pos ho] at h0; simp at h0
    · rw [if_neg ho]
      have ho' := (prt_other r A.n (Nat.le_refl _)).1 (by simpa using ho)
      exact ⟨C, Pre.refl C, _, rfl, F.wipe r hu' ho', I.wipe r hu'⟩
theorem Kept.elect {p : Prt} {C : List Ent} (h : Kept p C) {r : Nat} (hr : r < p.rs.length) (h0 : (p.electP r).2 = 0) : ∃ C', Pre C C' ∧ Kept (p.electP r).1 C' := by
  obtain ⟨A, rfl, F, I⟩ := h
  have hr' : r < A.n := by rw [← (prt_len A).1]; exact hr
  rw [elect_prt F hr'] at h0 ⊢
  by_cases hu : A.up r = false
  · rw [if_pos hu] at h0; simp at h0
  rw [if_neg hu] at h0 ⊢
  by_cases hi : A.isr r = false
  · rw [if_pos hi] at h0; simp at h0
  rw [if_neg hi] at h0 ⊢
  by_cases hd : A.ld = some r
  · rw [if_pos hd] at h0; simp at h0
  rw [if_neg hd] at h0 ⊢
  by_cases he : A.ep = 1073741824
  · rw [if_pos he] at h0; simp at h0
  rw [if_neg he]
  have e := F.epo
  have hu' : A.up r = true := by simpa using hu
  have hi' : A.isr r = true := by simpa using hi
  obtain ⟨C', hp, hI⟩ := (I.lead r hr' hi' hu').raise
  exact ⟨C', hp, _, rfl, (F.lead r hr' hi' hu' (by omega)).raise, hI⟩
theorem Kept.shrink {p : Prt} {C : List Ent} (h : Kept p C) {r : Nat} (hr : r < p.rs.length) (h0 : (p.shrinkP r).2 = 0) : ∃ C', Pre C C' ∧ Kept (p.shrinkP r).1 C' := by
  obtain ⟨A, rfl, F, I⟩ := h
  have hr' : r < A.n := by rw [← (prt_len A).1]; exact hr
  rw [shrink_prt F hr'] at h0 ⊢
  by_cases h1 : A.ld = none ∨ A.ld = some r
  · rw [if_pos h1] at h0; simp at h0
  rw [if_neg h1] at h0 ⊢
  by_cases hi : A.isr r = false
  · rw [if_pos hi] at h0; simp at h0
  rw [if_neg hi]
  rcases ld_cases A with hd | ⟨d, hd⟩
  · exact absurd (.inl hd) h1
  · have hn : d ≠ r := fun e => h1 (.inr (by rw [← e]; exact hd))
    obtain ⟨C', hp, hI⟩ := (I.shrink r (fun e => h1 (.inr e))).raise
    exact ⟨C', hp, _, rfl, (F.shrink r hd hn).raise, hI⟩
theorem Kept.expand {p : Prt} {C : List Ent} (h : Kept p C) {r : Nat} (hr : r < p.rs.length) (h0 : (p.expandP r).2 = 0) : ∃ C', Pre C C' ∧ Kept (p.expandP r).1 C' := by
  obtain ⟨A, rfl, F, I⟩ := h
  have hr' : r < A.n := by rw [← (prt_len A).1]; exact hr
  by_cases h1 : A.ld = none ∨ A.ld = some r
  · exfalso
    unfold Prt.expandP at h0
    rw [ofl_prt F hr', if_pos h1, if_pos (by simp)] at h0
    simp at h0
  rcases ld_cases A with hd | ⟨d, hd⟩
  · exact absurd (.inl hd) h1
  have hn : d ≠ r := fun e => h1 (.inr (by rw [← e]; exact hd))
  rw [expand_prt F hr' hd hn] at h0 ⊢
  by_cases h2 : A.isr r = true
  · rw [if_pos h2] at h0; simp at h0
  rw [if_neg h2] at h0 ⊢
  by_cases h3 : A.up r = false
  · rw [if_pos h3] at h0; simp at h0
  rw [if_neg h3] at h0 ⊢
  by_cases h4 : A.kn r < A.bs ∨ A.kn r < A.hi d
  · rw [if_pos h4] at h0; simp at h0
  rw [if_neg h4]
  exact ⟨C, Pre.refl C, _, rfl, F.expand r, I.expand hr' hd (by omega) (by omega)⟩
theorem Kept.crash {p : Prt} {C : List Ent} (h : Kept p C) {r : Nat} (hr : r < p.rs.length) (k : Int) (hk : 0 ≤ k) (h0 : (p.crashP r k).2 = 0) : ∃ C', Pre C C' ∧ Kept (p.crashP r k).1 C' := by
  obtain ⟨A, rfl, F, I⟩ := h
  have hr' : r < A.n := by rw [← (prt_len A).1]; exact hr
  obtain ⟨m, m1, m2, _, e⟩ := crash_prt F hr' k hk
  rw [e] at h0 ⊢
  by_cases hu : A.up r = false
  · rw [if_pos hu] at h0; simp at h0
  · rw [if_neg hu]
    exact ⟨C, Pre.refl C, _, rfl, F.crash r m m2, I.crash r m hr' m1 m2⟩
theorem Kept.fetch {p : Prt} {C : List Ent} (h : Kept p C) {r : Nat} (hr : r < p.rs.length) (h0 : (p.fetchP r).2.2 = 0) : ∃ C', Pre C C' ∧ Kept (p.fetchP r).1 C' := by
  obtain ⟨A, rfl, F, I⟩ := h
  have hr' : r < A.n := by rw [← (prt_len A).1]; exact hr
  by_cases h1 : A.ld = none ∨ A.ld = some r
  · exfalso
    unfold Prt.fetchP at h0
    rw [fine_flt F hr', if_neg (by simp), if_pos] at h0
    · simp at h0
    · rcases h1 with h1 | h1
      · exact .inl ((ld_prt A).1.2 h1)
      · exact .inr (((ld_prt A).2.1 r).2 h1)
  rcases ld_cases A with hd | ⟨d, hd⟩
  · exact absurd (.inl hd) h1
  have hn : d ≠ r := fun e => h1 (.inr (by rw [← e]; exact hd))
  obtain ⟨hh, hcs⟩ := I.hh hr' hd
  rw [fetch_prt F hr' hd hn hh hcs] at h0 ⊢
  by_cases hu : A.up r = false
  · rw [if_pos hu] at h0; simp at h0
  · rw [if_neg hu]
    obtain ⟨C', hp, hI⟩ := I.fetchA hr' hd (Ne.symm hn)
    exact ⟨C', hp, _, rfl, F.fetchA hr' hd hh, hI⟩
theorem Kept.put {p : Prt} {C : List Ent} (h : Kept p C) (x : Ent) (hb : x.b = 0) (hx : (p.ent x).flt = 0) (h0 : (p.putP x).2.2 = 0) : ∃ C', Pre C C' ∧ Kept (p.putP x).1 C' := by
  obtain ⟨A, rfl, F, I⟩ := h
  rw [put_prt F x hb hx] at h0 ⊢
  rcases ld_cases A with hd | ⟨d, hd⟩
  · rw [hd] at h0; simp at h0
  · rw [hd] at h0 ⊢
    simp only at h0 ⊢
    by_cases h1 : A.ups A.n < A.fw
    · rw [if_pos h1] at h0; simp at h0
    rw [if_neg h1] at h0 ⊢
    by_cases h2 : (A.es d).length = 400
    · rw [if_pos h2] at h0; simp at h0
    rw [if_neg h2]
    obtain ⟨q1, q2, q3⟩ := F.led d hd
    have hl := (F.ent d q1).2
    exact ⟨C, Pre.refl C, _, rfl, F.put d _ hx (by omega), I.put hd _ rfl⟩
/-- What a replica's High tells was kept. -/
theorem Kept.high {p : Prt} {C : List Ent} (h : Kept p C) {i : Nat} (hi : i < p.rs.length) : ∃ k : Nat, (p.at i).h = k ∧ k ≤ (p.at i).es.length ∧ Pre ((p.at i).es.take k) C := by
  obtain ⟨A, rfl, F, I⟩ := h
  have hi' : i < A.n := by rw [← (prt_len A).1]; exact hi
  obtain ⟨t1, t2⟩ := I.thr i hi'
  refine ⟨A.hi i, (prt_up A hi').2.1, ?_, ?_⟩
  · rw [prt_at A i hi', (rep_es F hi').1]; exact F.hig i hi'
  · rw [prt_at A i hi', (rep_es F hi').1]
    have e : (A.es i).take (A.hi i) = C.take (A.hi i) := by
      unfold Pre at t2
      rw [List.length_take, Nat.min_eq_left t1] at t2
      exact t2.symm
    rw [e]
    exact pre_take C _ t1
/-- It is in the log of who leads. -/
theorem Kept.lead {p : Prt} {C : List Ent} (h : Kept p C) (hd : 0 ≤ p.ld) : p.ld.toNat < p.rs.length ∧ Pre C (p.at p.ld.toNat).es := by
  obtain ⟨A, rfl, F, I⟩ := h
  rcases ld_cases A with hl | ⟨d, hl⟩
  · have := (ld_prt A).1.2 hl
    omega
  · obtain ⟨q1, q2, q3⟩ := F.led d hl
    rw [(ld_prt A).2.2 d hl, (prt_len A).1, prt_at A d q1, (rep_es F q1).1]
    exact ⟨q1, (I.one d q1 q2).2⟩
/-- A new part. -/
theorem kept_new {n few : Nat} (h1 : 1 ≤ n) (h2 : n ≤ 5) (h3 : 1 ≤ few) (h4 : few ≤ n) : (newP n few).2 = 0 ∧ Kept (newP n few).1 [] := by
  have hin : (inR (n : Int) 1 5 && inR (few : Int) 1 n) = true := by unfold inR; simp; omega
  unfold newP
  rw [if_pos hin, Int.toNat_natCast]
  refine ⟨rfl, ⟨n, 0, none, 0, few, fun _ => true, fun _ => 0, fun _ => true, fun _ => [], fun _ => 0, fun _ => 0⟩, ?_, ?_, inv_new n few⟩
  · unfold Ap.prt
    have e1 : ∀ {α : Type} (x : α), List.replicate n x = (List.range n).map (fun _ => x) := fun x => by
      apply List.ext_getElem
      · simp
      · intro i h1 h2; simp
    rw [e1 true, e1 (0 : Int), e1 (⟨true, [], 0, 0⟩ : Rep)]
    rfl
  · exact ⟨⟨h1, h2⟩, ⟨h3, h4⟩, ⟨Int.le_refl _, by show (0 : Int) ≤ _; omega⟩, Nat.zero_le _, fun i hi => Nat.zero_le _, fun i hi => ⟨fun e he => by simp at he, by simp⟩, fun i hi => Nat.le_refl _, fun i hi => Nat.le_refl _, (fun d hd => by cases hd), ⟨0, h1, rfl⟩⟩
end

section
open Go.RowKit
set_option linter.unusedVariables false
set_option linter.unusedSimpArgs false

theorem setR_rs (p : Prt) (i : Nat) (f : Rep → Rep) : (p.setR i f).rs.length = p.rs.length := by
  unfold Prt.setR
  simp
theorem raised_rs (q : Prt) : q.raised.rs.length = q.rs.length := by
  unfold Prt.raised
  split
  · rfl
  · split
    · exact setR_rs _ _ _
    · rfl
theorem sync_rs {p : Prt} {r : Int} (h : (p.syncP r).2 = 0) : (p.syncP r).1.rs.length = p.rs.length := by
  unfold Prt.syncP at h ⊢
  by_cases h1 : p.flt r ≠ 0
  · rw [if_pos h1] at h; exact absurd h h1
  rw [if_neg h1] at h ⊢
  by_cases h2 : (p.at r.toNat).up = false
  · rw [if_pos h2] at h; cases h
  rw [if_neg h2]
  by_cases h3 : r = p.ld
  · rw [if_pos h3]
    exact (raised_rs _).trans (setR_rs _ _ _)
  · rw [if_neg h3]
    exact setR_rs _ _ _
theorem rise_rs {p : Prt} {r : Int} (h : (p.riseP r).2 = 0) : (p.riseP r).1.rs.length = p.rs.length := by
  unfold Prt.riseP at h ⊢
  by_cases h1 : p.flt r ≠ 0
  · rw [if_pos h1] at h; exact absurd h h1
  rw [if_neg h1] at h ⊢
  by_cases h2 : (p.at r.toNat).up = true
  · rw [if_pos h2] at h; cases h
  rw [if_neg h2]
  exact setR_rs _ _ _
theorem wipe_rs {p : Prt} {r : Int} (h : (p.wipeP r).2 = 0) : (p.wipeP r).1.rs.length = p.rs.length := by
  unfold Prt.wipeP at h ⊢
  by_cases h1 : p.flt r ≠ 0
  · rw [if_pos h1] at h; exact absurd h h1
  rw [if_neg h1] at h ⊢
  by_cases h2 : (p.at r.toNat).up = true
  · rw [if_pos h2] at h; cases h
  rw [if_neg h2] at h ⊢
  by_cases h3 : p.other r p.isr.length = false
  · rw [if_pos h3] at h; cases h
  rw [if_neg h3]
  exact setR_rs _ _ _
theorem elect_rs {p : Prt} {r : Int} (h : (p.electP r).2 = 0) : (p.electP r).1.rs.length = p.rs.length := by
  unfold Prt.electP at h ⊢
  by_cases h1 : p.flt r ≠ 0
  · rw [if_pos h1] at h; exact absurd h h1
  rw [if_neg h1] at h ⊢
  by_cases h2 : (p.at r.toNat).up = false
  · rw [if_pos h2] at h; cases h
  rw [if_neg h2] at h ⊢
  by_cases h3 : p.isr.getD r.toNat false = false
  · rw [if_pos h3] at h; cases h
  rw [if_neg h3] at h ⊢
  by_cases h4 : p.ld = r
  · rw [if_pos h4] at h; cases h
  rw [if_neg h4] at h ⊢
  by_cases h5 : p.ep = 1073741824
  · rw [if_pos h5] at h; cases h
  rw [if_neg h5]
  exact raised_rs _
theorem ofl_ne {p : Prt} {r : Int} (h : ¬ p.ofl r ≠ 0) : p.ofl r = 0 := by
  by_cases e : p.ofl r = 0
  · exact e
  · exact absurd e h
theorem shrink_rs {p : Prt} {r : Int} (h : (p.shrinkP r).2 = 0) : (p.shrinkP r).1.rs.length = p.rs.length := by
  unfold Prt.shrinkP at h ⊢
  by_cases h1 : p.ofl r ≠ 0
  · rw [if_pos h1] at h; exact absurd h h1
  rw [if_neg h1] at h ⊢
  by_cases h2 : p.isr.getD r.toNat false = false
  · rw [if_pos h2] at h; cases h
  rw [if_neg h2]
  exact raised_rs _
theorem expand_rs {p : Prt} {r : Int} (h : (p.expandP r).2 = 0) : (p.expandP r).1.rs.length = p.rs.length := by
  unfold Prt.expandP at h ⊢
  by_cases h1 : p.ofl r ≠ 0
  · rw [if_pos h1] at h; exact absurd h h1
  rw [if_neg h1] at h ⊢
  by_cases h2 : p.isr.getD r.toNat false = true
  · rw [if_pos h2] at h; cases h
  rw [if_neg h2] at h ⊢
  by_cases h3 : (p.at r.toNat).up = false
  · rw [if_pos h3] at h; cases h
  rw [if_neg h3] at h ⊢
  by_cases h4 : p.kn.getD r.toNat 0 < p.bs ∨ p.kn.getD r.toNat 0 < (p.at p.ld.toNat).h
  · rw [if_pos h4] at h; cases h
  rw [if_neg h4]
theorem crash_rs {p : Prt} {r k : Int} (h : (p.crashP r k).2 = 0) : (p.crashP r k).1.rs.length = p.rs.length := by
  unfold Prt.crashP at h ⊢
  by_cases h1 : p.flt r ≠ 0
  · rw [if_pos h1] at h; exact absurd h h1
  rw [if_neg h1] at h ⊢
  by_cases h2 : (p.at r.toNat).up = false
  · rw [if_pos h2] at h; cases h
  rw [if_neg h2] at h ⊢
  by_cases h3 : crashF (p.at r.toNat).l (p.at r.toNat).y k ≠ 0
  · rw [if_pos h3] at h; exact absurd h h3
  rw [if_neg h3]
  exact setR_rs _ _ _
theorem fetch_rs {p : Prt} {r : Int} (h : (p.fetchP r).2.2 = 0) : (p.fetchP r).1.rs.length = p.rs.length := by
  unfold Prt.fetchP at h ⊢
  by_cases h1 : p.flt r ≠ 0
  · rw [if_pos h1] at h; exact absurd h h1
  rw [if_neg h1] at h ⊢
  by_cases h2 : p.ld < 0 ∨ p.ld = r
  · rw [if_pos h2] at h; cases h
  rw [if_neg h2] at h ⊢
  by_cases h3 : (p.at r.toNat).up = false
  · rw [if_pos h3] at h; cases h
  rw [if_neg h3]
  refine (setR_rs _ _ _).trans ?_
  unfold Prt.met
  refine (raised_rs _).trans ?_
  exact setR_rs _ _ _
theorem put_rs {p : Prt} {x : Ent} (h : (p.putP x).2.2 = 0) : (p.putP x).1.rs.length = p.rs.length := by
  unfold Prt.putP at h ⊢
  by_cases h1 : p.mayB = false
  · rw [if_pos h1] at h; cases h
  rw [if_neg h1] at h ⊢
  by_cases h2 : p.ld < 0
  · rw [if_pos h2] at h; cases h
  rw [if_neg h2] at h ⊢
  by_cases h3 : (p.ent x).flt ≠ 0
  · rw [if_pos h3] at h; exact absurd h h3
  rw [if_neg h3] at h ⊢
  by_cases h4 : (chk (p.at p.ld.toNat).es (p.ent x)).2 ≠ 0
  · rw [if_pos h4] at h; exact absurd h h4
  rw [if_neg h4] at h ⊢
  by_cases h5 : 0 ≤ (chk (p.at p.ld.toNat).es (p.ent x)).1
  · rw [if_pos h5]
  rw [if_neg h5] at h ⊢
  by_cases h6 : (p.ups p.isr.length : Int) < p.fw
  · rw [if_pos h6] at h; cases h
  rw [if_neg h6] at h ⊢
  split
  · rename_i h7; rw [if_pos h7] at h; exact absurd h h7
  · exact setR_rs _ _ _

/-- What was refused leaves the part. -/
def orP (p q : Prt) (e : Int) : Prt := if e = 0 then q else p
def putE (s : Int) : Ent := ⟨0, 0, 0, 0, 1, false, wordS s⟩
/-- The part and the error that a step answers. -/
def stepR (n : Int) (hard : Bool) (r : Raw4) (p : Prt) (s : Int) : Prt × Int :=
  if pick r.k 16 < 5 then ((p.putP (putE s)).1, (p.putP (putE s)).2.2)
  else if pick r.k 16 < 9 then ((p.fetchP (pick r.a n)).1, (p.fetchP (pick r.a n)).2.2)
  else if pick r.k 16 < 12 ∨ hard = false then p.syncP (pick r.a n)
  else if pick r.k 16 = 12 then p.crashP (pick r.a n) (pick r.b 30)
  else if pick r.k 16 = 13 then p.riseP (pick r.a n)
  else if pick r.k 16 = 14 then p.electP (pick r.a n)
  else if pick r.c 3 = 0 then p.wipeP (pick r.a n)
  else if pick r.c 3 = 1 then p.shrinkP (pick r.a n)
  else p.expandP (pick r.a n)
def stepP (n : Int) (hard : Bool) (r : Raw4) (p : Prt) (s : Int) : Prt := orP p (stepR n hard r p s).1 (stepR n hard r p s).2
def stepS (r : Raw4) (s : Int) : Int := if pick r.k 16 < 5 then s + 1 else s
/-- The entries below a replica's High, if it has one. -/
def hiR (x : Rep) : List (List Ent) := if 0 < x.h ∧ x.h ≤ x.es.length then [x.es.take x.h.toNat] else []
def hisP (p : Prt) : List (List Ent) := p.rs.flatMap hiR
structure Pl where
  p : Prt
  s : Int
  hs : List (List Ent)
def plS (n : Int) (hard : Bool) (a : Pl) (r : Raw4) : Pl := ⟨stepP n hard r a.p a.s, stepS r a.s, a.hs ++ hisP (stepP n hard r a.p a.s)⟩
def pl0 (n few : Int) : Pl := ⟨((newP n few).1.electP 0).1, 0, []⟩
def plL (n few : Int) (hard : Bool) (rs : List Raw4) : Pl := rs.foldl (plS n hard) (pl0 n few)
theorem plL_snoc (n few : Int) (hard : Bool) (rs : List Raw4) (i : Nat) (hi : i < rs.length) : plL n few hard (rs.take (i + 1)) = plS n hard (plL n few hard (rs.take i)) (rs[i]'hi) := by
  unfold plL
  rw [List.take_succ_eq_append_getElem hi, List.foldl_append]
  rfl

theorem putE_ok (p : Prt) (s : Int) (h0 : 0 ≤ p.ep) (h1 : p.ep ≤ 1073741824) : (p.ent (putE s)).flt = 0 := by
  have := wordS_size s
  unfold Prt.ent putE Ent.flt flt
  have e1 : inB p.ep = true := by unfold inB; simp; omega
  have e2 : inB 0 = true := by decide
  have e3 : mkB 1 = false := by decide
  have e4 : fnB 0 0 false = true := by decide
  simp only [e1, e2, e3, e4]
  rw [if_neg (by simp), if_neg (by simp), if_neg (by omega), if_neg (by simp), if_neg (by simp)]
theorem stepR_kept {p : Prt} {C : List Ent} {n : Nat} (hard : Bool) (r : Raw4) (s : Int) (h : Kept p C) (hn : p.rs.length = n) (h0 : 0 < n) (he : (stepR n hard r p s).2 = 0) : (∃ C', Pre C C' ∧ Kept (stepR n hard r p s).1 C') ∧ (stepR n hard r p s).1.rs.length = n := by
  obtain ⟨b0, b1⟩ := pick_bd r.a (n : Int) (by omega)
  obtain ⟨i, hi⟩ := Int.eq_ofNat_of_zero_le b0
  obtain ⟨c0, c1⟩ := pick_bd r.b 30 (by omega)
  have hin : i < p.rs.length := by omega
  unfold stepR at he ⊢
  rw [hi] at he ⊢
  by_cases k1 : pick r.k 16 < 5
  · rw [if_pos k1] at he ⊢
    have hm : (p.ent (putE s)).flt = 0 := by
      obtain ⟨A, rfl, F, _⟩ := h
      exact putE_ok _ s F.epo.1 F.epo.2
    exact ⟨h.put _ rfl hm he, (put_rs he).trans hn⟩
  rw [if_neg k1] at he ⊢
  by_cases k2 : pick r.k 16 < 9
  · rw [if_pos k2] at he ⊢
    exact ⟨h.fetch hin he, (fetch_rs he).trans hn⟩
  rw [if_neg k2] at he ⊢
  by_cases k3 : pick r.k 16 < 12 ∨ hard = false
  · rw [if_pos k3] at he ⊢
    exact ⟨h.sync hin he, (sync_rs he).trans hn⟩
  rw [if_neg k3] at he ⊢
  by_cases k4 : pick r.k 16 = 12
  · rw [if_pos k4] at he ⊢
    exact ⟨h.crash hin _ c0 he, (crash_rs he).trans hn⟩
  rw [if_neg k4] at he ⊢
  by_cases k5 : pick r.k 16 = 13
  · rw [if_pos k5] at he ⊢
    exact ⟨h.rise hin he, (rise_rs he).trans hn⟩
  rw [if_neg k5] at he ⊢
  by_cases k6 : pick r.k 16 = 14
  · rw [if_pos k6] at he ⊢
    exact ⟨h.elect hin he, (elect_rs he).trans hn⟩
  rw [if_neg k6] at he ⊢
  by_cases k7 : pick r.c 3 = 0
  · rw [if_pos k7] at he ⊢
    exact ⟨h.wipe hin he, (wipe_rs he).trans hn⟩
  rw [if_neg k7] at he ⊢
  by_cases k8 : pick r.c 3 = 1
  · rw [if_pos k8] at he ⊢
    exact ⟨h.shrink hin he, (shrink_rs he).trans hn⟩
  rw [if_neg k8] at he ⊢
  exact ⟨h.expand hin he, (expand_rs he).trans hn⟩
theorem step_kept {p : Prt} {C : List Ent} {n : Nat} (hard : Bool) (r : Raw4) (s : Int) (h : Kept p C) (hn : p.rs.length = n) (h0 : 0 < n) : (∃ C', Pre C C' ∧ Kept (stepP n hard r p s) C') ∧ (stepP n hard r p s).rs.length = n := by
  unfold stepP orP
  by_cases he : (stepR n hard r p s).2 = 0
  · rw [if_pos he]
    exact stepR_kept hard r s h hn h0 he
  · rw [if_neg he]
    exact ⟨⟨C, Pre.refl C, h⟩, hn⟩

/-- What holds in the midst of it: what was kept of all, of which all Highs ever told are beginnings. -/
structure PlOk (n : Nat) (a : Pl) (C : List Ent) : Prop where
  k : Kept a.p C
  n : a.p.rs.length = n
  hs : ∀ h ∈ a.hs, Pre h C
theorem his_pre {p : Prt} {C : List Ent} (h : Kept p C) : ∀ x ∈ hisP p, Pre x C := by
  intro x hx
  unfold hisP at hx
  rw [List.mem_flatMap] at hx
  obtain ⟨r, hr, hx⟩ := hx
  obtain ⟨i, hi, rfl⟩ := List.getElem_of_mem hr
  unfold hiR at hx
  split at hx
  · obtain ⟨k, h1, h2, h3⟩ := h.high hi
    rw [at_rep hi] at h1 h2 h3
    simp only [List.mem_singleton] at hx
    rw [hx, h1, Int.toNat_natCast]
    exact h3
  · simp at hx
theorem plS_ok {n : Nat} (hard : Bool) (a : Pl) (C : List Ent) (r : Raw4) (h : PlOk n a C) (h0 : 0 < n) : ∃ C', PlOk n (plS n hard a r) C' := by
  obtain ⟨⟨C', hp, hk⟩, hl⟩ := step_kept hard r a.s h.k h.n h0
  refine ⟨C', hk, hl, ?_⟩
  intro x hx
  simp only [plS, List.mem_append] at hx
  rcases hx with hx | hx
  · exact Pre.trans (h.hs x hx) hp
  · exact his_pre hk x hx
theorem new_elect {n few : Nat} (h1 : 1 ≤ n) (h2 : n ≤ 5) (h3 : 1 ≤ few) (h4 : few ≤ n) : (newP n few).2 = 0 ∧ ((newP n few).1.electP 0).2 = 0 ∧ (newP n few).1.rs.length = n ∧ ∃ C, PlOk n (pl0 n few) C := by
  obtain ⟨a, k⟩ := kept_new h1 h2 h3 h4
  have hin : (inR (n : Int) 1 5 && inR (few : Int) 1 n) = true := by unfold inR; simp; omega
  have hn : (newP n few).1.rs.length = n := by unfold newP; rw [if_pos hin]; simp
  have hz : ((newP n few).1.electP 0).2 = 0 := by
    have hf := k.flt (r := 0) (by omega)
    unfold newP at hf ⊢
    rw [if_pos hin] at hf ⊢
    unfold Prt.electP
    rw [if_neg (by simpa using hf)]
    have e1 : ∀ {α : Type} (x d : α), (List.replicate n x).getD 0 d = x := fun x d => by
      rw [List.getD_eq_getElem?_getD, List.getElem?_eq_getElem (by simp; omega)]
      simp
    simp only [Prt.at, Int.toNat_natCast, Int.toNat_zero, e1]
    simp
  refine ⟨a, hz, hn, ?_⟩
  obtain ⟨C, hp, hk⟩ := k.elect (r := 0) (by omega) hz
  exact ⟨C, hk, (elect_rs hz).trans hn, fun x hx => by simp [pl0] at hx⟩
theorem plL_ok {n few : Nat} (hard : Bool) (rs : List Raw4) (h1 : 1 ≤ n) (h2 : n ≤ 5) (h3 : 1 ≤ few) (h4 : few ≤ n) : ∃ C, PlOk n (plL n few hard rs) C := by
  unfold plL
  have := (new_elect h1 h2 h3 h4).2.2.2
  generalize pl0 (n : Int) few = a at this ⊢
  induction rs generalizing a with
  | nil => exact this
  | cons r rs ih =>
    obtain ⟨C, hC⟩ := this
    exact ih _ (plS_ok hard a C r hC (by omega))
theorem stepS_bd (r : Raw4) (s : Int) : s ≤ stepS r s ∧ stepS r s ≤ s + 1 := by
  unfold stepS
  split <;> omega
theorem plF_s (n : Int) (hard : Bool) (rs : List Raw4) (a : Pl) : a.s ≤ (rs.foldl (plS n hard) a).s ∧ (rs.foldl (plS n hard) a).s ≤ a.s + rs.length := by
  induction rs generalizing a with
  | nil => simp
  | cons r rs ih =>
    have h1 := ih (plS n hard a r)
    have h2 := stepS_bd r a.s
    have e : (plS n hard a r).s = stepS r a.s := rfl
    rw [e] at h1
    simp only [List.foldl_cons, List.length_cons]
    omega
theorem plL_s (n few : Int) (hard : Bool) (rs : List Raw4) : 0 ≤ (plL n few hard rs).s ∧ (plL n few hard rs).s ≤ rs.length := by
  have := plF_s n hard rs (pl0 n few)
  have e : (pl0 n few).s = 0 := rfl
  rw [e, Int.zero_add] at this
  exact this
theorem hi_len (x : Rep) : (hiR x).length ≤ 1 := by
  unfold hiR
  split <;> simp
theorem his_len (rs : List Rep) : (rs.flatMap hiR).length ≤ rs.length := by
  induction rs with
  | nil => simp
  | cons x rs ih =>
    have := hi_len x
    rw [List.flatMap_cons, List.length_append, List.length_cons]
    omega
theorem plL_hs {n few : Nat} (hard : Bool) (rs : List Raw4) (h1 : 1 ≤ n) (h2 : n ≤ 5) (h3 : 1 ≤ few) (h4 : few ≤ n) (k : Nat) (hk : k ≤ rs.length) : (plL n few hard (rs.take k)).hs.length ≤ 5 * k := by
  induction k with
  | zero => simp [plL, pl0]
  | succ k ih =>
    obtain ⟨C, hC⟩ := plL_ok hard (rs.take (k + 1)) h1 h2 h3 h4
    have hn := hC.n
    rw [plL_snoc _ _ _ _ k (by omega)] at hn ⊢
    have := his_len (plS n hard (plL n few hard (rs.take k)) (rs[k]'(by omega))).p.rs
    have h5 := ih (by omega)
    show (_ ++ hisP _).length ≤ _
    rw [List.length_append]
    have e : (hisP (stepP n hard (rs[k]'(by omega)) (plL n few hard (rs.take k)).p (plL n few hard (rs.take k)).s)).length ≤ (plS n hard (plL n few hard (rs.take k)) (rs[k]'(by omega))).p.rs.length := this
    omega
/-- So far as it goes. -/
theorem pl_may {n : Nat} {a : Pl} {C : List Ent} (h : PlOk n a C) : May a.p := may_iff.1 h.k.may
theorem pre_of {a b C : List Ent} (h1 : Pre a C) (h2 : Pre b C) (k : Nat) (ha : k ≤ a.length) (hb : k ≤ b.length) : a.take k = b.take k := by
  unfold Pre at h1 h2
  rw [h1, h2, List.take_take, List.take_take, Nat.min_eq_left ha, Nat.min_eq_left hb]
end

end Go.Proofs.Ytkolelpdedmkeaa
