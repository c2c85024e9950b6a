/-
  Replicas with bytes, of such with entries: what the document's chapter 4 answers of these is what the plain ones become.
-/
import Derived.Test.YtkolelpdedmkeaaAplain
import Derived.Test.YtkolelpdedmkeaaKflat
namespace Go.Proofs.Ytkolelpdedmkeaa
open Go.RowKit
set_option linter.unusedVariables false
set_option linter.unusedSimpArgs false

theorem range_get {α : Type} (f : Nat → α) (n i : Nat) (d : α) (h : i < n) : ((List.range n).map f).getD i d = f i := by simp [List.getD, h]
theorem range_set {α : Type} (f : Nat → α) (n i : Nat) (v : α) : ((List.range n).map f).set i v = (List.range n).map (upd f i v) := by
  apply List.ext_getElem?
  intro k
  rw [List.getElem?_set]
  by_cases hk : k < n
  · by_cases e : i = k
    · subst e
      simp [hk, upd_same]
    · simp [hk, e, upd_other f v (Ne.symm e)]
  · by_cases e : i = k
    · subst e
      simp [hk]
    · simp [hk, e]
theorem range_modify {α : Type} (f : Nat → α) (n i : Nat) (g : α → α) : ((List.range n).map f).modify i g = (List.range n).map (upd f i (g (f i))) := by
  apply List.ext_getElem?
  intro k
  rw [List.getElem?_modify]
  by_cases hk : k < n
  · by_cases e : i = k
    · subst e
      simp [hk, upd_same]
    · simp [hk, e, upd_other f _ (Ne.symm e)]
  · by_cases e : i = k
    · subst e
      simp [hk]
    · simp [hk, e]

/-- With bytes. -/
def Ap.rep (A : Ap) (i : Nat) : Rep := ⟨A.up i, flat (A.es i), endOf (A.es i) (A.sf i), A.hi i⟩
def ldI : Option Nat → Int
  | none => -1
  | some d => d
def Ap.prt (A : Ap) : Prt := ⟨A.ep, ldI A.ld, (List.range A.n).map A.isr, (List.range A.n).map (fun i => (A.kn i : Int)), (List.range A.n).map A.rep, A.fw, A.bs⟩
/-- It may be. -/
structure Fine (A : Ap) : Prop where
  cnt : 1 ≤ A.n ∧ A.n ≤ 5
  few : 1 ≤ A.fw ∧ A.fw ≤ A.n
  epo : 0 ≤ A.ep ∧ A.ep ≤ 1073741824
  bas : A.bs ≤ 400
  kno : ∀ i, i < A.n → A.kn i ≤ 400
  ent : ∀ i, i < A.n → Oks (A.es i) ∧ (A.es i).length ≤ 400
  saf : ∀ i, i < A.n → A.sf i ≤ (A.es i).length
  hig : ∀ i, i < A.n → A.hi i ≤ (A.es i).length
  led : ∀ d, A.ld = some d → d < A.n ∧ A.isr d = true ∧ A.up d = true
  som : ∃ i, i < A.n ∧ A.isr i = true

theorem prt_at (A : Ap) (i : Nat) (h : i < A.n) : A.prt.at i = A.rep i := range_get _ _ _ _ h
theorem prt_len (A : Ap) : A.prt.rs.length = A.n ∧ A.prt.isr.length = A.n ∧ A.prt.kn.length = A.n := by simp [Ap.prt]
theorem rep_es {A : Ap} (F : Fine A) {i : Nat} (h : i < A.n) : (A.rep i).es = A.es i ∧ (A.rep i).safe = A.sf i ∧ lft (A.rep i).l (A.rep i).y = 0 := by
  obtain ⟨h1, h2⟩ := F.ent i h
  obtain ⟨l1, l2, l3⟩ := lft_flat h1 h2 (A.sf i) (F.saf i h)
  refine ⟨l2, ?_, l1⟩
  show (decL ((flat (A.es i)).take ((endOf (A.es i) (A.sf i) : Nat) : Int).toNat)).1.length = A.sf i
  rw [Int.toNat_natCast, l3, List.length_take]
  have := F.saf i h
  omega
theorem ld_prt (A : Ap) : (A.prt.ld < 0 ↔ A.ld = none) ∧ (∀ d : Nat, A.prt.ld = d ↔ A.ld = some d) ∧ (∀ d, A.ld = some d → A.prt.ld.toNat = d) := by
  show (ldI A.ld < 0 ↔ _) ∧ (∀ d : Nat, ldI A.ld = d ↔ _) ∧ (∀ d, A.ld = some d → (ldI A.ld).toNat = d)
  cases A.ld with
  | none => exact ⟨by simp [ldI], fun d => by simp [ldI] <;> omega, fun d h => by cases h⟩
  | some e =>
    refine ⟨by simp [ldI] <;> omega, fun d => ?_, fun d h => ?_⟩
    · simp [ldI] <;> omega
    · simp [ldI]; simpa using h
theorem prt_oks {A : Ap} (F : Fine A) (j : Nat) (h : j ≤ A.n) : A.prt.oks j = true := by
  induction j with
  | zero => rfl
  | succ j ih =>
    simp only [Prt.oks]
    rw [ih (by omega), prt_at A j (by omega)]
    obtain ⟨e1, e2, e3⟩ := rep_es F (show j < A.n by omega)
    have hk : A.prt.kn.getD j 0 = (A.kn j : Int) := range_get _ _ _ _ (by omega)
    have h1 := F.hig j (by omega)
    have h2 := F.kno j (by omega)
    unfold Rep.okB inR
    rw [e1, e3, hk]
    show (true && ((0 : Int) == 0 && decide (0 ≤ (A.hi j : Int) ∧ (A.hi j : Int) ≤ _) && _)) = true
    simp
    omega
theorem prt_some {A : Ap} (j : Nat) (h : j ≤ A.n) : A.prt.some j = true ↔ ∃ i, i < j ∧ A.isr i = true := by
  induction j with
  | zero => simp [Prt.some]
  | succ j ih =>
    simp only [Prt.some]
    have hk : A.prt.isr.getD j false = A.isr j := range_get _ _ _ _ (by omega)
    rw [hk, Bool.or_eq_true, ih (by omega)]
    constructor
    · rintro (⟨i, h1, h2⟩ | h2)
      · exact ⟨i, by omega, h2⟩
      · exact ⟨j, by omega, h2⟩
    · rintro ⟨i, h1, h2⟩
      by_cases e : i = j
      · rw [e] at h2; exact .inr h2
      · exact .inl ⟨i, by omega, h2⟩
theorem fine_may {A : Ap} (F : Fine A) : A.prt.mayB = true := by
  obtain ⟨l1, l2, l3⟩ := prt_len A
  have c := F.cnt
  have f := F.few
  have e := F.epo
  have b := F.bas
  have hform : A.prt.formB = true := by
    unfold Prt.formB inR
    rw [l1, l2, l3]
    have hl : -1 ≤ A.prt.ld ∧ A.prt.ld ≤ (A.n : Int) - 1 := by
      show -1 ≤ ldI A.ld ∧ ldI A.ld ≤ _
      cases hd : A.ld with
      | none => simp [ldI]; omega
      | some d => have := (F.led d hd).1; simp [ldI]; omega
    have he : A.prt.ep = A.ep := rfl
    have hf : A.prt.fw = A.fw := rfl
    have hb : A.prt.bs = A.bs := rfl
    rw [he, hf, hb]
    simp
    omega
  have hled : A.prt.ledB = true := by
    unfold Prt.ledB
    rcases ld_cases A with hd | ⟨d, hd⟩
    · have := (ld_prt A).1.2 hd
      simp [this]
    · obtain ⟨q1, q2, q3⟩ := F.led d hd
      rw [(ld_prt A).2.2 d hd, prt_at A d q1]
      have hk : A.prt.isr.getD d false = A.isr d := range_get _ _ _ _ q1
      rw [hk, q2]
      show (_ || (true && A.up d)) = true
      rw [q3]
      simp
  unfold Prt.mayB
  rw [hform, l1, prt_oks F A.n (Nat.le_refl _), hled, (prt_some A.n (Nat.le_refl _)).2 F.som]
  rfl
theorem fine_flt {A : Ap} (F : Fine A) {r : Nat} (hr : r < A.n) : A.prt.flt r = 0 := by
  unfold Prt.flt inR
  rw [fine_may F, (prt_len A).1]
  simp
  omega

theorem prt_low {A B : Ap} (h : B.n = A.n) (n j : Nat) (hj : j ≤ A.n) : A.prt.low n j = (A.low n j : Int) := by
  induction j with
  | zero => rfl
  | succ j ih =>
    simp only [Prt.low, Ap.low]
    have h1 : A.prt.isr.getD j false = A.isr j := range_get _ _ _ _ (by omega)
    have h2 : A.prt.kn.getD j 0 = (A.kn j : Int) := range_get _ _ _ _ (by omega)
    rw [h1, h2, ih (by omega)]
    by_cases hc : A.isr j = true ∧ A.kn j < A.low n j
    · rw [if_pos hc, if_pos ⟨hc.1, by omega⟩]
    · rw [if_neg hc, if_neg (fun h => hc ⟨h.1, by omega⟩)]
theorem prt_ext {A B : Ap} (h1 : B.n = A.n) (h2 : B.ep = A.ep) (h3 : B.ld = A.ld) (h4 : B.bs = A.bs) (h5 : B.fw = A.fw) (h6 : B.isr = A.isr) (h7 : B.kn = A.kn) (h8 : B.up = A.up) (h9 : B.es = A.es) (h10 : B.sf = A.sf) (h11 : B.hi = A.hi) : B = A := by
  cases A
  cases B
  simp_all
/-- A replica's parts, one by one. -/
theorem rep_upd (A : Ap) (r : Nat) (u : Bool) (l : List Ent) (s x : Nat) : (List.range A.n).map (upd A.rep r ⟨u, flat l, endOf l s, x⟩) = (List.range A.n).map (Ap.rep { A with up := upd A.up r u, es := upd A.es r l, sf := upd A.sf r s, hi := upd A.hi r x }) := by
  apply List.map_congr_left
  intro i _
  by_cases e : i = r
  · subst e
    simp only [upd_same, Ap.rep]
  · simp only [upd_other _ _ e, Ap.rep]
theorem upd_self {α : Type} (f : Nat → α) (i : Nat) : upd f i (f i) = f := by
  funext j
  by_cases e : j = i
  · rw [e, upd_same]
  · rw [upd_other f _ e]
theorem kn_upd (A : Ap) (r k : Nat) : (A.prt.kn).set r (k : Int) = (List.range A.n).map (fun i => ((upd A.kn r k i : Nat) : Int)) := by
  show ((List.range A.n).map (fun i => (A.kn i : Int))).set r (k : Int) = _
  rw [range_set]
  apply List.map_congr_left
  intro i _
  by_cases e : i = r
  · subst e; simp only [upd_same]
  · simp only [upd_other _ _ e]
theorem isr_upd (A : Ap) (r : Nat) (b : Bool) : (A.prt.isr).set r b = (List.range A.n).map (upd A.isr r b) := range_set _ _ _ _

/-- P4.3. -/
theorem raise_prt {A : Ap} (F : Fine A) : A.prt.raised = A.raise.prt := by
  unfold Prt.raised
  rcases ld_cases A with hd | ⟨d, hd⟩
  · rw [if_pos ((ld_prt A).1.2 hd)]
    have e : A.hiR = A.hi := by unfold Ap.hiR; rw [hd]
    unfold Ap.raise
    rw [e]
  · obtain ⟨q1, q2, q3⟩ := F.led d hd
    rw [if_neg (fun h => by rw [(ld_prt A).1.1 h] at hd; cases hd), (ld_prt A).2.2 d hd, prt_at A d q1, (rep_es F q1).1, (prt_len A).2.1, prt_low rfl (A.es d).length A.n (Nat.le_refl _)]
    show (if (A.hi d : Int) < _ then _ else _) = _
    by_cases hc : A.hi d < A.low (A.es d).length A.n
    · rw [if_pos (by omega)]
      have e : A.hiR = upd A.hi d (A.low (A.es d).length A.n) := by unfold Ap.hiR; rw [hd]; exact if_pos hc
      unfold Ap.raise Prt.setR
      rw [e]
      generalize A.low (A.es d).length A.n = m at *
      show Prt.mk A.ep (ldI A.ld) _ _ (((List.range A.n).map A.rep).modify d (fun r => { r with h := (m : Int) })) _ _ = _
      rw [range_modify]
      have e2 := rep_upd A d (A.up d) (A.es d) (A.sf d) m
      simp only [upd_self] at e2
      show Prt.mk A.ep (ldI A.ld) _ _ ((List.range A.n).map (upd A.rep d ⟨A.up d, flat (A.es d), endOf (A.es d) (A.sf d), m⟩)) _ _ = _
      rw [e2]
      rfl
    · rw [if_neg (by omega)]
      have e : A.hiR = A.hi := by unfold Ap.hiR; rw [hd]; exact if_neg hc
      unfold Ap.raise
      rw [e]
theorem Fine.raise {A : Ap} (F : Fine A) : Fine A.raise := by
  refine ⟨F.cnt, F.few, F.epo, F.bas, F.kno, F.ent, F.saf, fun i hi => ?_, F.led, F.som⟩
  show A.hiR i ≤ _
  unfold Ap.hiR
  rcases ld_cases A with hd | ⟨d, hd⟩
  · rw [hd]; exact F.hig i hi
  · rw [hd]
    show (if _ then _ else _ : Nat → Nat) i ≤ _
    split
    · by_cases e : i = d
      · subst e; rw [upd_same]; exact (low_le A _ _).1
      · rw [upd_other _ _ e]; exact F.hig i hi
    · exact F.hig i hi

end Go.Proofs.Ytkolelpdedmkeaa
