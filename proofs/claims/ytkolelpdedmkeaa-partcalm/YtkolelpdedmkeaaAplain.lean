/-
  Replicas as plain data, and why what was once kept by all is in the log of who leads: the invariant, and that whatever replicas do keeps it.
  Parts as plain data: replicas, who keeps up, what is known; what the document's chapter 4 answers.
  Parts in memory, as they are read.
  Boxes that hold a part; how its rows are read.
  What may be, in plain words; the code's own tests of it.
-/
import Derived.Test.YtkolelpdedmkeaaAdec
import Derived.Test.YtkolelpdedmkeaaAseg
import Derived.Test.YtkolelpdedmkeaaAview
namespace Go.Proofs.Ytkolelpdedmkeaa

section
open Go.RowKit
set_option linter.unusedVariables false

def upd {α : Type} (f : Nat → α) (i : Nat) (v : α) : Nat → α := fun j => if j = i then v else f j
theorem upd_same {α : Type} (f : Nat → α) (i : Nat) (v : α) : upd f i v i = v := by simp [upd]
theorem upd_other {α : Type} (f : Nat → α) {i j : Nat} (v : α) (h : j ≠ i) : upd f i v j = f j := by simp [upd, h]
/-- n replicas: what is known of each, whether it keeps up, is up, its entries, how many are safe, its High. -/
structure Ap where
  n : Nat
  ep : Int
  ld : Option Nat
  bs : Nat
  fw : Nat
  isr : Nat → Bool
  kn : Nat → Nat
  up : Nat → Bool
  es : Nat → List Ent
  sf : Nat → Nat
  hi : Nat → Nat
/-- One list begins another one. -/
def Pre (c a : List Ent) : Prop := c = a.take c.length
theorem Pre.len {c a : List Ent} (h : Pre c a) : c.length ≤ a.length := by
  have := congrArg List.length h
  rw [List.length_take] at this
  omega
theorem Pre.refl (a : List Ent) : Pre a a := by simp [Pre]
theorem pre_take (a : List Ent) (k : Nat) (h : k ≤ a.length) : Pre (a.take k) a := by
  unfold Pre
  rw [List.length_take, Nat.min_eq_left h]
theorem Pre.take {c a : List Ent} (h : Pre c a) (k : Nat) : Pre (c.take k) a := by
  unfold Pre
  rw [List.length_take]
  have := congrArg (List.take (min k c.length)) h
  rw [List.take_take] at this
  have e1 : c.take k = c.take (min k c.length) := by
    rw [← List.take_take, List.take_length]
  rw [e1, this]
  congr 1
  omega
theorem Pre.trans {c d a : List Ent} (h1 : Pre c d) (h2 : Pre d a) : Pre c a := by
  have l1 := h1.len
  unfold Pre at h1 h2 ⊢
  rw [h2, List.take_take, Nat.min_eq_left l1] at h1
  exact h1
theorem Pre.cut {c a : List Ent} (h : Pre c a) (k : Nat) (hk : c.length ≤ k) : Pre c (a.take k) := by
  unfold Pre
  rw [List.take_take, Nat.min_eq_left hk]
  exact h
theorem Pre.app {c a : List Ent} (h : Pre c a) (b : List Ent) : Pre c (a ++ b) := by
  have l := h.len
  unfold Pre
  rw [List.take_append_of_le_length l]
  exact h
theorem Pre.get {c a : List Ent} (h : Pre c a) (k : Nat) (hk : k < c.length) : c[k]? = a[k]? := by
  unfold Pre at h
  rw [h, List.getElem?_take, if_pos hk]

/-- How many first entries have the same Epochs. -/
def com : List Ent → List Ent → Nat
  | e :: a, f :: b => if e.a = f.a then com a b + 1 else 0
  | _, _ => 0
theorem com_le (a b : List Ent) : com a b ≤ a.length ∧ com a b ≤ b.length := by
  induction a generalizing b with
  | nil => simp [com]
  | cons e a ih =>
    cases b with
    | nil => simp [com]
    | cons f b =>
      simp only [com]
      split
      · have := ih b
        simp only [List.length_cons]
        omega
      · simp
theorem com_same (a b : List Ent) (h : ∀ (k : Nat) (e f : Ent), a[k]? = some e → b[k]? = some f → e.a = f.a → e = f) : a.take (com a b) = b.take (com a b) := by
  induction a generalizing b with
  | nil => simp [com]
  | cons e a ih =>
    cases b with
    | nil => simp [com]
    | cons f b =>
      simp only [com]
      split
      · rename_i he
        have h0 := h 0 e f (by simp) (by simp) he
        have := ih b (fun k x y hx hy => h (k + 1) x y (by simpa using hx) (by simpa using hy))
        simp only [List.take_succ_cons, h0, this]
      · simp
theorem com_pre (c a b : List Ent) (h1 : Pre c a) (h2 : Pre c b) : c.length ≤ com a b := by
  induction c generalizing a b with
  | nil => simp
  | cons x c ih =>
    cases a with
    | nil => have := h1.len; simp at this
    | cons e a =>
      cases b with
      | nil => have := h2.len; simp at this
      | cons f b =>
        unfold Pre at h1 h2
        simp only [List.length_cons, List.take_succ_cons, List.cons.injEq] at h1 h2
        simp only [com, ← h1.1, ← h2.1, if_true, List.length_cons]
        have := ih a b h1.2 h2.2
        omega

/-- The least that is known of those of the first j that keep up, and L. -/
def Ap.low (A : Ap) (L : Nat) : Nat → Nat
  | 0 => L
  | j + 1 => if A.isr j = true ∧ A.kn j < A.low L j then A.kn j else A.low L j
theorem low_le (A : Ap) (L j : Nat) : A.low L j ≤ L ∧ ∀ i, i < j → A.isr i = true → A.low L j ≤ A.kn i := by
  induction j with
  | zero => exact ⟨Nat.le_refl _, fun i hi => by omega⟩
  | succ j ih =>
    simp only [Ap.low]
    by_cases hc : A.isr j = true ∧ A.kn j < A.low L j
    · rw [if_pos hc]
      refine ⟨by omega, fun i hi hs => ?_⟩
      by_cases e : i = j
      · rw [e]; exact Nat.le_refl _
      · have := ih.2 i (by omega) hs
        omega
    · rw [if_neg hc]
      refine ⟨ih.1, fun i hi hs => ?_⟩
      by_cases e : i = j
      · subst e
        have : ¬ A.kn i < A.low L i := fun h => hc ⟨hs, h⟩
        omega
      · exact ih.2 i (by omega) hs
/-- The Highs, raised. -/
def Ap.hiR (A : Ap) : Nat → Nat :=
  match A.ld with
  | none => A.hi
  | some d => if A.hi d < A.low (A.es d).length A.n then upd A.hi d (A.low (A.es d).length A.n) else A.hi
/-- P4.3. -/
def Ap.raise (A : Ap) : Ap := { A with hi := A.hiR }

/-- C: what was ever kept by all. -/
structure Inv (A : Ap) (C : List Ent) : Prop where
  led : ∀ d, A.ld = some d → d < A.n ∧ A.isr d = true ∧ A.up d = true
  safe : ∀ i, i < A.n → A.sf i ≤ (A.es i).length
  one : ∀ i, i < A.n → A.isr i = true → C.length ≤ A.sf i ∧ Pre C (A.es i)
  two : ∀ d, A.ld = some d → ∀ i, i < A.n → A.kn i ≤ A.sf i ∧ A.kn i ≤ (A.es d).length ∧ (A.es i).take (A.kn i) = (A.es d).take (A.kn i)
  thr : ∀ i, i < A.n → A.hi i ≤ C.length ∧ Pre (C.take (A.hi i)) (A.es i)
  fou : ∀ i j, i < A.n → j < A.n → ∀ (k : Nat) (e f : Ent), (A.es i)[k]? = some e → (A.es j)[k]? = some f → e.a = f.a → e = f
  epo : ∀ i, i < A.n → ∀ (k : Nat) (e : Ent), (A.es i)[k]? = some e → e.a ≤ A.ep
  fiv : ∀ d, A.ld = some d → ∀ i, i < A.n → ∀ (k : Nat) (e : Ent), (A.es i)[k]? = some e → e.a = A.ep → (A.es d)[k]? = some e
  sev : ∀ d, A.ld = some d → C.length ≤ A.bs ∨ C.length ≤ A.hi d

theorem ld_cases (A : Ap) : A.ld = none ∨ ∃ d, A.ld = some d := by
  cases A.ld with
  | none => exact .inl rfl
  | some d => exact .inr ⟨d, rfl⟩
theorem Inv.raise {A : Ap} {C : List Ent} (h : Inv A C) : ∃ C', Pre C C' ∧ Inv A.raise C' := by
  unfold Ap.raise
  rcases ld_cases A with hd | ⟨d, hd⟩
  · have e : A.hiR = A.hi := by unfold Ap.hiR; rw [hd]
    rw [e]
    exact ⟨C, Pre.refl C, h⟩
  · by_cases hc : A.hi d < A.low (A.es d).length A.n
    · have e : A.hiR = upd A.hi d (A.low (A.es d).length A.n) := by unfold Ap.hiR; rw [hd]; exact if_pos hc
      rw [e]
      clear e
      obtain ⟨hdn, hdi, hdu⟩ := h.led d hd
      obtain ⟨l1, l2⟩ := low_le A (A.es d).length A.n
      generalize A.low (A.es d).length A.n = m at *
      obtain ⟨o1, o2⟩ := h.one d hdn hdi
      have ol := o2.len
      by_cases hm : m ≤ C.length
      · refine ⟨C, Pre.refl C, ⟨h.led, h.safe, h.one, h.two, fun i hi => ?_, h.fou, h.epo, h.fiv, fun d' hd' => ?_⟩⟩
        · by_cases e : i = d
          · subst e
            simp only [upd_same]
            exact ⟨hm, o2.take m⟩
          · simp only [upd_other _ _ e]
            exact h.thr i hi
        · obtain rfl : d' = d := by rw [hd] at hd'; exact (Option.some.inj hd').symm
          simp only [upd_same]
          rcases h.sev d' hd with s | s
          · exact .inl s
          · exact .inr (by omega)
      · have hpre : Pre C ((A.es d).take m) := o2.cut m (by omega)
        have hlen : ((A.es d).take m).length = m := by rw [List.length_take]; omega
        refine ⟨(A.es d).take m, hpre, ⟨h.led, h.safe, fun i hi hs => ?_, h.two, fun i hi => ?_, h.fou, h.epo, h.fiv, fun d' hd' => ?_⟩⟩
        · obtain ⟨t1, t2, t3⟩ := h.two d hd i hi
          have k1 := l2 i hi hs
          have hs' := h.safe i hi
          refine ⟨by rw [hlen]; exact Nat.le_trans k1 t1, ?_⟩
          have e : (A.es d).take m = (A.es i).take m := by
            have := congrArg (List.take m) t3
            rw [List.take_take, List.take_take, Nat.min_eq_left k1] at this
            exact this.symm
          rw [e]
          exact pre_take _ _ (by omega)
        · by_cases e : i = d
          · subst e
            simp only [upd_same]
            rw [hlen]
            refine ⟨Nat.le_refl _, ?_⟩
            rw [List.take_take, Nat.min_self]
            exact pre_take _ _ l1
          · simp only [upd_other _ _ e]
            obtain ⟨t1, t2⟩ := h.thr i hi
            refine ⟨by rw [hlen]; omega, ?_⟩
            have e2 : ((A.es d).take m).take (A.hi i) = C.take (A.hi i) := by
              have := congrArg (List.take (A.hi i)) hpre
              rw [List.take_take, Nat.min_eq_left t1] at this
              exact this.symm
            rw [e2]
            exact t2
        · obtain rfl : d' = d := by rw [hd] at hd'; exact (Option.some.inj hd').symm
          simp only [upd_same]
          exact .inr (by rw [hlen]; exact Nat.le_refl _)
    · have e : A.hiR = A.hi := by unfold Ap.hiR; rw [hd]; exact if_neg hc
      rw [e]
      exact ⟨C, Pre.refl C, h⟩

/-- An entry comes in the leader's log. -/
def Ap.put (A : Ap) (d : Nat) (x : Ent) : Ap := { A with es := upd A.es d (A.es d ++ [x]) }
theorem Inv.put {A : Ap} {C : List Ent} (h : Inv A C) {d : Nat} (hd : A.ld = some d) (x : Ent) (hx : x.a = A.ep) : Inv (A.put d x) C := by
  obtain ⟨hdn, hdi, hdu⟩ := h.led d hd
  have hget : ∀ k e, (A.es d ++ [x])[k]? = some e → (A.es d)[k]? = some e ∨ (k = (A.es d).length ∧ e = x) := fun k e hk => by
    rw [List.getElem?_append] at hk
    split at hk
    · exact .inl hk
    · rename_i hlt
      right
      have : k - (A.es d).length = 0 := by
        rcases Nat.eq_zero_or_pos (k - (A.es d).length) with h0 | h0
        · exact h0
        · rw [List.getElem?_eq_none (by simp; omega)] at hk
          cases hk
      rw [this] at hk
      simp at hk
      exact ⟨by omega, hk.symm⟩
  have hes : ∀ i, i < A.n → ∀ k e, ((A.put d x).es i)[k]? = some e → (A.es i)[k]? = some e ∨ (i = d ∧ k = (A.es d).length ∧ e = x) := fun i hi k e hk => by
    by_cases ei : i = d
    · subst ei
      simp only [Ap.put, upd_same] at hk
      rcases hget k e hk with h1 | h1
      · exact .inl h1
      · exact .inr ⟨rfl, h1⟩
    · simp only [Ap.put, upd_other _ _ ei] at hk
      exact .inl hk
  have hup : ∀ i k e, (A.es i)[k]? = some e → ((A.put d x).es i)[k]? = some e := fun i k e hk => by
    by_cases ei : i = d
    · subst ei
      simp only [Ap.put, upd_same]
      rw [List.getElem?_append_left ((List.getElem?_eq_some_iff.1 hk).1)]
      exact hk
    · simp only [Ap.put, upd_other _ _ ei]
      exact hk
  have hno : ∀ i, i < A.n → (A.es i)[(A.es d).length]? = some x → False := fun i hi hk => by
    have := h.fiv d hd i hi _ x hk hx
    rw [List.getElem?_eq_none (Nat.le_refl _)] at this
    cases this
  have hnew : ∀ i, i < A.n → ∀ e, (A.es i)[(A.es d).length]? = some e → e.a = x.a → False := fun i hi e hk he => by
    have := h.fiv d hd i hi _ e hk (by rw [he]; exact hx)
    rw [List.getElem?_eq_none (Nat.le_refl _)] at this
    cases this
  refine ⟨h.led, fun i hi => ?_, fun i hi hs => ?_, fun d' hd' i hi => ?_, fun i hi => ?_, fun i j hi hj k e f he hf hef => ?_, fun i hi k e hk => ?_, fun d' hd' i hi k e hk he => ?_, h.sev⟩
  · by_cases ei : i = d
    · subst ei
      simp only [Ap.put, upd_same]
      have := h.safe i hi
      simp
      omega
    · simp only [Ap.put, upd_other _ _ ei]
      exact h.safe i hi
  · obtain ⟨o1, o2⟩ := h.one i hi hs
    by_cases ei : i = d
    · subst ei
      simp only [Ap.put, upd_same]
      exact ⟨o1, o2.app _⟩
    · simp only [Ap.put, upd_other _ _ ei]
      exact ⟨o1, o2⟩
  · obtain rfl : d' = d := Option.some.inj (hd'.symm.trans hd)
    obtain ⟨t1, t2, t3⟩ := h.two d' hd i hi
    have hsi := h.safe i hi
    refine ⟨t1, ?_, ?_⟩
    · simp only [Ap.put, upd_same]
      simp
      omega
    · by_cases ei : i = d'
      · subst ei; rfl
      · simp only [Ap.put, upd_same, upd_other _ _ ei]
        rw [List.take_append_of_le_length t2]
        exact t3
  · obtain ⟨t1, t2⟩ := h.thr i hi
    refine ⟨t1, ?_⟩
    by_cases ei : i = d
    · subst ei
      simp only [Ap.put, upd_same]
      exact t2.app _
    · simp only [Ap.put, upd_other _ _ ei]
      exact t2
  · rcases hes i hi k e he with he1 | ⟨e1, e2, e3⟩
    · rcases hes j hj k f hf with hf1 | ⟨f1, f2, f3⟩
      · exact h.fou i j hi hj k e f he1 hf1 hef
      · rw [f2] at he1
        exact (hnew i hi e he1 (by rw [hef, f3])).elim
    · rcases hes j hj k f hf with hf1 | ⟨f1, f2, f3⟩
      · rw [e2] at hf1
        exact (hnew j hj f hf1 (by rw [← hef, e3])).elim
      · rw [e3, f3]
  · rcases hes i hi k e hk with hk | ⟨rfl, rfl, rfl⟩
    · exact h.epo i hi k e hk
    · show _ ≤ A.ep
      omega
  · obtain rfl : d' = d := Option.some.inj (hd'.symm.trans hd)
    rcases hes i hi k e hk with hk | ⟨rfl, rfl, rfl⟩
    · exact hup d' k e (h.fiv d' hd i hi k e hk he)
    · exact hk

/-- All of a replica's log is safe. -/
def Ap.sync (A : Ap) (r : Nat) : Ap := { A with sf := upd A.sf r (A.es r).length }
theorem Inv.sync {A : Ap} {C : List Ent} (h : Inv A C) (r : Nat) (hr : r < A.n) : Inv (A.sync r) C := by
  have hs := h.safe r hr
  refine ⟨h.led, fun i hi => ?_, fun i hi hsi => ?_, fun d hd i hi => ?_, h.thr, h.fou, h.epo, h.fiv, h.sev⟩
  · by_cases e : i = r
    · subst e; simp only [Ap.sync, upd_same]; exact Nat.le_refl _
    · simp only [Ap.sync, upd_other _ _ e]; exact h.safe i hi
  · obtain ⟨o1, o2⟩ := h.one i hi hsi
    refine ⟨?_, o2⟩
    by_cases e : i = r
    · subst e; simp only [Ap.sync, upd_same]; omega
    · simp only [Ap.sync, upd_other _ _ e]; exact o1
  · obtain ⟨t1, t2, t3⟩ := h.two d hd i hi
    refine ⟨?_, t2, t3⟩
    by_cases e : i = r
    · subst e; simp only [Ap.sync, upd_same]; omega
    · simp only [Ap.sync, upd_other _ _ e]; exact t1
/-- Of the leader all is known. -/
def Ap.know (A : Ap) (d : Nat) : Ap := { A with kn := upd A.kn d (A.es d).length }
theorem Inv.know {A : Ap} {C : List Ent} (h : Inv A C) {d : Nat} (hd : A.ld = some d) (hs : A.sf d = (A.es d).length) : Inv (A.know d) C := by
  refine ⟨h.led, h.safe, h.one, fun d' hd' i hi => ?_, h.thr, h.fou, h.epo, h.fiv, h.sev⟩
  obtain rfl : d' = d := Option.some.inj (hd'.symm.trans hd)
  by_cases e : i = d'
  · subst e; simp only [Ap.know, upd_same]; exact ⟨by omega, Nat.le_refl _, trivial⟩
  · simp only [Ap.know, upd_other _ _ e]; exact h.two d' hd i hi

/-- A replica's log is cut to what is as the leader's; of these the safe ones are known. -/
def Ap.meet (A : Ap) (r d : Nat) : Ap :=
  { A with es := upd A.es r ((A.es r).take (com (A.es r) (A.es d))), sf := upd A.sf r (min (A.sf r) (com (A.es r) (A.es d))), kn := upd A.kn r (min (A.sf r) (com (A.es r) (A.es d))) }
theorem Inv.meet {A : Ap} {C : List Ent} (h : Inv A C) {r d : Nat} (hr : r < A.n) (hd : A.ld = some d) (hne : r ≠ d) : Inv (A.meet r d) C := by
  obtain ⟨hdn, hdi, hdu⟩ := h.led d hd
  obtain ⟨c1, c2⟩ := com_le (A.es r) (A.es d)
  have cs := com_same (A.es r) (A.es d) (fun k e f he hf => h.fou r d hr hdn k e f he hf)
  obtain ⟨od1, od2⟩ := h.one d hdn hdi
  have hpre : ∀ c, Pre c (A.es r) → Pre c (A.es d) → c.length ≤ com (A.es r) (A.es d) := fun c p1 p2 => com_pre c _ _ p1 p2
  generalize hm : com (A.es r) (A.es d) = m at *
  have hes : ∀ i k e, ((A.meet r d).es i)[k]? = some e → (A.es i)[k]? = some e := fun i k e hk => by
    by_cases ei : i = r
    · subst ei
      simp only [Ap.meet, upd_same, hm] at hk
      rw [List.getElem?_take] at hk
      split at hk
      · exact hk
      · cases hk
    · simp only [Ap.meet, upd_other _ _ ei] at hk
      exact hk
  refine ⟨h.led, fun i hi => ?_, fun i hi hs => ?_, fun d' hd' i hi => ?_, fun i hi => ?_, fun i j hi hj k e f he hf => h.fou i j hi hj k e f (hes i k e he) (hes j k f hf), fun i hi k e hk => h.epo i hi k e (hes i k e hk), fun d' hd' i hi k e hk he => ?_, h.sev⟩
  · by_cases e : i = r
    · subst e
      simp only [Ap.meet, upd_same, hm, List.length_take]
      have := h.safe i hi
      omega
    · simp only [Ap.meet, upd_other _ _ e]; exact h.safe i hi
  · obtain ⟨o1, o2⟩ := h.one i hi hs
    by_cases e : i = r
    · subst e
      have := hpre C o2 od2
      simp only [Ap.meet, upd_same, hm]
      exact ⟨by omega, o2.cut m this⟩
    · simp only [Ap.meet, upd_other _ _ e]; exact ⟨o1, o2⟩
  · obtain rfl : d' = d := Option.some.inj (hd'.symm.trans hd)
    have ed : (A.meet r d').es d' = A.es d' := by simp only [Ap.meet, upd_other _ _ (Ne.symm hne)]
    rw [ed]
    by_cases e : i = r
    · subst e
      simp only [Ap.meet, upd_same, hm]
      refine ⟨Nat.le_refl _, by omega, ?_⟩
      rw [List.take_take, Nat.min_eq_left (by omega)]
      have := congrArg (List.take (min (A.sf i) m)) cs
      rw [List.take_take, List.take_take, Nat.min_eq_left (by omega)] at this
      exact this
    · simp only [Ap.meet, upd_other _ _ e]
      exact h.two d' hd i hi
  · obtain ⟨t1, t2⟩ := h.thr i hi
    refine ⟨t1, ?_⟩
    by_cases e : i = r
    · subst e
      have := hpre _ t2 (od2.take _)
      simp only [Ap.meet, upd_same, hm]
      exact t2.cut m this
    · simp only [Ap.meet, upd_other _ _ e]; exact t2
  · obtain rfl : d' = d := Option.some.inj (hd'.symm.trans hd)
    have ed : (A.meet r d').es d' = A.es d' := by simp only [Ap.meet, upd_other _ _ (Ne.symm hne)]
    rw [ed]
    exact h.fiv d' hd i hi k e (hes i k e hk) he

/-- So many first entries of the leader's are a replica's log; its High is at most the leader's, or its own. -/
def Ap.copy (A : Ap) (r d k h : Nat) : Ap := { A with es := upd A.es r ((A.es d).take k), hi := upd A.hi r h }
theorem Inv.copy {A : Ap} {C : List Ent} (h : Inv A C) {r d : Nat} (hr : r < A.n) (hd : A.ld = some d) (hne : r ≠ d) (k x : Nat) (hk : (A.es r).length ≤ k) (hkd : k ≤ (A.es d).length) (hp : Pre (A.es r) (A.es d)) (hx : x ≤ k) (hx2 : x ≤ C.length) : Inv (A.copy r d k x) C := by
  obtain ⟨hdn, hdi, hdu⟩ := h.led d hd
  obtain ⟨od1, od2⟩ := h.one d hdn hdi
  have hpk : Pre (A.es r) ((A.es d).take k) := hp.cut k hk
  have ed : (A.copy r d k x).es d = A.es d := by simp only [Ap.copy, upd_other _ _ (Ne.symm hne)]
  have hes : ∀ i, i < A.n → ∀ q e, ((A.copy r d k x).es i)[q]? = some e → ∃ j, j < A.n ∧ (A.es j)[q]? = some e ∧ (j = i ∨ j = d) := fun i hi q e hq => by
    by_cases ei : i = r
    · subst ei
      simp only [Ap.copy, upd_same] at hq
      rw [List.getElem?_take] at hq
      split at hq
      · exact ⟨d, hdn, hq, .inr rfl⟩
      · cases hq
    · simp only [Ap.copy, upd_other _ _ ei] at hq
      exact ⟨i, hi, hq, .inl rfl⟩
  refine ⟨h.led, fun i hi => ?_, fun i hi hs => ?_, fun d' hd' i hi => ?_, fun i hi => ?_, fun i j hi hj q e f he hf => ?_, fun i hi q e hq => ?_, fun d' hd' i hi q e hq he => ?_, fun d' hd' => ?_⟩
  · by_cases e : i = r
    · subst e
      have := h.safe i hi
      simp only [Ap.copy, upd_same, List.length_take]
      omega
    · simp only [Ap.copy, upd_other _ _ e]; exact h.safe i hi
  · obtain ⟨o1, o2⟩ := h.one i hi hs
    refine ⟨o1, ?_⟩
    by_cases e : i = r
    · subst e; simp only [Ap.copy, upd_same]; exact o2.trans hpk
    · simp only [Ap.copy, upd_other _ _ e]; exact o2
  · obtain rfl : d' = d := Option.some.inj (hd'.symm.trans hd)
    rw [ed]
    obtain ⟨t1, t2, t3⟩ := h.two d' hd i hi
    refine ⟨t1, t2, ?_⟩
    by_cases e : i = r
    · subst e
      have := h.safe i hi
      simp only [Ap.copy, upd_same]
      rw [List.take_take, Nat.min_eq_left (by omega)]
    · simp only [Ap.copy, upd_other _ _ e]; exact t3
  · by_cases e : i = r
    · subst e
      simp only [Ap.copy, upd_same]
      refine ⟨hx2, ?_⟩
      have := od2.take x
      have hl : (C.take x).length ≤ k := by rw [List.length_take]; omega
      exact this.cut k hl
    · simp only [Ap.copy, upd_other _ _ e]; exact h.thr i hi
  · obtain ⟨i', hi', he', _⟩ := hes i hi q e he
    obtain ⟨j', hj', hf', _⟩ := hes j hj q f hf
    exact h.fou i' j' hi' hj' q e f he' hf'
  · obtain ⟨i', hi', he', _⟩ := hes i hi q e hq
    exact h.epo i' hi' q e he'
  · obtain rfl : d' = d := Option.some.inj (hd'.symm.trans hd)
    rw [ed]
    obtain ⟨i', hi', he', _⟩ := hes i hi q e hq
    exact h.fiv d' hd i' hi' q e he' he
  · obtain rfl : d' = d := Option.some.inj (hd'.symm.trans hd)
    have eh : (A.copy r d' k x).hi d' = A.hi d' := by simp only [Ap.copy, upd_other _ _ (Ne.symm hne)]
    rw [eh]
    exact h.sev d' hd

/-- A replica crashes: m entries are left, all of them safe. -/
def Ap.crash (A : Ap) (r m : Nat) : Ap :=
  { A with ld := if A.ld = some r then none else A.ld, es := upd A.es r ((A.es r).take m), sf := upd A.sf r m, hi := upd A.hi r (min (A.hi r) m), kn := upd A.kn r 0, up := upd A.up r false }
theorem Inv.crash {A : Ap} {C : List Ent} (h : Inv A C) (r m : Nat) (hr : r < A.n) (h1 : A.sf r ≤ m) (h2 : m ≤ (A.es r).length) : Inv (A.crash r m) C := by
  have hes : ∀ i k e, ((A.crash r m).es i)[k]? = some e → (A.es i)[k]? = some e := fun i k e hk => by
    by_cases ei : i = r
    · subst ei
      simp only [Ap.crash, upd_same] at hk
      rw [List.getElem?_take] at hk
      split at hk
      · exact hk
      · cases hk
    · simp only [Ap.crash, upd_other _ _ ei] at hk
      exact hk
  have hld : ∀ d, (A.crash r m).ld = some d → A.ld = some d ∧ d ≠ r := fun d hd => by
    simp only [Ap.crash] at hd
    split at hd
    · cases hd
    · rename_i hn
      exact ⟨hd, fun e => hn (by rw [hd, e])⟩
  refine ⟨fun d hd => ?_, fun i hi => ?_, fun i hi hs => ?_, fun d hd i hi => ?_, fun i hi => ?_, fun i j hi hj k e f he hf => h.fou i j hi hj k e f (hes i k e he) (hes j k f hf), fun i hi k e hk => h.epo i hi k e (hes i k e hk), fun d hd i hi k e hk he => ?_, fun d hd => ?_⟩
  · obtain ⟨l1, l2⟩ := hld d hd
    obtain ⟨q1, q2, q3⟩ := h.led d l1
    exact ⟨q1, q2, by simp only [Ap.crash, upd_other _ _ l2]; exact q3⟩
  · by_cases e : i = r
    · subst e; simp only [Ap.crash, upd_same, List.length_take]; omega
    · simp only [Ap.crash, upd_other _ _ e]; exact h.safe i hi
  · obtain ⟨o1, o2⟩ := h.one i hi hs
    by_cases e : i = r
    · subst e; simp only [Ap.crash, upd_same]; exact ⟨by omega, o2.cut m (by omega)⟩
    · simp only [Ap.crash, upd_other _ _ e]; exact ⟨o1, o2⟩
  · obtain ⟨l1, l2⟩ := hld d hd
    have ed : (A.crash r m).es d = A.es d := by simp only [Ap.crash, upd_other _ _ l2]
    rw [ed]
    by_cases e : i = r
    · subst e; simp only [Ap.crash, upd_same]; exact ⟨Nat.zero_le _, Nat.zero_le _, by simp⟩
    · simp only [Ap.crash, upd_other _ _ e]; exact h.two d l1 i hi
  · obtain ⟨t1, t2⟩ := h.thr i hi
    by_cases e : i = r
    · subst e
      simp only [Ap.crash, upd_same]
      refine ⟨by omega, ?_⟩
      have e1 : C.take (min (A.hi i) m) = (C.take (A.hi i)).take m := by rw [List.take_take, Nat.min_comm]
      rw [e1]
      exact (t2.take m).cut m (by rw [List.length_take]; omega)
    · simp only [Ap.crash, upd_other _ _ e]; exact ⟨t1, t2⟩
  · obtain ⟨l1, l2⟩ := hld d hd
    have ed : (A.crash r m).es d = A.es d := by simp only [Ap.crash, upd_other _ _ l2]
    rw [ed]
    exact h.fiv d l1 i hi k e (hes i k e hk) he
  · obtain ⟨l1, l2⟩ := hld d hd
    have eh : (A.crash r m).hi d = A.hi d := by simp only [Ap.crash, upd_other _ _ l2]
    rw [eh]
    exact h.sev d l1

/-- A replica is up again. -/
def Ap.rise (A : Ap) (r : Nat) : Ap := { A with up := upd A.up r true }
theorem Inv.rise {A : Ap} {C : List Ent} (h : Inv A C) (r : Nat) : Inv (A.rise r) C := by
  refine ⟨fun d hd => ?_, h.safe, h.one, h.two, h.thr, h.fou, h.epo, h.fiv, h.sev⟩
  obtain ⟨q1, q2, q3⟩ := h.led d hd
  refine ⟨q1, q2, ?_⟩
  by_cases e : d = r
  · subst e; simp only [Ap.rise, upd_same]
  · simp only [Ap.rise, upd_other _ _ e]; exact q3
/-- A replica that is down is wiped. -/
def Ap.wipe (A : Ap) (r : Nat) : Ap := { A with es := upd A.es r [], sf := upd A.sf r 0, hi := upd A.hi r 0, kn := upd A.kn r 0, isr := upd A.isr r false, up := upd A.up r false }
theorem Inv.wipe {A : Ap} {C : List Ent} (h : Inv A C) (r : Nat) (hu : A.up r = false) : Inv (A.wipe r) C := by
  have hne : ∀ d, A.ld = some d → d ≠ r := fun d hd e => by
    have := (h.led d hd).2.2
    rw [e, hu] at this
    cases this
  have hes : ∀ (i k : Nat) (e : Ent), ((A.wipe r).es i)[k]? = some e → (A.es i)[k]? = some e := fun i k e hk => by
    by_cases ei : i = r
    · subst ei; simp [Ap.wipe, upd_same] at hk
    · simp only [Ap.wipe, upd_other _ _ ei] at hk; exact hk
  refine ⟨fun d hd => ?_, fun i hi => ?_, fun i hi hs => ?_, fun d hd i hi => ?_, fun i hi => ?_, fun i j hi hj k e f he hf => h.fou i j hi hj k e f (hes i k e he) (hes j k f hf), fun i hi k e hk => h.epo i hi k e (hes i k e hk), fun d hd i hi k e hk he => ?_, fun d hd => ?_⟩
  · obtain ⟨q1, q2, q3⟩ := h.led d hd
    have e := hne d hd
    refine ⟨q1, ?_, ?_⟩
    · simp only [Ap.wipe, upd_other _ _ e]; exact q2
    · simp only [Ap.wipe, upd_other _ _ e]; exact q3
  · by_cases e : i = r
    · subst e; simp [Ap.wipe, upd_same]
    · simp only [Ap.wipe, upd_other _ _ e]; exact h.safe i hi
  · by_cases e : i = r
    · subst e; simp [Ap.wipe, upd_same] at hs
    · simp only [Ap.wipe, upd_other _ _ e] at hs ⊢; exact h.one i hi hs
  · have ed := hne d hd
    have e2 : (A.wipe r).es d = A.es d := by simp only [Ap.wipe, upd_other _ _ ed]
    rw [e2]
    by_cases e : i = r
    · subst e; simp [Ap.wipe, upd_same]
    · simp only [Ap.wipe, upd_other _ _ e]; exact h.two d hd i hi
  · by_cases e : i = r
    · subst e; simp [Ap.wipe, upd_same, Pre]
    · simp only [Ap.wipe, upd_other _ _ e]; exact h.thr i hi
  · have e2 : (A.wipe r).es d = A.es d := by simp only [Ap.wipe, upd_other _ _ (hne d hd)]
    rw [e2]
    exact h.fiv d hd i hi k e (hes i k e hk) he
  · have eh : (A.wipe r).hi d = A.hi d := by simp only [Ap.wipe, upd_other _ _ (hne d hd)]
    rw [eh]
    exact h.sev d hd
/-- A replica leads. -/
def Ap.lead (A : Ap) (r : Nat) : Ap := { A with ep := A.ep + 1, ld := some r, kn := upd (fun _ => 0) r (A.sf r), bs := (A.es r).length }
theorem Inv.lead {A : Ap} {C : List Ent} (h : Inv A C) (r : Nat) (hr : r < A.n) (hi : A.isr r = true) (hu : A.up r = true) : Inv (A.lead r) C := by
  refine ⟨fun d hd => ?_, h.safe, h.one, fun d hd i hi' => ?_, h.thr, h.fou, fun i hi' k e hk => ?_, fun d hd i hi' k e hk he => ?_, fun d hd => ?_⟩
  · obtain rfl : r = d := Option.some.inj hd
    exact ⟨hr, hi, hu⟩
  · obtain rfl : r = d := Option.some.inj hd
    by_cases e : i = r
    · subst e
      have := h.safe i hr
      simp only [Ap.lead, upd_same]
      exact ⟨Nat.le_refl _, this, trivial⟩
    · simp only [Ap.lead, upd_other _ _ e]
      exact ⟨Nat.zero_le _, Nat.zero_le _, by simp⟩
  · have := h.epo i hi' k e hk
    show e.a ≤ A.ep + 1
    omega
  · have := h.epo i hi' k e hk
    have he' : e.a = A.ep + 1 := he
    omega
  · obtain rfl : r = d := Option.some.inj hd
    left
    obtain ⟨o1, o2⟩ := h.one r hr hi
    exact o2.len
/-- A replica does not keep up. -/
def Ap.shrink (A : Ap) (r : Nat) : Ap := { A with isr := upd A.isr r false }
theorem Inv.shrink {A : Ap} {C : List Ent} (h : Inv A C) (r : Nat) (hn : A.ld ≠ some r) : Inv (A.shrink r) C := by
  refine ⟨fun d hd => ?_, h.safe, fun i hi hs => ?_, h.two, h.thr, h.fou, h.epo, h.fiv, h.sev⟩
  · obtain ⟨q1, q2, q3⟩ := h.led d hd
    have e : d ≠ r := fun e => hn (by rw [← e]; exact hd)
    exact ⟨q1, by simp only [Ap.shrink, upd_other _ _ e]; exact q2, q3⟩
  · by_cases e : i = r
    · subst e; simp [Ap.shrink, upd_same] at hs
    · simp only [Ap.shrink, upd_other _ _ e] at hs; exact h.one i hi hs
/-- A replica keeps up again. -/
def Ap.expand (A : Ap) (r : Nat) : Ap := { A with isr := upd A.isr r true }
theorem Inv.expand {A : Ap} {C : List Ent} (h : Inv A C) {r d : Nat} (hr : r < A.n) (hd : A.ld = some d) (h1 : A.bs ≤ A.kn r) (h2 : A.hi d ≤ A.kn r) : Inv (A.expand r) C := by
  obtain ⟨hdn, hdi, hdu⟩ := h.led d hd
  refine ⟨fun d' hd' => ?_, h.safe, fun i hi hs => ?_, h.two, h.thr, h.fou, h.epo, h.fiv, h.sev⟩
  · obtain ⟨q1, q2, q3⟩ := h.led d' hd'
    refine ⟨q1, ?_, q3⟩
    by_cases e : d' = r
    · subst e; simp only [Ap.expand, upd_same]
    · simp only [Ap.expand, upd_other _ _ e]; exact q2
  · by_cases e : i = r
    · subst e
      obtain ⟨t1, t2, t3⟩ := h.two d hd i hi
      have hs' := h.safe i hi
      have hl : C.length ≤ A.kn i := by rcases h.sev d hd with s | s <;> omega
      obtain ⟨o1, o2⟩ := h.one d hdn hdi
      refine ⟨by show C.length ≤ A.sf i; omega, ?_⟩
      have p1 := o2.cut (A.kn i) hl
      rw [← t3] at p1
      exact p1.trans (pre_take _ _ (by omega))
    · simp only [Ap.expand, upd_other _ _ e] at hs; exact h.one i hi hs
/-- At the beginning nothing is kept. -/
theorem inv_new (n fw : Nat) : Inv ⟨n, 0, none, 0, fw, fun _ => true, fun _ => 0, fun _ => true, fun _ => [], fun _ => 0, fun _ => 0⟩ [] := by
  refine ⟨?_, ?_, ?_, ?_, ?_, ?_, ?_, ?_, ?_⟩
  · intro d hd; cases hd
  · intro i hi; exact Nat.le_refl _
  · intro i hi hs; exact ⟨Nat.le_refl _, rfl⟩
  · intro d hd; cases hd
  · intro i hi; exact ⟨Nat.le_refl _, rfl⟩
  · intro i j hi hj k e f he; simp at he
  · intro i hi k e he; simp at he
  · intro d hd; cases hd
  · intro d hd; cases hd
end

section
open Go.RowKit
set_option linter.unusedVariables false

/-- A replica: whether it is up, its log's bytes, how many are safe, its High. -/
structure Rep where
  up : Bool
  l : List Int
  y : Int
  h : Int
/-- A part. -/
structure Prt where
  ep : Int
  ld : Int
  isr : List Bool
  kn : List Int
  rs : List Rep
  fw : Int
  bs : Int
def Rep.zero : Rep := ⟨false, [], 0, 0⟩
def Prt.zero : Prt := ⟨0, 0, [], [], [], 0, 0⟩
/-- Its entries. -/
def Rep.es (r : Rep) : List Ent := (decL r.l).1
/-- How many of them are safe. -/
def Rep.safe (r : Rep) : Nat := (decL (r.l.take r.y.toNat)).1.length
def Prt.at (p : Prt) (i : Nat) : Rep := p.rs.getD i Rep.zero
/-- May the replica be, with what is known of it? -/
def Rep.okB (r : Rep) (k : Int) : Bool := lft r.l r.y == 0 && inR r.h 0 r.es.length && inR k 0 400
/-- The first j replicas may be. -/
def Prt.oks (p : Prt) : Nat → Bool
  | 0 => true
  | j + 1 => p.oks j && (p.at j).okB (p.kn.getD j 0)
/-- One of the first j keeps up. -/
def Prt.some (p : Prt) : Nat → Bool
  | 0 => false
  | j + 1 => p.some j || p.isr.getD j false
/-- May the part be (P4.2)? -/
def Prt.formB (p : Prt) : Bool :=
  inR p.rs.length 1 5 && p.isr.length == p.rs.length && p.kn.length == p.rs.length && inR p.fw 1 p.rs.length && inR p.ep 0 1073741824 && inR p.ld (-1) ((p.rs.length : Int) - 1) && inR p.bs 0 400
def Prt.ledB (p : Prt) : Bool := decide (p.ld < 0) || (p.isr.getD p.ld.toNat false && (p.at p.ld.toNat).up)
def Prt.mayB (p : Prt) : Bool := p.formB && p.oks p.rs.length && p.ledB && p.some p.rs.length
/-- What is refused ahead of all else, where a replica is named. -/
def Prt.flt (p : Prt) (r : Int) : Int := if p.mayB then (if inR r 0 ((p.rs.length : Int) - 1) then 0 else 5) else 12
/-- The least that is known of the first j that keep up, and n. -/
def Prt.low (p : Prt) (n : Int) : Nat → Int
  | 0 => n
  | j + 1 => if p.isr.getD j false = true ∧ p.kn.getD j 0 < p.low n j then p.kn.getD j 0 else p.low n j
def Prt.setR (p : Prt) (i : Nat) (f : Rep → Rep) : Prt := { p with rs := p.rs.modify i f }
/-- P4.3. -/
def Prt.raised (p : Prt) : Prt :=
  if p.ld < 0 then p
  else if (p.at p.ld.toNat).h < p.low (p.at p.ld.toNat).es.length p.isr.length then p.setR p.ld.toNat (fun r => { r with h := p.low (p.at p.ld.toNat).es.length p.isr.length })
  else p
/-- P4.1. -/
def newP (n few : Int) : Prt × Int :=
  if inR n 1 5 && inR few 1 n then (⟨0, -1, List.replicate n.toNat true, List.replicate n.toNat 0, List.replicate n.toNat ⟨true, [], 0, 0⟩, few, 0⟩, 0) else (Prt.zero, 2)
/-- P4.5. -/
def Prt.syncP (p : Prt) (r : Int) : Prt × Int :=
  if p.flt r ≠ 0 then (Prt.zero, p.flt r)
  else if (p.at r.toNat).up = false then (Prt.zero, 7)
  else if r = p.ld then ({ p.setR r.toNat (fun x => { x with y := x.l.length }) with kn := p.kn.set r.toNat (p.at r.toNat).es.length }.raised, 0)
  else (p.setR r.toNat (fun x => { x with y := x.l.length }), 0)
/-- P4.7. -/
def Prt.riseP (p : Prt) (r : Int) : Prt × Int :=
  if p.flt r ≠ 0 then (Prt.zero, p.flt r)
  else if (p.at r.toNat).up = true then (Prt.zero, 6)
  else (p.setR r.toNat (fun x => { x with up := true }), 0)
/-- Another one than r, of the first j, keeps up. -/
def Prt.other (p : Prt) (r : Int) : Nat → Bool
  | 0 => false
  | j + 1 => p.other r j || (decide ((j : Int) ≠ r) && p.isr.getD j false)
/-- P4.8. -/
def Prt.wipeP (p : Prt) (r : Int) : Prt × Int :=
  if p.flt r ≠ 0 then (Prt.zero, p.flt r)
  else if (p.at r.toNat).up = true then (Prt.zero, 12)
  else if p.other r p.isr.length = false then (Prt.zero, 8)
  else ({ p.setR r.toNat (fun _ => Rep.zero) with kn := p.kn.set r.toNat 0, isr := p.isr.set r.toNat false }, 0)
/-- P4.9. -/
def Prt.electP (p : Prt) (r : Int) : Prt × Int :=
  if p.flt r ≠ 0 then (Prt.zero, p.flt r)
  else if (p.at r.toNat).up = false then (Prt.zero, 7)
  else if p.isr.getD r.toNat false = false then (Prt.zero, 13)
  else if p.ld = r then (Prt.zero, 6)
  else if p.ep = 1073741824 then (Prt.zero, 2)
  else ({ p with ep := p.ep + 1, ld := r, kn := (List.replicate p.kn.length 0).set r.toNat (p.at r.toNat).safe, bs := (p.at r.toNat).es.length }.raised, 0)
def Prt.ofl (p : Prt) (r : Int) : Int := if p.flt r ≠ 0 then p.flt r else if p.ld < 0 ∨ p.ld = r then 8 else 0
/-- P4.10. -/
def Prt.shrinkP (p : Prt) (r : Int) : Prt × Int :=
  if p.ofl r ≠ 0 then (Prt.zero, p.ofl r)
  else if p.isr.getD r.toNat false = false then (Prt.zero, 13)
  else ({ p with isr := p.isr.set r.toNat false }.raised, 0)
def Prt.expandP (p : Prt) (r : Int) : Prt × Int :=
  if p.ofl r ≠ 0 then (Prt.zero, p.ofl r)
  else if p.isr.getD r.toNat false = true then (Prt.zero, 6)
  else if (p.at r.toNat).up = false then (Prt.zero, 7)
  else if p.kn.getD r.toNat 0 < p.bs ∨ p.kn.getD r.toNat 0 < (p.at p.ld.toNat).h then (Prt.zero, 13)
  else ({ p with isr := p.isr.set r.toNat true }, 0)

/-- Of the first j so many keep up and are up. -/
def Prt.ups (p : Prt) : Nat → Nat
  | 0 => 0
  | j + 1 => p.ups j + if p.isr.getD j false = true ∧ (p.at j).up = true then 1 else 0
/-- An entry with the part's Epoch. -/
def Prt.ent (p : Prt) (x : Ent) : Ent := { x with a := p.ep }
/-- What seg's Append refuses (P2.3). -/
def appF (l : List Int) (y : Int) (x : Ent) : Int :=
  if lft l y ≠ 0 then lft l y
  else if x.flt ≠ 0 then x.flt
  else if 400 ≤ (decL l).1.length ∨ 40000 < l.length + x.enc.length then 16
  else 0
/-- P4.4. -/
def Prt.putP (p : Prt) (x : Ent) : Prt × Int × Int :=
  if p.mayB = false then (Prt.zero, 0, 12)
  else if p.ld < 0 then (Prt.zero, 0, 8)
  else if (p.ent x).flt ≠ 0 then (Prt.zero, 0, (p.ent x).flt)
  else if (chk (p.at p.ld.toNat).es (p.ent x)).2 ≠ 0 then (Prt.zero, 0, (chk (p.at p.ld.toNat).es (p.ent x)).2)
  else if 0 ≤ (chk (p.at p.ld.toNat).es (p.ent x)).1 then (p, (chk (p.at p.ld.toNat).es (p.ent x)).1, 0)
  else if (p.ups p.isr.length : Int) < p.fw then (Prt.zero, 0, 9)
  else if appF (p.at p.ld.toNat).l (p.at p.ld.toNat).y (p.ent x) ≠ 0 then (Prt.zero, 0, appF (p.at p.ld.toNat).l (p.at p.ld.toNat).y (p.ent x))
  else (p.setR p.ld.toNat (fun r => { r with l := r.l ++ (p.ent x).enc }), (p.at p.ld.toNat).es.length, 0)
/-- How much of a log that is cut to n entries is safe. -/
def cutS (l : List Int) (y : Int) (n : Nat) : Int := if y ≤ (endOf (decL l).1 n : Int) then y else endOf (decL l).1 n
/-- A replica's log, cut to what is as the leader's; of these the safe ones are known; High rises. -/
def Prt.met (p : Prt) (r n : Nat) : Prt :=
  { p.setR r (fun x => { x with l := x.l.take (endOf x.es n), y := cutS x.l x.y n }) with kn := p.kn.set r (Rep.safe ⟨false, (p.at r).l.take (endOf (p.at r).es n), cutS (p.at r).l (p.at r).y n, 0⟩) }.raised
/-- P4.6. -/
def Prt.fetchP (p : Prt) (r : Int) : Prt × Int × Int :=
  if p.flt r ≠ 0 then (Prt.zero, 0, p.flt r)
  else if p.ld < 0 ∨ p.ld = r then (Prt.zero, 0, 8)
  else if (p.at r.toNat).up = false then (Prt.zero, 0, 7)
  else
    let d := p.ld.toNat
    let n := com (p.at r.toNat).es (p.at d).es
    let q := p.met r.toNat n
    let x := Ent.at (p.at d).es n
    let came := if n < (p.at d).es.length ∧ appF (q.at r.toNat).l (q.at r.toNat).y x = 0 then 1 else 0
    (q.setR r.toNat (fun z => { z with l := if came = 1 then z.l ++ x.enc else z.l, h := min (max (p.at r.toNat).h (q.at d).h) ((n + came : Nat) : Int) }), came, 0)
/-- What seg's Crash refuses (P2.5). -/
def crashF (l : List Int) (y k : Int) : Int := if lft l y ≠ 0 then lft l y else if k < 0 then 2 else 0
/-- How many bytes stay. -/
def stayOf (l : List Int) (y k : Int) : Nat := (decL (l.take (if k < (l.length : Int) - y then (y + k).toNat else l.length))).2
/-- P4.7. -/
def Prt.crashP (p : Prt) (r k : Int) : Prt × Int :=
  if p.flt r ≠ 0 then (Prt.zero, p.flt r)
  else if (p.at r.toNat).up = false then (Prt.zero, 7)
  else if crashF (p.at r.toNat).l (p.at r.toNat).y k ≠ 0 then (Prt.zero, crashF (p.at r.toNat).l (p.at r.toNat).y k)
  else ({ p.setR r.toNat (fun x => ⟨false, x.l.take (stayOf x.l x.y k), stayOf x.l x.y k, min x.h (decL (x.l.take (stayOf x.l x.y k))).1.length⟩) with kn := p.kn.set r.toNat 0, ld := if p.ld = r then -1 else p.ld }, 0)
end

section
open Go.RowKit
set_option linter.unusedVariables false
set_option linter.unusedSimpArgs false


/-- A slice of replicas that reads as these; us: their bytes' slices. -/
def RdRs (w : World) (v : Value) (rs : List Rep) (us : Nat → Value) : Prop :=
  ∃ ao cap, v = .slice ao rs.length cap ∧ rs.length ≤ cap ∧ cap ≤ maxLen ∧ (ao = none → cap = 0) ∧ (0 < rs.length → ∃ g off, ao = some ⟨g, off, none⟩ ∧
    ∀ i, (h : i < rs.length) → Rd w (us i) (rs[i]'h).l ∧ w.cell? ⟨g, off + i * 4, none⟩ = some (.bool (rs[i]'h).up) ∧ w.cell? ⟨g, off + i * 4 + 1, none⟩ = some (us i) ∧ w.cell? ⟨g, off + i * 4 + 2, none⟩ = some (.int .i64 (rs[i]'h).y) ∧ w.cell? ⟨g, off + i * 4 + 3, none⟩ = some (.int .i64 (rs[i]'h).h))
theorem RdRs.below {C : Nat} {v : Value} {rs : List Rep} {us : Nat → Value} {w w' : World} (h : RdRs w v rs us) (hC : w.heap.size ≤ C) (hb : Below C w w') : RdRs w' v rs us := by
  obtain ⟨ao, cap, rfl, h1, h2, h4, h3⟩ := h
  refine ⟨ao, cap, rfl, h1, h2, h4, fun h0 => ?_⟩
  obtain ⟨g, off, rfl, hg⟩ := h3 h0
  have hlt : g < w.heap.size := cell_lt (hg 0 h0).2.1
  have hgC : g < C := by omega
  refine ⟨g, off, rfl, fun i hi => ?_⟩
  obtain ⟨r0, r1, r2, r3, r4⟩ := hg i hi
  exact ⟨r0.below hC hb, (hb.cell (p := ⟨g, _, none⟩) hgC).trans r1, (hb.cell (p := ⟨g, _, none⟩) hgC).trans r2, (hb.cell (p := ⟨g, _, none⟩) hgC).trans r3, (hb.cell (p := ⟨g, _, none⟩) hgC).trans r4⟩
theorem RdRs.drewN {v : Value} {rs : List Rep} {us : Nat → Value} {w : World} (h : RdRs w v rs us) (q : Nat) : RdRs (w.drewN q) v rs us := h
theorem RdRs.shape {v : Value} {rs : List Rep} {us : Nat → Value} {w : World} (h : RdRs w v rs us) : ∃ ao cap, v = .slice ao rs.length cap := by
  obtain ⟨ao, cap, e, _⟩ := h
  exact ⟨ao, cap, e⟩

/-- A part as a value. -/
def Prt.val (p : Prt) (vi vk vr : Value) : Value := .agg #[.int .i64 p.ep, .int .i64 p.ld, vi, vk, vr, .int .i64 p.fw, .int .i64 p.bs]
/-- Its three slices read as it says. -/
def RdP (w : World) (p : Prt) (vi vk vr : Value) (us : Nat → Value) : Prop := RdV w vi (p.isr.map Value.bool) ∧ RdV w vk (p.kn.map (Value.int .i64)) ∧ RdRs w vr p.rs us
theorem RdP.below {C : Nat} {p : Prt} {vi vk vr : Value} {us : Nat → Value} {w w' : World} (h : RdP w p vi vk vr us) (hC : w.heap.size ≤ C) (hb : Below C w w') : RdP w' p vi vk vr us :=
  ⟨h.1.below hC hb, h.2.1.below hC hb, h.2.2.below hC hb⟩
theorem RdP.drewN {p : Prt} {vi vk vr : Value} {us : Nat → Value} {w : World} (h : RdP w p vi vk vr us) (q : Nat) : RdP (w.drewN q) p vi vk vr us := h
/-- All logs are within bounds. -/
def Prt.small (p : Prt) : Prop := ∀ r ∈ p.rs, r.l.length ≤ 140737488355328
theorem at_rep {p : Prt} {i : Nat} (h : i < p.rs.length) : p.at i = p.rs[i]'h := by simp [Prt.at, List.getD, h]
theorem Prt.small.at {p : Prt} (h : p.small) (i : Nat) : (p.at i).l.length ≤ 140737488355328 := by
  by_cases hi : i < p.rs.length
  · rw [at_rep hi]
    exact h _ (List.getElem_mem hi)
  · have : p.at i = Rep.zero := by simp [Prt.at, List.getD, List.getElem?_eq_none (by omega : p.rs.length ≤ i)]
    rw [this]
    simp [Rep.zero]
end

section
open Go.RowKit
set_option linter.unusedVariables false
set_option linter.unusedSimpArgs false

/-- Seven cells that hold a part. -/
def PBox (w : World) (b : Nat) (p : Prt) (vi vk vr : Value) : Prop := w.cell? ⟨b, 0, none⟩ = some (.int .i64 p.ep) ∧ w.cell? ⟨b, 1, none⟩ = some (.int .i64 p.ld) ∧ w.cell? ⟨b, 2, none⟩ = some vi ∧ w.cell? ⟨b, 3, none⟩ = some vk ∧ w.cell? ⟨b, 4, none⟩ = some vr ∧ w.cell? ⟨b, 5, none⟩ = some (.int .i64 p.fw) ∧ w.cell? ⟨b, 6, none⟩ = some (.int .i64 p.bs)
theorem PBox.below {w w' : World} {b C : Nat} {p : Prt} {vi vk vr : Value} (h : PBox w b p vi vk vr) (hg : b < C) (hb : Below C w w') : PBox w' b p vi vk vr := by
  obtain ⟨a0, a1, a2, a3, a4, a5, a6⟩ := h
  exact ⟨(hb.cell (p := ⟨b, 0, none⟩) hg).trans a0, (hb.cell (p := ⟨b, 1, none⟩) hg).trans a1, (hb.cell (p := ⟨b, 2, none⟩) hg).trans a2, (hb.cell (p := ⟨b, 3, none⟩) hg).trans a3, (hb.cell (p := ⟨b, 4, none⟩) hg).trans a4, (hb.cell (p := ⟨b, 5, none⟩) hg).trans a5, (hb.cell (p := ⟨b, 6, none⟩) hg).trans a6⟩
theorem pbox_new (w : World) (p : Prt) (vi vk vr : Value) (T : TypeId) : PBox (w.alloc (.cells #[.int .i64 p.ep, .int .i64 p.ld, vi, vk, vr, .int .i64 p.fw, .int .i64 p.bs] T)) w.heap.size p vi vk vr := ⟨by simp, by simp, by simp, by simp, by simp, by simp, by simp⟩

theorem RdP.isrAt {w : World} {ao : Option Addr} {n cap : Nat} {p : Prt} (h : RdV w (.slice ao n cap) (p.isr.map Value.bool)) (i : Nat) (hi : i < p.isr.length) : ∃ g off, ao = some ⟨g, off, none⟩ ∧ w.cell? ⟨g, off + i, none⟩ = some (.bool (p.isr.getD i false)) := by
  obtain ⟨g, off, e, _, hc⟩ := h.cellAt i (by simpa using hi)
  refine ⟨g, off, e, ?_⟩
  rw [hc]
  simp [List.getD, hi]
theorem RdP.knAt {w : World} {ao : Option Addr} {n cap : Nat} {p : Prt} (h : RdV w (.slice ao n cap) (p.kn.map (Value.int .i64))) (i : Nat) (hi : i < p.kn.length) : ∃ g off, ao = some ⟨g, off, none⟩ ∧ w.cell? ⟨g, off + i, none⟩ = some (.int .i64 (p.kn.getD i 0)) := by
  obtain ⟨g, off, e, _, hc⟩ := h.cellAt i (by simpa using hi)
  refine ⟨g, off, e, ?_⟩
  rw [hc]
  simp [List.getD, hi]
/-- The lengths are within Go's. -/
theorem RdP.lens {w : World} {p : Prt} {vi vk vr : Value} {us : Nat → Value} (h : RdP w p vi vk vr us) : ∃ ai ci ak ck ar cr, vi = .slice ai p.isr.length ci ∧ vk = .slice ak p.kn.length ck ∧ vr = .slice ar p.rs.length cr ∧ (p.isr.length : Int) ≤ 9223372036854775807 ∧ (p.kn.length : Int) ≤ 9223372036854775807 ∧ (p.rs.length : Int) ≤ 9223372036854775807 := by
  obtain ⟨⟨ai, ci, e1, a1, a2, _⟩, ⟨ak, ck, e2, b1, b2, _⟩, ⟨ar, cr, e3, c1, c2, _⟩⟩ := h
  rw [List.length_map] at e1 a1 e2 b1
  unfold maxLen at a2 b2 c2
  exact ⟨ai, ci, ak, ck, ar, cr, e1, e2, e3, by omega, by omega, by omega⟩
end

section
open Go.RowKit
set_option linter.unusedVariables false
set_option linter.unusedSimpArgs false

theorem oks_iff (p : Prt) (n : Nat) : p.oks n = true ↔ ∀ j, j < n → lft (p.at j).l (p.at j).y = 0 ∧ inR (p.at j).h 0 (p.at j).es.length = true ∧ inR (p.kn.getD j 0) 0 400 = true := by
  induction n with
  | zero => simp [Prt.oks]
  | succ n ih =>
    simp only [Prt.oks, Bool.and_eq_true, ih, Rep.okB, beq_iff_eq]
    refine ⟨fun ⟨h1, ⟨h2, h3⟩, h4⟩ j hj => ?_, fun h => ⟨fun j hj => h j (by omega), ⟨(h n (by omega)).1, (h n (by omega)).2.1⟩, (h n (by omega)).2.2⟩⟩
    by_cases e : j = n
    · subst e; exact ⟨h2, h3, h4⟩
    · exact h1 j (by omega)
theorem some_iff (p : Prt) (n : Nat) : p.some n = true ↔ ∃ j, j < n ∧ p.isr.getD j false = true := by
  induction n with
  | zero => simp [Prt.some]
  | succ n ih =>
    simp only [Prt.some, Bool.or_eq_true, ih]
    refine ⟨fun h => ?_, fun ⟨j, h1, h2⟩ => ?_⟩
    · rcases h with ⟨j, h1, h2⟩ | h
      · exact ⟨j, by omega, h2⟩
      · exact ⟨n, by omega, h⟩
    · by_cases e : j = n
      · subst e; exact .inr h2
      · exact .inl ⟨j, by omega, h2⟩
def Prt.sizesB (p : Prt) : Bool := decide (1 ≤ p.rs.length ∧ p.rs.length ≤ 5 ∧ p.isr.length = p.rs.length ∧ p.kn.length = p.rs.length)
def Prt.leadB (p : Prt) : Bool := p.ld == -1 || (inR p.ld 0 ((p.rs.length : Int) - 1) && (p.at p.ld.toNat).up && p.isr.getD p.ld.toNat false)
def Prt.knB (p : Prt) : Bool := p.kn.all fun x => inR x 0 400
def Prt.numB (p : Prt) : Bool := p.knB && inR p.fw 1 p.rs.length && inR p.ep 0 1073741824 && inR p.bs 0 400
/-- May the replica be by itself? -/
def Rep.fitB (r : Rep) : Bool := lft r.l r.y == 0 && inR r.h 0 r.es.length
/-- What a part that may be is. -/
structure May (p : Prt) : Prop where
  n1 : 1 ≤ p.rs.length
  n5 : p.rs.length ≤ 5
  li : p.isr.length = p.rs.length
  lk : p.kn.length = p.rs.length
  fw : 1 ≤ p.fw ∧ p.fw ≤ p.rs.length
  ep : 0 ≤ p.ep ∧ p.ep ≤ 1073741824
  ld : -1 ≤ p.ld ∧ p.ld ≤ (p.rs.length : Int) - 1
  bs : 0 ≤ p.bs ∧ p.bs ≤ 400
  ok : ∀ j, j < p.rs.length → lft (p.at j).l (p.at j).y = 0 ∧ 0 ≤ (p.at j).h ∧ (p.at j).h ≤ (p.at j).es.length ∧ 0 ≤ p.kn.getD j 0 ∧ p.kn.getD j 0 ≤ 400
  up : 0 ≤ p.ld → p.isr.getD p.ld.toNat false = true ∧ (p.at p.ld.toNat).up = true
  so : ∃ j, j < p.rs.length ∧ p.isr.getD j false = true
theorem may_iff {p : Prt} : p.mayB = true ↔ May p := by
  unfold Prt.mayB Prt.formB Prt.ledB
  simp only [Bool.and_eq_true, Bool.or_eq_true, beq_iff_eq, oks_iff, some_iff, inR_iff, decide_eq_true_eq]
  constructor
  · rintro ⟨⟨⟨⟨⟨⟨⟨⟨⟨a1, a3⟩, a4⟩, a5⟩, a6⟩, a7⟩, a8⟩, b⟩, c⟩, d⟩
    refine ⟨by omega, by omega, a3, a4, a5, a6, a7, a8, fun j hj => ?_, fun h => ?_, d⟩
    · have := b j hj
      exact ⟨this.1, this.2.1.1, this.2.1.2, this.2.2.1, this.2.2.2⟩
    · rcases c with c | c
      · omega
      · exact c
  · rintro ⟨a1, a2, a3, a4, a5, a6, a7, a8, b, c, d⟩
    refine ⟨⟨⟨⟨⟨⟨⟨⟨⟨⟨by omega, by omega⟩, a3⟩, a4⟩, a5⟩, a6⟩, a7⟩, a8⟩, fun j hj => ?_⟩, ?_⟩, d⟩
    · have := b j hj
      exact ⟨this.1, ⟨this.2.1, this.2.2.1⟩, this.2.2.2⟩
    · by_cases h : p.ld < 0
      · exact .inl h
      · exact .inr (c (by omega))
/-- What part.Check answers. -/
def Prt.cfl (p : Prt) : Int := if p.mayB then 0 else 12
theorem cfl_no {p : Prt} (h : p.mayB = false) : p.cfl = 12 := by unfold Prt.cfl; rw [h]; rfl
theorem cfl_yes {p : Prt} (h : p.mayB = true) : p.cfl = 0 := by unfold Prt.cfl; rw [h]; rfl
theorem may_no {p : Prt} (h : ¬ May p) : p.mayB = false := by
  cases e : p.mayB with
  | false => rfl
  | true => exact absurd (may_iff.1 e) h
theorem sizes_iff {p : Prt} : p.sizesB = true ↔ 1 ≤ p.rs.length ∧ p.rs.length ≤ 5 ∧ p.isr.length = p.rs.length ∧ p.kn.length = p.rs.length := by unfold Prt.sizesB; simp
theorem may_sizes {p : Prt} (h : p.sizesB = false) : p.mayB = false := may_no (fun m => by
  have := sizes_iff.2 ⟨m.n1, m.n5, m.li, m.lk⟩
  rw [h] at this
  cases this)
theorem lead_iff {p : Prt} : p.leadB = true ↔ p.ld = -1 ∨ (0 ≤ p.ld ∧ p.ld ≤ (p.rs.length : Int) - 1) ∧ (p.at p.ld.toNat).up = true ∧ p.isr.getD p.ld.toNat false = true := by
  unfold Prt.leadB
  simp only [Bool.or_eq_true, beq_iff_eq, Bool.and_eq_true, inR_iff, and_assoc]
theorem may_lead {p : Prt} (h : p.leadB = false) : p.mayB = false := may_no (fun m => by
  have : p.leadB = true := lead_iff.2 (by
    have := m.ld
    by_cases e : p.ld = -1
    · exact .inl e
    · exact .inr ⟨by omega, (m.up (by omega)).2, (m.up (by omega)).1⟩)
  rw [h] at this
  cases this)
theorem kn_iff {p : Prt} : p.knB = true ↔ ∀ j, j < p.kn.length → 0 ≤ p.kn.getD j 0 ∧ p.kn.getD j 0 ≤ 400 := by
  unfold Prt.knB
  rw [List.all_eq_true]
  refine ⟨fun h j hj => ?_, fun h x hx => ?_⟩
  · have := inR_iff.1 (h _ (List.getElem_mem hj))
    simpa [List.getD, hj] using this
  · obtain ⟨j, hj, rfl⟩ := List.mem_iff_getElem.1 hx
    have := h j hj
    rw [inR_iff]
    simpa [List.getD, hj] using this
theorem may_num {p : Prt} (h : p.numB = false) : p.mayB = false := may_no (fun m => by
  have : p.numB = true := by
    unfold Prt.numB
    simp only [Bool.and_eq_true, inR_iff]
    exact ⟨⟨⟨kn_iff.2 (fun j hj => by have := m.ok j (by rw [← m.lk]; exact hj); exact ⟨this.2.2.2.1, this.2.2.2.2⟩), m.fw⟩, m.ep⟩, m.bs⟩
  rw [h] at this
  cases this)
def hasB (bs : List Bool) : Bool := bs.contains true
theorem contains_iff {bs : List Bool} : hasB bs = true ↔ ∃ j, j < bs.length ∧ bs.getD j false = true := by
  unfold hasB
  rw [List.contains_iff_mem, List.mem_iff_getElem]
  refine ⟨fun ⟨j, hj, e⟩ => ⟨j, hj, by simp [List.getD, hj, e]⟩, fun ⟨j, hj, e⟩ => ⟨j, hj, by simpa [List.getD, hj] using e⟩⟩
theorem may_some {p : Prt} (h : hasB p.isr = false) : p.mayB = false := may_no (fun m => by
  obtain ⟨j, h1, h2⟩ := m.so
  have : hasB p.isr = true := contains_iff.2 ⟨j, by rw [m.li]; exact h1, h2⟩
  rw [h] at this
  cases this)
theorem may_fit {p : Prt} (k : Nat) (hk : k < p.rs.length) (h : (p.at k).fitB = false) : p.mayB = false := may_no (fun m => by
  have := m.ok k hk
  have : (p.at k).fitB = true := by
    unfold Rep.fitB
    simp only [Bool.and_eq_true, beq_iff_eq, inR_iff]
    exact ⟨this.1, this.2.1, this.2.2.1⟩
  rw [h] at this
  cases this)
theorem may_all {p : Prt} (h1 : p.sizesB = true) (h2 : p.leadB = true) (h3 : p.numB = true) (h4 : hasB p.isr = true) (h5 : ∀ k, k < p.rs.length → (p.at k).fitB = true) : p.mayB = true := by
  obtain ⟨a1, a2, a3, a4⟩ := sizes_iff.1 h1
  unfold Prt.numB at h3
  simp only [Bool.and_eq_true, inR_iff, kn_iff] at h3
  obtain ⟨⟨⟨b1, b2⟩, b3⟩, b4⟩ := h3
  obtain ⟨j, c1, c2⟩ := contains_iff.1 h4
  refine may_iff.2 ⟨a1, a2, a3, a4, b2, b3, ?_, b4, fun j hj => ?_, fun h => ?_, ⟨j, by omega, c2⟩⟩
  · rcases lead_iff.1 h2 with h | h <;> omega
  · have := h5 j hj
    unfold Rep.fitB at this
    simp only [Bool.and_eq_true, beq_iff_eq, inR_iff] at this
    exact ⟨this.1, this.2.1, this.2.2, b1 j (by omega)⟩
  · rcases lead_iff.1 h2 with h | h
    · omega
    · exact ⟨h.2.2, h.2.1⟩
/-- The cells of a replica. -/
theorem RdRs.cells {w : World} {ao : Option Addr} {n cap : Nat} {p : Prt} {us : Nat → Value} (h : RdRs w (.slice ao n cap) p.rs us) (i : Nat) (hi : i < p.rs.length) :
    ∃ g off, ao = some ⟨g, off, none⟩ ∧ n = p.rs.length ∧ Rd w (us i) (p.at i).l ∧ w.cell? ⟨g, off + i * 4, none⟩ = some (.bool (p.at i).up) ∧ w.cell? ⟨g, off + i * 4 + 1, none⟩ = some (us i) ∧ w.cell? ⟨g, off + i * 4 + 2, none⟩ = some (.int .i64 (p.at i).y) ∧ w.cell? ⟨g, off + i * 4 + 3, none⟩ = some (.int .i64 (p.at i).h) := by
  obtain ⟨ao', cap', e, _, _, _, h3⟩ := h
  simp only [Value.slice.injEq] at e
  obtain ⟨rfl, rfl, rfl⟩ := e
  obtain ⟨g, off, rfl, hg⟩ := h3 (by omega)
  rw [at_rep hi]
  exact ⟨g, off, rfl, rfl, hg i hi⟩
end

end Go.Proofs.Ytkolelpdedmkeaa
