/-
  Where no replica falls out all catch up: the plain side, the rounds, the start.
-/
import Derived.Test.YtkolelpdedmkeaaAq
namespace Go.Proofs.Ytkolelpdedmkeaa

section
open Go.RowKit
set_option linter.unusedVariables false
set_option linter.unusedSimpArgs false

/-- The first leads, all keep up, and each has a beginning of the leader's log. -/
structure CalmA (A : Ap) : Prop where
  ld : A.ld = some 0
  all : ∀ i, i < A.n → A.isr i = true ∧ A.up i = true
  pre : ∀ i, i < A.n → Pre (A.es i) (A.es 0)
theorem raise_fields (A : Ap) : A.raise.ld = A.ld ∧ A.raise.n = A.n ∧ A.raise.es = A.es ∧ A.raise.kn = A.kn ∧ A.raise.sf = A.sf ∧ A.raise.isr = A.isr ∧ A.raise.up = A.up := ⟨rfl, rfl, rfl, rfl, rfl, rfl, rfl⟩
theorem CalmA.syncA {A : Ap} (h : CalmA A) (r : Nat) : CalmA (A.syncA r) ∧ (A.syncA r).n = A.n ∧ (A.syncA r).es = A.es := by
  unfold Ap.syncA
  split
  · exact ⟨⟨h.ld, h.all, h.pre⟩, rfl, rfl⟩
  · exact ⟨⟨h.ld, h.all, h.pre⟩, rfl, rfl⟩
theorem CalmA.com {A : Ap} (h : CalmA A) {r : Nat} (hr : r < A.n) : com (A.es r) (A.es 0) = (A.es r).length := by
  have h1 := com_pre (A.es r) (A.es r) (A.es 0) (Pre.refl _) (h.pre r hr)
  have h2 := (com_le (A.es r) (A.es 0)).1
  omega
theorem CalmA.fetch_es {A : Ap} (h : CalmA A) {r : Nat} (hr : r < A.n) (h0 : r ≠ 0) : (A.fetchA r 0).es = upd A.es r ((A.es 0).take ((A.es r).length + A.came r 0)) := by
  unfold Ap.fetchA Ap.copy
  rw [h.com hr]
  show upd (A.meet r 0).raise.es r (((A.meet r 0).raise.es 0).take _) = _
  funext i
  by_cases e : i = r
  · subst e
    rw [upd_same, upd_same]
    show ((A.meet i 0).es 0).take _ = _
    simp only [Ap.meet, upd_other _ _ (Ne.symm h0)]
  · rw [upd_other _ _ e, upd_other _ _ e]
    show (A.meet r 0).es i = _
    simp only [Ap.meet, upd_other _ _ e]
theorem CalmA.fetchA {A : Ap} (h : CalmA A) {r : Nat} (hr : r < A.n) (h0 : r ≠ 0) : CalmA (A.fetchA r 0) ∧ (A.fetchA r 0).n = A.n ∧ (A.fetchA r 0).es 0 = A.es 0 := by
  have e := h.fetch_es hr h0
  have e0 : (A.fetchA r 0).es 0 = A.es 0 := by rw [e, upd_other _ _ (Ne.symm h0)]
  refine ⟨⟨h.ld, h.all, fun i hi => ?_⟩, rfl, e0⟩
  rw [e0, e]
  by_cases ei : i = r
  · subst ei
    rw [upd_same]
    exact (Pre.refl _).take _
  · rw [upd_other _ _ ei]
    exact h.pre i hi
theorem CalmA.put {A : Ap} (h : CalmA A) (x : Ent) : CalmA (A.put 0 x) := by
  refine ⟨h.ld, h.all, fun i hi => ?_⟩
  show Pre (upd A.es 0 (A.es 0 ++ [x]) i) (upd A.es 0 (A.es 0 ++ [x]) 0)
  rw [upd_same]
  by_cases ei : i = 0
  · subst ei; rw [upd_same]; exact Pre.refl _
  · rw [upd_other _ _ ei]
    exact (h.pre i hi).app _
/-- A part that is calm; its leader has at most m entries. -/
def KeptM (p : Prt) (n m : Nat) : Prop := ∃ A C, p = A.prt ∧ Fine A ∧ Inv A C ∧ CalmA A ∧ A.n = n ∧ (A.es 0).length ≤ m
theorem KeptM.kept {p : Prt} {n m : Nat} (h : KeptM p n m) : ∃ C, Kept p C := by
  obtain ⟨A, C, h1, h2, h3, _⟩ := h
  exact ⟨C, A, h1, h2, h3⟩
theorem KeptM.le {p : Prt} {n m k : Nat} (h : KeptM p n m) (hk : m ≤ k) : KeptM p n k := by
  obtain ⟨A, C, h1, h2, h3, h4, h5, h6⟩ := h
  exact ⟨A, C, h1, h2, h3, h4, h5, by omega⟩
theorem KeptM.len {p : Prt} {n m : Nat} (h : KeptM p n m) : p.rs.length = n := by
  obtain ⟨A, C, rfl, _, _, _, h5, _⟩ := h
  rw [(prt_len A).1, h5]
theorem KeptM.sync {p : Prt} {n m : Nat} (h : KeptM p n m) {r : Nat} (hr : r < n) : (p.syncP r).2 = 0 ∧ KeptM (p.syncP r).1 n m := by
  obtain ⟨A, C, rfl, F, I, K, rfl, hm⟩ := h
  rw [sync_prt F hr, if_neg (by rw [(K.all r hr).2]; simp)]
  have FS := F.syncA r
  obtain ⟨KS, e1, e2⟩ := K.syncA r
  refine ⟨rfl, ?_⟩
  have hI : ∃ C', Inv (A.syncA r) C' := by
    unfold Ap.syncA
    by_cases hd : A.ld = some r
    · rw [if_pos hd]
      obtain ⟨C', hp, hI⟩ := ((I.sync r hr).know (d := r) hd (by simp only [Ap.sync, upd_same])).raise
      exact ⟨C', hI⟩
    · rw [if_neg hd]
      exact ⟨C, I.sync r hr⟩
  obtain ⟨C', hI⟩ := hI
  exact ⟨A.syncA r, C', rfl, FS, hI, KS, e1, by rw [e2]; exact hm⟩
theorem KeptM.fetch0 {p : Prt} {n m : Nat} (h : KeptM p n m) (hn : 0 < n) : (p.fetchP ((0 : Nat) : Int)).2.2 ≠ 0 := by
  obtain ⟨A, C, rfl, F, I, K, rfl, hm⟩ := h
  unfold Prt.fetchP
  rw [fine_flt F hn, if_neg (by simp), if_pos (.inr (((ld_prt A).2.1 0).2 K.ld))]
  simp
theorem KeptM.fetch {p : Prt} {n m : Nat} (h : KeptM p n m) {r : Nat} (hr : r < n) (h0 : r ≠ 0) : (p.fetchP r).2.2 = 0 ∧ KeptM (p.fetchP r).1 n m := by
  obtain ⟨A, C, rfl, F, I, K, rfl, hm⟩ := h
  obtain ⟨hh, hcs⟩ := I.hh hr K.ld
  rw [fetch_prt F hr K.ld (Ne.symm h0) hh hcs, if_neg (by rw [(K.all r hr).2]; simp)]
  obtain ⟨C', hp, hI⟩ := I.fetchA hr K.ld h0
  obtain ⟨KF, e1, e2⟩ := K.fetchA hr h0
  exact ⟨rfl, A.fetchA r 0, C', rfl, F.fetchA hr K.ld hh, hI, KF, e1, by rw [e2]; exact hm⟩
theorem KeptM.put {p : Prt} {n m : Nat} (h : KeptM p n m) (x : Ent) (hb : x.b = 0) (hx : (p.ent x).flt = 0) (h0 : (p.putP x).2.2 = 0) : KeptM (p.putP x).1 n (m + 1) := by
  obtain ⟨A, C, rfl, F, I, K, rfl, hm⟩ := h
  rw [put_prt F x hb hx] at h0 ⊢
  have hd := K.ld
  rw [hd] at h0 ⊢
  simp only at h0 ⊢
  by_cases h1 : A.ups A.n < A.fw
  · rw [if_pos h1] at h0; simp at h0
  rw [if_neg h1] at h0 ⊢
  by_cases h2 : (A.es 0).length = 400
  · rw [if_pos h2] at h0; simp at h0
  rw [if_neg h2]
  obtain ⟨q1, q2, q3⟩ := F.led 0 hd
  have hl := (F.ent 0 q1).2
  exact ⟨A.put 0 (A.prt.ent x), C, rfl, F.put 0 _ hx (by omega), I.put hd _ rfl, K.put _, rfl, by simp only [Ap.put, upd_same, List.length_append, List.length_singleton]; omega⟩
theorem KeptM.step {p : Prt} {n m : Nat} (h : KeptM p n m) (hn : 0 < n) (r : Raw4) (s : Int) : KeptM (stepP n false r p s) n (m + 1) := by
  obtain ⟨b0, b1⟩ := pick_bd r.a (n : Int) (by omega)
  obtain ⟨i, hi⟩ := Int.eq_ofNat_of_zero_le b0
  have hin : i < n := by omega
  have hep : 0 ≤ p.ep ∧ p.ep ≤ 1073741824 := by
    obtain ⟨A, C, rfl, F, _⟩ := h
    exact F.epo
  unfold stepP orP stepR
  rw [hi]
  by_cases h1 : pick r.k 16 < 5
  · simp only [if_pos h1]
    split
    · exact h.put _ rfl (putE_ok p s hep.1 hep.2) (by assumption)
    · exact h.le (by omega)
  simp only [if_neg h1]
  by_cases h2 : pick r.k 16 < 9
  · simp only [if_pos h2]
    split
    · by_cases h0 : i = 0
      · subst h0
        exact absurd (by assumption) (h.fetch0 hn)
      · exact (h.fetch hin h0).2.le (by omega)
    · exact h.le (by omega)
  simp only [if_neg h2]
  have h3 : pick r.k 16 < 12 ∨ True := .inr trivial
  simp only [if_pos h3]
  rw [if_pos (h.sync hin).1]
  exact (h.sync hin).2.le (by omega)
theorem foldM {n : Nat} (hn : 0 < n) (rs : List Raw4) : ∀ (a : Pl) (m : Nat), KeptM a.p n m → KeptM (rs.foldl (plS n false) a).p n (m + rs.length) := by
  induction rs with
  | nil => intro a m h; exact h
  | cons r rs ih =>
    intro a m h
    have := ih (plS n false a r) (m + 1) (h.step hn r a.s)
    rw [List.length_cons, show m + (rs.length + 1) = m + 1 + rs.length by omega]
    exact this
end

section
open Go.RowKit
set_option linter.unusedVariables false
set_option linter.unusedSimpArgs false

/-- One replica's visit: Sync, then Fetch, each if it is granted. -/
def calR (p : Prt) (r : Nat) : Prt := orP (orP p (p.syncP r).1 (p.syncP r).2) ((orP p (p.syncP r).1 (p.syncP r).2).fetchP r).1 ((orP p (p.syncP r).1 (p.syncP r).2).fetchP r).2.2
def calK (p : Prt) : Nat → Prt
  | 0 => p
  | k + 1 => calR (calK p k) k
def calT (p : Prt) (n : Nat) : Nat → Prt
  | 0 => p
  | t + 1 => calK (calT p n t) n
theorem low_full (A : Ap) (L : Nat) : ∀ j, (∀ i, i < j → L ≤ A.kn i) → A.low L j = L := by
  intro j
  induction j with
  | zero => intro _; rfl
  | succ j ih =>
    intro h
    simp only [Ap.low]
    rw [ih (fun i hi => h i (by omega)), if_neg (fun hc => by have := h j (by omega); omega)]
/-- How far a replica has come after t rounds. -/
def LvA (A : Ap) (i t : Nat) : Prop :=
  if i = 0 then (1 ≤ t → A.kn 0 = (A.es 0).length ∧ A.sf 0 = (A.es 0).length) ∧ ((A.es 0).length + 2 ≤ t → A.hi 0 = (A.es 0).length)
  else (t ≤ (A.es i).length ∨ (A.es i).length = (A.es 0).length) ∧ (t ≤ A.kn i + 1 ∨ A.kn i = (A.es 0).length) ∧ ((A.es 0).length + 2 ≤ t → A.hi i = (A.es 0).length)
theorem hi_le {A : Ap} (F : Fine A) (K : CalmA A) {i : Nat} (hi : i < A.n) : A.hi i ≤ (A.es 0).length := by
  have h1 := F.hig i hi
  have h2 := (K.pre i hi).len
  omega
/-- The leader's visit. -/
theorem lv_zero {A : Ap} {C : List Ent} (F : Fine A) (I : Inv A C) (K : CalmA A) {t : Nat} (hn : 0 < A.n) (h : ∀ i, i < A.n → LvA A i t) : LvA (A.syncA 0) 0 (t + 1) ∧ ∀ i, 0 < i → i < A.n → LvA (A.syncA 0) i t := by
  have e : A.syncA 0 = ((A.sync 0).know 0).raise := by unfold Ap.syncA; rw [if_pos K.ld]
  obtain ⟨B, hB⟩ : ∃ B, (A.sync 0).know 0 = B := ⟨_, rfl⟩
  have b1 : B.ld = some 0 := by rw [← hB]; exact K.ld
  have b2 : B.es = A.es := by rw [← hB]; rfl
  have b3 : B.kn 0 = (A.es 0).length := by rw [← hB]; simp only [Ap.know, Ap.sync, upd_same]
  have b4 : ∀ i, i ≠ 0 → B.kn i = A.kn i := fun i hi => by rw [← hB]; simp only [Ap.know, Ap.sync, upd_other _ _ hi]
  have b5 : B.sf 0 = (A.es 0).length := by rw [← hB]; simp only [Ap.know, Ap.sync, upd_same]
  have b6 : B.hi = A.hi := by rw [← hB]; rfl
  have b7 : B.n = A.n := by rw [← hB]; rfl
  rw [e, hB]
  have hes : B.raise.es = A.es := b2
  have hkn : B.raise.kn = B.kn := rfl
  have hhi : ∀ i, i ≠ 0 → B.raise.hi i = A.hi i := fun i hi => by
    show B.hiR i = _
    unfold Ap.hiR
    rw [b1]
    simp only
    split
    · rw [upd_other _ _ hi, b6]
    · rw [b6]
  refine ⟨?_, fun i h0 hi => ?_⟩
  · unfold LvA
    rw [if_pos rfl, hes]
    refine ⟨fun _ => ⟨b3, b5⟩, fun hL => ?_⟩
    have hlow : B.low (B.es 0).length B.n = (A.es 0).length := by
      rw [b2]
      refine low_full B _ _ (fun i hi => ?_)
      by_cases e0 : i = 0
      · subst e0; omega
      · rw [b4 i e0]
        have := h i (by omega)
        unfold LvA at this
        rw [if_neg e0] at this
        omega
    show B.hiR 0 = _
    unfold Ap.hiR
    rw [b1]
    simp only
    have hle := hi_le F K hn
    rw [hlow, b6]
    split
    · rw [upd_same]
    · omega
  · have := h i hi
    unfold LvA at this ⊢
    rw [if_neg (by omega)] at this ⊢
    rw [hes, hkn, b4 i (by omega), hhi i (by omega)]
    exact this
/-- Another one's visit. -/
theorem lv_other {A : Ap} {C : List Ent} (F : Fine A) (I : Inv A C) (K : CalmA A) {t r : Nat} (h0 : 0 < r) (hr : r < A.n) (h : ∀ i, i < r → LvA A i (t + 1)) (h2 : ∀ i, r ≤ i → i < A.n → LvA A i t) :
    (∀ i, i < r + 1 → LvA ((A.syncA r).fetchA r 0) i (t + 1)) ∧ ∀ i, r + 1 ≤ i → i < A.n → LvA ((A.syncA r).fetchA r 0) i t := by
  have e : A.syncA r = A.sync r := by unfold Ap.syncA; rw [if_neg (by rw [K.ld]; simp; omega)]
  have KS : CalmA (A.sync r) := ⟨K.ld, K.all, K.pre⟩
  rw [e]
  obtain ⟨S, hS⟩ : ∃ S, A.sync r = S := ⟨_, rfl⟩
  have s1 : S.es = A.es := by rw [← hS]; rfl
  have s2 : S.kn = A.kn := by rw [← hS]; rfl
  have s3 : S.hi = A.hi := by rw [← hS]; rfl
  have s4 : S.sf r = (A.es r).length := by rw [← hS]; simp only [Ap.sync, upd_same]
  have s5 : S.sf 0 = A.sf 0 := by rw [← hS]; simp only [Ap.sync, upd_other _ _ (show (0 : Nat) ≠ r by omega)]
  have s6 : S.n = A.n := by rw [← hS]; rfl
  have s7 : S.ld = some 0 := by rw [← hS]; exact K.ld
  rw [hS] at KS ⊢
  have hcom : com (S.es r) (S.es 0) = (A.es r).length := by rw [KS.com (by omega), s1]
  have hfe := KS.fetch_es (r := r) (by omega) (by omega)
  have hcame : S.came r 0 = if (A.es r).length < (A.es 0).length then 1 else 0 := by unfold Ap.came; rw [hcom, s1]
  have hpl := (K.pre r hr).len
  have f0 : (S.fetchA r 0).es 0 = A.es 0 := by rw [hfe, upd_other _ _ (by omega), s1]
  have fr : ((S.fetchA r 0).es r).length = (A.es r).length + S.came r 0 := by
    rw [hfe, upd_same, List.length_take, s1, hcame]
    split <;> omega
  have fo : ∀ i, i ≠ r → (S.fetchA r 0).es i = A.es i := fun i hi => by rw [hfe, upd_other _ _ hi, s1]
  obtain ⟨M, hM⟩ : ∃ M, S.meet r 0 = M := ⟨_, rfl⟩
  have m1 : M.kn r = (A.es r).length := by rw [← hM]; simp only [Ap.meet, upd_same]; rw [hcom, s4, Nat.min_self]
  have m2 : ∀ i, i ≠ r → M.kn i = A.kn i := fun i hi => by rw [← hM]; simp only [Ap.meet, upd_other _ _ hi]; rw [s2]
  have m3 : M.hi = A.hi := by rw [← hM]; exact s3
  have m4 : M.es 0 = A.es 0 := by rw [← hM]; simp only [Ap.meet, upd_other _ _ (show (0 : Nat) ≠ r by omega)]; rw [s1]
  have m5 : M.sf 0 = A.sf 0 := by rw [← hM]; simp only [Ap.meet, upd_other _ _ (show (0 : Nat) ≠ r by omega)]; exact s5
  have m6 : M.ld = some 0 := by rw [← hM]; exact s7
  have hf : S.fetchA r 0 = M.raise.copy r 0 (com (S.es r) (S.es 0) + S.came r 0) (min (max (S.hi r) (M.raise.hi 0)) (com (S.es r) (S.es 0) + S.came r 0)) := by rw [← hM]; rfl
  have fkn : (S.fetchA r 0).kn = M.kn := by rw [hf]; rfl
  have fsf : (S.fetchA r 0).sf 0 = A.sf 0 := by rw [hf]; exact m5
  have fhr : (S.fetchA r 0).hi r = min (max (A.hi r) (M.raise.hi 0)) ((A.es r).length + S.came r 0) := by rw [hf]; simp only [Ap.copy, upd_same]; rw [hcom, s3]
  have fho : ∀ i, i ≠ r → (S.fetchA r 0).hi i = M.raise.hi i := fun i hi => by rw [hf]; simp only [Ap.copy, upd_other _ _ hi]
  have rho : ∀ i, i ≠ 0 → M.raise.hi i = A.hi i := fun i hi => by
    show M.hiR i = _
    unfold Ap.hiR
    rw [m6]
    simp only
    split
    · rw [upd_other _ _ hi, m3]
    · rw [m3]
  have rh0 : A.hi 0 = (A.es 0).length → M.raise.hi 0 = (A.es 0).length := fun e0 => by
    show M.hiR 0 = _
    unfold Ap.hiR
    rw [m6]
    simp only
    have := (low_le M (M.es 0).length M.n).1
    rw [m4] at this
    rw [if_neg (by rw [m4, m3]; omega), m3, e0]
  have keep : ∀ i k, i ≠ r → LvA A i k → LvA (S.fetchA r 0) i k := fun i k hi hk => by
    unfold LvA at hk ⊢
    by_cases ei : i = 0
    · subst ei
      rw [if_pos rfl] at hk ⊢
      rw [f0, fkn, m2 0 hi, fsf, fho 0 hi]
      exact ⟨hk.1, fun hL => rh0 (hk.2 hL)⟩
    · rw [if_neg ei] at hk ⊢
      rw [f0, fo i hi, fkn, m2 i hi, fho i hi, rho i ei]
      exact hk
  refine ⟨fun i hi => ?_, fun i hi hin => keep i t (by omega) (h2 i (by omega) hin)⟩
  by_cases ei : i = r
  · subst ei
    have hk := h2 i (Nat.le_refl _) hr
    have hz := h 0 h0
    unfold LvA at hk hz ⊢
    rw [if_neg (by omega)] at hk ⊢
    rw [if_pos rfl] at hz
    rw [f0, fr, fkn, m1, fhr, hcame]
    refine ⟨by split <;> omega, by omega, fun hL => ?_⟩
    have h5 := rh0 (hz.2 hL)
    have h6 := hi_le F K hr
    rw [h5]
    split <;> omega
  · exact keep i (t + 1) ei (h i (by omega))
/-- A calm part, some visits into round t + 1. -/
def CalS (p : Prt) (n L t j : Nat) : Prop := ∃ A C, p = A.prt ∧ Fine A ∧ Inv A C ∧ CalmA A ∧ A.n = n ∧ (A.es 0).length = L ∧ (∀ i, i < j → LvA A i (t + 1)) ∧ ∀ i, j ≤ i → i < n → LvA A i t
theorem CalS.visit {p : Prt} {n L t j : Nat} (h : CalS p n L t j) (hj : j < n) : CalS (calR p j) n L t (j + 1) := by
  obtain ⟨A, C, rfl, F, I, K, rfl, hL, h1, h2⟩ := h
  have hM : KeptM A.prt A.n (A.es 0).length := ⟨A, C, rfl, F, I, K, rfl, Nat.le_refl _⟩
  have es : (orP A.prt (A.prt.syncP j).1 (A.prt.syncP j).2) = (A.syncA j).prt := by
    unfold orP
    rw [if_pos (hM.sync hj).1, sync_prt F hj, if_neg (by rw [(K.all j hj).2]; simp)]
  have FS := F.syncA j
  obtain ⟨KS, e1, e2⟩ := K.syncA j
  have hI : ∃ C', Inv (A.syncA j) C' := by
    unfold Ap.syncA
    by_cases hd : A.ld = some j
    · rw [if_pos hd]
      obtain ⟨C', hp, hI⟩ := ((I.sync j hj).know (d := j) hd (by simp only [Ap.sync, upd_same])).raise
      exact ⟨C', hI⟩
    · rw [if_neg hd]
      exact ⟨C, I.sync j hj⟩
  obtain ⟨C', IS⟩ := hI
  unfold calR
  rw [es]
  by_cases h0 : j = 0
  · subst h0
    have hS : KeptM (A.syncA 0).prt A.n (A.es 0).length := ⟨A.syncA 0, C', rfl, FS, IS, KS, e1, by rw [e2]; exact Nat.le_refl _⟩
    unfold orP
    rw [if_neg (hS.fetch0 hj)]
    obtain ⟨l1, l2⟩ := lv_zero F I K hj (fun i hi => h2 i (by omega) hi)
    refine ⟨A.syncA 0, C', rfl, FS, IS, KS, e1, (by rw [e2]; exact hL), (fun i hi => ?_), fun i hi hin => l2 i (by omega) hin⟩
    have ei : i = 0 := by omega
    rw [ei]
    exact l1
  · have hjS : j < (A.syncA j).n := by omega
    obtain ⟨hh, hcs⟩ := IS.hh hjS KS.ld
    obtain ⟨C2, hp, IF⟩ := IS.fetchA hjS KS.ld h0
    obtain ⟨KF, f1, f2⟩ := KS.fetchA hjS h0
    rw [fetch_prt FS hjS KS.ld (Ne.symm h0) hh hcs, if_neg (by rw [(KS.all j hjS).2]; simp)]
    unfold orP
    rw [if_pos rfl]
    obtain ⟨l1, l2⟩ := lv_other F I K (t := t) (show 0 < j by omega) hj h1 h2
    exact ⟨(A.syncA j).fetchA j 0, C2, rfl, FS.fetchA hjS KS.ld hh, IF, KF, by omega, by rw [f2, e2]; exact hL, l1, l2⟩
theorem CalS.round {p : Prt} {n L t : Nat} (h : CalS p n L t 0) : ∀ j, j ≤ n → CalS (calK p j) n L t j := by
  intro j
  induction j with
  | zero => intro _; exact h
  | succ j ih => intro hj; exact (ih (by omega)).visit (by omega)
theorem CalS.next {p : Prt} {n L t : Nat} (h : CalS p n L t n) : CalS p n L (t + 1) 0 := by
  obtain ⟨A, C, rfl, F, I, K, rfl, hL, h1, h2⟩ := h
  exact ⟨A, C, rfl, F, I, K, rfl, hL, fun i hi => by omega, fun i _ hi => h1 i hi⟩
theorem CalS.rounds {p : Prt} {n L : Nat} (h : CalS p n L 0 0) : ∀ t, CalS (calT p n t) n L t 0 := by
  intro t
  induction t with
  | zero => exact h
  | succ t ih => exact (ih.round n (Nat.le_refl _)).next
theorem KeptM.start {p : Prt} {n m : Nat} (h : KeptM p n m) : ∃ L, L ≤ m ∧ CalS p n L 0 0 := by
  obtain ⟨A, C, rfl, F, I, K, rfl, hm⟩ := h
  refine ⟨_, hm, A, C, rfl, F, I, K, rfl, rfl, fun i hi => by omega, fun i _ hi => ?_⟩
  unfold LvA
  split
  · exact ⟨fun h => by omega, fun h => by omega⟩
  · exact ⟨.inl (by omega), .inl (by omega), fun h => by omega⟩
/-- When all is calm. -/
theorem calm_end {p : Prt} {n L t : Nat} (hn : 0 < n) (h : CalS p n L t 0) (ht : L + 2 ≤ t) : p.ld = 0 ∧ p.rs.length = n ∧ (p.at 0).es.length = L ∧ (p.at 0).safe = L ∧ lft (p.at 0).l (p.at 0).y = 0 ∧ ∀ i, i < n → (p.at i).l = (p.at 0).l ∧ (p.at i).h = L := by
  obtain ⟨A, C, rfl, F, I, K, rfl, hL, _, h2⟩ := h
  have hz := h2 0 (by omega) hn
  unfold LvA at hz
  rw [if_pos rfl] at hz
  obtain ⟨r1, r2, r3⟩ := rep_es F hn
  refine ⟨((ld_prt A).2.1 0).2 K.ld, (prt_len A).1, ?_, ?_, ?_, fun i hi => ?_⟩
  · rw [prt_at A 0 hn, r1, hL]
  · rw [prt_at A 0 hn, r2, (hz.1 (by omega)).2, hL]
  · rw [prt_at A 0 hn]; exact r3
  · rw [prt_at A 0 hn, prt_at A i hi]
    have hp := K.pre i hi
    have hl := h2 i (by omega) hi
    unfold LvA at hl
    by_cases e0 : i = 0
    · subst e0
      refine ⟨rfl, ?_⟩
      show ((A.hi 0 : Nat) : Int) = L
      rw [hz.2 (by omega), hL]
    · rw [if_neg e0] at hl
      have hpl := hp.len
      have hle : (A.es i).length = (A.es 0).length := by omega
      have he : A.es i = A.es 0 := by
        have := hp
        unfold Pre at this
        rw [hle, List.take_length] at this
        exact this
      refine ⟨?_, ?_⟩
      · show flat (A.es i) = flat (A.es 0)
        rw [he]
      · show ((A.hi i : Nat) : Int) = L
        rw [hl.2.2 (by omega), hL]
end

section
open Go.RowKit
set_option linter.unusedVariables false
set_option linter.unusedSimpArgs false

theorem pl0_calm {n few : Nat} (h1 : 1 ≤ n) (h2 : n ≤ 5) (h3 : 1 ≤ few) (h4 : few ≤ n) : KeptM (pl0 n few).p n 0 := by
  have hin : (inR (n : Int) 1 5 && inR (few : Int) 1 n) = true := by unfold inR; simp; omega
  obtain ⟨A, hA⟩ : ∃ A : Ap, A = ⟨n, 0, none, 0, few, fun _ => true, fun _ => 0, fun _ => true, fun _ => [], fun _ => 0, fun _ => 0⟩ := ⟨_, rfl⟩
  have e0 : (newP n few).1 = A.prt := by
    subst hA
    unfold newP
    rw [if_pos hin, Int.toNat_natCast]
    unfold Ap.prt
    have e1 : ∀ {α : Type} (x : α), List.replicate n x = (List.range n).map (fun _ => x) := fun x => by
      apply List.ext_getElem
      · simp
      · intro i h1 h2; simp
    rw [e1 true, e1 (0 : Int), e1 (⟨true, [], 0, 0⟩ : Rep)]
    rfl
  have F : Fine A := by
    subst hA
    exact ⟨⟨h1, h2⟩, ⟨h3, h4⟩, ⟨Int.le_refl _, by show (0 : Int) ≤ _; omega⟩, Nat.zero_le _, fun i hi => Nat.zero_le _, fun i hi => ⟨fun e he => by simp at he, by simp⟩, fun i hi => Nat.le_refl _, fun i hi => Nat.le_refl _, (fun d hd => by cases hd), ⟨0, h1, rfl⟩⟩
  have I : Inv A [] := by subst hA; exact inv_new n few
  have hr : 0 < A.n := by subst hA; exact h1
  have hi : A.isr 0 = true := by subst hA; rfl
  have hu : A.up 0 = true := by subst hA; rfl
  have hd : A.ld = none := by subst hA; rfl
  have hep : A.ep = 0 := by subst hA; rfl
  have ee : (pl0 n few).p = (A.lead 0).raise.prt := by
    show ((newP n few).1.electP ((0 : Nat) : Int)).1 = _
    rw [e0, elect_prt F hr, hu, hi, hd, hep]
    simp
  obtain ⟨C', hp, hI⟩ := (I.lead 0 hr hi hu).raise
  refine ⟨(A.lead 0).raise, C', ee, (F.lead 0 hr hi hu (by omega)).raise, hI, ⟨rfl, fun i hi => ?_, fun i hi => ?_⟩, ?_, ?_⟩
  · subst hA; exact ⟨rfl, rfl⟩
  · subst hA; exact Pre.refl _
  · subst hA; rfl
  · subst hA; exact Nat.le_refl _
/-- All that the walk asks. -/
theorem calm_play {n : Nat} (h1 : 1 ≤ n) (h2 : n ≤ 5) (rs : List Raw4) : ∃ L, L ≤ rs.length ∧ ∀ t, CalS (calT (plL n 1 false rs).p n t) n L t 0 := by
  have h := foldM (n := n) (by omega) rs (pl0 n (1 : Nat)) 0 (pl0_calm h1 h2 (by omega) (by omega))
  obtain ⟨L, hL, hs⟩ := h.start
  exact ⟨L, by omega, hs.rounds⟩
theorem CalS.keptM {p : Prt} {n L t j : Nat} (h : CalS p n L t j) : KeptM p n L := by
  obtain ⟨A, C, h1, h2, h3, h4, h5, h6, _⟩ := h
  exact ⟨A, C, h1, h2, h3, h4, h5, by omega⟩
theorem KeptM.may {p : Prt} {n m : Nat} (h : KeptM p n m) : May p := by
  obtain ⟨C, k⟩ := h.kept
  exact may_iff.1 k.may
/-- A visit's two answers. -/
theorem KeptM.visit {p : Prt} {n m : Nat} (h : KeptM p n m) {r : Nat} (hr : r < n) : ∃ q, p.syncP r = (q, 0) ∧ KeptM q n m ∧ (r = 0 ∧ (q.fetchP ((r : Nat) : Int)).2.2 ≠ 0 ∧ calR p r = q ∨ r ≠ 0 ∧ ∃ z y, q.fetchP r = (z, y, 0) ∧ calR p r = z ∧ KeptM z n m) := by
  obtain ⟨s1, s2⟩ := h.sync hr
  obtain ⟨⟨q, e⟩, hq⟩ : ∃ x, p.syncP r = x := ⟨_, rfl⟩
  rw [hq] at s1 s2
  have s1 : e = 0 := s1
  subst s1
  have s2 : KeptM q n m := s2
  refine ⟨q, hq, s2, ?_⟩
  unfold calR orP
  rw [hq]
  simp only [if_pos]
  by_cases h0 : r = 0
  · subst h0
    have := s2.fetch0 hr
    exact .inl ⟨rfl, this, if_neg this⟩
  · obtain ⟨f1, f2⟩ := s2.fetch hr h0
    obtain ⟨⟨z, y, e⟩, hz⟩ : ∃ x, q.fetchP r = x := ⟨_, rfl⟩
    rw [hz] at f1 f2 ⊢
    have f1 : e = 0 := f1
    subst f1
    exact .inr ⟨h0, z, y, rfl, if_pos rfl, f2⟩
end

end Go.Proofs.Ytkolelpdedmkeaa
