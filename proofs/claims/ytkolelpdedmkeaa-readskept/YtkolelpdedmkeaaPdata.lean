/-
  What replicas hold where nobody's texts alone are put: it is read as it stands.
-/
import Derived.Test.YtkolelpdedmkeaaAq
import Derived.Test.YtkolelpdedmkeaaPopD0
namespace Go.Proofs.Ytkolelpdedmkeaa
open Go.RowKit
set_option linter.unusedVariables false
set_option linter.unusedSimpArgs false

def dataE (e : Ent) : Prop := e.b = 0 ∧ e.k = 1 ∧ e.t = false
def DataA (A : Ap) : Prop := ∀ i, ∀ e ∈ A.es i, dataE e
theorem DataA.upd {A B : Ap} (h : DataA A) (r : Nat) (l : List Ent) (he : B.es = upd A.es r l) (hl : ∀ e ∈ l, dataE e) : DataA B := by
  intro i e hm
  rw [he] at hm
  by_cases ei : i = r
  · subst ei; rw [upd_same] at hm; exact hl e hm
  · rw [upd_other _ _ ei] at hm; exact h i e hm
theorem DataA.fetchA {A : Ap} (h : DataA A) (r d : Nat) : DataA (A.fetchA r d) := by
  have h1 : DataA (A.meet r d) := DataA.upd h r _ rfl (fun e he => h r e (List.mem_of_mem_take he))
  exact DataA.upd (A := (A.meet r d).raise) h1 r _ rfl (fun e he => h1 d e (List.mem_of_mem_take he))
def KeptD (p : Prt) (C : List Ent) : Prop := ∃ A : Ap, p = A.prt ∧ Fine A ∧ Inv A C ∧ DataA A
theorem KeptD.kept {p : Prt} {C : List Ent} (h : KeptD p C) : Kept p C := by
  obtain ⟨A, h1, h2, h3, _⟩ := h
  exact ⟨A, h1, h2, h3⟩
theorem KeptD.sync {p : Prt} {C : List Ent} (h : KeptD p C) {r : Nat} (hr : r < p.rs.length) (h0 : (p.syncP r).2 = 0) : ∃ C', Pre C C' ∧ KeptD (p.syncP r).1 C' := by
  obtain ⟨A, rfl, F, I, D⟩ := h
  have hr' : r < A.n := by rw [← (prt_len A).1]; exact hr
  rw [sync_prt F hr'] at h0 ⊢
  by_cases hu : A.up r = false
  · rw [if_pos hu] at h0; simp at h0
  · rw [if_neg hu]
    have FS := F.syncA r
    unfold Ap.syncA at FS ⊢
    by_cases hd : A.ld = some r
    · rw [if_pos hd] at FS ⊢
      obtain ⟨C', hp, hI⟩ := ((I.sync r hr').know (d := r) hd (by simp only [Ap.sync, upd_same])).raise
      exact ⟨C', hp, _, rfl, FS, hI, D⟩
    · rw [if_neg hd] at FS ⊢
      exact ⟨C, Pre.refl C, _, rfl, FS, I.sync r hr', D⟩
theorem KeptD.rise {p : Prt} {C : List Ent} (h : KeptD p C) {r : Nat} (hr : r < p.rs.length) (h0 : (p.riseP r).2 = 0) : ∃ C', Pre C C' ∧ KeptD (p.riseP r).1 C' := by
  obtain ⟨A, rfl, F, I, D⟩ := h
  have hr' : r < A.n := by rw [← (prt_len A).1]; exact hr
  rw [rise_prt F hr'] at h0 ⊢
  by_cases hu : A.up r = true
  · rw [if_pos hu] at h0; simp at h0
  · rw [if_neg hu]
    exact ⟨C, Pre.refl C, _, rfl, F.rise r, I.rise r, D⟩
theorem KeptD.wipe {p : Prt} {C : List Ent} (h : KeptD p C) {r : Nat} (hr : r < p.rs.length) (h0 : (p.wipeP r).2 = 0) : ∃ C', Pre C C' ∧ KeptD (p.wipeP r).1 C' := by
  obtain ⟨A, rfl, F, I, D⟩ := h
  have hr' : r < A.n := by rw [← (prt_len A).1]; exact hr
  rw [wipe_prt F hr'] at h0 ⊢
  by_cases hu : A.up r = true
  · rw [if_pos hu] at h0; simp at h0
  · rw [if_neg hu] at h0 ⊢
    have hu' : A.up r = false := by simpa using hu
    by_cases ho : A.prt.other r A.n = false
    · rw [if_pos ho] at h0; simp at h0
    · rw [if_neg ho]
      have ho' := (prt_other r A.n (Nat.le_refl _)).1 (by simpa using ho)
      exact ⟨C, Pre.refl C, _, rfl, F.wipe r hu' ho', I.wipe r hu', DataA.upd (A := A) (B := A.wipe r) D r [] rfl (by simp)⟩
theorem KeptD.elect {p : Prt} {C : List Ent} (h : KeptD p C) {r : Nat} (hr : r < p.rs.length) (h0 : (p.electP r).2 = 0) : ∃ C', Pre C C' ∧ KeptD (p.electP r).1 C' := by
  obtain ⟨A, rfl, F, I, D⟩ := h
  have hr' : r < A.n := by rw [← (prt_len A).1]; exact hr
  rw [elect_prt F hr'] at h0 ⊢
  by_cases hu : A.up r = false
  · rw [if_pos hu] at h0; simp at h0
  rw [if_neg hu] at h0 ⊢
  by_cases hi : A.isr r = false
  · rw [if_pos hi] at h0; simp at h0
  rw [if_neg hi] at h0 ⊢
  by_cases hd : A.ld = some r
  · rw [if_pos hd] at h0; simp at h0
  rw [if_neg hd] at h0 ⊢
  by_cases he : A.ep = 1073741824
  · rw [if_pos he] at h0; simp at h0
  rw [if_neg he]
  have e := F.epo
  have hu' : A.up r = true := by simpa using hu
  have hi' : A.isr r = true := by simpa using hi
  obtain ⟨C', hp, hI⟩ := (I.lead r hr' hi' hu').raise
  exact ⟨C', hp, _, rfl, (F.lead r hr' hi' hu' (by omega)).raise, hI, D⟩
theorem KeptD.shrink {p : Prt} {C : List Ent} (h : KeptD p C) {r : Nat} (hr : r < p.rs.length) (h0 : (p.shrinkP r).2 = 0) : ∃ C', Pre C C' ∧ KeptD (p.shrinkP r).1 C' := by
  obtain ⟨A, rfl, F, I, D⟩ := h
  have hr' : r < A.n := by rw [← (prt_len A).1]; exact hr
  rw [shrink_prt F hr'] at h0 ⊢
  by_cases h1 : A.ld = none ∨ A.ld = some r
  · rw [if_pos h1] at h0; simp at h0
  rw [if_neg h1] at h0 ⊢
  by_cases hi : A.isr r = false
  · rw [if_pos hi] at h0; simp at h0
  rw [if_neg hi]
  rcases ld_cases A with hd | ⟨d, hd⟩
  · exact absurd (.inl hd) h1
  · have hn : d ≠ r := fun e => h1 (.inr (by rw [← e]; exact hd))
    obtain ⟨C', hp, hI⟩ := (I.shrink r (fun e => h1 (.inr e))).raise
    exact ⟨C', hp, _, rfl, (F.shrink r hd hn).raise, hI, D⟩
theorem KeptD.expand {p : Prt} {C : List Ent} (h : KeptD p C) {r : Nat} (hr : r < p.rs.length) (h0 : (p.expandP r).2 = 0) : ∃ C', Pre C C' ∧ KeptD (p.expandP r).1 C' := by
  obtain ⟨A, rfl, F, I, D⟩ := h
  have hr' : r < A.n := by rw [← (prt_len A).1]; exact hr
  by_cases h1 : A.ld = none ∨ A.ld = some r
  · exfalso
    unfold Prt.expandP at h0
    rw [ofl_prt F hr', if_pos h1, if_pos (by simp)] at h0
    simp at h0
  rcases ld_cases A with hd | ⟨d, hd⟩
  · exact absurd (.inl hd) h1
  have hn : d ≠ r := fun e => h1 (.inr (by rw [← e]; exact hd))
  rw [expand_prt F hr' hd hn] at h0 ⊢
  by_cases h2 : A.isr r = true
  · rw [if_pos h2] at h0; simp at h0
  rw [if_neg h2] at h0 ⊢
  by_cases h3 : A.up r = false
  · rw [if_pos h3] at h0; simp at h0
  rw [if_neg h3] at h0 ⊢
  by_cases h4 : A.kn r < A.bs ∨ A.kn r < A.hi d
  · rw [if_pos h4] at h0; simp at h0
  rw [if_neg h4]
  exact ⟨C, Pre.refl C, _, rfl, F.expand r, I.expand hr' hd (by omega) (by omega), D⟩
theorem KeptD.crash {p : Prt} {C : List Ent} (h : KeptD p C) {r : Nat} (hr : r < p.rs.length) (k : Int) (hk : 0 ≤ k) (h0 : (p.crashP r k).2 = 0) : ∃ C', Pre C C' ∧ KeptD (p.crashP r k).1 C' := by
  obtain ⟨A, rfl, F, I, D⟩ := h
  have hr' : r < A.n := by rw [← (prt_len A).1]; exact hr
  obtain ⟨m, m1, m2, _, e⟩ := crash_prt F hr' k hk
  rw [e] at h0 ⊢
  by_cases hu : A.up r = false
  · rw [if_pos hu] at h0; simp at h0
  · rw [if_neg hu]
    exact ⟨C, Pre.refl C, _, rfl, F.crash r m m2, I.crash r m hr' m1 m2, DataA.upd (A := A) (B := A.crash r m) D r _ rfl (fun e he => D r e (List.mem_of_mem_take he))⟩
theorem KeptD.fetch {p : Prt} {C : List Ent} (h : KeptD p C) {r : Nat} (hr : r < p.rs.length) (h0 : (p.fetchP r).2.2 = 0) : ∃ C', Pre C C' ∧ KeptD (p.fetchP r).1 C' := by
  obtain ⟨A, rfl, F, I, D⟩ := h
  have hr' : r < A.n := by rw [← (prt_len A).1]; exact hr
  by_cases h1 : A.ld = none ∨ A.ld = some r
  · exfalso
    unfold Prt.fetchP at h0
    rw [fine_flt F hr', if_neg (by simp), if_pos] at h0
    · simp at h0
    · rcases h1 with h1 | h1
      · exact .inl ((ld_prt A).1.2 h1)
      · exact .inr (((ld_prt A).2.1 r).2 h1)
  rcases ld_cases A with hd | ⟨d, hd⟩
  · exact absurd (.inl hd) h1
  have hn : d ≠ r := fun e => h1 (.inr (by rw [← e]; exact hd))
  obtain ⟨hh, hcs⟩ := I.hh hr' hd
  rw [fetch_prt F hr' hd hn hh hcs] at h0 ⊢
  by_cases hu : A.up r = false
  · rw [if_pos hu] at h0; simp at h0
  · rw [if_neg hu]
    obtain ⟨C', hp, hI⟩ := I.fetchA hr' hd (Ne.symm hn)
    exact ⟨C', hp, _, rfl, F.fetchA hr' hd hh, hI, DataA.fetchA D r d⟩
theorem KeptD.put {p : Prt} {C : List Ent} (h : KeptD p C) (x : Ent) (hb : x.b = 0) (hx : (p.ent x).flt = 0) (hdx : dataE (p.ent x)) (h0 : (p.putP x).2.2 = 0) : ∃ C', Pre C C' ∧ KeptD (p.putP x).1 C' := by
  obtain ⟨A, rfl, F, I, D⟩ := h
  rw [put_prt F x hb hx] at h0 ⊢
  rcases ld_cases A with hd | ⟨d, hd⟩
  · rw [hd] at h0; simp at h0
  · rw [hd] at h0 ⊢
    simp only at h0 ⊢
    by_cases h1 : A.ups A.n < A.fw
    · rw [if_pos h1] at h0; simp at h0
    rw [if_neg h1] at h0 ⊢
    by_cases h2 : (A.es d).length = 400
    · rw [if_pos h2] at h0; simp at h0
    rw [if_neg h2]
    obtain ⟨q1, q2, q3⟩ := F.led d hd
    have hl := (F.ent d q1).2
    exact ⟨C, Pre.refl C, _, rfl, F.put d _ hx (by omega), I.put hd _ rfl, DataA.upd (A := A) (B := A.put d _) D d _ rfl (fun e he => by rcases List.mem_append.1 he with h | h; exact D d e h; rw [List.mem_singleton] at h; rw [h]; exact hdx)⟩
theorem keptD_new {n few : Nat} (h1 : 1 ≤ n) (h2 : n ≤ 5) (h3 : 1 ≤ few) (h4 : few ≤ n) : (newP n few).2 = 0 ∧ KeptD (newP n few).1 [] := by
  have hin : (inR (n : Int) 1 5 && inR (few : Int) 1 n) = true := by unfold inR; simp; omega
  unfold newP
  rw [if_pos hin, Int.toNat_natCast]
  refine ⟨rfl, ⟨n, 0, none, 0, few, fun _ => true, fun _ => 0, fun _ => true, fun _ => [], fun _ => 0, fun _ => 0⟩, ?_, ?_, inv_new n few, fun i e he => by cases he⟩
  · unfold Ap.prt
    have e1 : ∀ {α : Type} (x : α), List.replicate n x = (List.range n).map (fun _ => x) := fun x => by
      apply List.ext_getElem
      · simp
      · intro i h1 h2; simp
    rw [e1 true, e1 (0 : Int), e1 (⟨true, [], 0, 0⟩ : Rep)]
    rfl
  · exact ⟨⟨h1, h2⟩, ⟨h3, h4⟩, ⟨Int.le_refl _, by show (0 : Int) ≤ _; omega⟩, Nat.zero_le _, fun i hi => Nat.zero_le _, fun i hi => ⟨fun e he => by simp at he, by simp⟩, fun i hi => Nat.le_refl _, fun i hi => Nat.le_refl _, (fun d hd => by cases hd), ⟨0, h1, rfl⟩⟩
theorem stepR_keptD {p : Prt} {C : List Ent} {n : Nat} (hard : Bool) (r : Raw4) (s : Int) (h : KeptD p C) (hn : p.rs.length = n) (h0 : 0 < n) (he : (stepR n hard r p s).2 = 0) : (∃ C', Pre C C' ∧ KeptD (stepR n hard r p s).1 C') ∧ (stepR n hard r p s).1.rs.length = n := by
  obtain ⟨b0, b1⟩ := pick_bd r.a (n : Int) (by omega)
  obtain ⟨i, hi⟩ := Int.eq_ofNat_of_zero_le b0
  obtain ⟨c0, c1⟩ := pick_bd r.b 30 (by omega)
  have hin : i < p.rs.length := by omega
  unfold stepR at he ⊢
  rw [hi] at he ⊢
  by_cases k1 : pick r.k 16 < 5
  · rw [if_pos k1] at he ⊢
    have hm : (p.ent (putE s)).flt = 0 := by
      obtain ⟨A, rfl, F, _⟩ := h
      exact putE_ok _ s F.epo.1 F.epo.2
    exact ⟨h.put _ rfl hm ⟨rfl, rfl, rfl⟩ he, (put_rs he).trans hn⟩
  rw [if_neg k1] at he ⊢
  by_cases k2 : pick r.k 16 < 9
  · rw [if_pos k2] at he ⊢
    exact ⟨h.fetch hin he, (fetch_rs he).trans hn⟩
  rw [if_neg k2] at he ⊢
  by_cases k3 : pick r.k 16 < 12 ∨ hard = false
  · rw [if_pos k3] at he ⊢
    exact ⟨h.sync hin he, (sync_rs he).trans hn⟩
  rw [if_neg k3] at he ⊢
  by_cases k4 : pick r.k 16 = 12
  · rw [if_pos k4] at he ⊢
    exact ⟨h.crash hin _ c0 he, (crash_rs he).trans hn⟩
  rw [if_neg k4] at he ⊢
  by_cases k5 : pick r.k 16 = 13
  · rw [if_pos k5] at he ⊢
    exact ⟨h.rise hin he, (rise_rs he).trans hn⟩
  rw [if_neg k5] at he ⊢
  by_cases k6 : pick r.k 16 = 14
  · rw [if_pos k6] at he ⊢
    exact ⟨h.elect hin he, (elect_rs he).trans hn⟩
  rw [if_neg k6] at he ⊢
  by_cases k7 : pick r.c 3 = 0
  · rw [if_pos k7] at he ⊢
    exact ⟨h.wipe hin he, (wipe_rs he).trans hn⟩
  rw [if_neg k7] at he ⊢
  by_cases k8 : pick r.c 3 = 1
  · rw [if_pos k8] at he ⊢
    exact ⟨h.shrink hin he, (shrink_rs he).trans hn⟩
  rw [if_neg k8] at he ⊢
  exact ⟨h.expand hin he, (expand_rs he).trans hn⟩
theorem step_keptD {p : Prt} {C : List Ent} {n : Nat} (hard : Bool) (r : Raw4) (s : Int) (h : KeptD p C) (hn : p.rs.length = n) (h0 : 0 < n) : (∃ C', Pre C C' ∧ KeptD (stepP n hard r p s) C') ∧ (stepP n hard r p s).rs.length = n := by
  unfold stepP orP
  by_cases he : (stepR n hard r p s).2 = 0
  · rw [if_pos he]
    exact stepR_keptD hard r s h hn h0 he
  · rw [if_neg he]
    exact ⟨⟨C, Pre.refl C, h⟩, hn⟩

theorem foldD {n : Nat} (hard : Bool) (rs : List Raw4) (h0 : 0 < n) : ∀ (a : Pl) (C : List Ent), KeptD a.p C → a.p.rs.length = n → ∃ C', Pre C C' ∧ KeptD (rs.foldl (plS n hard) a).p C' ∧ (rs.foldl (plS n hard) a).p.rs.length = n := by
  induction rs with
  | nil => intro a C h hn; exact ⟨C, Pre.refl C, h, hn⟩
  | cons r rs ih =>
    intro a C h hn
    obtain ⟨⟨C1, hp, hk⟩, hl⟩ := step_keptD hard r a.s h hn h0
    obtain ⟨C2, hp2, hk2, hl2⟩ := ih (plS n hard a r) C1 hk hl
    exact ⟨C2, Pre.trans hp hp2, hk2, hl2⟩
/-- The first plays, and all of them. -/
theorem playD {n few : Nat} (hard : Bool) (rs ss : List Raw4) (h1 : 1 ≤ n) (h2 : n ≤ 5) (h3 : 1 ≤ few) (h4 : few ≤ n) : ∃ C C', Pre C C' ∧ KeptD (plL n few hard rs).p C ∧ KeptD (plL n few hard (rs ++ ss)).p C' := by
  obtain ⟨_, k⟩ := keptD_new h1 h2 h3 h4
  obtain ⟨_, hz, hn, _⟩ := new_elect h1 h2 h3 h4
  obtain ⟨C0, _, k0⟩ := k.elect (r := 0) (by omega) hz
  have l0 : (pl0 (n : Int) few).p.rs.length = n := (elect_rs hz).trans hn
  obtain ⟨C1, p1, k1, l1⟩ := foldD hard rs (by omega) (pl0 n few) C0 k0 l0
  obtain ⟨C2, p2, k2, _⟩ := foldD hard ss (by omega) _ C1 k1 l1
  exact ⟨C1, C2, p2, k1, by unfold plL; rw [List.foldl_append]; exact k2⟩
theorem KeptD.es {p : Prt} {C : List Ent} (h : KeptD p C) {i : Nat} (hi : i < p.rs.length) : ∀ e ∈ (p.at i).es, dataE e := by
  obtain ⟨A, rfl, F, I, D⟩ := h
  have hi' : i < A.n := by rw [← (prt_len A).1]; exact hi
  rw [prt_at A i hi', (rep_es F hi').1]
  exact D i
theorem at_mem {es : List Ent} {i : Nat} (h : i < es.length) : Ent.at es i ∈ es := by
  rw [at_get h]; exact List.getElem_mem h
theorem rdF_data {es : List Ent} (hd : ∀ e ∈ es, dataE e) {h : Nat} (hh : h ≤ es.length) : ∀ (f i m : Nat), h ≤ i + f → (rdF es h h f i m).1 = (((es.take h).drop i).map (·.s)).take m := by
  intro f
  induction f with
  | zero =>
    intro i m hf
    rw [List.drop_eq_nil_of_le (by rw [List.length_take]; omega)]
    simp [rdF]
  | succ f ih =>
    intro i m hf
    simp only [rdF]
    by_cases hs : h ≤ i ∨ m = 0
    · rw [if_pos hs]
      rcases hs with hs | hs
      · rw [List.drop_eq_nil_of_le (by rw [List.length_take]; omega)]
        simp
      · subst hs; simp
    · rw [if_neg hs]
      have hi : i < es.length := by omega
      obtain ⟨_, d2, d3⟩ := hd _ (at_mem hi)
      have hseen : seen es h i = true := by
        unfold seen
        rw [if_neg (by rw [d2]; simp), if_pos d3]
      rw [if_pos hseen]
      have hdr : (es.take h).drop i = (Ent.at es i) :: (es.take h).drop (i + 1) := by
        rw [List.drop_eq_getElem_cons (by rw [List.length_take]; omega)]
        congr 1
        rw [at_get hi, List.getElem_take]
      obtain ⟨m', rfl⟩ : ∃ m', m = m' + 1 := ⟨m - 1, by omega⟩
      rw [hdr, List.map_cons, List.take_succ_cons]
      simp only
      rw [ih (i + 1) (m' + 1 - 1) (by omega)]
      simp
theorem stb_data {es : List Ent} (hd : ∀ e ∈ es, dataE e) {h : Nat} (hh : h ≤ es.length) : stb es h = h := by
  unfold stb
  rw [if_pos]
  rw [scan_none]
  intro j _ hj hb
  have := (hd _ (at_mem (show j < es.length by omega))).1
  have := hb.1
  omega
theorem rdA_data {es : List Ent} (hd : ∀ e ∈ es, dataE e) {h : Nat} (hh : h ≤ es.length) : ∃ at_, rdA es h 0 20 = ((((es.take h).map (·.s)).take 20), at_, 0) := by
  have e1 : (stf es (h : Int)).2 = 0 := by unfold stf; rw [if_neg (by omega)]
  unfold rdA
  rw [e1, if_neg (by simp), if_neg (by omega)]
  refine ⟨((rdF es h h es.length 0 20).2 : Int), ?_⟩
  rw [Int.toNat_natCast, stb_data hd hh]
  have := rdF_data hd hh es.length 0 20 (by omega)
  rw [List.drop_zero] at this
  have e0 : (0 : Int).toNat = 0 := rfl
  have e20 : (20 : Int).toNat = 20 := rfl
  rw [e0, e20]
  exact Prod.ext this rfl
/-- What is read of a part, by what was ever kept. -/
theorem read_data {p : Prt} {C D : List Ent} (h : KeptD p C) (hp : Pre C D) : (p.readP 0 20 = ([], 0, 8)) ∨ ∃ k at_, p.readP 0 20 = ((((D.take k).map (·.s)).take 20), at_, 0) := by
  have hm := h.kept.may
  by_cases hl : p.ld < 0
  · left; exact readP_lead hm hl 0 20
  · right
    obtain ⟨hlt, _⟩ := h.kept.lead (by omega)
    obtain ⟨k, k1, k2, k3⟩ := h.kept.high hlt
    obtain ⟨at_, e⟩ := rdA_data (h.es hlt) k2
    refine ⟨k, at_, ?_⟩
    rw [readP_ok hm (by omega), k1, e]
    have h1 : Pre ((p.at p.ld.toNat).es.take k) D := Pre.trans k3 hp
    have h2 : (p.at p.ld.toNat).es.take k = D.take k := by
      have := h1
      unfold Pre at this
      rw [List.length_take, Nat.min_eq_left k2] at this
      exact this
    rw [h2]
theorem takeD_two {α : Type} (L : List α) (i j : Nat) (h : ¬ (L.take j).length < (L.take i).length) : L.take i = (L.take j).take (L.take i).length := by
  rw [List.take_take]
  simp only [List.length_take] at h ⊢
  by_cases hi : i ≤ L.length
  · rw [show min (min i L.length) j = i by omega]
  · rw [List.take_of_length_le (by omega), List.take_of_length_le (by omega)]
/-- Two readings of one list: each begins the other one. -/
theorem read_two {D : List Ent} (i j : Nat) : (¬ ((((D.take j).map (·.s)).take 20).length < (((D.take i).map (·.s)).take 20).length) → ((D.take i).map (·.s)).take 20 = (((D.take j).map (·.s)).take 20).take (((D.take i).map (·.s)).take 20).length) := by
  have e : ∀ i, ((D.take i).map (·.s)).take 20 = (D.map (·.s)).take (min i 20) := fun i => by
    rw [List.map_take, List.take_take, Nat.min_comm]
  intro h
  rw [e i, e j] at h ⊢
  exact takeD_two _ _ _ h

end Go.Proofs.Ytkolelpdedmkeaa
