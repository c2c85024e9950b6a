/-
  Parts that may be, with what was ever kept by all: whatever replicas do leads to such a part, and of what was kept nothing is lost.
-/
import Derived.Test.YtkolelpdedmkeaaQops3
namespace Go.Proofs.Ytkolelpdedmkeaa
open Go.RowKit
set_option linter.unusedVariables false
set_option linter.unusedSimpArgs false

theorem Inv.hh {A : Ap} {C : List Ent} (h : Inv A C) {r d : Nat} (hr : r < A.n) (hd : A.ld = some d) : A.hi r ≤ com (A.es r) (A.es d) ∧ (A.es r).take (com (A.es r) (A.es d)) = (A.es d).take (com (A.es r) (A.es d)) := by
  obtain ⟨q1, q2, q3⟩ := h.led d hd
  obtain ⟨t1, t2⟩ := h.thr r hr
  obtain ⟨o1, o2⟩ := h.one d q1 q2
  have := com_pre (C.take (A.hi r)) _ _ t2 (o2.take (A.hi r))
  rw [List.length_take, Nat.min_eq_left t1] at this
  exact ⟨this, com_same _ _ (fun k e f he hf => h.fou r d hr q1 k e f he hf)⟩
theorem Inv.fetchA {A : Ap} {C : List Ent} (h : Inv A C) {r d : Nat} (hr : r < A.n) (hd : A.ld = some d) (hne : r ≠ d) : ∃ C', Pre C C' ∧ Inv (A.fetchA r d) C' := by
  obtain ⟨h1, h2⟩ := h.hh hr hd
  obtain ⟨c1, c2⟩ := com_le (A.es r) (A.es d)
  obtain ⟨C', hp, hI⟩ := (h.meet hr hd hne).raise
  refine ⟨C', hp, ?_⟩
  have hes : (A.meet r d).raise.es r = (A.es r).take (com (A.es r) (A.es d)) := by simp only [Ap.meet, Ap.raise, upd_same]
  have hed : (A.meet r d).raise.es d = A.es d := by simp only [Ap.meet, Ap.raise, upd_other _ _ (Ne.symm hne)]
  have hc : com (A.es r) (A.es d) + A.came r d ≤ (A.es d).length := by unfold Ap.came; split <;> omega
  unfold Ap.fetchA
  have q := h.led d hd
  refine hI.copy hr hd hne _ _ ?_ ?_ ?_ ?_ ?_
  · rw [hes, List.length_take]; omega
  · rw [hed]; exact hc
  · rw [hes, hed, h2]; exact pre_take _ _ c2
  · omega
  · have a1 := (hI.thr d q.1).1
    have a2 := (h.thr r hr).1
    have a3 := hp.len
    omega

/-- A part that may be, and what was ever kept by all. -/
def Kept (p : Prt) (C : List Ent) : Prop := ∃ A : Ap, p = A.prt ∧ Fine A ∧ Inv A C
theorem Kept.may {p : Prt} {C : List Ent} (h : Kept p C) : p.mayB = true := by
  obtain ⟨A, rfl, F, _⟩ := h
  exact fine_may F
theorem Kept.flt {p : Prt} {C : List Ent} (h : Kept p C) {r : Nat} (hr : r < p.rs.length) : p.flt r = 0 := by
  obtain ⟨A, rfl, F, _⟩ := h
  exact fine_flt F (by rw [← (prt_len A).1]; exact hr)
theorem Kept.sync {p : Prt} {C : List Ent} (h : Kept p C) {r : Nat} (hr : r < p.rs.length) (h0 : (p.syncP r).2 = 0) : ∃ C', Pre C C' ∧ Kept (p.syncP r).1 C' := by
  obtain ⟨A, rfl, F, I⟩ := h
  have hr' : r < A.n := by rw [← (prt_len A).1]; exact hr
  rw [sync_prt F hr'] at h0 ⊢
  by_cases hu : A.up r = false
  · rw [if_pos hu] at h0; simp at h0
  · rw [if_neg hu]
    have FS := F.syncA r
    unfold Ap.syncA at FS ⊢
    by_cases hd : A.ld = some r
    · rw [if_pos hd] at FS ⊢
      obtain ⟨C', hp, hI⟩ := ((I.sync r hr').know (d := r) hd (by simp only [Ap.sync, upd_same])).raise
      exact ⟨C', hp, _, rfl, FS, hI⟩
    · rw [if_neg hd] at FS ⊢
      exact ⟨C, Pre.refl C, _, rfl, FS, I.sync r hr'⟩
theorem Kept.rise {p : Prt} {C : List Ent} (h : Kept p C) {r : Nat} (hr : r < p.rs.length) (h0 : (p.riseP r).2 = 0) : ∃ C', Pre C C' ∧ Kept (p.riseP r).1 C' := by
  obtain ⟨A, rfl, F, I⟩ := h
  have hr' : r < A.n := by rw [← (prt_len A).1]; exact hr
  rw [rise_prt F hr'] at h0 ⊢
  by_cases hu : A.up r = true
  · rw [if_pos hu] at h0; simp at h0
  · rw [if_neg hu]
    exact ⟨C, Pre.refl C, _, rfl, F.rise r, I.rise r⟩
theorem Kept.wipe {p : Prt} {C : List Ent} (h : Kept p C) {r : Nat} (hr : r < p.rs.length) (h0 : (p.wipeP r).2 = 0) : ∃ C', Pre C C' ∧ Kept (p.wipeP r).1 C' := by
  obtain ⟨A, rfl, F, I⟩ := h
  have hr' : r < A.n := by rw [← (prt_len A).1]; exact hr
  rw [wipe_prt F hr'] at h0 ⊢
  by_cases hu : A.up r = true
  · rw [if_pos hu] at h0; simp at h0
  · rw [if_neg hu] at h0 ⊢
    have hu' : A.up r = false := by simpa using hu
    by_cases ho : A.prt.other r A.n = false
    · rw [if_pos ho] at h0; simp at h0
    · rw [if_neg ho]
      have ho' := (prt_other r A.n (Nat.le_refl _)).1 (by simpa using ho)
      exact ⟨C, Pre.refl C, _, rfl, F.wipe r hu' ho', I.wipe r hu'⟩
theorem Kept.elect {p : Prt} {C : List Ent} (h : Kept p C) {r : Nat} (hr : r < p.rs.length) (h0 : (p.electP r).2 = 0) : ∃ C', Pre C C' ∧ Kept (p.electP r).1 C' := by
  obtain ⟨A, rfl, F, I⟩ := h
  have hr' : r < A.n := by rw [← (prt_len A).1]; exact hr
  rw [elect_prt F hr'] at h0 ⊢
  by_cases hu : A.up r = false
  · rw [if_pos hu] at h0; simp at h0
  rw [if_neg hu] at h0 ⊢
  by_cases hi : A.isr r = false
  · rw [if_pos hi] at h0; simp at h0
  rw [if_neg hi] at h0 ⊢
  by_cases hd : A.ld = some r
  · rw [if_pos hd] at h0; simp at h0
  rw [if_neg hd] at h0 ⊢
  by_cases he : A.ep = 1073741824
  · rw [if_pos he] at h0; simp at h0
  rw [if_neg he]
  have e := F.epo
  have hu' : A.up r = true := by simpa using hu
  have hi' : A.isr r = true := by simpa using hi
  obtain ⟨C', hp, hI⟩ := (I.lead r hr' hi' hu').raise
  exact ⟨C', hp, _, rfl, (F.lead r hr' hi' hu' (by omega)).raise, hI⟩
theorem Kept.shrink {p : Prt} {C : List Ent} (h : Kept p C) {r : Nat} (hr : r < p.rs.length) (h0 : (p.shrinkP r).2 = 0) : ∃ C', Pre C C' ∧ Kept (p.shrinkP r).1 C' := by
  obtain ⟨A, rfl, F, I⟩ := h
  have hr' : r < A.n := by rw [← (prt_len A).1]; exact hr
  rw [shrink_prt F hr'] at h0 ⊢
  by_cases h1 : A.ld = none ∨ A.ld = some r
  · rw [if_pos h1] at h0; simp at h0
  rw [if_neg h1] at h0 ⊢
  by_cases hi : A.isr r = false
  · rw [if_pos hi] at h0; simp at h0
  rw [if_neg hi]
  rcases ld_cases A with hd | ⟨d, hd⟩
  · exact absurd (.inl hd) h1
  · have hn : d ≠ r := fun e => h1 (.inr (by rw [← e]; exact hd))
    obtain ⟨C', hp, hI⟩ := (I.shrink r (fun e => h1 (.inr e))).raise
    exact ⟨C', hp, _, rfl, (F.shrink r hd hn).raise, hI⟩
theorem Kept.expand {p : Prt} {C : List Ent} (h : Kept p C) {r : Nat} (hr : r < p.rs.length) (h0 : (p.expandP r).2 = 0) : ∃ C', Pre C C' ∧ Kept (p.expandP r).1 C' := by
  obtain ⟨A, rfl, F, I⟩ := h
  have hr' : r < A.n := by rw [← (prt_len A).1]; exact hr
  by_cases h1 : A.ld = none ∨ A.ld = some r
  · exfalso
    unfold Prt.expandP at h0
    rw [ofl_prt F hr', if_pos h1, if_pos (by simp)] at h0
    simp at h0
  rcases ld_cases A with hd | ⟨d, hd⟩
  · exact absurd (.inl hd) h1
  have hn : d ≠ r := fun e => h1 (.inr (by rw [← e]; exact hd))
  rw [expand_prt F hr' hd hn] at h0 ⊢
  by_cases h2 : A.isr r = true
  · rw [if_pos h2] at h0; simp at h0
  rw [if_neg h2] at h0 ⊢
  by_cases h3 : A.up r = false
  · rw [if_pos h3] at h0; simp at h0
  rw [if_neg h3] at h0 ⊢
  by_cases h4 : A.kn r < A.bs ∨ A.kn r < A.hi d
  · rw [if_pos h4] at h0; simp at h0
  rw [if_neg h4]
  exact ⟨C, Pre.refl C, _, rfl, F.expand r, I.expand hr' hd (by omega) (by omega)⟩
theorem Kept.crash {p : Prt} {C : List Ent} (h : Kept p C) {r : Nat} (hr : r < p.rs.length) (k : Int) (hk : 0 ≤ k) (h0 : (p.crashP r k).2 = 0) : ∃ C', Pre C C' ∧ Kept (p.crashP r k).1 C' := by
  obtain ⟨A, rfl, F, I⟩ := h
  have hr' : r < A.n := by rw [← (prt_len A).1]; exact hr
  obtain ⟨m, m1, m2, _, e⟩ := crash_prt F hr' k hk
  rw [e] at h0 ⊢
  by_cases hu : A.up r = false
  · rw [if_pos hu] at h0; simp at h0
  · rw [if_neg hu]
    exact ⟨C, Pre.refl C, _, rfl, F.crash r m m2, I.crash r m hr' m1 m2⟩
theorem Kept.fetch {p : Prt} {C : List Ent} (h : Kept p C) {r : Nat} (hr : r < p.rs.length) (h0 : (p.fetchP r).2.2 = 0) : ∃ C', Pre C C' ∧ Kept (p.fetchP r).1 C' := by
  obtain ⟨A, rfl, F, I⟩ := h
  have hr' : r < A.n := by rw [← (prt_len A).1]; exact hr
  by_cases h1 : A.ld = none ∨ A.ld = some r
  · exfalso
    unfold Prt.fetchP at h0
    rw [fine_flt F hr', if_neg (by simp), if_pos] at h0
    · simp at h0
    · rcases h1 with h1 | h1
      · exact .inl ((ld_prt A).1.2 h1)
      · exact .inr (((ld_prt A).2.1 r).2 h1)
  rcases ld_cases A with hd | ⟨d, hd⟩
  · exact absurd (.inl hd) h1
  have hn : d ≠ r := fun e => h1 (.inr (by rw [← e]; exact hd))
  obtain ⟨hh, hcs⟩ := I.hh hr' hd
  rw [fetch_prt F hr' hd hn hh hcs] at h0 ⊢
  by_cases hu : A.up r = false
  · rw [if_pos hu] at h0; simp at h0
  · rw [if_neg hu]
    obtain ⟨C', hp, hI⟩ := I.fetchA hr' hd (Ne.symm hn)
    exact ⟨C', hp, _, rfl, F.fetchA hr' hd hh, hI⟩
theorem Kept.put {p : Prt} {C : List Ent} (h : Kept p C) (x : Ent) (hb : x.b = 0) (hx : (p.ent x).flt = 0) (h0 : (p.putP x).2.2 = 0) : ∃ C', Pre C C' ∧ Kept (p.putP x).1 C' := by
  obtain ⟨A, rfl, F, I⟩ := h
  rw [put_prt F x hb hx] at h0 ⊢
  rcases ld_cases A with hd | ⟨d, hd⟩
  · rw [hd] at h0; simp at h0
  · rw [hd] at h0 ⊢
    simp only at h0 ⊢
    by_cases h1 : A.ups A.n < A.fw
    · rw [if_pos h1] at h0; simp at h0
    rw [if_neg h1] at h0 ⊢
    by_cases h2 : (A.es d).length = 400
    · rw [if_pos h2] at h0; simp at h0
    rw [if_neg h2]
    obtain ⟨q1, q2, q3⟩ := F.led d hd
    have hl := (F.ent d q1).2
    exact ⟨C, Pre.refl C, _, rfl, F.put d _ hx (by omega), I.put hd _ rfl⟩
/-- What a replica's High tells was kept. -/
theorem Kept.high {p : Prt} {C : List Ent} (h : Kept p C) {i : Nat} (hi : i < p.rs.length) : ∃ k : Nat, (p.at i).h = k ∧ k ≤ (p.at i).es.length ∧ Pre ((p.at i).es.take k) C := by
  obtain ⟨A, rfl, F, I⟩ := h
  have hi' : i < A.n := by rw [← (prt_len A).1]; exact hi
  obtain ⟨t1, t2⟩ := I.thr i hi'
  refine ⟨A.hi i, (prt_up A hi').2.1, ?_, ?_⟩
  · rw [prt_at A i hi', (rep_es F hi').1]; exact F.hig i hi'
  · rw [prt_at A i hi', (rep_es F hi').1]
    have e : (A.es i).take (A.hi i) = C.take (A.hi i) := by
      unfold Pre at t2
      rw [List.length_take, Nat.min_eq_left t1] at t2
      exact t2.symm
    rw [e]
    exact pre_take C _ t1
/-- It is in the log of who leads. -/
theorem Kept.lead {p : Prt} {C : List Ent} (h : Kept p C) (hd : 0 ≤ p.ld) : p.ld.toNat < p.rs.length ∧ Pre C (p.at p.ld.toNat).es := by
  obtain ⟨A, rfl, F, I⟩ := h
  rcases ld_cases A with hl | ⟨d, hl⟩
  · have := (ld_prt A).1.2 hl
    omega
  · obtain ⟨q1, q2, q3⟩ := F.led d hl
    rw [(ld_prt A).2.2 d hl, (prt_len A).1, prt_at A d q1, (rep_es F q1).1]
    exact ⟨q1, (I.one d q1 q2).2⟩
/-- A new part. -/
theorem kept_new {n few : Nat} (h1 : 1 ≤ n) (h2 : n ≤ 5) (h3 : 1 ≤ few) (h4 : few ≤ n) : (newP n few).2 = 0 ∧ Kept (newP n few).1 [] := by
  have hin : (inR (n : Int) 1 5 && inR (few : Int) 1 n) = true := by unfold inR; simp; omega
  unfold newP
  rw [if_pos hin, Int.toNat_natCast]
  refine ⟨rfl, ⟨n, 0, none, 0, few, fun _ => true, fun _ => 0, fun _ => true, fun _ => [], fun _ => 0, fun _ => 0⟩, ?_, ?_, inv_new n few⟩
  · unfold Ap.prt
    have e1 : ∀ {α : Type} (x : α), List.replicate n x = (List.range n).map (fun _ => x) := fun x => by
      apply List.ext_getElem
      · simp
      · intro i h1 h2; simp
    rw [e1 true, e1 (0 : Int), e1 (⟨true, [], 0, 0⟩ : Rep)]
    rfl
  · exact ⟨⟨h1, h2⟩, ⟨h3, h4⟩, ⟨Int.le_refl _, by show (0 : Int) ≤ _; omega⟩, Nat.zero_le _, fun i hi => Nat.zero_le _, fun i hi => ⟨fun e he => by simp at he, by simp⟩, fun i hi => Nat.le_refl _, fun i hi => Nat.le_refl _, (fun d hd => by cases hd), ⟨0, h1, rfl⟩⟩

end Go.Proofs.Ytkolelpdedmkeaa
