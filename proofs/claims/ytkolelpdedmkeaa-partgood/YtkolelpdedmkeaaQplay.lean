/-
  What is done to replicas by raw numbers, as plain data: the parts that come of it, and each High that was ever told with the entries below it; what was once kept stays kept.
-/
import Derived.Test.YtkolelpdedmkeaaQstep
import Derived.Test.YtkolelpdedmkeaaKmany
namespace Go.Proofs.Ytkolelpdedmkeaa
open Go.RowKit
set_option linter.unusedVariables false
set_option linter.unusedSimpArgs false

theorem setR_rs (p : Prt) (i : Nat) (f : Rep → Rep) : (p.setR i f).rs.length = p.rs.length := by
  unfold Prt.setR
  simp
theorem raised_rs (q : Prt) : q.raised.rs.length = q.rs.length := by
  unfold Prt.raised
  split
  · rfl
  · split
    · exact setR_rs _ _ _
    · rfl
theorem sync_rs {p : Prt} {r : Int} (h : (p.syncP r).2 = 0) : (p.syncP r).1.rs.length = p.rs.length := by
  unfold Prt.syncP at h ⊢
  by_cases h1 : p.flt r ≠ 0
  · rw [if_pos h1] at h; exact absurd h h1
  rw [if_neg h1] at h ⊢
  by_cases h2 : (p.at r.toNat).up = false
  · rw [if_pos h2] at h; cases h
  rw [if_neg h2]
  by_cases h3 : r = p.ld
  · rw [if_pos h3]
    exact (raised_rs _).trans (setR_rs _ _ _)
  · rw [if_neg h3]
    exact setR_rs _ _ _
theorem rise_rs {p : Prt} {r : Int} (h : (p.riseP r).2 = 0) : (p.riseP r).1.rs.length = p.rs.length := by
  unfold Prt.riseP at h ⊢
  by_cases h1 : p.flt r ≠ 0
  · rw [if_pos h1] at h; exact absurd h h1
  rw [if_neg h1] at h ⊢
  by_cases h2 : (p.at r.toNat).up = true
  · rw [if_pos h2] at h; cases h
  rw [if_neg h2]
  exact setR_rs _ _ _
theorem wipe_rs {p : Prt} {r : Int} (h : (p.wipeP r).2 = 0) : (p.wipeP r).1.rs.length = p.rs.length := by
  unfold Prt.wipeP at h ⊢
  by_cases h1 : p.flt r ≠ 0
  · rw [if_pos h1] at h; exact absurd h h1
  rw [if_neg h1] at h ⊢
  by_cases h2 : (p.at r.toNat).up = true
  · rw [if_pos h2] at h; cases h
  rw [if_neg h2] at h ⊢
  by_cases h3 : p.other r p.isr.length = false
  · rw [if_pos h3] at h; cases h
  rw [if_neg h3]
  exact setR_rs _ _ _
theorem elect_rs {p : Prt} {r : Int} (h : (p.electP r).2 = 0) : (p.electP r).1.rs.length = p.rs.length := by
  unfold Prt.electP at h ⊢
  by_cases h1 : p.flt r ≠ 0
  · rw [if_pos h1] at h; exact absurd h h1
  rw [if_neg h1] at h ⊢
  by_cases h2 : (p.at r.toNat).up = false
  · rw [if_pos h2] at h; cases h
  rw [if_neg h2] at h ⊢
  by_cases h3 : p.isr.getD r.toNat false = false
  · rw [if_pos h3] at h; cases h
  rw [if_neg h3] at h ⊢
  by_cases h4 : p.ld = r
  · rw [if_pos h4] at h; cases h
  rw [if_neg h4] at h ⊢
  by_cases h5 : p.ep = 1073741824
  · rw [if_pos h5] at h; cases h
  rw [if_neg h5]
  exact raised_rs _
theorem ofl_ne {p : Prt} {r : Int} (h : ¬ p.ofl r ≠ 0) : p.ofl r = 0 := by
  by_cases e : p.ofl r = 0
  · exact e
  · exact absurd e h
theorem shrink_rs {p : Prt} {r : Int} (h : (p.shrinkP r).2 = 0) : (p.shrinkP r).1.rs.length = p.rs.length := by
  unfold Prt.shrinkP at h ⊢
  by_cases h1 : p.ofl r ≠ 0
  · rw [if_pos h1] at h; exact absurd h h1
  rw [if_neg h1] at h ⊢
  by_cases h2 : p.isr.getD r.toNat false = false
  · rw [if_pos h2] at h; cases h
  rw [if_neg h2]
  exact raised_rs _
theorem expand_rs {p : Prt} {r : Int} (h : (p.expandP r).2 = 0) : (p.expandP r).1.rs.length = p.rs.length := by
  unfold Prt.expandP at h ⊢
  by_cases h1 : p.ofl r ≠ 0
  · rw [if_pos h1] at h; exact absurd h h1
  rw [if_neg h1] at h ⊢
  by_cases h2 : p.isr.getD r.toNat false = true
  · rw [if_pos h2] at h; cases h
  rw [if_neg h2] at h ⊢
  by_cases h3 : (p.at r.toNat).up = false
  · rw [if_pos h3] at h; cases h
  rw [if_neg h3] at h ⊢
  by_cases h4 : p.kn.getD r.toNat 0 < p.bs ∨ p.kn.getD r.toNat 0 < (p.at p.ld.toNat).h
  · rw [if_pos h4] at h; cases h
  rw [if_neg h4]
theorem crash_rs {p : Prt} {r k : Int} (h : (p.crashP r k).2 = 0) : (p.crashP r k).1.rs.length = p.rs.length := by
  unfold Prt.crashP at h ⊢
  by_cases h1 : p.flt r ≠ 0
  · rw [if_pos h1] at h; exact absurd h h1
  rw [if_neg h1] at h ⊢
  by_cases h2 : (p.at r.toNat).up = false
  · rw [if_pos h2] at h; cases h
  rw [if_neg h2] at h ⊢
  by_cases h3 : crashF (p.at r.toNat).l (p.at r.toNat).y k ≠ 0
  · rw [if_pos h3] at h; exact absurd h h3
  rw [if_neg h3]
  exact setR_rs _ _ _
theorem fetch_rs {p : Prt} {r : Int} (h : (p.fetchP r).2.2 = 0) : (p.fetchP r).1.rs.length = p.rs.length := by
  unfold Prt.fetchP at h ⊢
  by_cases h1 : p.flt r ≠ 0
  · rw [if_pos h1] at h; exact absurd h h1
  rw [if_neg h1] at h ⊢
  by_cases h2 : p.ld < 0 ∨ p.ld = r
  · rw [if_pos h2] at h; cases h
  rw [if_neg h2] at h ⊢
  by_cases h3 : (p.at r.toNat).up = false
  · rw [if_pos h3] at h; cases h
  rw [if_neg h3]
  refine (setR_rs _ _ _).trans ?_
  unfold Prt.met
  refine (raised_rs _).trans ?_
  exact setR_rs _ _ _
theorem put_rs {p : Prt} {x : Ent} (h : (p.putP x).2.2 = 0) : (p.putP x).1.rs.length = p.rs.length := by
  unfold Prt.putP at h ⊢
  by_cases h1 : p.mayB = false
  · rw [if_pos h1] at h; cases h
  rw [if_neg h1] at h ⊢
  by_cases h2 : p.ld < 0
  · rw [if_pos h2] at h; cases h
  rw [if_neg h2] at h ⊢
  by_cases h3 : (p.ent x).flt ≠ 0
  · rw [if_pos h3] at h; exact absurd h h3
  rw [if_neg h3] at h ⊢
  by_cases h4 : (chk (p.at p.ld.toNat).es (p.ent x)).2 ≠ 0
  · rw [if_pos h4] at h; exact absurd h h4
  rw [if_neg h4] at h ⊢
  by_cases h5 : 0 ≤ (chk (p.at p.ld.toNat).es (p.ent x)).1
  · rw [if_pos h5]
  rw [if_neg h5] at h ⊢
  by_cases h6 : (p.ups p.isr.length : Int) < p.fw
  · rw [if_pos h6] at h; cases h
  rw [if_neg h6] at h ⊢
  split
  · rename_i h7; rw [if_pos h7] at h; exact absurd h h7
  · exact setR_rs _ _ _

/-- What was refused leaves the part. -/
def orP (p q : Prt) (e : Int) : Prt := if e = 0 then q else p
def putE (s : Int) : Ent := ⟨0, 0, 0, 0, 1, false, wordS s⟩
/-- The part and the error that a step answers. -/
def stepR (n : Int) (hard : Bool) (r : Raw4) (p : Prt) (s : Int) : Prt × Int :=
  if pick r.k 16 < 5 then ((p.putP (putE s)).1, (p.putP (putE s)).2.2)
  else if pick r.k 16 < 9 then ((p.fetchP (pick r.a n)).1, (p.fetchP (pick r.a n)).2.2)
  else if pick r.k 16 < 12 ∨ hard = false then p.syncP (pick r.a n)
  else if pick r.k 16 = 12 then p.crashP (pick r.a n) (pick r.b 30)
  else if pick r.k 16 = 13 then p.riseP (pick r.a n)
  else if pick r.k 16 = 14 then p.electP (pick r.a n)
  else if pick r.c 3 = 0 then p.wipeP (pick r.a n)
  else if pick r.c 3 = 1 then p.shrinkP (pick r.a n)
  else p.expandP (pick r.a n)
def stepP (n : Int) (hard : Bool) (r : Raw4) (p : Prt) (s : Int) : Prt := orP p (stepR n hard r p s).1 (stepR n hard r p s).2
def stepS (r : Raw4) (s : Int) : Int := if pick r.k 16 < 5 then s + 1 else s
/-- The entries below a replica's High, if it has one. -/
def hiR (x : Rep) : List (List Ent) := if 0 < x.h ∧ x.h ≤ x.es.length then [x.es.take x.h.toNat] else []
def hisP (p : Prt) : List (List Ent) := p.rs.flatMap hiR
structure Pl where
  p : Prt
  s : Int
  hs : List (List Ent)
def plS (n : Int) (hard : Bool) (a : Pl) (r : Raw4) : Pl := ⟨stepP n hard r a.p a.s, stepS r a.s, a.hs ++ hisP (stepP n hard r a.p a.s)⟩
def pl0 (n few : Int) : Pl := ⟨((newP n few).1.electP 0).1, 0, []⟩
def plL (n few : Int) (hard : Bool) (rs : List Raw4) : Pl := rs.foldl (plS n hard) (pl0 n few)
theorem plL_snoc (n few : Int) (hard : Bool) (rs : List Raw4) (i : Nat) (hi : i < rs.length) : plL n few hard (rs.take (i + 1)) = plS n hard (plL n few hard (rs.take i)) (rs[i]'hi) := by
  unfold plL
  rw [List.take_succ_eq_append_getElem hi, List.foldl_append]
  rfl

theorem putE_ok (p : Prt) (s : Int) (h0 : 0 ≤ p.ep) (h1 : p.ep ≤ 1073741824) : (p.ent (putE s)).flt = 0 := by
  have := wordS_size s
  unfold Prt.ent putE Ent.flt flt
  have e1 : inB p.ep = true := by unfold inB; simp; omega
  have e2 : inB 0 = true := by decide
  have e3 : mkB 1 = false := by decide
  have e4 : fnB 0 0 false = true := by decide
  simp only [e1, e2, e3, e4]
  rw [if_neg (by simp), if_neg (by simp), if_neg (by omega), if_neg (by simp), if_neg (by simp)]
theorem stepR_kept {p : Prt} {C : List Ent} {n : Nat} (hard : Bool) (r : Raw4) (s : Int) (h : Kept p C) (hn : p.rs.length = n) (h0 : 0 < n) (he : (stepR n hard r p s).2 = 0) : (∃ C', Pre C C' ∧ Kept (stepR n hard r p s).1 C') ∧ (stepR n hard r p s).1.rs.length = n := by
  obtain ⟨b0, b1⟩ := pick_bd r.a (n : Int) (by omega)
  obtain ⟨i, hi⟩ := Int.eq_ofNat_of_zero_le b0
  obtain ⟨c0, c1⟩ := pick_bd r.b 30 (by omega)
  have hin : i < p.rs.length := by omega
  unfold stepR at he ⊢
  rw [hi] at he ⊢
  by_cases k1 : pick r.k 16 < 5
  · rw [if_pos k1] at he ⊢
    have hm : (p.ent (putE s)).flt = 0 := by
      obtain ⟨A, rfl, F, _⟩ := h
      exact putE_ok _ s F.epo.1 F.epo.2
    exact ⟨h.put _ rfl hm he, (put_rs he).trans hn⟩
  rw [if_neg k1] at he ⊢
  by_cases k2 : pick r.k 16 < 9
  · rw [if_pos k2] at he ⊢
    exact ⟨h.fetch hin he, (fetch_rs he).trans hn⟩
  rw [if_neg k2] at he ⊢
  by_cases k3 : pick r.k 16 < 12 ∨ hard = false
  · rw [if_pos k3] at he ⊢
    exact ⟨h.sync hin he, (sync_rs he).trans hn⟩
  rw [if_neg k3] at he ⊢
  by_cases k4 : pick r.k 16 = 12
  · rw [if_pos k4] at he ⊢
    exact ⟨h.crash hin _ c0 he, (crash_rs he).trans hn⟩
  rw [if_neg k4] at he ⊢
  by_cases k5 : pick r.k 16 = 13
  · rw [if_pos k5] at he ⊢
    exact ⟨h.rise hin he, (rise_rs he).trans hn⟩
  rw [if_neg k5] at he ⊢
  by_cases k6 : pick r.k 16 = 14
  · rw [if_pos k6] at he ⊢
    exact ⟨h.elect hin he, (elect_rs he).trans hn⟩
  rw [if_neg k6] at he ⊢
  by_cases k7 : pick r.c 3 = 0
  · rw [if_pos k7] at he ⊢
    exact ⟨h.wipe hin he, (wipe_rs he).trans hn⟩
  rw [if_neg k7] at he ⊢
  by_cases k8 : pick r.c 3 = 1
  · rw [if_pos k8] at he ⊢
    exact ⟨h.shrink hin he, (shrink_rs he).trans hn⟩
  rw [if_neg k8] at he ⊢
  exact ⟨h.expand hin he, (expand_rs he).trans hn⟩
theorem step_kept {p : Prt} {C : List Ent} {n : Nat} (hard : Bool) (r : Raw4) (s : Int) (h : Kept p C) (hn : p.rs.length = n) (h0 : 0 < n) : (∃ C', Pre C C' ∧ Kept (stepP n hard r p s) C') ∧ (stepP n hard r p s).rs.length = n := by
  unfold stepP orP
  by_cases he : (stepR n hard r p s).2 = 0
  · rw [if_pos he]
    exact stepR_kept hard r s h hn h0 he
  · rw [if_neg he]
    exact ⟨⟨C, Pre.refl C, h⟩, hn⟩

/-- What holds in the midst of it: what was kept of all, of which all Highs ever told are beginnings. -/
structure PlOk (n : Nat) (a : Pl) (C : List Ent) : Prop where
  k : Kept a.p C
  n : a.p.rs.length = n
  hs : ∀ h ∈ a.hs, Pre h C
theorem his_pre {p : Prt} {C : List Ent} (h : Kept p C) : ∀ x ∈ hisP p, Pre x C := by
  intro x hx
  unfold hisP at hx
  rw [List.mem_flatMap] at hx
  obtain ⟨r, hr, hx⟩ := hx
  obtain ⟨i, hi, rfl⟩ := List.getElem_of_mem hr
  unfold hiR at hx
  split at hx
  · obtain ⟨k, h1, h2, h3⟩ := h.high hi
    rw [at_rep hi] at h1 h2 h3
    simp only [List.mem_singleton] at hx
    rw [hx, h1, Int.toNat_natCast]
    exact h3
  · simp at hx
theorem plS_ok {n : Nat} (hard : Bool) (a : Pl) (C : List Ent) (r : Raw4) (h : PlOk n a C) (h0 : 0 < n) : ∃ C', PlOk n (plS n hard a r) C' := by
  obtain ⟨⟨C', hp, hk⟩, hl⟩ := step_kept hard r a.s h.k h.n h0
  refine ⟨C', hk, hl, ?_⟩
  intro x hx
  simp only [plS, List.mem_append] at hx
  rcases hx with hx | hx
  · exact Pre.trans (h.hs x hx) hp
  · exact his_pre hk x hx
theorem new_elect {n few : Nat} (h1 : 1 ≤ n) (h2 : n ≤ 5) (h3 : 1 ≤ few) (h4 : few ≤ n) : (newP n few).2 = 0 ∧ ((newP n few).1.electP 0).2 = 0 ∧ (newP n few).1.rs.length = n ∧ ∃ C, PlOk n (pl0 n few) C := by
  obtain ⟨a, k⟩ := kept_new h1 h2 h3 h4
  have hin : (inR (n : Int) 1 5 && inR (few : Int) 1 n) = true := by unfold inR; simp; omega
  have hn : (newP n few).1.rs.length = n := by unfold newP; rw [if_pos hin]; simp
  have hz : ((newP n few).1.electP 0).2 = 0 := by
    have hf := k.flt (r := 0) (by omega)
    unfold newP at hf ⊢
    rw [if_pos hin] at hf ⊢
    unfold Prt.electP
    rw [if_neg (by simpa using hf)]
    have e1 : ∀ {α : Type} (x d : α), (List.replicate n x).getD 0 d = x := fun x d => by
      rw [List.getD_eq_getElem?_getD, List.getElem?_eq_getElem (by simp; omega)]
      simp
    simp only [Prt.at, Int.toNat_natCast, Int.toNat_zero, e1]
    simp
  refine ⟨a, hz, hn, ?_⟩
  obtain ⟨C, hp, hk⟩ := k.elect (r := 0) (by omega) hz
  exact ⟨C, hk, (elect_rs hz).trans hn, fun x hx => by simp [pl0] at hx⟩
theorem plL_ok {n few : Nat} (hard : Bool) (rs : List Raw4) (h1 : 1 ≤ n) (h2 : n ≤ 5) (h3 : 1 ≤ few) (h4 : few ≤ n) : ∃ C, PlOk n (plL n few hard rs) C := by
  unfold plL
  have := (new_elect h1 h2 h3 h4).2.2.2
  generalize pl0 (n : Int) few = a at this ⊢
  induction rs generalizing a with
  | nil => exact this
  | cons r rs ih =>
    obtain ⟨C, hC⟩ := this
    exact ih _ (plS_ok hard a C r hC (by omega))
theorem stepS_bd (r : Raw4) (s : Int) : s ≤ stepS r s ∧ stepS r s ≤ s + 1 := by
  unfold stepS
  split <;> omega
theorem plF_s (n : Int) (hard : Bool) (rs : List Raw4) (a : Pl) : a.s ≤ (rs.foldl (plS n hard) a).s ∧ (rs.foldl (plS n hard) a).s ≤ a.s + rs.length := by
  induction rs generalizing a with
  | nil => simp
  | cons r rs ih =>
    have h1 := ih (plS n hard a r)
    have h2 := stepS_bd r a.s
    have e : (plS n hard a r).s = stepS r a.s := rfl
    rw [e] at h1
    simp only [List.foldl_cons, List.length_cons]
    omega
theorem plL_s (n few : Int) (hard : Bool) (rs : List Raw4) : 0 ≤ (plL n few hard rs).s ∧ (plL n few hard rs).s ≤ rs.length := by
  have := plF_s n hard rs (pl0 n few)
  have e : (pl0 n few).s = 0 := rfl
  rw [e, Int.zero_add] at this
  exact this
theorem hi_len (x : Rep) : (hiR x).length ≤ 1 := by
  unfold hiR
  split <;> simp
theorem his_len (rs : List Rep) : (rs.flatMap hiR).length ≤ rs.length := by
  induction rs with
  | nil => simp
  | cons x rs ih =>
    have := hi_len x
    rw [List.flatMap_cons, List.length_append, List.length_cons]
    omega
theorem plL_hs {n few : Nat} (hard : Bool) (rs : List Raw4) (h1 : 1 ≤ n) (h2 : n ≤ 5) (h3 : 1 ≤ few) (h4 : few ≤ n) (k : Nat) (hk : k ≤ rs.length) : (plL n few hard (rs.take k)).hs.length ≤ 5 * k := by
  induction k with
  | zero => simp [plL, pl0]
  | succ k ih =>
    obtain ⟨C, hC⟩ := plL_ok hard (rs.take (k + 1)) h1 h2 h3 h4
    have hn := hC.n
    rw [plL_snoc _ _ _ _ k (by omega)] at hn ⊢
    have := his_len (plS n hard (plL n few hard (rs.take k)) (rs[k]'(by omega))).p.rs
    have h5 := ih (by omega)
    show (_ ++ hisP _).length ≤ _
    rw [List.length_append]
    have e : (hisP (stepP n hard (rs[k]'(by omega)) (plL n few hard (rs.take k)).p (plL n few hard (rs.take k)).s)).length ≤ (plS n hard (plL n few hard (rs.take k)) (rs[k]'(by omega))).p.rs.length := this
    omega
/-- So far as it goes. -/
theorem pl_may {n : Nat} {a : Pl} {C : List Ent} (h : PlOk n a C) : May a.p := may_iff.1 h.k.may
theorem pre_of {a b C : List Ent} (h1 : Pre a C) (h2 : Pre b C) (k : Nat) (ha : k ≤ a.length) (hb : k ≤ b.length) : a.take k = b.take k := by
  unfold Pre at h1 h2
  rw [h1, h2, List.take_take, List.take_take, Nat.min_eq_left ha, Nat.min_eq_left hb]

end Go.Proofs.Ytkolelpdedmkeaa
