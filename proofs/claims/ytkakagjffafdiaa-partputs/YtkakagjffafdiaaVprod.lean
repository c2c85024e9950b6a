/-
  What entries tell of one producer, entry by entry: its version, its next number, where its open transaction begins, where its last mark stands; and that the answers of the document's chapter 3 come of that.
-/
import Derived.Test.YtkakagjffafdiaaAview
namespace Go.Proofs.Ytkakagjffafdiaa
open Go.RowKit
set_option linter.unusedVariables false
set_option linter.unusedSimpArgs false

/-- What is told of a producer. -/
structure Prd where
  v : Int
  n : Int
  b : Int
  m : Int
/-- One entry more of it, at a place. -/
def Prd.after (p : Prd) (e : Ent) (i : Int) : Prd :=
  ⟨e.c, if e.k = 1 then e.d + 1 else if e.c = p.v then p.n else 0,
   if e.k = 1 then (if e.t = true ∧ p.b = -1 then i else p.b) else -1,
   if e.k = 1 then p.m else i⟩
/-- Of one that is not known. -/
def Prd.new (e : Ent) : Prd := ⟨e.c, 0, -1, -1⟩
/-- By the first k entries. -/
def prdK (es : List Ent) (p : Int) : Nat → Option Prd
  | 0 => none
  | k + 1 => if (Ent.at es k).b = p then some (((prdK es p k).getD (Prd.new (Ent.at es k))).after (Ent.at es k) k) else prdK es p k

theorem scan_snoc {P : Nat → Prop} [DecidablePred P] (f i : Nat) : scan P (f + 1) i = if scan P f i < 0 then (if P (i + f) then ((i + f : Nat) : Int) else -1) else scan P f i := by
  rcases scan_cases (P := P) f i with e | ⟨k, h1, h2, h3, h4, h5⟩
  · have hn := scan_none.1 (show scan P f i < 0 by omega)
    rw [if_pos (by omega)]
    by_cases hp : P (i + f)
    · rw [if_pos hp]
      exact scan_some (by omega) (by omega) hp (fun j j1 j2 => hn j j1 j2)
    · rw [if_neg hp]
      rcases scan_cases (P := P) (f + 1) i with e | ⟨k, h1, h2, h3, h4, h5⟩
      · exact e
      · by_cases e : k = i + f
        · subst e; exact absurd h3 hp
        · exact absurd h3 (hn k h1 (by omega))
  · rw [if_neg (by omega), h5]
    exact scan_some h1 (by omega) h3 h4

theorem openN_cases (es : List Ent) (p : Int) (n : Nat) : openN es p n = -1 ∨ ∃ k : Nat, k < n ∧ isTxn es p k ∧ openN es p n = k := by
  have hb := markK_bd es p n
  rcases scan_cases (P := isTxn es p) (n - (markK es p n + 1).toNat) (markK es p n + 1).toNat with e | ⟨k, h1, h2, h3, h4, h5⟩
  · exact .inl e
  · exact .inr ⟨k, by omega, h3, h5⟩
theorem openN_bd (es : List Ent) (p : Int) (n : Nat) : -1 ≤ openN es p n ∧ openN es p n < n := by
  rcases openN_cases es p n with e | ⟨k, h1, h2, h3⟩ <;> omega

theorem openN_data (es : List Ent) (p : Int) (k : Nat) (hm : ¬ ((Ent.at es k).b = p ∧ (Ent.at es k).k ≠ 1)) :
    openN es p (k + 1) = if openN es p k < 0 then (if isTxn es p k then (k : Int) else -1) else openN es p k := by
  have hb := markK_bd es p k
  have e1 : markK es p (k + 1) = markK es p k := by simp only [markK]; rw [if_neg hm]
  have e2 : k + 1 - (markK es p k + 1).toNat = (k - (markK es p k + 1).toNat) + 1 := by omega
  have e3 : (markK es p k + 1).toNat + (k - (markK es p k + 1).toNat) = k := by omega
  unfold openN
  rw [e1, e2, scan_snoc, e3]
theorem openN_mark (es : List Ent) (p : Int) (k : Nat) (hm : (Ent.at es k).b = p ∧ (Ent.at es k).k ≠ 1) : openN es p (k + 1) = -1 := by
  have e1 : markK es p (k + 1) = k := by simp only [markK]; rw [if_pos hm]
  unfold openN
  rw [e1]
  have : k + 1 - ((k : Int) + 1).toNat = 0 := by omega
  rw [this]
  rfl
theorem openN_other (es : List Ent) (p : Int) (k : Nat) (hm : (Ent.at es k).b ≠ p) : openN es p (k + 1) = openN es p k := by
  rw [openN_data es p k (fun h => hm h.1), if_neg (fun h : isTxn es p k => hm h.1)]
  have := openN_bd es p k
  split <;> omega

theorem prd_spec (es : List Ent) (p : Int) (k : Nat) :
    (prdK es p k = none → verK es p k = -1 ∧ seqK es p k = (-1, -1) ∧ markK es p k = -1 ∧ openN es p k = -1) ∧
    (∀ q, prdK es p k = some q → q.v = verK es p k ∧ q.v = (seqK es p k).2 ∧ q.n = (seqK es p k).1 + 1 ∧ q.m = markK es p k ∧ q.b = openN es p k) := by
  induction k with
  | zero => exact ⟨fun _ => ⟨rfl, rfl, rfl, rfl⟩, fun q h => by simp [prdK] at h⟩
  | succ k ih =>
    by_cases hp : (Ent.at es k).b = p
    · refine ⟨fun h => by simp [prdK, hp] at h, fun q h => ?_⟩
      simp only [prdK] at h
      rw [if_pos hp] at h
      obtain rfl := Option.some.inj h
      have e1 : verK es p (k + 1) = (Ent.at es k).c := by simp only [verK]; rw [if_pos hp]
      have e2 : seqK es p (k + 1) = (if (Ent.at es k).k = 1 then (Ent.at es k).d else if (Ent.at es k).c = (seqK es p k).2 then (seqK es p k).1 else -1, (Ent.at es k).c) := by
        show (if (Ent.at es k).b = p then _ else _) = _
        rw [if_pos hp]
      have e3 : markK es p (k + 1) = if (Ent.at es k).k ≠ 1 then (k : Int) else markK es p k := by
        simp only [markK]
        by_cases hk : (Ent.at es k).k = 1
        · rw [if_neg (fun h => h.2 hk), if_neg (by simp [hk])]
        · rw [if_pos ⟨hp, hk⟩, if_pos hk]
      have ob := openN_bd es p k
      have H : ∀ q0 : Prd, (q0.v = (Ent.at es k).c ∧ q0.n = 0 ∧ (seqK es p k) = (-1, -1) ∨ q0.v = (seqK es p k).2 ∧ q0.n = (seqK es p k).1 + 1) → q0.m = markK es p k → q0.b = openN es p k →
          (q0.after (Ent.at es k) k).v = verK es p (k + 1) ∧ (q0.after (Ent.at es k) k).v = (seqK es p (k + 1)).2 ∧ (q0.after (Ent.at es k) k).n = (seqK es p (k + 1)).1 + 1 ∧ (q0.after (Ent.at es k) k).m = markK es p (k + 1) ∧ (q0.after (Ent.at es k) k).b = openN es p (k + 1) := by
        intro q0 h1 h2 h3
        refine ⟨by rw [e1]; rfl, by rw [e2]; rfl, ?_, ?_, ?_⟩
        · rw [e2]
          show (if (Ent.at es k).k = 1 then (Ent.at es k).d + 1 else if (Ent.at es k).c = q0.v then q0.n else 0) = _
          by_cases hk : (Ent.at es k).k = 1
          · simp only [if_pos hk]
          · simp only [if_neg hk]
            rcases h1 with ⟨a1, a2, a3⟩ | ⟨a1, a2⟩
            · rw [a3, a1, a2]
              simp
            · rw [← a1, a2]
              split <;> simp
        · rw [e3]
          show (if (Ent.at es k).k = 1 then q0.m else (k : Int)) = _
          by_cases hk : (Ent.at es k).k = 1
          · rw [if_pos hk, if_neg (by simp [hk]), h2]
          · rw [if_neg hk, if_pos hk]
        · show (if (Ent.at es k).k = 1 then (if (Ent.at es k).t = true ∧ q0.b = -1 then (k : Int) else q0.b) else -1) = _
          by_cases hk : (Ent.at es k).k = 1
          · rw [openN_data es p k (fun h => h.2 hk), if_pos hk, h3]
            by_cases ht : (Ent.at es k).t = true
            · rw [if_pos (show isTxn es p k from ⟨hp, ht, hk⟩)]
              by_cases ho : openN es p k = -1
              · rw [if_pos ⟨ht, ho⟩, if_pos (by omega)]
              · rw [if_neg (fun h => ho h.2), if_neg (by omega)]
            · rw [if_neg (fun h => ht h.1), if_neg (fun h : isTxn es p k => ht h.2.1)]
              split <;> omega
          · rw [openN_mark es p k ⟨hp, hk⟩, if_neg hk]
      cases hq : prdK es p k with
      | none =>
        obtain ⟨_, a2, a3, a4⟩ := ih.1 hq
        exact H (Prd.new (Ent.at es k)) (.inl ⟨rfl, rfl, a2⟩) a3.symm a4.symm
      | some q0 =>
        obtain ⟨a1, a2, a3, a4, a5⟩ := ih.2 q0 hq
        exact H q0 (.inr ⟨a2, a3⟩) a4 a5
    · have e1 : verK es p (k + 1) = verK es p k := by simp only [verK]; rw [if_neg hp]
      have e2 : seqK es p (k + 1) = seqK es p k := by show (if (Ent.at es k).b = p then _ else _) = _; rw [if_neg hp]
      have e3 : markK es p (k + 1) = markK es p k := by simp only [markK]; rw [if_neg (fun h => hp h.1)]
      have e4 : prdK es p (k + 1) = prdK es p k := by simp only [prdK]; rw [if_neg hp]
      rw [e1, e2, e3, e4, openN_other es p k hp]
      exact ih

/-- What is told is within bounds. -/
def Prd.Ok (q : Prd) (k : Nat) : Prop := -1 ≤ q.v ∧ q.v ≤ 1073741824 ∧ 0 ≤ q.n ∧ q.n ≤ 1073741825 ∧ -1 ≤ q.b ∧ q.b < k ∧ -1 ≤ q.m ∧ q.m < k
theorem prd_ok {es : List Ent} (h : Plain es) (p : Int) (k : Nat) (hk : k ≤ es.length) (q : Prd) (hq : prdK es p k = some q) : q.Ok k := by
  obtain ⟨a1, a2, a3, a4, a5⟩ := (prd_spec es p k).2 q hq
  have b1 := verK_bd h p k hk
  have b2 := seqK_bd h p k hk
  have b3 := markK_bd es p k
  have b4 := openN_bd es p k
  refine ⟨?_, ?_, ?_, ?_, ?_, ?_, ?_, ?_⟩ <;> omega

/-- What is told of an entry's producer by all. -/
def prdOf (es : List Ent) (x : Ent) : Prd := (prdK es x.b es.length).getD (Prd.new x)

/-- Data that comes with the number n, or stands already. -/
def dataA (es : List Ent) (x : Ent) (n : Int) : Int × Int :=
  if x.d = n then (-1, 0)
  else if x.d < n ∧ 0 ≤ scan (isTwin es x) es.length 0 then (scan (isTwin es x) es.length 0, 0)
  else (0, 11)
/-- A mark. -/
def markA (es : List Ent) (x : Ent) (p : Prd) : Int × Int :=
  if p.b ≠ -1 ∨ p.m = -1 then (-1, 0)
  else if (Ent.at es p.m.toNat).k ≠ x.k ∨ (Ent.at es p.m.toNat).c ≠ x.c then (-1, 0)
  else (p.m, 0)

theorem chk_prd (es : List Ent) (x : Ent) (h0 : x.b ≠ 0) (hc : 0 ≤ x.c) (hd : 0 ≤ x.d) :
    chk es x = if x.c < (prdOf es x).v then (0, 10) else if x.k ≠ 1 then markA es x (prdOf es x) else if (prdOf es x).v < x.c then dataA es x 0 else dataA es x (prdOf es x).n := by
  unfold chk
  rw [if_neg h0]
  cases hq : prdK es x.b es.length with
  | none =>
    obtain ⟨a1, a2, a3, a4⟩ := (prd_spec es x.b es.length).1 hq
    have e : prdOf es x = Prd.new x := by unfold prdOf; rw [hq]; rfl
    rw [e, a1, a3]
    have hA : ¬ x.c < -1 := by omega
    have hB : ¬ x.c < (Prd.new x).v := by show ¬ x.c < x.c; omega
    have hC : ¬ (Prd.new x).v < x.c := hB
    rw [if_neg hA, if_neg hB]
    by_cases hk : x.k ≠ 1
    · rw [if_pos hk, if_pos hk]
      have hm : markA es x (Prd.new x) = (-1, 0) := by unfold markA; rw [if_pos (.inr rfl)]
      rw [hm, if_neg (fun h => absurd h.1 (by omega))]
    · rw [if_neg hk, if_neg hk, if_neg hC]
      show (let s := if x.c = -1 then (seqK es x.b es.length).1 else -1; if x.d = s + 1 then ((-1 : Int), (0 : Int)) else if s + 1 < x.d then (0, 11) else if scan (isTwin es x) es.length 0 < 0 then (0, 11) else (scan (isTwin es x) es.length 0, 0)) = dataA es x 0
      rw [if_neg (show ¬ x.c = -1 by omega)]
      unfold dataA
      by_cases h1 : x.d = 0
      · rw [if_pos (by omega), if_pos h1]
      · rw [if_neg (by omega), if_pos (by omega), if_neg h1, if_neg (by omega)]
  | some q =>
    obtain ⟨a1, a2, a3, a4, a5⟩ := (prd_spec es x.b es.length).2 q hq
    have e : prdOf es x = q := by unfold prdOf; rw [hq]; rfl
    rw [e, ← a1, ← a4, ← a5]
    have b3 := markK_bd es x.b es.length
    have b4 := openN_bd es x.b es.length
    by_cases hv : x.c < q.v
    · rw [if_pos hv, if_pos hv]
    · rw [if_neg hv, if_neg hv]
      by_cases hk : x.k ≠ 1
      · rw [if_pos hk, if_pos hk]
        unfold markA
        by_cases h1 : q.b ≠ -1 ∨ q.m = -1
        · rw [if_pos h1, if_neg (by omega)]
        · rw [if_neg h1]
          by_cases h2 : (Ent.at es q.m.toNat).k ≠ x.k ∨ (Ent.at es q.m.toNat).c ≠ x.c
          · rw [if_pos h2, if_neg (fun h => by rcases h2 with h2 | h2; exact h2 h.2.2.1; exact h2 h.2.2.2)]
          · rw [if_neg h2]
            have h3 : (Ent.at es q.m.toNat).k = x.k := Classical.byContradiction fun h => h2 (.inl h)
            have h4 : (Ent.at es q.m.toNat).c = x.c := Classical.byContradiction fun h => h2 (.inr h)
            rw [if_pos ⟨by omega, by omega, h3, h4⟩]
      · rw [if_neg hk, if_neg hk]
        have key : ∀ s : Int, (if x.d = s + 1 then ((-1 : Int), (0 : Int)) else if s + 1 < x.d then (0, 11) else if scan (isTwin es x) es.length 0 < 0 then (0, 11) else (scan (isTwin es x) es.length 0, 0)) = dataA es x (s + 1) := by
          intro s
          unfold dataA
          by_cases h1 : x.d = s + 1
          · rw [if_pos h1, if_pos h1]
          · rw [if_neg h1, if_neg h1]
            by_cases h2 : s + 1 < x.d
            · rw [if_pos h2, if_neg (by omega)]
            · rw [if_neg h2]
              by_cases h3 : scan (isTwin es x) es.length 0 < 0
              · rw [if_pos h3, if_neg (by omega)]
              · rw [if_neg h3, if_pos (by omega)]
        simp only
        rw [key]
        by_cases hc2 : x.c = q.v
        · rw [if_pos hc2, if_neg (by omega), a3]
        · rw [if_neg hc2, if_pos (by omega)]
          rfl

/-- By the first k entries, of all but nobody. -/
def prdM (es : List Ent) (k : Nat) (p : Int) : Option Prd := if p = 0 then none else prdK es p k
theorem stb_least {es : List Ent} (hp : Plain es) (h : Nat) (hh : h ≤ es.length) (e : Int) (h1 : e ≤ h) (h2 : ∀ p, p ≠ 0 → 0 ≤ openN es p h → e ≤ openN es p h)
    (h3 : e = h ∨ ∃ p, p ≠ 0 ∧ openN es p h = e ∧ 0 ≤ e) : e = stb es h := by
  have at_open : ∀ p, p ≠ 0 → 0 ≤ openN es p h → openN es p h = e → ∃ k : Nat, e = k ∧ k < h ∧ begins es h k := by
    intro p p0 hp' he
    rcases openN_cases es p h with e1 | ⟨k, k1, k2, k3⟩
    · omega
    · have hlt : k < es.length := by omega
      have hm := hp es[k] (List.getElem_mem hlt)
      rw [← at_get hlt] at hm
      have hb := k2.1
      refine ⟨k, by omega, k1, by omega, k2.2.2, k2.2.1, ?_⟩
      rw [hb]; exact k3
  unfold stb
  rcases scan_cases (P := begins es h) h 0 with e1 | ⟨k, k1, k2, k3, k4, k5⟩
  · rw [if_pos (by omega)]
    rcases h3 with h3 | ⟨p, p0, hp', h0⟩
    · exact h3
    · obtain ⟨k, rfl, g1, g2⟩ := at_open p p0 (by omega) hp'
      exact absurd g2 (scan_none.1 (show scan (begins es h) h 0 < 0 by omega) k (Nat.zero_le _) (by omega))
  · rw [if_neg (by omega), k5]
    have k30 := k3.1
    have hk := h2 (Ent.at es k).b (by omega) (by rw [k3.2.2.2]; omega)
    rw [k3.2.2.2] at hk
    rcases h3 with h3 | ⟨p, p0, hp', h0⟩
    · omega
    · obtain ⟨j, rfl, g1, g2⟩ := at_open p p0 (by omega) hp'
      rcases Nat.lt_or_ge j k with hjk | hjk
      · exact absurd g2 (k4 j (Nat.zero_le _) hjk)
      · omega

/-- The Kind of the entry at a place; 0: it is no place. -/
def kindAt (es : List Ent) (s : Int) : Int := if s < 0 then 0 else (Ent.at es s.toNat).k
/-- The Kind of a producer's next mark, from a place on, among the first h entries; 0: there is none. -/
def nextK (es : List Ent) (h : Nat) (p : Int) (i : Nat) : Int := kindAt es (scan (isMark es p) (h - i) i)
theorem nextK_step (es : List Ent) (h : Nat) (p : Int) (i : Nat) (hi : i < h) : nextK es h p i = if (Ent.at es i).b = p ∧ (Ent.at es i).k ≠ 1 then (Ent.at es i).k else nextK es h p (i + 1) := by
  unfold nextK
  have e : h - i = (h - (i + 1)) + 1 := by omega
  rw [e]
  by_cases hm : (Ent.at es i).b = p ∧ (Ent.at es i).k ≠ 1
  · have e2 : scan (isMark es p) (h - (i + 1) + 1) i = i := by simp only [scan]; rw [if_pos (show isMark es p i from hm)]
    rw [e2, if_pos hm]
    unfold kindAt
    rw [if_neg (by omega)]
    simp
  · have e2 : scan (isMark es p) (h - (i + 1) + 1) i = scan (isMark es p) (h - (i + 1)) (i + 1) := by simp only [scan]; rw [if_neg (show ¬ isMark es p i from hm)]
    rw [e2, if_neg hm]
theorem nextK_end (es : List Ent) (h : Nat) (p : Int) (i : Nat) (hi : h ≤ i) : nextK es h p i = 0 := by
  unfold nextK
  have e : h - i = 0 := by omega
  rw [e]
  rfl
theorem seen_next (es : List Ent) (h i : Nat) (hi : i < h) : seen es h i = (decide ((Ent.at es i).k = 1) && (!(Ent.at es i).t || decide (nextK es h (Ent.at es i).b i = 2))) := by
  by_cases hk : (Ent.at es i).k = 1
  · rw [nextK_step es h _ i hi, if_neg (fun h => h.2 hk)]
    cases ht : (Ent.at es i).t
    · unfold seen
      rw [if_neg (by simp [hk]), if_pos ht]
      simp [hk]
    · unfold seen nextK kindAt
      rw [if_neg (by simp [hk]), if_neg (by simp [ht])]
      by_cases hs : scan (isMark es (Ent.at es i).b) (h - (i + 1)) (i + 1) < 0
      · rw [if_pos hs, if_pos hs]
        simp
      · rw [if_neg hs, if_neg hs]
        simp [hk]
        rfl
  · unfold seen
    rw [if_pos hk]
    simp [hk]
/-- As package view takes it: nobody's ends nothing. -/
def nextD (es : List Ent) (h : Nat) (p : Int) (i : Nat) : Int := if p = 0 then 0 else nextK es h p i
theorem nextD_end (es : List Ent) (h : Nat) (p : Int) (i : Nat) (hi : h ≤ i) : nextD es h p i = 0 := by
  unfold nextD
  rw [nextK_end es h p i hi]
  split <;> rfl
theorem nextD_step (es : List Ent) (h : Nat) (p : Int) (i : Nat) (hi : i < h) : nextD es h p i = if p = (Ent.at es i).b ∧ (Ent.at es i).k ≠ 1 ∧ p ≠ 0 then (Ent.at es i).k else nextD es h p (i + 1) := by
  unfold nextD
  by_cases h0 : p = 0
  · rw [if_pos h0, if_pos h0, if_neg (fun h => h.2.2 h0)]
  · rw [if_neg h0, if_neg h0, nextK_step es h p i hi]
    by_cases hm : (Ent.at es i).b = p ∧ (Ent.at es i).k ≠ 1
    · rw [if_pos hm, if_pos ⟨hm.1.symm, hm.2, h0⟩]
    · rw [if_neg hm, if_neg (fun h => hm ⟨h.1.symm, h.2.1⟩)]
def seenD (es : List Ent) (h i : Nat) : Bool := decide ((Ent.at es i).k = 1) && (!(Ent.at es i).t || decide (nextD es h (Ent.at es i).b i = 2))
theorem seenD_eq {es : List Ent} (hn : NoTx es) (h i : Nat) (hi : i < h) (hh : h ≤ es.length) : seenD es h i = seen es h i := by
  rw [seen_next es h i hi]
  unfold seenD nextD
  by_cases h0 : (Ent.at es i).b = 0
  · have hlt : i < es.length := by omega
    have hz := hn es[i] (List.getElem_mem hlt)
    rw [← at_get hlt] at hz
    simp [hz h0]
  · rw [if_neg h0]
theorem seen_take (es : List Ent) (h i : Nat) (hi : i < h) (hh : h ≤ es.length) : seen (es.take h) h i = seen es h i := by
  unfold seen
  rw [at_take es h i hi]
  have e : scan (isMark (es.take h) (Ent.at es i).b) (h - (i + 1)) (i + 1) = scan (isMark es (Ent.at es i).b) (h - (i + 1)) (i + 1) := by
    apply scan_congr
    intro j j1 j2
    unfold isMark
    rw [at_take es h j (by omega)]
  rw [e]
  rcases scan_cases (P := isMark es (Ent.at es i).b) (h - (i + 1)) (i + 1) with e1 | ⟨k, k1, k2, k3, k4, k5⟩
  · rw [e1]
    simp
  · rw [k5]
    rw [Int.toNat_natCast, at_take es h k (by omega)]

end Go.Proofs.Ytkakagjffafdiaa
