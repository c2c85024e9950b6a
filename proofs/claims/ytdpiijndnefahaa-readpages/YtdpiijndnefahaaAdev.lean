/-
  What entries tell of one producer, entry by entry: its version, its next number, where its open transaction begins, where its last mark stands; and that the answers of the document's chapter 3 come of that.
  Maps from numbers to what is told of producers, and to numbers, as functions.
  Package view: isMarker, find, after.
  Package view: producers.
  Package view: checkMarker, checkData, Check.
  Package view: Check.
-/
import Derived.Test.YtdpiijndnefahaaAview
import Derived.Maps.RangeWalk
import Derived.Deep.RegionHeld3
import Derived.Deep.DeepCutAuto
namespace Go.Proofs.Ytdpiijndnefahaa

section
open Go.RowKit
set_option linter.unusedVariables false
set_option linter.unusedSimpArgs false

/-- What is told of a producer. -/
structure Prd where
  v : Int
  n : Int
  b : Int
  m : Int
/-- One entry more of it, at a place. -/
def Prd.after (p : Prd) (e : Ent) (i : Int) : Prd :=
  ⟨e.c, if e.k = 1 then e.d + 1 else if e.c = p.v then p.n else 0,
   if e.k = 1 then (if e.t = true ∧ p.b = -1 then i else p.b) else -1,
   if e.k = 1 then p.m else i⟩
/-- Of one that is not known. -/
def Prd.new (e : Ent) : Prd := ⟨e.c, 0, -1, -1⟩
/-- By the first k entries. -/
def prdK (es : List Ent) (p : Int) : Nat → Option Prd
  | 0 => none
  | k + 1 => if (Ent.at es k).b = p then some (((prdK es p k).getD (Prd.new (Ent.at es k))).after (Ent.at es k) k) else prdK es p k


theorem openN_cases (es : List Ent) (p : Int) (n : Nat) : openN es p n = -1 ∨ ∃ k : Nat, k < n ∧ isTxn es p k ∧ openN es p n = k := by
  have hb := markK_bd es p n
  rcases scan_cases (P := isTxn es p) (n - (markK es p n + 1).toNat) (markK es p n + 1).toNat with e | ⟨k, h1, h2, h3, h4, h5⟩
  · exact .inl e
  · exact .inr ⟨k, by omega, h3, h5⟩
theorem openN_bd (es : List Ent) (p : Int) (n : Nat) : -1 ≤ openN es p n ∧ openN es p n < n := by
  rcases openN_cases es p n with e | ⟨k, h1, h2, h3⟩ <;> omega

theorem openN_data (es : List Ent) (p : Int) (k : Nat) (hm : ¬ ((Ent.at es k).b = p ∧ (Ent.at es k).k ≠ 1)) :
    openN es p (k + 1) = if openN es p k < 0 then (if isTxn es p k then (k : Int) else -1) else openN es p k := by
  have hb := markK_bd es p k
  have e1 : markK es p (k + 1) = markK es p k := by simp only [markK]; rw [if_neg hm]
  have e2 : k + 1 - (markK es p k + 1).toNat = (k - (markK es p k + 1).toNat) + 1 := by omega
  have e3 : (markK es p k + 1).toNat + (k - (markK es p k + 1).toNat) = k := by omega
  unfold openN
  rw [e1, e2, scan_snoc, e3]
theorem openN_mark (es : List Ent) (p : Int) (k : Nat) (hm : (Ent.at es k).b = p ∧ (Ent.at es k).k ≠ 1) : openN es p (k + 1) = -1 := by
  have e1 : markK es p (k + 1) = k := by simp only [markK]; rw [if_pos hm]
  unfold openN
  rw [e1]
  have : k + 1 - ((k : Int) + 1).toNat = 0 := by omega
  rw [this]
  rfl
theorem openN_other (es : List Ent) (p : Int) (k : Nat) (hm : (Ent.at es k).b ≠ p) : openN es p (k + 1) = openN es p k := by
  rw [openN_data es p k (fun h => hm h.1), if_neg (fun h : isTxn es p k => hm h.1)]
  have := openN_bd es p k
  split <;> omega

theorem prd_spec (es : List Ent) (p : Int) (k : Nat) :
    (prdK es p k = none → verK es p k = -1 ∧ seqK es p k = (-1, -1) ∧ markK es p k = -1 ∧ openN es p k = -1) ∧
    (∀ q, prdK es p k = some q → q.v = verK es p k ∧ q.v = (seqK es p k).2 ∧ q.n = (seqK es p k).1 + 1 ∧ q.m = markK es p k ∧ q.b = openN es p k) := by
  induction k with
  | zero => exact ⟨fun _ => ⟨rfl, rfl, rfl, rfl⟩, fun q h => by simp [prdK] at h⟩
  | succ k ih =>
    by_cases hp : (Ent.at es k).b = p
    · refine ⟨fun h => by simp [prdK, hp] at h, fun q h => ?_⟩
      simp only [prdK] at h
      rw [if_pos hp] at h
      obtain rfl := Option.some.inj h
      have e1 : verK es p (k + 1) = (Ent.at es k).c := by simp only [verK]; rw [if_pos hp]
      have e2 : seqK es p (k + 1) = (if (Ent.at es k).k = 1 then (Ent.at es k).d else if (Ent.at es k).c = (seqK es p k).2 then (seqK es p k).1 else -1, (Ent.at es k).c) := by
        show (if (Ent.at es k).b = p then _ else _) = _
        rw [if_pos hp]
      have e3 : markK es p (k + 1) = if (Ent.at es k).k ≠ 1 then (k : Int) else markK es p k := by
        simp only [markK]
        by_cases hk : (Ent.at es k).k = 1
        · rw [if_neg (fun h => h.2 hk), if_neg (by simp [hk])]
        · rw [if_pos ⟨hp, hk⟩, if_pos hk]
      have ob := openN_bd es p k
      have H : ∀ q0 : Prd, (q0.v = (Ent.at es k).c ∧ q0.n = 0 ∧ (seqK es p k) = (-1, -1) ∨ q0.v = (seqK es p k).2 ∧ q0.n = (seqK es p k).1 + 1) → q0.m = markK es p k → q0.b = openN es p k →
          (q0.after (Ent.at es k) k).v = verK es p (k + 1) ∧ (q0.after (Ent.at es k) k).v = (seqK es p (k + 1)).2 ∧ (q0.after (Ent.at es k) k).n = (seqK es p (k + 1)).1 + 1 ∧ (q0.after (Ent.at es k) k).m = markK es p (k + 1) ∧ (q0.after (Ent.at es k) k).b = openN es p (k + 1) := by
        intro q0 h1 h2 h3
        refine ⟨by rw [e1]; rfl, by rw [e2]; rfl, ?_, ?_, ?_⟩
        · rw [e2]
          show (if (Ent.at es k).k = 1 then (Ent.at es k).d + 1 else if (Ent.at es k).c = q0.v then q0.n else 0) = _
          by_cases hk : (Ent.at es k).k = 1
          · simp only [if_pos hk]
          · simp only [if_neg hk]
            rcases h1 with ⟨a1, a2, a3⟩ | ⟨a1, a2⟩
            · rw [a3, a1, a2]
              simp
            · rw [← a1, a2]
              split <;> simp
        · rw [e3]
          show (if (Ent.at es k).k = 1 then q0.m else (k : Int)) = _
          by_cases hk : (Ent.at es k).k = 1
          · rw [if_pos hk, if_neg (by simp [hk]), h2]
          · rw [if_neg hk, if_pos hk]
        · show (if (Ent.at es k).k = 1 then (if (Ent.at es k).t = true ∧ q0.b = -1 then (k : Int) else q0.b) else -1) = _
          by_cases hk : (Ent.at es k).k = 1
          · rw [openN_data es p k (fun h => h.2 hk), if_pos hk, h3]
            by_cases ht : (Ent.at es k).t = true
            · rw [if_pos (show isTxn es p k from ⟨hp, ht, hk⟩)]
              by_cases ho : openN es p k = -1
              · rw [if_pos ⟨ht, ho⟩, if_pos (by omega)]
              · rw [if_neg (fun h => ho h.2), if_neg (by omega)]
            · rw [if_neg (fun h => ht h.1), if_neg (fun h : isTxn es p k => ht h.2.1)]
              split <;> omega
          · rw [openN_mark es p k ⟨hp, hk⟩, if_neg hk]
      cases hq : prdK es p k with
      | none =>
        obtain ⟨_, a2, a3, a4⟩ := ih.1 hq
        exact H (Prd.new (Ent.at es k)) (.inl ⟨rfl, rfl, a2⟩) a3.symm a4.symm
      | some q0 =>
        obtain ⟨a1, a2, a3, a4, a5⟩ := ih.2 q0 hq
        exact H q0 (.inr ⟨a2, a3⟩) a4 a5
    · have e1 : verK es p (k + 1) = verK es p k := by simp only [verK]; rw [if_neg hp]
      have e2 : seqK es p (k + 1) = seqK es p k := by show (if (Ent.at es k).b = p then _ else _) = _; rw [if_neg hp]
      have e3 : markK es p (k + 1) = markK es p k := by simp only [markK]; rw [if_neg (fun h => hp h.1)]
      have e4 : prdK es p (k + 1) = prdK es p k := by simp only [prdK]; rw [if_neg hp]
      rw [e1, e2, e3, e4, openN_other es p k hp]
      exact ih

/-- What is told is within bounds. -/
def Prd.Ok (q : Prd) (k : Nat) : Prop := -1 ≤ q.v ∧ q.v ≤ 1073741824 ∧ 0 ≤ q.n ∧ q.n ≤ 1073741825 ∧ -1 ≤ q.b ∧ q.b < k ∧ -1 ≤ q.m ∧ q.m < k
theorem prd_ok {es : List Ent} (h : Plain es) (p : Int) (k : Nat) (hk : k ≤ es.length) (q : Prd) (hq : prdK es p k = some q) : q.Ok k := by
  obtain ⟨a1, a2, a3, a4, a5⟩ := (prd_spec es p k).2 q hq
  have b1 := verK_bd h p k hk
  have b2 := seqK_bd h p k hk
  have b3 := markK_bd es p k
  have b4 := openN_bd es p k
  refine ⟨?_, ?_, ?_, ?_, ?_, ?_, ?_, ?_⟩ <;> omega

/-- What is told of an entry's producer by all. -/
def prdOf (es : List Ent) (x : Ent) : Prd := (prdK es x.b es.length).getD (Prd.new x)

/-- Data that comes with the number n, or stands already. -/
def dataA (es : List Ent) (x : Ent) (n : Int) : Int × Int :=
  if x.d = n then (-1, 0)
  else if x.d < n ∧ 0 ≤ scan (isTwin es x) es.length 0 then (scan (isTwin es x) es.length 0, 0)
  else (0, 11)
/-- A mark. -/
def markA (es : List Ent) (x : Ent) (p : Prd) : Int × Int :=
  if p.b ≠ -1 ∨ p.m = -1 then (-1, 0)
  else if (Ent.at es p.m.toNat).k ≠ x.k ∨ (Ent.at es p.m.toNat).c ≠ x.c then (-1, 0)
  else (p.m, 0)

theorem chk_prd (es : List Ent) (x : Ent) (h0 : x.b ≠ 0) (hc : 0 ≤ x.c) (hd : 0 ≤ x.d) :
    chk es x = if x.c < (prdOf es x).v then (0, 10) else if x.k ≠ 1 then markA es x (prdOf es x) else if (prdOf es x).v < x.c then dataA es x 0 else dataA es x (prdOf es x).n := by
  unfold chk
  rw [if_neg h0]
  cases hq : prdK es x.b es.length with
  | none =>
    obtain ⟨a1, a2, a3, a4⟩ := (prd_spec es x.b es.length).1 hq
    have e : prdOf es x = Prd.new x := by unfold prdOf; rw [hq]; rfl
    rw [e, a1, a3]
    have hA : ¬ x.c < -1 := by omega
    have hB : ¬ x.c < (Prd.new x).v := by show ¬ x.c < x.c; omega
    have hC : ¬ (Prd.new x).v < x.c := hB
    rw [if_neg hA, if_neg hB]
    by_cases hk : x.k ≠ 1
    · rw [if_pos hk, if_pos hk]
      have hm : markA es x (Prd.new x) = (-1, 0) := by unfold markA; rw [if_pos (.inr rfl)]
      rw [hm, if_neg (fun h => absurd h.1 (by omega))]
    · rw [if_neg hk, if_neg hk, if_neg hC]
      show (let s := if x.c = -1 then (seqK es x.b es.length).1 else -1; if x.d = s + 1 then ((-1 : Int), (0 : Int)) else if s + 1 < x.d then (0, 11) else if scan (isTwin es x) es.length 0 < 0 then (0, 11) else (scan (isTwin es x) es.length 0, 0)) = dataA es x 0
      rw [if_neg (show ¬ x.c = -1 by omega)]
      unfold dataA
      by_cases h1 : x.d = 0
      · rw [if_pos (by omega), if_pos h1]
      · rw [if_neg (by omega), if_pos (by omega), if_neg h1, if_neg (by omega)]
  | some q =>
    obtain ⟨a1, a2, a3, a4, a5⟩ := (prd_spec es x.b es.length).2 q hq
    have e : prdOf es x = q := by unfold prdOf; rw [hq]; rfl
    rw [e, ← a1, ← a4, ← a5]
    have b3 := markK_bd es x.b es.length
    have b4 := openN_bd es x.b es.length
    by_cases hv : x.c < q.v
    · rw [if_pos hv, if_pos hv]
    · rw [if_neg hv, if_neg hv]
      by_cases hk : x.k ≠ 1
      · rw [if_pos hk, if_pos hk]
        unfold markA
        by_cases h1 : q.b ≠ -1 ∨ q.m = -1
        · rw [if_pos h1, if_neg (by omega)]
        · rw [if_neg h1]
          by_cases h2 : (Ent.at es q.m.toNat).k ≠ x.k ∨ (Ent.at es q.m.toNat).c ≠ x.c
          · rw [if_pos h2, if_neg (fun h => by rcases h2 with h2 | h2; exact h2 h.2.2.1; exact h2 h.2.2.2)]
          · rw [if_neg h2]
            have h3 : (Ent.at es q.m.toNat).k = x.k := Classical.byContradiction fun h => h2 (.inl h)
            have h4 : (Ent.at es q.m.toNat).c = x.c := Classical.byContradiction fun h => h2 (.inr h)
            rw [if_pos ⟨by omega, by omega, h3, h4⟩]
      · rw [if_neg hk, if_neg hk]
        have key : ∀ s : Int, (if x.d = s + 1 then ((-1 : Int), (0 : Int)) else if s + 1 < x.d then (0, 11) else if scan (isTwin es x) es.length 0 < 0 then (0, 11) else (scan (isTwin es x) es.length 0, 0)) = dataA es x (s + 1) := by
          intro s
          unfold dataA
          by_cases h1 : x.d = s + 1
          · rw [if_pos h1, if_pos h1]
          · rw [if_neg h1, if_neg h1]
            by_cases h2 : s + 1 < x.d
            · rw [if_pos h2, if_neg (by omega)]
            · rw [if_neg h2]
              by_cases h3 : scan (isTwin es x) es.length 0 < 0
              · rw [if_pos h3, if_neg (by omega)]
              · rw [if_neg h3, if_pos (by omega)]
        simp only
        rw [key]
        by_cases hc2 : x.c = q.v
        · rw [if_pos hc2, if_neg (by omega), a3]
        · rw [if_neg hc2, if_pos (by omega)]
          rfl

/-- By the first k entries, of all but nobody. -/
def prdM (es : List Ent) (k : Nat) (p : Int) : Option Prd := if p = 0 then none else prdK es p k
theorem stb_least {es : List Ent} (hp : Plain es) (h : Nat) (hh : h ≤ es.length) (e : Int) (h1 : e ≤ h) (h2 : ∀ p, p ≠ 0 → 0 ≤ openN es p h → e ≤ openN es p h)
    (h3 : e = h ∨ ∃ p, p ≠ 0 ∧ openN es p h = e ∧ 0 ≤ e) : e = stb es h := by
  have at_open : ∀ p, p ≠ 0 → 0 ≤ openN es p h → openN es p h = e → ∃ k : Nat, e = k ∧ k < h ∧ begins es h k := by
    intro p p0 hp' he
    rcases openN_cases es p h with e1 | ⟨k, k1, k2, k3⟩
    · omega
    · have hlt : k < es.length := by omega
      have hm := hp es[k] (List.getElem_mem hlt)
      rw [← at_get hlt] at hm
      have hb := k2.1
      refine ⟨k, by omega, k1, by omega, k2.2.2, k2.2.1, ?_⟩
      rw [hb]; exact k3
  unfold stb
  rcases scan_cases (P := begins es h) h 0 with e1 | ⟨k, k1, k2, k3, k4, k5⟩
  · rw [if_pos (by omega)]
    rcases h3 with h3 | ⟨p, p0, hp', h0⟩
    · exact h3
    · obtain ⟨k, rfl, g1, g2⟩ := at_open p p0 (by omega) hp'
      exact absurd g2 (scan_none.1 (show scan (begins es h) h 0 < 0 by omega) k (Nat.zero_le _) (by omega))
  · rw [if_neg (by omega), k5]
    have k30 := k3.1
    have hk := h2 (Ent.at es k).b (by omega) (by rw [k3.2.2.2]; omega)
    rw [k3.2.2.2] at hk
    rcases h3 with h3 | ⟨p, p0, hp', h0⟩
    · omega
    · obtain ⟨j, rfl, g1, g2⟩ := at_open p p0 (by omega) hp'
      rcases Nat.lt_or_ge j k with hjk | hjk
      · exact absurd g2 (k4 j (Nat.zero_le _) hjk)
      · omega

/-- The Kind of the entry at a place; 0: it is no place. -/
def kindAt (es : List Ent) (s : Int) : Int := if s < 0 then 0 else (Ent.at es s.toNat).k
/-- The Kind of a producer's next mark, from a place on, among the first h entries; 0: there is none. -/
def nextK (es : List Ent) (h : Nat) (p : Int) (i : Nat) : Int := kindAt es (scan (isMark es p) (h - i) i)
theorem nextK_step (es : List Ent) (h : Nat) (p : Int) (i : Nat) (hi : i < h) : nextK es h p i = if (Ent.at es i).b = p ∧ (Ent.at es i).k ≠ 1 then (Ent.at es i).k else nextK es h p (i + 1) := by
  unfold nextK
  have e : h - i = (h - (i + 1)) + 1 := by omega
  rw [e]
  by_cases hm : (Ent.at es i).b = p ∧ (Ent.at es i).k ≠ 1
  · have e2 : scan (isMark es p) (h - (i + 1) + 1) i = i := by simp only [scan]; rw [if_pos (show isMark es p i from hm)]
    rw [e2, if_pos hm]
    unfold kindAt
    rw [if_neg (by omega)]
    simp
  · have e2 : scan (isMark es p) (h - (i + 1) + 1) i = scan (isMark es p) (h - (i + 1)) (i + 1) := by simp only [scan]; rw [if_neg (show ¬ isMark es p i from hm)]
    rw [e2, if_neg hm]
theorem nextK_end (es : List Ent) (h : Nat) (p : Int) (i : Nat) (hi : h ≤ i) : nextK es h p i = 0 := by
  unfold nextK
  have e : h - i = 0 := by omega
  rw [e]
  rfl
theorem seen_next (es : List Ent) (h i : Nat) (hi : i < h) : seen es h i = (decide ((Ent.at es i).k = 1) && (!(Ent.at es i).t || decide (nextK es h (Ent.at es i).b i = 2))) := by
  by_cases hk : (Ent.at es i).k = 1
  · rw [nextK_step es h _ i hi, if_neg (fun h => h.2 hk)]
    cases ht : (Ent.at es i).t
    · unfold seen
      rw [if_neg (by simp [hk]), if_pos ht]
      simp [hk]
    · unfold seen nextK kindAt
      rw [if_neg (by simp [hk]), if_neg (by simp [ht])]
      by_cases hs : scan (isMark es (Ent.at es i).b) (h - (i + 1)) (i + 1) < 0
      · rw [if_pos hs, if_pos hs]
        simp
      · rw [if_neg hs, if_neg hs]
        simp [hk]
        rfl
  · unfold seen
    rw [if_pos hk]
    simp [hk]
/-- As package view takes it: nobody's ends nothing. -/
def nextD (es : List Ent) (h : Nat) (p : Int) (i : Nat) : Int := if p = 0 then 0 else nextK es h p i
theorem nextD_end (es : List Ent) (h : Nat) (p : Int) (i : Nat) (hi : h ≤ i) : nextD es h p i = 0 := by
  unfold nextD
  rw [nextK_end es h p i hi]
  split <;> rfl
theorem nextD_step (es : List Ent) (h : Nat) (p : Int) (i : Nat) (hi : i < h) : nextD es h p i = if p = (Ent.at es i).b ∧ (Ent.at es i).k ≠ 1 ∧ p ≠ 0 then (Ent.at es i).k else nextD es h p (i + 1) := by
  unfold nextD
  by_cases h0 : p = 0
  · rw [if_pos h0, if_pos h0, if_neg (fun h => h.2.2 h0)]
  · rw [if_neg h0, if_neg h0, nextK_step es h p i hi]
    by_cases hm : (Ent.at es i).b = p ∧ (Ent.at es i).k ≠ 1
    · rw [if_pos hm, if_pos ⟨hm.1.symm, hm.2, h0⟩]
    · rw [if_neg hm, if_neg (fun h => hm ⟨h.1.symm, h.2.1⟩)]
def seenD (es : List Ent) (h i : Nat) : Bool := decide ((Ent.at es i).k = 1) && (!(Ent.at es i).t || decide (nextD es h (Ent.at es i).b i = 2))
theorem seenD_eq {es : List Ent} (hn : NoTx es) (h i : Nat) (hi : i < h) (hh : h ≤ es.length) : seenD es h i = seen es h i := by
  rw [seen_next es h i hi]
  unfold seenD nextD
  by_cases h0 : (Ent.at es i).b = 0
  · have hlt : i < es.length := by omega
    have hz := hn es[i] (List.getElem_mem hlt)
    rw [← at_get hlt] at hz
    simp [hz h0]
  · rw [if_neg h0]
theorem seen_take (es : List Ent) (h i : Nat) (hi : i < h) (hh : h ≤ es.length) : seen (es.take h) h i = seen es h i := by
  unfold seen
  rw [at_take es h i hi]
  have e : scan (isMark (es.take h) (Ent.at es i).b) (h - (i + 1)) (i + 1) = scan (isMark es (Ent.at es i).b) (h - (i + 1)) (i + 1) := by
    apply scan_congr
    intro j j1 j2
    unfold isMark
    rw [at_take es h j (by omega)]
  rw [e]
  rcases scan_cases (P := isMark es (Ent.at es i).b) (h - (i + 1)) (i + 1) with e1 | ⟨k, k1, k2, k3, k4, k5⟩
  · rw [e1]
    simp
  · rw [k5]
    rw [Int.toNat_natCast, at_take es h k (by omega)]
end

section
open Go.RowKit Go.Maps
set_option linter.unusedVariables false
set_option linter.unusedSimpArgs false

theorem lawI : Keyed Try.prog 3 := int_keyed Try.underlying3
theorem wf_i (k : Int) (h : -9223372036854775808 ≤ k ∧ k ≤ 9223372036854775807) : (Lit.int .i64 k).wf = true := WalkArith.wf_i64 h
theorem key_i (k : Int) (h : -9223372036854775808 ≤ k ∧ k ≤ 9223372036854775807) : keyOf Try.prog 3 (.int .i64 k) = some (.int .i64 k) := keyOf_int_mk Try.underlying3 (wf_i k h)

/-- As a value. -/
def Prd.val (q : Prd) : Value := .agg #[.int .i64 q.v, .int .i64 q.n, .int .i64 q.b, .int .i64 q.m]
/-- As it reads. -/
def Prd.dat (q : Prd) : DataW Unit := .agg [.lit (.int .i64 q.v), .lit (.int .i64 q.n), .lit (.int .i64 q.b), .lit (.int .i64 q.m)]
def Prd.zero : Prd := ⟨0, 0, 0, 0⟩
/-- How an element reads. -/
def prdElem : Value → Option (DataW Unit × List MemPlace)
  | .agg ⟨[.int .i64 a, .int .i64 b, .int .i64 c, .int .i64 d]⟩ => some ((⟨a, b, c, d⟩ : Prd).dat, [])
  | _ => none
theorem prdElem_mk (q : Prd) : prdElem q.val = some (q.dat, []) := rfl
theorem dat_inj {q r : Prd} (h : q.dat = r.dat) : q = r := by
  obtain ⟨a, b, c, d⟩ := q
  obtain ⟨a', b', c', d'⟩ := r
  simp only [Prd.dat] at h
  injection h with h
  simp at h
  obtain ⟨rfl, rfl, rfl, rfl⟩ := h
  rfl
theorem prdElem_inv {v : Value} {y : DataW Unit × List MemPlace} (h : prdElem v = some y) : ∃ q : Prd, v = q.val ∧ y = (q.dat, []) := by
  unfold prdElem at h
  split at h
  · cases h
    exact ⟨⟨_, _, _, _⟩, rfl, rfl⟩
  · cases h

/-- Block b is a map that tells M of each number; at most n entries. -/
def MapP (w : World) (b n : Nat) (M : Int → Option Prd) : Prop :=
  ∃ D : DataW Unit, w.ownsMap Try.prog 3 prdElem b n D ∧ ∀ k : Int, -9223372036854775808 ≤ k → k ≤ 9223372036854775807 → Maps.has D (.int .i64 k) = (M k).isSome ∧ ∀ q, M k = some q → ∀ z, D.atKey (.int .i64 k) z = q.dat

theorem MapP.drewN {w : World} {b n : Nat} {M : Int → Option Prd} (h : MapP w b n M) (q : Nat) : MapP (w.drewN q) b n M := h
theorem MapP.lt {w : World} {b n : Nat} {M : Int → Option Prd} (h : MapP w b n M) : b < w.heap.size := by
  obtain ⟨D, h, _⟩ := h
  exact h.lt
theorem MapP.below {w w' : World} {b n C : Nat} {M : Int → Option Prd} (h : MapP w b n M) (hC : w.heap.size ≤ C) (hb : Below C w w') : MapP w' b n M := by
  obtain ⟨D, ⟨es, clock, h1, r⟩, h2⟩ := h
  have hlt : b < w.heap.size := (Array.getElem?_eq_some_iff.1 h1).1
  exact ⟨D, ⟨es, clock, by rw [hb.block b (by omega)]; exact h1, r⟩, h2⟩
theorem MapP.grown {w w' : World} {b n : Nat} {M : Int → Option Prd} {row : Option Nat} (h : MapP w b n M) (hg : w.grownBy w' row) (hr : some b ≠ row) : MapP w' b n M := by
  obtain ⟨D, h1, h2⟩ := h
  exact ⟨D, h1.kept hg hr, h2⟩
theorem mapP_new (w : World) (M : Int → Option Prd) (hM : ∀ k, M k = none) : MapP (w.alloc (.map #[] 0)) w.heap.size 0 M :=
  ⟨.map [], World.ownsMap_made _ _ _ _, fun k _ _ => ⟨by rw [hM]; rfl, fun q h => by rw [hM] at h; cases h⟩⟩

theorem zeroP (w : World) : (zeroValue 53).run Try.prog w = .ok Prd.zero.val w := by kernel_rfl

/-- What is looked up. -/
theorem MapP.look {w : World} {b n : Nat} {M : Int → Option Prd} (h : MapP w b n M) (k : Int) (hk : -9223372036854775808 ≤ k ∧ k ≤ 9223372036854775807) :
    (Instr.lookup 55 (.map (some b)) (.int .i64 k) true).run Try.prog w = .ok (.tuple #[((M k).getD Prd.zero).val, .bool (M k).isSome]) w := by
  obtain ⟨D, h1, h2⟩ := h
  obtain ⟨a1, a2⟩ := h2 k hk.1 hk.2
  obtain ⟨v, ps, hrun, hv⟩ := h1.look_ok lawI Try.underlying55 (zeroP w) (prdElem_mk Prd.zero) (key_i k hk)
  rw [hrun, a1]
  obtain ⟨q, rfl, hy⟩ := prdElem_inv hv
  simp only [Prod.mk.injEq] at hy
  cases hM : M k with
  | none =>
    rw [hM] at a1
    rw [atKey_of_not_has a1] at hy
    rw [← dat_inj hy.1]
    rfl
  | some q' =>
    rw [a2 q' hM] at hy
    rw [← dat_inj hy.1]
    rfl

/-- What is stored. -/
theorem MapP.store {w : World} {b n : Nat} {M : Int → Option Prd} (h : MapP w b n M) (hn : n < maxLen) (k : Int) (hk : -9223372036854775808 ≤ k ∧ k ≤ 9223372036854775807) (q : Prd) :
    ∃ w', (Instr.mapUpdate 55 (.map (some b)) (.int .i64 k) q.val).run Try.prog w = .ok () w' ∧ MapP w' b (n + 1) (fun j => if j = k then some q else M j) ∧ w.grownBy w' (some b) := by
  obtain ⟨D, h1, h2⟩ := h
  obtain ⟨w', hrun, hown, hg⟩ := h1.update lawI Try.underlying55 hn (key_i k hk) (prdElem_mk q)
  refine ⟨w', hrun, ⟨_, hown, fun j j1 j2 => ?_⟩, hg⟩
  by_cases hj : j = k
  · subst hj
    simp only [if_true]
    refine ⟨by rw [has_put_same h1.isMap (lawI.key (key_i j hk))]; rfl, fun q' hq z => ?_⟩
    obtain rfl := Option.some.inj hq
    exact atKey_put_same h1.isMap (lawI.key (key_i j hk)) _ _
  · have hne : Lit.int .i64 j ≠ Lit.int .i64 k := fun e => hj (by injection e)
    obtain ⟨a1, a2⟩ := h2 j j1 j2
    simp only [if_neg hj]
    exact ⟨by rw [has_put_other hne]; exact a1, fun q' hq z => by rw [atKey_put_other hne]; exact a2 q' hq z⟩

section
variable {w : World} {ops : Array Oper} {rest : List Oper} {o : Oper} {a : Act} {Q : Exit → Act → World → Prop}
theorem wp_storeP (hg : o.guard = none) (m x v : Operand) (hop : o.op = Op.mapUpdate 55 m x v) (b n : Nat) (M : Int → Option Prd) (hm : a.eval m = .map (some b)) (h : MapP w b n M) (hn : n < maxLen)
    (k : Int) (hx : a.eval x = .int .i64 k) (hk : -9223372036854775808 ≤ k ∧ k ≤ 9223372036854775807) (q : Prd) (hv : a.eval v = q.val)
    (hK : ∀ w', MapP w' b (n + 1) (fun j => if j = k then some q else M j) → w.grownBy w' (some b) → wpList Try.prog ops Q rest (a.put o.dst undef) w') :
    wpList Try.prog ops Q (o :: rest) a w := by
  refine wpList_plain hg fun K' hK' => ?_
  obtain ⟨w', hrun, r1, r2⟩ := h.store hn k hk q
  unfold Oper.wp
  simp [execOp, hop, hm, hx, hv, hrun, Result.andThen]
  exact hK' _ _ (hK w' r1 r2)
theorem wp_lookP (hg : o.guard = none) (m x : Operand) (hop : o.op = Op.lookup 55 m x true) (b n : Nat) (M : Int → Option Prd) (hm : a.eval m = .map (some b)) (h : MapP w b n M)
    (k : Int) (hx : a.eval x = .int .i64 k) (hk : -9223372036854775808 ≤ k ∧ k ≤ 9223372036854775807)
    (hK : wpList Try.prog ops Q rest (a.put o.dst (.tuple #[((M k).getD Prd.zero).val, .bool (M k).isSome])) w) :
    wpList Try.prog ops Q (o :: rest) a w := by
  refine wpList_plain hg fun K' hK' => ?_
  have hrun := h.look k hk
  unfold Oper.wp
  simp [execOp, hop, hm, hx, hrun, Result.andThen]
  exact hK' _ _ hK
end
end

section
open Go.RowKit Go.Maps
set_option linter.unusedVariables false
set_option linter.unusedSimpArgs false

set_option maxRecDepth 100000 in
set_option maxHeartbeats 400000 in
theorem isMarker_yes (a b c d k : Int) (t : Bool) (s : ByteArray) (w : World) (h : k = 2 ∨ k = 3) :
    Calls Try.prog 33 #[.agg #[.int .i64 a, .int .i64 b, .int .i64 c, .int .i64 d, .int .i64 k, .bool t, .string s]] w fun e w' => e = .returned (.bool true) ∧ Below w.heap.size w w' := by
  by_cases h2 : k = 2
  · have h2' : (k == 2) = true := by simp [h2]
    clear h h2
    go_enter Try.func33, Try.ntmps33
    go_wp2
    go_ret
    exact ⟨rfl, bbox _ _⟩
  · have h2' : (k == 2) = false := by simp [h2]
    have h3' : (k == 3) = true := by rcases h with h | h <;> simp [h] <;> omega
    clear h h2
    go_enter Try.func33, Try.ntmps33
    go_wp2
    go_ret
    exact ⟨rfl, bbox _ _⟩
set_option maxRecDepth 100000 in
set_option maxHeartbeats 400000 in
theorem isMarker_no (a b c d k : Int) (t : Bool) (s : ByteArray) (w : World) (h : k = 1) :
    Calls Try.prog 33 #[.agg #[.int .i64 a, .int .i64 b, .int .i64 c, .int .i64 d, .int .i64 k, .bool t, .string s]] w fun e w' => e = .returned (.bool false) ∧ Below w.heap.size w w' := by
  have h2' : (k == 2) = false := by simp [h]
  have h3' : (k == 3) = false := by simp [h]
  clear h
  go_enter Try.func33, Try.ntmps33
  go_wp2
  go_ret
  exact ⟨rfl, bbox _ _⟩

section
variable {w : World} {ops : Array Oper} {rest : List Oper} {o : Oper} {a : Act} {Q : Exit → Act → World → Prop}
theorem wp_lookP_some (hg : o.guard = none) (m x : Operand) (hop : o.op = Op.lookup 55 m x true) (b n : Nat) (M : Int → Option Prd) (hm : a.eval m = .map (some b)) (h : MapP w b n M)
    (k : Int) (hx : a.eval x = .int .i64 k) (hk : -9223372036854775808 ≤ k ∧ k ≤ 9223372036854775807) (q : Prd) (hq : M k = some q)
    (hK : wpList Try.prog ops Q rest (a.put o.dst (.tuple #[.agg #[.int .i64 q.v, .int .i64 q.n, .int .i64 q.b, .int .i64 q.m], .bool true])) w) :
    wpList Try.prog ops Q (o :: rest) a w := by
  refine wp_lookP hg m x hop b n M hm h k hx hk ?_
  rw [hq]
  exact hK
theorem wp_lookP_none (hg : o.guard = none) (m x : Operand) (hop : o.op = Op.lookup 55 m x true) (b n : Nat) (M : Int → Option Prd) (hm : a.eval m = .map (some b)) (h : MapP w b n M)
    (k : Int) (hx : a.eval x = .int .i64 k) (hk : -9223372036854775808 ≤ k ∧ k ≤ 9223372036854775807) (hq : M k = none)
    (hK : wpList Try.prog ops Q rest (a.put o.dst (.tuple #[.agg #[.int .i64 0, .int .i64 0, .int .i64 0, .int .i64 0], .bool false])) w) :
    wpList Try.prog ops Q (o :: rest) a w := by
  refine wp_lookP hg m x hop b n M hm h k hx hk ?_
  rw [hq]
  exact hK
end

set_option maxRecDepth 100000 in
set_option maxHeartbeats 400000 in
theorem find_any (b n : Nat) (M : Int → Option Prd) (x : Ent) (w : World) (h : MapP w b n M) (hx : -9223372036854775808 ≤ x.b ∧ x.b ≤ 9223372036854775807) :
    Calls Try.prog 31 #[.map (some b), .agg #[.int .i64 x.a, .int .i64 x.b, .int .i64 x.c, .int .i64 x.d, .int .i64 x.k, .bool x.t, .string x.s]] w fun e w' => e = .returned ((M x.b).getD (Prd.new x)).val ∧ Below w.heap.size w w' := by
  have H : Hid (MapP w b n M) := h
  have HX : Hid _ := hx
  clear h hx
  cases hM : M x.b with
  | some q =>
    have HM : Hid _ := hM
    clear hM
    go_enter Try.func31, Try.ntmps31
    go_wp2_with (at_lookup; refine wp_lookP_some rfl _ _ rfl b n M rfl (MapP.below H.out (Nat.le_refl _) (by repeat (first | exact Below.refl _ _ | refine Below.drew ?_ | refine Below.alloc ?_ (by simp) _))) _ rfl HX.out q HM.out ?_)
    refine bodyPost_ret (v := .agg #[.int .i64 q.v, .int .i64 q.n, .int .i64 q.b, .int .i64 q.m]) (by simp [results, Try.results31, go_sem]) rfl ⟨rfl, ?_⟩
    repeat (first | refine Below.setCell ?_ (by simp <;> omega) _ | refine Below.alloc ?_ (by simp <;> omega) _ | refine Below.drew ?_ | exact Below.refl _ _)
  | none =>
    have HM : Hid _ := hM
    clear hM
    go_enter Try.func31, Try.ntmps31
    go_wp2_with (at_lookup; refine wp_lookP_none rfl _ _ rfl b n M rfl (MapP.below H.out (Nat.le_refl _) (by repeat (first | exact Below.refl _ _ | refine Below.drew ?_ | refine Below.alloc ?_ (by simp) _))) _ rfl HX.out HM.out ?_)
    refine bodyPost_ret (v := .agg #[.int .i64 x.c, .int .i64 0, .int .i64 (-1), .int .i64 (-1)]) (by simp [results, Try.results31, go_sem]) rfl ⟨rfl, ?_⟩
    repeat (first | refine Below.setCell ?_ (by simp <;> omega) _ | refine Below.alloc ?_ (by simp <;> omega) _ | refine Below.drew ?_ | exact Below.refl _ _)

set_option maxRecDepth 100000 in
set_option maxHeartbeats 2000000 in
theorem after_raw (qv qn qb qm a b c d k i : Int) (t : Bool) (s : ByteArray) (w : World) (hk : k = 1 ∨ k = 2 ∨ k = 3) (hd0 : 0 ≤ d) (hd1 : d ≤ 1073741824) :
    Calls Try.prog 43 #[.agg #[.int .i64 qv, .int .i64 qn, .int .i64 qb, .int .i64 qm], .agg #[.int .i64 a, .int .i64 b, .int .i64 c, .int .i64 d, .int .i64 k, .bool t, .string s], .int .i64 i] w fun e w' =>
      e = .returned (.agg #[.int .i64 c, .int .i64 (if k = 1 then d + 1 else if c = qv then qn else 0), .int .i64 (if k = 1 then (if t = true ∧ qb = -1 then i else qb) else -1), .int .i64 (if k = 1 then qm else i)]) ∧ Below w.heap.size w w' := by
  by_cases hk1 : k = 1
  · have HK : Hid (k = 1) := hk1
    have hk' : (k == 1) = true := by simp [hk1]
    simp only [if_pos hk1]
    clear hk hk1
    by_cases hv : c = qv
    · have hv' : (c != qv) = false := by simp [hv]
      have HV : Hid (c = qv) := hv
      clear hv
      cases t with
      | false =>
        simp only [Bool.false_eq_true, false_and, if_false]
        go_enter Try.func43, Try.ntmps43
        go_wp2_with fail
        refine (isMarker_no _ _ _ _ _ _ _ _ HK.out).mono ?_
        rintro e w1 ⟨rfl, hb1⟩
        obtain ⟨hc, hf⟩ := bcell hb1
        have p0 : w1.cell? ⟨w.heap.size, 0, none⟩ = some (.int .i64 qv) := by rw [hc (w.heap.size) 0 (by simp <;> omega)]; simp [go_sem]
        have r0 : w1.cell? ⟨w.heap.size + 1 + 1, 0, none⟩ = some (.int .i64 0) := by rw [hc (w.heap.size + 1 + 1) 0 (by simp <;> omega)]; simp [go_sem]
        have fp0 : w1.frozen? ⟨w.heap.size, 0, none⟩ = false := by rw [hf (w.heap.size) 0 (by simp <;> omega)]; simp [go_sem]
        have fr0 : w1.frozen? ⟨w.heap.size + 1 + 1, 0, none⟩ = false := by rw [hf (w.heap.size + 1 + 1) 0 (by simp <;> omega)]; simp [go_sem]
        have p1 : w1.cell? ⟨w.heap.size, 1, none⟩ = some (.int .i64 qn) := by rw [hc (w.heap.size) 1 (by simp <;> omega)]; simp [go_sem]
        have r1 : w1.cell? ⟨w.heap.size + 1 + 1, 1, none⟩ = some (.int .i64 0) := by rw [hc (w.heap.size + 1 + 1) 1 (by simp <;> omega)]; simp [go_sem]
        have fp1 : w1.frozen? ⟨w.heap.size, 1, none⟩ = false := by rw [hf (w.heap.size) 1 (by simp <;> omega)]; simp [go_sem]
        have fr1 : w1.frozen? ⟨w.heap.size + 1 + 1, 1, none⟩ = false := by rw [hf (w.heap.size + 1 + 1) 1 (by simp <;> omega)]; simp [go_sem]
        have p2 : w1.cell? ⟨w.heap.size, 2, none⟩ = some (.int .i64 qb) := by rw [hc (w.heap.size) 2 (by simp <;> omega)]; simp [go_sem]
        have r2 : w1.cell? ⟨w.heap.size + 1 + 1, 2, none⟩ = some (.int .i64 0) := by rw [hc (w.heap.size + 1 + 1) 2 (by simp <;> omega)]; simp [go_sem]
        have fp2 : w1.frozen? ⟨w.heap.size, 2, none⟩ = false := by rw [hf (w.heap.size) 2 (by simp <;> omega)]; simp [go_sem]
        have fr2 : w1.frozen? ⟨w.heap.size + 1 + 1, 2, none⟩ = false := by rw [hf (w.heap.size + 1 + 1) 2 (by simp <;> omega)]; simp [go_sem]
        have p3 : w1.cell? ⟨w.heap.size, 3, none⟩ = some (.int .i64 qm) := by rw [hc (w.heap.size) 3 (by simp <;> omega)]; simp [go_sem]
        have r3 : w1.cell? ⟨w.heap.size + 1 + 1, 3, none⟩ = some (.int .i64 0) := by rw [hc (w.heap.size + 1 + 1) 3 (by simp <;> omega)]; simp [go_sem]
        have fp3 : w1.frozen? ⟨w.heap.size, 3, none⟩ = false := by rw [hf (w.heap.size) 3 (by simp <;> omega)]; simp [go_sem]
        have fr3 : w1.frozen? ⟨w.heap.size + 1 + 1, 3, none⟩ = false := by rw [hf (w.heap.size + 1 + 1) 3 (by simp <;> omega)]; simp [go_sem]
        have e3 : w1.cell? ⟨w.heap.size + 1, 3, none⟩ = some (.int .i64 d) := by rw [hc (w.heap.size + 1) 3 (by simp <;> omega)]; simp [go_sem]
        have e4 : w1.cell? ⟨w.heap.size + 1, 4, none⟩ = some (.int .i64 k) := by rw [hc (w.heap.size + 1) 4 (by simp <;> omega)]; simp [go_sem]
        have e5 : w1.cell? ⟨w.heap.size + 1, 5, none⟩ = some (.bool false) := by rw [hc (w.heap.size + 1) 5 (by simp <;> omega)]; simp [go_sem]
        clear hc hf
        have hz : w.heap.size + 1 + 1 + 1 ≤ w1.heap.size := by simpa using hb1.size
        have B1 : Below w.heap.size w w1 := Below.trans (by repeat (first | refine Below.setCell ?_ (by simp <;> omega) _ | refine Below.alloc ?_ (by simp <;> omega) _ | exact Below.refl _ _)) (hb1.mono (by simp <;> omega))
        clear hb1
        go_wp2
        refine bodyPost_ret (v := .agg #[.int .i64 qv, .int .i64 (d + 1), .int .i64 qb, .int .i64 qm]) (by simp [results, Try.results43, go_sem, hz, p0, p1, p2, p3, r0, r1, r2, r3]) rfl ⟨by rw [HV.out], ?_⟩
        repeat (first | refine Below.setCell ?_ (by simp <;> omega) _ | refine Below.alloc ?_ (by omega) _ | refine Below.drew ?_ | exact B1)
      | true =>
        by_cases hb : qb = -1
        · have hb' : (qb == -1) = true := by simp [hb]
          simp only [true_and, if_pos hb]
          clear hb
          go_enter Try.func43, Try.ntmps43
          go_wp2_with fail
          refine (isMarker_no _ _ _ _ _ _ _ _ HK.out).mono ?_
          rintro e w1 ⟨rfl, hb1⟩
          obtain ⟨hc, hf⟩ := bcell hb1
          have p0 : w1.cell? ⟨w.heap.size, 0, none⟩ = some (.int .i64 qv) := by rw [hc (w.heap.size) 0 (by simp <;> omega)]; simp [go_sem]
          have r0 : w1.cell? ⟨w.heap.size + 1 + 1, 0, none⟩ = some (.int .i64 0) := by rw [hc (w.heap.size + 1 + 1) 0 (by simp <;> omega)]; simp [go_sem]
          have fp0 : w1.frozen? ⟨w.heap.size, 0, none⟩ = false := by rw [hf (w.heap.size) 0 (by simp <;> omega)]; simp [go_sem]
          have fr0 : w1.frozen? ⟨w.heap.size + 1 + 1, 0, none⟩ = false := by rw [hf (w.heap.size + 1 + 1) 0 (by simp <;> omega)]; simp [go_sem]
          have p1 : w1.cell? ⟨w.heap.size, 1, none⟩ = some (.int .i64 qn) := by rw [hc (w.heap.size) 1 (by simp <;> omega)]; simp [go_sem]
          have r1 : w1.cell? ⟨w.heap.size + 1 + 1, 1, none⟩ = some (.int .i64 0) := by rw [hc (w.heap.size + 1 + 1) 1 (by simp <;> omega)]; simp [go_sem]
          have fp1 : w1.frozen? ⟨w.heap.size, 1, none⟩ = false := by rw [hf (w.heap.size) 1 (by simp <;> omega)]; simp [go_sem]
          have fr1 : w1.frozen? ⟨w.heap.size + 1 + 1, 1, none⟩ = false := by rw [hf (w.heap.size + 1 + 1) 1 (by simp <;> omega)]; simp [go_sem]
          have p2 : w1.cell? ⟨w.heap.size, 2, none⟩ = some (.int .i64 qb) := by rw [hc (w.heap.size) 2 (by simp <;> omega)]; simp [go_sem]
          have r2 : w1.cell? ⟨w.heap.size + 1 + 1, 2, none⟩ = some (.int .i64 0) := by rw [hc (w.heap.size + 1 + 1) 2 (by simp <;> omega)]; simp [go_sem]
          have fp2 : w1.frozen? ⟨w.heap.size, 2, none⟩ = false := by rw [hf (w.heap.size) 2 (by simp <;> omega)]; simp [go_sem]
          have fr2 : w1.frozen? ⟨w.heap.size + 1 + 1, 2, none⟩ = false := by rw [hf (w.heap.size + 1 + 1) 2 (by simp <;> omega)]; simp [go_sem]
          have p3 : w1.cell? ⟨w.heap.size, 3, none⟩ = some (.int .i64 qm) := by rw [hc (w.heap.size) 3 (by simp <;> omega)]; simp [go_sem]
          have r3 : w1.cell? ⟨w.heap.size + 1 + 1, 3, none⟩ = some (.int .i64 0) := by rw [hc (w.heap.size + 1 + 1) 3 (by simp <;> omega)]; simp [go_sem]
          have fp3 : w1.frozen? ⟨w.heap.size, 3, none⟩ = false := by rw [hf (w.heap.size) 3 (by simp <;> omega)]; simp [go_sem]
          have fr3 : w1.frozen? ⟨w.heap.size + 1 + 1, 3, none⟩ = false := by rw [hf (w.heap.size + 1 + 1) 3 (by simp <;> omega)]; simp [go_sem]
          have e3 : w1.cell? ⟨w.heap.size + 1, 3, none⟩ = some (.int .i64 d) := by rw [hc (w.heap.size + 1) 3 (by simp <;> omega)]; simp [go_sem]
          have e4 : w1.cell? ⟨w.heap.size + 1, 4, none⟩ = some (.int .i64 k) := by rw [hc (w.heap.size + 1) 4 (by simp <;> omega)]; simp [go_sem]
          have e5 : w1.cell? ⟨w.heap.size + 1, 5, none⟩ = some (.bool true) := by rw [hc (w.heap.size + 1) 5 (by simp <;> omega)]; simp [go_sem]
          clear hc hf
          have hz : w.heap.size + 1 + 1 + 1 ≤ w1.heap.size := by simpa using hb1.size
          have B1 : Below w.heap.size w w1 := Below.trans (by repeat (first | refine Below.setCell ?_ (by simp <;> omega) _ | refine Below.alloc ?_ (by simp <;> omega) _ | exact Below.refl _ _)) (hb1.mono (by simp <;> omega))
          clear hb1
          go_wp2
          refine bodyPost_ret (v := .agg #[.int .i64 qv, .int .i64 (d + 1), .int .i64 i, .int .i64 qm]) (by simp [results, Try.results43, go_sem, hz, p0, p1, p2, p3, r0, r1, r2, r3]) rfl ⟨by rw [HV.out], ?_⟩
          repeat (first | refine Below.setCell ?_ (by simp <;> omega) _ | refine Below.alloc ?_ (by omega) _ | refine Below.drew ?_ | exact B1)
        · have hb' : (qb == -1) = false := by simp [hb]
          simp only [true_and, if_neg hb]
          clear hb
          go_enter Try.func43, Try.ntmps43
          go_wp2_with fail
          refine (isMarker_no _ _ _ _ _ _ _ _ HK.out).mono ?_
          rintro e w1 ⟨rfl, hb1⟩
          obtain ⟨hc, hf⟩ := bcell hb1
          have p0 : w1.cell? ⟨w.heap.size, 0, none⟩ = some (.int .i64 qv) := by rw [hc (w.heap.size) 0 (by simp <;> omega)]; simp [go_sem]
          have r0 : w1.cell? ⟨w.heap.size + 1 + 1, 0, none⟩ = some (.int .i64 0) := by rw [hc (w.heap.size + 1 + 1) 0 (by simp <;> omega)]; simp [go_sem]
          have fp0 : w1.frozen? ⟨w.heap.size, 0, none⟩ = false := by rw [hf (w.heap.size) 0 (by simp <;> omega)]; simp [go_sem]
          have fr0 : w1.frozen? ⟨w.heap.size + 1 + 1, 0, none⟩ = false := by rw [hf (w.heap.size + 1 + 1) 0 (by simp <;> omega)]; simp [go_sem]
          have p1 : w1.cell? ⟨w.heap.size, 1, none⟩ = some (.int .i64 qn) := by rw [hc (w.heap.size) 1 (by simp <;> omega)]; simp [go_sem]
          have r1 : w1.cell? ⟨w.heap.size + 1 + 1, 1, none⟩ = some (.int .i64 0) := by rw [hc (w.heap.size + 1 + 1) 1 (by simp <;> omega)]; simp [go_sem]
          have fp1 : w1.frozen? ⟨w.heap.size, 1, none⟩ = false := by rw [hf (w.heap.size) 1 (by simp <;> omega)]; simp [go_sem]
          have fr1 : w1.frozen? ⟨w.heap.size + 1 + 1, 1, none⟩ = false := by rw [hf (w.heap.size + 1 + 1) 1 (by simp <;> omega)]; simp [go_sem]
          have p2 : w1.cell? ⟨w.heap.size, 2, none⟩ = some (.int .i64 qb) := by rw [hc (w.heap.size) 2 (by simp <;> omega)]; simp [go_sem]
          have r2 : w1.cell? ⟨w.heap.size + 1 + 1, 2, none⟩ = some (.int .i64 0) := by rw [hc (w.heap.size + 1 + 1) 2 (by simp <;> omega)]; simp [go_sem]
          have fp2 : w1.frozen? ⟨w.heap.size, 2, none⟩ = false := by rw [hf (w.heap.size) 2 (by simp <;> omega)]; simp [go_sem]
          have fr2 : w1.frozen? ⟨w.heap.size + 1 + 1, 2, none⟩ = false := by rw [hf (w.heap.size + 1 + 1) 2 (by simp <;> omega)]; simp [go_sem]
          have p3 : w1.cell? ⟨w.heap.size, 3, none⟩ = some (.int .i64 qm) := by rw [hc (w.heap.size) 3 (by simp <;> omega)]; simp [go_sem]
          have r3 : w1.cell? ⟨w.heap.size + 1 + 1, 3, none⟩ = some (.int .i64 0) := by rw [hc (w.heap.size + 1 + 1) 3 (by simp <;> omega)]; simp [go_sem]
          have fp3 : w1.frozen? ⟨w.heap.size, 3, none⟩ = false := by rw [hf (w.heap.size) 3 (by simp <;> omega)]; simp [go_sem]
          have fr3 : w1.frozen? ⟨w.heap.size + 1 + 1, 3, none⟩ = false := by rw [hf (w.heap.size + 1 + 1) 3 (by simp <;> omega)]; simp [go_sem]
          have e3 : w1.cell? ⟨w.heap.size + 1, 3, none⟩ = some (.int .i64 d) := by rw [hc (w.heap.size + 1) 3 (by simp <;> omega)]; simp [go_sem]
          have e4 : w1.cell? ⟨w.heap.size + 1, 4, none⟩ = some (.int .i64 k) := by rw [hc (w.heap.size + 1) 4 (by simp <;> omega)]; simp [go_sem]
          have e5 : w1.cell? ⟨w.heap.size + 1, 5, none⟩ = some (.bool true) := by rw [hc (w.heap.size + 1) 5 (by simp <;> omega)]; simp [go_sem]
          clear hc hf
          have hz : w.heap.size + 1 + 1 + 1 ≤ w1.heap.size := by simpa using hb1.size
          have B1 : Below w.heap.size w w1 := Below.trans (by repeat (first | refine Below.setCell ?_ (by simp <;> omega) _ | refine Below.alloc ?_ (by simp <;> omega) _ | exact Below.refl _ _)) (hb1.mono (by simp <;> omega))
          clear hb1
          go_wp2
          refine bodyPost_ret (v := .agg #[.int .i64 qv, .int .i64 (d + 1), .int .i64 qb, .int .i64 qm]) (by simp [results, Try.results43, go_sem, hz, p0, p1, p2, p3, r0, r1, r2, r3]) rfl ⟨by rw [HV.out], ?_⟩
          repeat (first | refine Below.setCell ?_ (by simp <;> omega) _ | refine Below.alloc ?_ (by omega) _ | refine Below.drew ?_ | exact B1)
    · have hv' : (c != qv) = true := by simp [hv]
      clear hv
      cases t with
      | false =>
        simp only [Bool.false_eq_true, false_and, if_false]
        go_enter Try.func43, Try.ntmps43
        go_wp2_with fail
        refine (isMarker_no _ _ _ _ _ _ _ _ HK.out).mono ?_
        rintro e w1 ⟨rfl, hb1⟩
        obtain ⟨hc, hf⟩ := bcell hb1
        have p0 : w1.cell? ⟨w.heap.size, 0, none⟩ = some (.int .i64 c) := by rw [hc (w.heap.size) 0 (by simp <;> omega)]; simp [go_sem]
        have r0 : w1.cell? ⟨w.heap.size + 1 + 1, 0, none⟩ = some (.int .i64 0) := by rw [hc (w.heap.size + 1 + 1) 0 (by simp <;> omega)]; simp [go_sem]
        have fp0 : w1.frozen? ⟨w.heap.size, 0, none⟩ = false := by rw [hf (w.heap.size) 0 (by simp <;> omega)]; simp [go_sem]
        have fr0 : w1.frozen? ⟨w.heap.size + 1 + 1, 0, none⟩ = false := by rw [hf (w.heap.size + 1 + 1) 0 (by simp <;> omega)]; simp [go_sem]
        have p1 : w1.cell? ⟨w.heap.size, 1, none⟩ = some (.int .i64 0) := by rw [hc (w.heap.size) 1 (by simp <;> omega)]; simp [go_sem]
        have r1 : w1.cell? ⟨w.heap.size + 1 + 1, 1, none⟩ = some (.int .i64 0) := by rw [hc (w.heap.size + 1 + 1) 1 (by simp <;> omega)]; simp [go_sem]
        have fp1 : w1.frozen? ⟨w.heap.size, 1, none⟩ = false := by rw [hf (w.heap.size) 1 (by simp <;> omega)]; simp [go_sem]
        have fr1 : w1.frozen? ⟨w.heap.size + 1 + 1, 1, none⟩ = false := by rw [hf (w.heap.size + 1 + 1) 1 (by simp <;> omega)]; simp [go_sem]
        have p2 : w1.cell? ⟨w.heap.size, 2, none⟩ = some (.int .i64 qb) := by rw [hc (w.heap.size) 2 (by simp <;> omega)]; simp [go_sem]
        have r2 : w1.cell? ⟨w.heap.size + 1 + 1, 2, none⟩ = some (.int .i64 0) := by rw [hc (w.heap.size + 1 + 1) 2 (by simp <;> omega)]; simp [go_sem]
        have fp2 : w1.frozen? ⟨w.heap.size, 2, none⟩ = false := by rw [hf (w.heap.size) 2 (by simp <;> omega)]; simp [go_sem]
        have fr2 : w1.frozen? ⟨w.heap.size + 1 + 1, 2, none⟩ = false := by rw [hf (w.heap.size + 1 + 1) 2 (by simp <;> omega)]; simp [go_sem]
        have p3 : w1.cell? ⟨w.heap.size, 3, none⟩ = some (.int .i64 qm) := by rw [hc (w.heap.size) 3 (by simp <;> omega)]; simp [go_sem]
        have r3 : w1.cell? ⟨w.heap.size + 1 + 1, 3, none⟩ = some (.int .i64 0) := by rw [hc (w.heap.size + 1 + 1) 3 (by simp <;> omega)]; simp [go_sem]
        have fp3 : w1.frozen? ⟨w.heap.size, 3, none⟩ = false := by rw [hf (w.heap.size) 3 (by simp <;> omega)]; simp [go_sem]
        have fr3 : w1.frozen? ⟨w.heap.size + 1 + 1, 3, none⟩ = false := by rw [hf (w.heap.size + 1 + 1) 3 (by simp <;> omega)]; simp [go_sem]
        have e3 : w1.cell? ⟨w.heap.size + 1, 3, none⟩ = some (.int .i64 d) := by rw [hc (w.heap.size + 1) 3 (by simp <;> omega)]; simp [go_sem]
        have e4 : w1.cell? ⟨w.heap.size + 1, 4, none⟩ = some (.int .i64 k) := by rw [hc (w.heap.size + 1) 4 (by simp <;> omega)]; simp [go_sem]
        have e5 : w1.cell? ⟨w.heap.size + 1, 5, none⟩ = some (.bool false) := by rw [hc (w.heap.size + 1) 5 (by simp <;> omega)]; simp [go_sem]
        clear hc hf
        have hz : w.heap.size + 1 + 1 + 1 ≤ w1.heap.size := by simpa using hb1.size
        have B1 : Below w.heap.size w w1 := Below.trans (by repeat (first | refine Below.setCell ?_ (by simp <;> omega) _ | refine Below.alloc ?_ (by simp <;> omega) _ | exact Below.refl _ _)) (hb1.mono (by simp <;> omega))
        clear hb1
        go_wp2
        refine bodyPost_ret (v := .agg #[.int .i64 c, .int .i64 (d + 1), .int .i64 qb, .int .i64 qm]) (by simp [results, Try.results43, go_sem, hz, p0, p1, p2, p3, r0, r1, r2, r3]) rfl ⟨rfl, ?_⟩
        repeat (first | refine Below.setCell ?_ (by simp <;> omega) _ | refine Below.alloc ?_ (by omega) _ | refine Below.drew ?_ | exact B1)
      | true =>
        by_cases hb : qb = -1
        · have hb' : (qb == -1) = true := by simp [hb]
          simp only [true_and, if_pos hb]
          clear hb
          go_enter Try.func43, Try.ntmps43
          go_wp2_with fail
          refine (isMarker_no _ _ _ _ _ _ _ _ HK.out).mono ?_
          rintro e w1 ⟨rfl, hb1⟩
          obtain ⟨hc, hf⟩ := bcell hb1
          have p0 : w1.cell? ⟨w.heap.size, 0, none⟩ = some (.int .i64 c) := by rw [hc (w.heap.size) 0 (by simp <;> omega)]; simp [go_sem]
          have r0 : w1.cell? ⟨w.heap.size + 1 + 1, 0, none⟩ = some (.int .i64 0) := by rw [hc (w.heap.size + 1 + 1) 0 (by simp <;> omega)]; simp [go_sem]
          have fp0 : w1.frozen? ⟨w.heap.size, 0, none⟩ = false := by rw [hf (w.heap.size) 0 (by simp <;> omega)]; simp [go_sem]
          have fr0 : w1.frozen? ⟨w.heap.size + 1 + 1, 0, none⟩ = false := by rw [hf (w.heap.size + 1 + 1) 0 (by simp <;> omega)]; simp [go_sem]
          have p1 : w1.cell? ⟨w.heap.size, 1, none⟩ = some (.int .i64 0) := by rw [hc (w.heap.size) 1 (by simp <;> omega)]; simp [go_sem]
          have r1 : w1.cell? ⟨w.heap.size + 1 + 1, 1, none⟩ = some (.int .i64 0) := by rw [hc (w.heap.size + 1 + 1) 1 (by simp <;> omega)]; simp [go_sem]
          have fp1 : w1.frozen? ⟨w.heap.size, 1, none⟩ = false := by rw [hf (w.heap.size) 1 (by simp <;> omega)]; simp [go_sem]
          have fr1 : w1.frozen? ⟨w.heap.size + 1 + 1, 1, none⟩ = false := by rw [hf (w.heap.size + 1 + 1) 1 (by simp <;> omega)]; simp [go_sem]
          have p2 : w1.cell? ⟨w.heap.size, 2, none⟩ = some (.int .i64 qb) := by rw [hc (w.heap.size) 2 (by simp <;> omega)]; simp [go_sem]
          have r2 : w1.cell? ⟨w.heap.size + 1 + 1, 2, none⟩ = some (.int .i64 0) := by rw [hc (w.heap.size + 1 + 1) 2 (by simp <;> omega)]; simp [go_sem]
          have fp2 : w1.frozen? ⟨w.heap.size, 2, none⟩ = false := by rw [hf (w.heap.size) 2 (by simp <;> omega)]; simp [go_sem]
          have fr2 : w1.frozen? ⟨w.heap.size + 1 + 1, 2, none⟩ = false := by rw [hf (w.heap.size + 1 + 1) 2 (by simp <;> omega)]; simp [go_sem]
          have p3 : w1.cell? ⟨w.heap.size, 3, none⟩ = some (.int .i64 qm) := by rw [hc (w.heap.size) 3 (by simp <;> omega)]; simp [go_sem]
          have r3 : w1.cell? ⟨w.heap.size + 1 + 1, 3, none⟩ = some (.int .i64 0) := by rw [hc (w.heap.size + 1 + 1) 3 (by simp <;> omega)]; simp [go_sem]
          have fp3 : w1.frozen? ⟨w.heap.size, 3, none⟩ = false := by rw [hf (w.heap.size) 3 (by simp <;> omega)]; simp [go_sem]
          have fr3 : w1.frozen? ⟨w.heap.size + 1 + 1, 3, none⟩ = false := by rw [hf (w.heap.size + 1 + 1) 3 (by simp <;> omega)]; simp [go_sem]
          have e3 : w1.cell? ⟨w.heap.size + 1, 3, none⟩ = some (.int .i64 d) := by rw [hc (w.heap.size + 1) 3 (by simp <;> omega)]; simp [go_sem]
          have e4 : w1.cell? ⟨w.heap.size + 1, 4, none⟩ = some (.int .i64 k) := by rw [hc (w.heap.size + 1) 4 (by simp <;> omega)]; simp [go_sem]
          have e5 : w1.cell? ⟨w.heap.size + 1, 5, none⟩ = some (.bool true) := by rw [hc (w.heap.size + 1) 5 (by simp <;> omega)]; simp [go_sem]
          clear hc hf
          have hz : w.heap.size + 1 + 1 + 1 ≤ w1.heap.size := by simpa using hb1.size
          have B1 : Below w.heap.size w w1 := Below.trans (by repeat (first | refine Below.setCell ?_ (by simp <;> omega) _ | refine Below.alloc ?_ (by simp <;> omega) _ | exact Below.refl _ _)) (hb1.mono (by simp <;> omega))
          clear hb1
          go_wp2
          refine bodyPost_ret (v := .agg #[.int .i64 c, .int .i64 (d + 1), .int .i64 i, .int .i64 qm]) (by simp [results, Try.results43, go_sem, hz, p0, p1, p2, p3, r0, r1, r2, r3]) rfl ⟨rfl, ?_⟩
          repeat (first | refine Below.setCell ?_ (by simp <;> omega) _ | refine Below.alloc ?_ (by omega) _ | refine Below.drew ?_ | exact B1)
        · have hb' : (qb == -1) = false := by simp [hb]
          simp only [true_and, if_neg hb]
          clear hb
          go_enter Try.func43, Try.ntmps43
          go_wp2_with fail
          refine (isMarker_no _ _ _ _ _ _ _ _ HK.out).mono ?_
          rintro e w1 ⟨rfl, hb1⟩
          obtain ⟨hc, hf⟩ := bcell hb1
          have p0 : w1.cell? ⟨w.heap.size, 0, none⟩ = some (.int .i64 c) := by rw [hc (w.heap.size) 0 (by simp <;> omega)]; simp [go_sem]
          have r0 : w1.cell? ⟨w.heap.size + 1 + 1, 0, none⟩ = some (.int .i64 0) := by rw [hc (w.heap.size + 1 + 1) 0 (by simp <;> omega)]; simp [go_sem]
          have fp0 : w1.frozen? ⟨w.heap.size, 0, none⟩ = false := by rw [hf (w.heap.size) 0 (by simp <;> omega)]; simp [go_sem]
          have fr0 : w1.frozen? ⟨w.heap.size + 1 + 1, 0, none⟩ = false := by rw [hf (w.heap.size + 1 + 1) 0 (by simp <;> omega)]; simp [go_sem]
          have p1 : w1.cell? ⟨w.heap.size, 1, none⟩ = some (.int .i64 0) := by rw [hc (w.heap.size) 1 (by simp <;> omega)]; simp [go_sem]
          have r1 : w1.cell? ⟨w.heap.size + 1 + 1, 1, none⟩ = some (.int .i64 0) := by rw [hc (w.heap.size + 1 + 1) 1 (by simp <;> omega)]; simp [go_sem]
          have fp1 : w1.frozen? ⟨w.heap.size, 1, none⟩ = false := by rw [hf (w.heap.size) 1 (by simp <;> omega)]; simp [go_sem]
          have fr1 : w1.frozen? ⟨w.heap.size + 1 + 1, 1, none⟩ = false := by rw [hf (w.heap.size + 1 + 1) 1 (by simp <;> omega)]; simp [go_sem]
          have p2 : w1.cell? ⟨w.heap.size, 2, none⟩ = some (.int .i64 qb) := by rw [hc (w.heap.size) 2 (by simp <;> omega)]; simp [go_sem]
          have r2 : w1.cell? ⟨w.heap.size + 1 + 1, 2, none⟩ = some (.int .i64 0) := by rw [hc (w.heap.size + 1 + 1) 2 (by simp <;> omega)]; simp [go_sem]
          have fp2 : w1.frozen? ⟨w.heap.size, 2, none⟩ = false := by rw [hf (w.heap.size) 2 (by simp <;> omega)]; simp [go_sem]
          have fr2 : w1.frozen? ⟨w.heap.size + 1 + 1, 2, none⟩ = false := by rw [hf (w.heap.size + 1 + 1) 2 (by simp <;> omega)]; simp [go_sem]
          have p3 : w1.cell? ⟨w.heap.size, 3, none⟩ = some (.int .i64 qm) := by rw [hc (w.heap.size) 3 (by simp <;> omega)]; simp [go_sem]
          have r3 : w1.cell? ⟨w.heap.size + 1 + 1, 3, none⟩ = some (.int .i64 0) := by rw [hc (w.heap.size + 1 + 1) 3 (by simp <;> omega)]; simp [go_sem]
          have fp3 : w1.frozen? ⟨w.heap.size, 3, none⟩ = false := by rw [hf (w.heap.size) 3 (by simp <;> omega)]; simp [go_sem]
          have fr3 : w1.frozen? ⟨w.heap.size + 1 + 1, 3, none⟩ = false := by rw [hf (w.heap.size + 1 + 1) 3 (by simp <;> omega)]; simp [go_sem]
          have e3 : w1.cell? ⟨w.heap.size + 1, 3, none⟩ = some (.int .i64 d) := by rw [hc (w.heap.size + 1) 3 (by simp <;> omega)]; simp [go_sem]
          have e4 : w1.cell? ⟨w.heap.size + 1, 4, none⟩ = some (.int .i64 k) := by rw [hc (w.heap.size + 1) 4 (by simp <;> omega)]; simp [go_sem]
          have e5 : w1.cell? ⟨w.heap.size + 1, 5, none⟩ = some (.bool true) := by rw [hc (w.heap.size + 1) 5 (by simp <;> omega)]; simp [go_sem]
          clear hc hf
          have hz : w.heap.size + 1 + 1 + 1 ≤ w1.heap.size := by simpa using hb1.size
          have B1 : Below w.heap.size w w1 := Below.trans (by repeat (first | refine Below.setCell ?_ (by simp <;> omega) _ | refine Below.alloc ?_ (by simp <;> omega) _ | exact Below.refl _ _)) (hb1.mono (by simp <;> omega))
          clear hb1
          go_wp2
          refine bodyPost_ret (v := .agg #[.int .i64 c, .int .i64 (d + 1), .int .i64 qb, .int .i64 qm]) (by simp [results, Try.results43, go_sem, hz, p0, p1, p2, p3, r0, r1, r2, r3]) rfl ⟨rfl, ?_⟩
          repeat (first | refine Below.setCell ?_ (by simp <;> omega) _ | refine Below.alloc ?_ (by omega) _ | refine Below.drew ?_ | exact B1)
  · have HK : Hid (k = 2 ∨ k = 3) := show _ ∨ _ by omega
    have hk' : (k == 1) = false := by simp [hk1]
    simp only [if_neg hk1]
    clear hk hk1
    by_cases hv : c = qv
    · have hv' : (c != qv) = false := by simp [hv]
      have HV : Hid (c = qv) := hv
      simp only [if_pos hv]
      clear hv
      go_enter Try.func43, Try.ntmps43
      go_wp2_with fail
      refine (isMarker_yes _ _ _ _ _ _ _ _ HK.out).mono ?_
      rintro e w1 ⟨rfl, hb1⟩
      obtain ⟨hc, hf⟩ := bcell hb1
      have p0 : w1.cell? ⟨w.heap.size, 0, none⟩ = some (.int .i64 qv) := by rw [hc (w.heap.size) 0 (by simp <;> omega)]; simp [go_sem]
      have r0 : w1.cell? ⟨w.heap.size + 1 + 1, 0, none⟩ = some (.int .i64 0) := by rw [hc (w.heap.size + 1 + 1) 0 (by simp <;> omega)]; simp [go_sem]
      have fp0 : w1.frozen? ⟨w.heap.size, 0, none⟩ = false := by rw [hf (w.heap.size) 0 (by simp <;> omega)]; simp [go_sem]
      have fr0 : w1.frozen? ⟨w.heap.size + 1 + 1, 0, none⟩ = false := by rw [hf (w.heap.size + 1 + 1) 0 (by simp <;> omega)]; simp [go_sem]
      have p1 : w1.cell? ⟨w.heap.size, 1, none⟩ = some (.int .i64 qn) := by rw [hc (w.heap.size) 1 (by simp <;> omega)]; simp [go_sem]
      have r1 : w1.cell? ⟨w.heap.size + 1 + 1, 1, none⟩ = some (.int .i64 0) := by rw [hc (w.heap.size + 1 + 1) 1 (by simp <;> omega)]; simp [go_sem]
      have fp1 : w1.frozen? ⟨w.heap.size, 1, none⟩ = false := by rw [hf (w.heap.size) 1 (by simp <;> omega)]; simp [go_sem]
      have fr1 : w1.frozen? ⟨w.heap.size + 1 + 1, 1, none⟩ = false := by rw [hf (w.heap.size + 1 + 1) 1 (by simp <;> omega)]; simp [go_sem]
      have p2 : w1.cell? ⟨w.heap.size, 2, none⟩ = some (.int .i64 qb) := by rw [hc (w.heap.size) 2 (by simp <;> omega)]; simp [go_sem]
      have r2 : w1.cell? ⟨w.heap.size + 1 + 1, 2, none⟩ = some (.int .i64 0) := by rw [hc (w.heap.size + 1 + 1) 2 (by simp <;> omega)]; simp [go_sem]
      have fp2 : w1.frozen? ⟨w.heap.size, 2, none⟩ = false := by rw [hf (w.heap.size) 2 (by simp <;> omega)]; simp [go_sem]
      have fr2 : w1.frozen? ⟨w.heap.size + 1 + 1, 2, none⟩ = false := by rw [hf (w.heap.size + 1 + 1) 2 (by simp <;> omega)]; simp [go_sem]
      have p3 : w1.cell? ⟨w.heap.size, 3, none⟩ = some (.int .i64 qm) := by rw [hc (w.heap.size) 3 (by simp <;> omega)]; simp [go_sem]
      have r3 : w1.cell? ⟨w.heap.size + 1 + 1, 3, none⟩ = some (.int .i64 0) := by rw [hc (w.heap.size + 1 + 1) 3 (by simp <;> omega)]; simp [go_sem]
      have fp3 : w1.frozen? ⟨w.heap.size, 3, none⟩ = false := by rw [hf (w.heap.size) 3 (by simp <;> omega)]; simp [go_sem]
      have fr3 : w1.frozen? ⟨w.heap.size + 1 + 1, 3, none⟩ = false := by rw [hf (w.heap.size + 1 + 1) 3 (by simp <;> omega)]; simp [go_sem]
      have e3 : w1.cell? ⟨w.heap.size + 1, 3, none⟩ = some (.int .i64 d) := by rw [hc (w.heap.size + 1) 3 (by simp <;> omega)]; simp [go_sem]
      have e4 : w1.cell? ⟨w.heap.size + 1, 4, none⟩ = some (.int .i64 k) := by rw [hc (w.heap.size + 1) 4 (by simp <;> omega)]; simp [go_sem]
      have e5 : w1.cell? ⟨w.heap.size + 1, 5, none⟩ = some (.bool t) := by rw [hc (w.heap.size + 1) 5 (by simp <;> omega)]; simp [go_sem]
      clear hc hf
      have hz : w.heap.size + 1 + 1 + 1 ≤ w1.heap.size := by simpa using hb1.size
      have B1 : Below w.heap.size w w1 := Below.trans (by repeat (first | refine Below.setCell ?_ (by simp <;> omega) _ | refine Below.alloc ?_ (by simp <;> omega) _ | exact Below.refl _ _)) (hb1.mono (by simp <;> omega))
      clear hb1
      go_wp2
      refine bodyPost_ret (v := .agg #[.int .i64 qv, .int .i64 qn, .int .i64 (-1), .int .i64 i]) (by simp [results, Try.results43, go_sem, hz, p0, p1, p2, p3, r0, r1, r2, r3]) rfl ⟨by rw [HV.out], ?_⟩
      repeat (first | refine Below.setCell ?_ (by simp <;> omega) _ | refine Below.alloc ?_ (by omega) _ | refine Below.drew ?_ | exact B1)
    · have hv' : (c != qv) = true := by simp [hv]
      simp only [if_neg hv]
      clear hv
      go_enter Try.func43, Try.ntmps43
      go_wp2_with fail
      refine (isMarker_yes _ _ _ _ _ _ _ _ HK.out).mono ?_
      rintro e w1 ⟨rfl, hb1⟩
      obtain ⟨hc, hf⟩ := bcell hb1
      have p0 : w1.cell? ⟨w.heap.size, 0, none⟩ = some (.int .i64 c) := by rw [hc (w.heap.size) 0 (by simp <;> omega)]; simp [go_sem]
      have r0 : w1.cell? ⟨w.heap.size + 1 + 1, 0, none⟩ = some (.int .i64 0) := by rw [hc (w.heap.size + 1 + 1) 0 (by simp <;> omega)]; simp [go_sem]
      have fp0 : w1.frozen? ⟨w.heap.size, 0, none⟩ = false := by rw [hf (w.heap.size) 0 (by simp <;> omega)]; simp [go_sem]
      have fr0 : w1.frozen? ⟨w.heap.size + 1 + 1, 0, none⟩ = false := by rw [hf (w.heap.size + 1 + 1) 0 (by simp <;> omega)]; simp [go_sem]
      have p1 : w1.cell? ⟨w.heap.size, 1, none⟩ = some (.int .i64 0) := by rw [hc (w.heap.size) 1 (by simp <;> omega)]; simp [go_sem]
      have r1 : w1.cell? ⟨w.heap.size + 1 + 1, 1, none⟩ = some (.int .i64 0) := by rw [hc (w.heap.size + 1 + 1) 1 (by simp <;> omega)]; simp [go_sem]
      have fp1 : w1.frozen? ⟨w.heap.size, 1, none⟩ = false := by rw [hf (w.heap.size) 1 (by simp <;> omega)]; simp [go_sem]
      have fr1 : w1.frozen? ⟨w.heap.size + 1 + 1, 1, none⟩ = false := by rw [hf (w.heap.size + 1 + 1) 1 (by simp <;> omega)]; simp [go_sem]
      have p2 : w1.cell? ⟨w.heap.size, 2, none⟩ = some (.int .i64 qb) := by rw [hc (w.heap.size) 2 (by simp <;> omega)]; simp [go_sem]
      have r2 : w1.cell? ⟨w.heap.size + 1 + 1, 2, none⟩ = some (.int .i64 0) := by rw [hc (w.heap.size + 1 + 1) 2 (by simp <;> omega)]; simp [go_sem]
      have fp2 : w1.frozen? ⟨w.heap.size, 2, none⟩ = false := by rw [hf (w.heap.size) 2 (by simp <;> omega)]; simp [go_sem]
      have fr2 : w1.frozen? ⟨w.heap.size + 1 + 1, 2, none⟩ = false := by rw [hf (w.heap.size + 1 + 1) 2 (by simp <;> omega)]; simp [go_sem]
      have p3 : w1.cell? ⟨w.heap.size, 3, none⟩ = some (.int .i64 qm) := by rw [hc (w.heap.size) 3 (by simp <;> omega)]; simp [go_sem]
      have r3 : w1.cell? ⟨w.heap.size + 1 + 1, 3, none⟩ = some (.int .i64 0) := by rw [hc (w.heap.size + 1 + 1) 3 (by simp <;> omega)]; simp [go_sem]
      have fp3 : w1.frozen? ⟨w.heap.size, 3, none⟩ = false := by rw [hf (w.heap.size) 3 (by simp <;> omega)]; simp [go_sem]
      have fr3 : w1.frozen? ⟨w.heap.size + 1 + 1, 3, none⟩ = false := by rw [hf (w.heap.size + 1 + 1) 3 (by simp <;> omega)]; simp [go_sem]
      have e3 : w1.cell? ⟨w.heap.size + 1, 3, none⟩ = some (.int .i64 d) := by rw [hc (w.heap.size + 1) 3 (by simp <;> omega)]; simp [go_sem]
      have e4 : w1.cell? ⟨w.heap.size + 1, 4, none⟩ = some (.int .i64 k) := by rw [hc (w.heap.size + 1) 4 (by simp <;> omega)]; simp [go_sem]
      have e5 : w1.cell? ⟨w.heap.size + 1, 5, none⟩ = some (.bool t) := by rw [hc (w.heap.size + 1) 5 (by simp <;> omega)]; simp [go_sem]
      clear hc hf
      have hz : w.heap.size + 1 + 1 + 1 ≤ w1.heap.size := by simpa using hb1.size
      have B1 : Below w.heap.size w w1 := Below.trans (by repeat (first | refine Below.setCell ?_ (by simp <;> omega) _ | refine Below.alloc ?_ (by simp <;> omega) _ | exact Below.refl _ _)) (hb1.mono (by simp <;> omega))
      clear hb1
      go_wp2
      refine bodyPost_ret (v := .agg #[.int .i64 c, .int .i64 0, .int .i64 (-1), .int .i64 i]) (by simp [results, Try.results43, go_sem, hz, p0, p1, p2, p3, r0, r1, r2, r3]) rfl ⟨rfl, ?_⟩
      repeat (first | refine Below.setCell ?_ (by simp <;> omega) _ | refine Below.alloc ?_ (by omega) _ | refine Below.drew ?_ | exact B1)

theorem after_any (q : Prd) (x : Ent) (i : Int) (w : World) (hk : x.k = 1 ∨ x.k = 2 ∨ x.k = 3) (hd : 0 ≤ x.d ∧ x.d ≤ 1073741824) :
    Calls Try.prog 43 #[q.val, .agg #[.int .i64 x.a, .int .i64 x.b, .int .i64 x.c, .int .i64 x.d, .int .i64 x.k, .bool x.t, .string x.s], .int .i64 i] w fun e w' => e = .returned (q.after x i).val ∧ Below w.heap.size w w' :=
  after_raw q.v q.n q.b q.m x.a x.b x.c x.d x.k i x.t x.s w hk hd.1 hd.2
end

section
open Go.RowKit Go.Maps
set_option linter.unusedVariables false
set_option linter.unusedSimpArgs false

/-- Seven cells that hold an entry. -/
def Box7 (w : World) (g : Nat) (x : Ent) : Prop := w.cell? ⟨g, 0, none⟩ = some (.int .i64 x.a) ∧ w.cell? ⟨g, 1, none⟩ = some (.int .i64 x.b) ∧ w.cell? ⟨g, 2, none⟩ = some (.int .i64 x.c) ∧ w.cell? ⟨g, 3, none⟩ = some (.int .i64 x.d) ∧ w.cell? ⟨g, 4, none⟩ = some (.int .i64 x.k) ∧ w.cell? ⟨g, 5, none⟩ = some (.bool x.t) ∧ w.cell? ⟨g, 6, none⟩ = some (.string x.s)
theorem Box7.below {w w' : World} {g C : Nat} {x : Ent} (h : Box7 w g x) (hg : g < C) (hb : Below C w w') : Box7 w' g x := by
  obtain ⟨a0, a1, a2, a3, a4, a5, a6⟩ := h
  exact ⟨(hb.cell (p := ⟨g, 0, none⟩) hg).trans a0, (hb.cell (p := ⟨g, 1, none⟩) hg).trans a1, (hb.cell (p := ⟨g, 2, none⟩) hg).trans a2, (hb.cell (p := ⟨g, 3, none⟩) hg).trans a3, (hb.cell (p := ⟨g, 4, none⟩) hg).trans a4, (hb.cell (p := ⟨g, 5, none⟩) hg).trans a5, (hb.cell (p := ⟨g, 6, none⟩) hg).trans a6⟩
theorem Box7.grown {w w' : World} {g b : Nat} {x : Ent} (h : Box7 w g x) (hg : w.grownBy w' (some b)) (hne : g ≠ b) (hlt : g < w.heap.size) : Box7 w' g x := by
  have e : ∀ o, w'.cell? ⟨g, o, none⟩ = w.cell? ⟨g, o, none⟩ := fun o => by
    simp only [World.cell?]
    rw [hg.block g hlt (fun e => hne (by injection e))]
  obtain ⟨a0, a1, a2, a3, a4, a5, a6⟩ := h
  exact ⟨(e _).trans a0, (e _).trans a1, (e _).trans a2, (e _).trans a3, (e _).trans a4, (e _).trans a5, (e _).trans a6⟩
theorem box7_new (w : World) (x : Ent) (T : TypeId) : Box7 (w.alloc (.cells #[.int .i64 x.a, .int .i64 x.b, .int .i64 x.c, .int .i64 x.d, .int .i64 x.k, .bool x.t, .string x.s] T)) w.heap.size x :=
  ⟨by simp, by simp, by simp, by simp, by simp, by simp, by simp⟩

theorem prdM_step (es : List Ent) (k : Nat) (h0 : (Ent.at es k).b ≠ 0) : prdM es (k + 1) = fun j => if j = (Ent.at es k).b then some (((prdM es k (Ent.at es k).b).getD (Prd.new (Ent.at es k))).after (Ent.at es k) k) else prdM es k j := by
  funext p
  unfold prdM
  by_cases hp : p = 0
  · subst hp
    rw [if_pos rfl, if_neg (fun e => h0 e.symm), if_pos rfl]
  · rw [if_neg hp, if_neg hp, if_neg h0]
    simp only [prdK]
    by_cases h : p = (Ent.at es k).b
    · subst h; simp
    · rw [if_neg (fun e => h e.symm), if_neg h]
theorem prdM_skip (es : List Ent) (k : Nat) (h0 : (Ent.at es k).b = 0) : prdM es (k + 1) = prdM es k := by
  funext p
  unfold prdM
  by_cases hp : p = 0
  · rw [if_pos hp, if_pos hp]
  · rw [if_neg hp, if_neg hp]
    simp only [prdK]
    rw [if_neg (fun e => hp (by omega))]

set_option maxRecDepth 100000 in
set_option maxHeartbeats 1000000 in
theorem producers_some (es : List Ent) (g off cap : Nat) (w : World) (hl : (es.length : Int) ≤ 2199023255552) (hp : Plain es)
    (hc : ∀ i, (h : i < es.length) → ∀ j, j < 7 → w.cell? ⟨g, off + i * 7 + j, none⟩ = (es[i]'h).cells[j]?) (h0 : 0 < es.length) :
    Calls Try.prog 32 #[.slice (some ⟨g, off, none⟩) es.length cap] w fun e w' => e = .returned (.map (some w.heap.size)) ∧ (∃ n, n ≤ es.length ∧ MapP w' w.heap.size n (prdM es es.length)) ∧ Below w.heap.size w w' := by
  have hglt : g < w.heap.size := by
    have := hc 0 h0 0 (by omega)
    exact cell_lt (v := .int .i64 (es[0]'h0).a) (by simpa [Ent.cells] using this)
  have HC : Hid _ := hc
  have HP : Hid (Plain es) := hp
  clear hc hp
  have hmm := @run_makeMap Try.prog
  go_enter Try.func32, Try.ntmps32
  go_wp2
  go_loopw [9] (fun i wr => ∃ k n : Nat, k ≤ es.length ∧ n ≤ k ∧ i = .int .i64 k ∧ MapP wr w.heap.size n (prdM es k) ∧ Below w.heap.size w wr) (fun i _ => es.length - (intOf i).toNat)
  case atStart => exact ⟨0, 0, by omega, by omega, rfl, mapP_new w _ (fun p => by unfold prdM; split <;> rfl), bbox _ _⟩
  case round =>
    obtain ⟨k, n, hk, hn, rfl, hm, hb⟩ := hrel
    by_cases hlt : k < es.length
    · obtain ⟨q0, q1, q2, q3, q4, q5, q6⟩ := RdX.cells HC.out k hlt
      have hcc : ∀ j, wr.cell? ⟨g, j, none⟩ = w.cell? ⟨g, j, none⟩ := fun j => hb.cell (p := ⟨g, j, none⟩) hglt
      have hx := HP.out es[k] (List.getElem_mem hlt)
      rw [← at_get hlt] at hx
      have HF1 : Hid _ := prdM_step es k
      have HF2 : Hid _ := prdM_skip es k
      generalize Ent.at es k = x at *
      rw [← hcc] at q0 q1 q2 q3 q4 q5 q6
      have hB0 := bbox wr (.cells #[.int .i64 x.a, .int .i64 x.b, .int .i64 x.c, .int .i64 x.d, .int .i64 x.k, .bool x.t, .string x.s] 24)
      have hm0 : MapP (wr.alloc (.cells #[.int .i64 x.a, .int .i64 x.b, .int .i64 x.c, .int .i64 x.d, .int .i64 x.k, .bool x.t, .string x.s] 24)) w.heap.size n (prdM es k) := MapP.below hm (Nat.le_refl _) hB0
      have hbx := box7_new wr x 24
      have hsz : wr.heap.size < (wr.alloc (.cells #[.int .i64 x.a, .int .i64 x.b, .int .i64 x.c, .int .i64 x.d, .int .i64 x.k, .bool x.t, .string x.s] 24)).heap.size := by simp
      have hbw := hb.trans (hB0.mono hb.size)
      have HM : Hid (MapP _ w.heap.size n (prdM es k)) := hm0
      have HB : Hid (Below w.heap.size w _) := hbw
      have HX : Hid (1 ≤ x.k ∧ x.k ≤ 3 ∧ 0 ≤ x.b ∧ x.b ≤ 1073741824 ∧ 0 ≤ x.c ∧ x.c ≤ 1073741824 ∧ 0 ≤ x.d ∧ x.d ≤ 1073741824) := hx
      have HBX : Hid (Box7 _ wr.heap.size x) := hbx
      have HSZ : Hid (wr.heap.size < _) := hsz
      have HNE : Hid (wr.heap.size ≠ w.heap.size) := show _ ≠ _ from fun e => by have := hm.lt; omega
      have HML : Hid (n < maxLen) := show n < maxLen by unfold maxLen; omega
      clear hm hb hx hcc hB0 hm0 hbw hbx hsz
      by_cases hx0 : x.b = 0
      · have hx0' : (x.b != 0) = false := by simp [hx0]
        have hM := HM.out
        rw [← HF2.out hx0] at hM
        have HM' : Hid _ := hM
        clear hx0 HF1 HF2 hM
        go_wp2
        go_roundw
        case rel => exact ⟨k + 1, n, by omega, by omega, by go_num, HM'.out, HB.out⟩
        case measure => simp [intOf]; omega
      have hx0' : (x.b != 0) = true := by simp [hx0]
      have HF : Hid _ := HF1.out hx0
      clear hx0 HF1 HF2
      go_wp2
      generalize hW0 : wr.alloc (.cells #[.int .i64 x.a, .int .i64 x.b, .int .i64 x.c, .int .i64 x.d, .int .i64 x.k, .bool x.t, .string x.s] 24) = W0 at *
      clear hW0 q0 q1 q2 q3 q4 q5 q6
      obtain ⟨x0, x1, x2, x3, x4, x5, x6⟩ := HBX.out
      go_region_held3 (fun W => W.cell? ⟨wr.heap.size, 0, none⟩ = some (.int .i64 x.a) ∧ W.cell? ⟨wr.heap.size, 1, none⟩ = some (.int .i64 x.b) ∧ W.cell? ⟨wr.heap.size, 2, none⟩ = some (.int .i64 x.c) ∧ W.cell? ⟨wr.heap.size, 3, none⟩ = some (.int .i64 x.d) ∧ W.cell? ⟨wr.heap.size, 4, none⟩ = some (.int .i64 x.k) ∧ W.cell? ⟨wr.heap.size, 5, none⟩ = some (.bool x.t) ∧ W.cell? ⟨wr.heap.size, 6, none⟩ = some (.string x.s)) (first | exact ⟨by assumption, by assumption, by assumption, by assumption, by assumption, by assumption, by assumption⟩ | go_keep) (first | (go_at_call 31; go_must (refine (find_any w.heap.size n _ x _ (MapP.below HM.out (Nat.le_refl _) (by repeat (first | exact Below.refl _ _ | refine Below.drew ?_))) (by have := HX.out; omega)).mono ?_; rintro e w2 ⟨rfl, hb2'⟩; (have hb2 : Below W0.heap.size W0 w2 := bstep (Below.drew (Below.refl _ _)) hb2'); (have hm2 := MapP.below HM.out (Nat.le_refl _) hb2); (have hB2 : Below w.heap.size w w2 := bstep HB.out hb2); obtain ⟨s0, s1, s2, s3, s4, s5, s6⟩ := Box7.below HBX.out HSZ.out hb2)) | (go_at_call 43; go_must (refine (after_any _ x _ _ (by have := HX.out; omega) (by have := HX.out; omega)).mono ?_; rintro e w3 ⟨rfl, hb3⟩; (have hm3 := MapP.below hm2 (Nat.le_refl _) hb3); (have hB3 : Below w.heap.size w w3 := bstep hB2 hb3); obtain ⟨w4, hrun4, hm4, hg4⟩ := MapP.store hm3 HML.out x.b (by have := HX.out; omega) (((prdM es k x.b).getD (Prd.new x)).after x (k : Int)); (have hbx3 := Box7.below (Box7.below HBX.out HSZ.out hb2) (Nat.lt_of_lt_of_le HSZ.out hb2.size) hb3); obtain ⟨z0, z1, z2, z3, z4, z5, z6⟩ := Box7.grown hbx3 hg4 HNE.out (Nat.lt_of_lt_of_le (Nat.lt_of_lt_of_le HSZ.out hb2.size) hb3.size); obtain ⟨y0, y1, y2, y3, y4, y5, y6⟩ := hbx3)))
      clear x0 x1 x2 x3 x4 x5 x6 s0 s1 s2 s3 s4 s5 s6 y0 y1 y2 y3 y4 y5 y6 z0 z1 z2 z3 z4 z5 z6 hrun4
      have hB4 : Below w.heap.size w w4 := hB3.grown hg4 hB3.size (fun j hj => by cases hj; exact Nat.le_refl _)
      rw [← HF.out] at hm4
      go_wp2
      go_roundw
      case rel => exact ⟨k + 1, n + 1, by omega, by omega, by go_num, hm4, hB4⟩
      case measure => simp [intOf]; omega
    · have hke : k = es.length := by omega
      subst hke
      go_wp2
      go_ret
      exact ⟨rfl, ⟨n, hn, hm⟩, hb⟩

set_option maxRecDepth 100000 in
set_option maxHeartbeats 400000 in
theorem producers_none (ao : Option Addr) (cap : Nat) (w : World) :
    Calls Try.prog 32 #[.slice ao 0 cap] w fun e w' => e = .returned (.map (some w.heap.size)) ∧ (∃ n, n ≤ 0 ∧ MapP w' w.heap.size n (prdM [] 0)) ∧ Below w.heap.size w w' := by
  have hmm := @run_makeMap Try.prog
  go_enter Try.func32, Try.ntmps32
  go_wp2
  refine wp_loop_rounds 1 ?_
  rw [rounds_succ]
  go_wp2
  go_ret
  exact ⟨rfl, ⟨0, Nat.le_refl _, mapP_new w _ (fun p => by unfold prdM; split <;> rfl)⟩, bbox _ _⟩

theorem producers_any (es : List Ent) (v : Value) (w : World) (hl : (es.length : Int) ≤ 2199023255552) (hp : Plain es) (h : RdX w v es) :
    Calls Try.prog 32 #[v] w fun e w' => e = .returned (.map (some w.heap.size)) ∧ (∃ n, n ≤ es.length ∧ MapP w' w.heap.size n (prdM es es.length)) ∧ Below w.heap.size w w' := by
  obtain ⟨ao, cap, rfl, _, _, _, h1⟩ := h
  by_cases h0 : 0 < es.length
  · obtain ⟨g, off, rfl, h1'⟩ := h1 h0
    exact producers_some es g off cap w hl hp h1' h0
  · have hl : es = [] := List.eq_nil_of_length_eq_zero (by omega)
    subst hl
    exact producers_none ao cap w
end

section
open Go.RowKit Go.Maps
set_option linter.unusedVariables false
set_option linter.unusedSimpArgs false

set_option maxRecDepth 100000 in
set_option maxHeartbeats 1000000 in
theorem checkMarker_any (es : List Ent) (v : Value) (x : Ent) (p : Prd) (w : World) (hl : (es.length : Int) ≤ 2199023255552) (hr : RdX w v es) (hm0 : -1 ≤ p.m) (hm1 : p.m < es.length) :
    Calls Try.prog 34 #[v, .agg #[.int .i64 x.a, .int .i64 x.b, .int .i64 x.c, .int .i64 x.d, .int .i64 x.k, .bool x.t, .string x.s], p.val] w fun e w' => e = .returned (.tuple #[.int .i64 (markA es x p).1, .int .i64 (markA es x p).2]) ∧ Below w.heap.size w w' := by
  show Calls Try.prog 34 #[v, _, .agg #[.int .i64 p.v, .int .i64 p.n, .int .i64 p.b, .int .i64 p.m]] _ _
  have B2 : ∀ o1 o2, Below w.heap.size w ((w.alloc o1).alloc o2) := fun o1 o2 => ((Below.refl _ _).alloc (Nat.le_refl _) _).alloc (by simp) _
  have B3 : ∀ o1 o2 o3, Below w.heap.size w (((w.alloc o1).alloc o2).alloc o3) := fun o1 o2 o3 => (B2 o1 o2).alloc (by simp <;> omega) _
  by_cases h1 : p.b = -1
  · have h1' : (p.b != -1) = false := by simp [h1]
    by_cases h2 : p.m = -1
    · have h2' : (p.m == -1) = true := by simp [h2]
      have E : Hid (markA es x p = (-1, 0)) := show _ = _ by unfold markA; rw [if_pos (.inr h2)]
      rw [E.out]
      clear h1 h2 E hm0 hm1 hr
      go_enter Try.func34, Try.ntmps34
      go_wp2
      go_ret2
      exact ⟨rfl, B2 _ _⟩
    · have h2' : (p.m == -1) = false := by simp [h2]
      have EM : Hid (markA es x p = if (Ent.at es p.m.toNat).k ≠ x.k ∨ (Ent.at es p.m.toNat).c ≠ x.c then (-1, 0) else (p.m, 0)) := show _ = _ by unfold markA; rw [if_neg (by omega)]
      obtain ⟨n, hn⟩ := Int.eq_ofNat_of_zero_le (show 0 ≤ p.m by omega)
      rw [hn] at h2' EM ⊢
      rw [Int.toNat_natCast] at EM
      have hnl : n < es.length := by omega
      have hn' : (n : Int) < es.length := by omega
      obtain ⟨ao, cap, rfl, hc1, hc2, hc3, h3⟩ := hr
      obtain ⟨g, off, rfl, hc⟩ := h3 (by omega)
      obtain ⟨q0, q1, q2, q3, q4, q5, q6⟩ := RdX.cells hc n hnl
      have hgl := cell_lt q0
      have hgl1 : g < w.heap.size + 1 := by omega
      generalize Ent.at es n = y at *
      clear h1 h2 hn hm0 hm1 h3 hc hc3
      by_cases g1 : y.k = x.k
      · have g1' : (y.k != x.k) = false := by simp [g1]
        by_cases g2 : y.c = x.c
        · have g2' : (y.c != x.c) = false := by simp [g2]
          rw [if_neg (by omega)] at EM
          rw [EM.out]
          clear g1 g2 EM
          go_enter Try.func34, Try.ntmps34
          go_wp2
          go_ret2
          exact ⟨rfl, B3 _ _ _⟩
        · have g2' : (y.c != x.c) = true := by simp [g2]
          rw [if_pos (.inr g2)] at EM
          rw [EM.out]
          clear g1 g2 EM
          go_enter Try.func34, Try.ntmps34
          go_wp2
          go_ret2
          exact ⟨rfl, B3 _ _ _⟩
      · have g1' : (y.k != x.k) = true := by simp [g1]
        rw [if_pos (.inl g1)] at EM
        rw [EM.out]
        clear g1 EM
        go_enter Try.func34, Try.ntmps34
        go_wp2
        go_ret2
        exact ⟨rfl, B3 _ _ _⟩
  · have h1' : (p.b != -1) = true := by simp [h1]
    have E : Hid (markA es x p = (-1, 0)) := show _ = _ by unfold markA; rw [if_pos (.inl h1)]
    rw [E.out]
    clear h1 E hm0 hm1 hr
    go_enter Try.func34, Try.ntmps34
    go_wp2
    go_ret2
    exact ⟨rfl, B2 _ _⟩

set_option maxRecDepth 100000 in
set_option maxHeartbeats 400000 in
theorem checkData_eq (es : List Ent) (v : Value) (x : Ent) (n : Int) (w : World) (h : x.d = n) :
    Calls Try.prog 35 #[v, .agg #[.int .i64 x.a, .int .i64 x.b, .int .i64 x.c, .int .i64 x.d, .int .i64 x.k, .bool x.t, .string x.s], .int .i64 n] w fun e w' => e = .returned (.tuple #[.int .i64 (-1), .int .i64 0]) ∧ Below w.heap.size w w' := by
  have h' : (x.d == n) = true := by simp [h]
  clear h
  go_enter Try.func35, Try.ntmps35
  go_wp2
  go_ret2
  exact ⟨rfl, bbox _ _⟩
set_option maxRecDepth 100000 in
set_option maxHeartbeats 400000 in
theorem checkData_gt (es : List Ent) (v : Value) (x : Ent) (n : Int) (w : World) (h : n < x.d) :
    Calls Try.prog 35 #[v, .agg #[.int .i64 x.a, .int .i64 x.b, .int .i64 x.c, .int .i64 x.d, .int .i64 x.k, .bool x.t, .string x.s], .int .i64 n] w fun e w' => e = .returned (.tuple #[.int .i64 0, .int .i64 11]) ∧ Below w.heap.size w w' := by
  have h' : (x.d == n) = false := by simp; omega
  have h2' : decide (x.d < n) = false := by simp; omega
  clear h
  go_enter Try.func35, Try.ntmps35
  go_wp2
  go_ret2
  exact ⟨rfl, bbox _ _⟩
set_option maxRecDepth 100000 in
set_option maxHeartbeats 400000 in
theorem checkData_none (ao : Option Addr) (cap : Nat) (x : Ent) (n : Int) (w : World) (h : x.d < n) :
    Calls Try.prog 35 #[.slice ao 0 cap, .agg #[.int .i64 x.a, .int .i64 x.b, .int .i64 x.c, .int .i64 x.d, .int .i64 x.k, .bool x.t, .string x.s], .int .i64 n] w fun e w' => e = .returned (.tuple #[.int .i64 0, .int .i64 11]) ∧ Below w.heap.size w w' := by
  have h' : (x.d == n) = false := by simp; omega
  have h2' : decide (x.d < n) = true := by simp; omega
  clear h
  go_enter Try.func35, Try.ntmps35
  go_wp2
  refine wp_loop_rounds 1 ?_
  rw [rounds_succ]
  go_wp2
  go_ret2
  exact ⟨rfl, bbox _ _⟩

set_option maxRecDepth 100000 in
set_option maxHeartbeats 2000000 in
theorem checkData_some (es : List Ent) (g off cap : Nat) (x : Ent) (n : Int) (w : World) (hl : (es.length : Int) ≤ 2199023255552) (h : x.d < n) (h0 : 0 < es.length)
    (hc : ∀ i, (h : i < es.length) → ∀ j, j < 7 → w.cell? ⟨g, off + i * 7 + j, none⟩ = (es[i]'h).cells[j]?) :
    Calls Try.prog 35 #[.slice (some ⟨g, off, none⟩) es.length cap, .agg #[.int .i64 x.a, .int .i64 x.b, .int .i64 x.c, .int .i64 x.d, .int .i64 x.k, .bool x.t, .string x.s], .int .i64 n] w fun e w' => e = .returned (.tuple #[.int .i64 (dataA es x n).1, .int .i64 (dataA es x n).2]) ∧ Below w.heap.size w w' := by
  have h' : (x.d == n) = false := by simp; omega
  have h2' : decide (x.d < n) = true := by simp; omega
  have ED : Hid (∀ s, scan (isTwin es x) es.length 0 = s → dataA es x n = if 0 ≤ s then (s, 0) else (0, 11)) := fun s hs => by
    unfold dataA
    rw [if_neg (by omega), hs]
    by_cases h1 : 0 ≤ s
    · rw [if_pos ⟨h, h1⟩, if_pos h1]
    · rw [if_neg (fun h => h1 h.2), if_neg h1]
  clear h
  have hglt : g < w.heap.size := by
    have := hc 0 h0 0 (by omega)
    exact cell_lt (v := .int .i64 (es[0]'h0).a) (by simpa [Ent.cells] using this)
  have HC : Hid _ := hc
  clear hc
  have HB0 : Hid (Below w.heap.size w (w.alloc (.cells #[.int .i64 x.a, .int .i64 x.b, .int .i64 x.c, .int .i64 x.d, .int .i64 x.k, .bool x.t, .string x.s] 24))) := bbox _ _
  have HX0 : Hid (Box7 (w.alloc (.cells #[.int .i64 x.a, .int .i64 x.b, .int .i64 x.c, .int .i64 x.d, .int .i64 x.k, .bool x.t, .string x.s] 24)) w.heap.size x) := box7_new _ _ _
  go_enter Try.func35, Try.ntmps35
  go_wp2
  go_loopw [20] (fun i wr => ∃ k : Nat, k ≤ es.length ∧ i = .int .i64 k ∧ Hid (∀ j, 0 ≤ j → j < k → ¬ isTwin es x j) ∧ Below (w.heap.size + 1) (w.alloc (.cells #[.int .i64 x.a, .int .i64 x.b, .int .i64 x.c, .int .i64 x.d, .int .i64 x.k, .bool x.t, .string x.s] 24)) wr) (fun i _ => es.length - (intOf i).toNat)
  case atStart => exact ⟨0, by omega, rfl, fun j _ h => by omega, Below.refl _ _⟩
  case round =>
    obtain ⟨k, hk, rfl, HN, hb⟩ := hrel
    have HBW : Hid (Below w.heap.size w wr) := HB0.out.trans (hb.mono (by omega))
    have hsz : w.heap.size + 1 ≤ wr.heap.size := by have := hb.size; simpa using this
    by_cases hlt : k < es.length
    · obtain ⟨q0, q1, q2, q3, q4, q5, q6⟩ := RdX.cells HC.out k hlt
      have hcc : ∀ j, wr.cell? ⟨g, j, none⟩ = w.cell? ⟨g, j, none⟩ := fun j => HBW.out.cell (p := ⟨g, j, none⟩) hglt
      rw [← hcc] at q0 q1 q2 q3 q4 q5 q6
      obtain ⟨x0, x1, x2, x3, x4, x5, x6⟩ := Box7.below HX0.out (Nat.lt_succ_self _) hb
      have HT : Hid (isTwin es x k ↔ (Ent.at es k).k = 1 ∧ (Ent.at es k).b = x.b ∧ (Ent.at es k).c = x.c ∧ (Ent.at es k).d = x.d) := Iff.rfl
      generalize Ent.at es k = y at *
      have HB : Hid (Below (w.heap.size + 1) _ wr) := hb
      have hxl : w.heap.size < wr.heap.size := by omega
      have hne : w.heap.size ≠ wr.heap.size := by omega
      have HSZ : Hid (w.heap.size + 1 ≤ wr.heap.size) := hsz
      clear hcc hb hsz
      by_cases hx : y.k = 1 ∧ y.b = x.b ∧ y.c = x.c ∧ y.d = x.d
      · have E : Hid (dataA es x n = ((k : Int), 0)) := show _ = _ by rw [ED.out k (scan_some (Nat.zero_le _) (by omega) (HT.out.2 hx) HN.out), if_pos (by omega)]
        obtain ⟨g1, g2, g3, g4⟩ := hx
        have g1' : (y.k == 1) = true := by simp [g1]
        have g2' : (y.b == x.b) = true := by simp [g2]
        have g3' : (y.c == x.c) = true := by simp [g3]
        have g4' : (y.d == x.d) = true := by simp [g4]
        clear g1 g2 g3 g4 HT HN ED
        go_wp2
        go_ret2
        rw [E.out]
        exact ⟨rfl, HBW.out.alloc HBW.out.size _⟩
      · have HNN : Hid (∀ j, 0 ≤ j → j < k + 1 → ¬ isTwin es x j) := fun j j1 j2 => by
          by_cases e : j = k
          · subst e; exact fun h => hx (HT.out.1 h)
          · exact HN.out j j1 (by omega)
        clear HN HT
        have BN : ∀ o, Below (w.heap.size + 1) (w.alloc (.cells #[.int .i64 x.a, .int .i64 x.b, .int .i64 x.c, .int .i64 x.d, .int .i64 x.k, .bool x.t, .string x.s] 24)) (wr.alloc o) := fun o => HB.out.alloc HSZ.out o
        have HBN : Hid _ := BN
        clear BN
        by_cases g1 : y.k = 1
        · have g1' : (y.k == 1) = true := by simp [g1]
          by_cases g2 : y.b = x.b
          · have g2' : (y.b == x.b) = true := by simp [g2]
            by_cases g3 : y.c = x.c
            · have g3' : (y.c == x.c) = true := by simp [g3]
              have g4' : (y.d == x.d) = false := by
                rw [beq_eq_false_iff_ne]
                exact fun h => hx ⟨g1, g2, g3, h⟩
              clear hx g1 g2 g3
              go_wp2
              go_roundw
              case rel => exact ⟨k + 1, by omega, by go_num, HNN, HBN.out _⟩
              case measure => simp [intOf]; omega
            · have g3' : (y.c == x.c) = false := by simp [g3]
              clear hx g1 g2 g3
              go_wp2
              go_roundw
              case rel => exact ⟨k + 1, by omega, by go_num, HNN, HBN.out _⟩
              case measure => simp [intOf]; omega
          · have g2' : (y.b == x.b) = false := by simp [g2]
            clear hx g1 g2
            go_wp2
            go_roundw
            case rel => exact ⟨k + 1, by omega, by go_num, HNN, HBN.out _⟩
            case measure => simp [intOf]; omega
        · have g1' : (y.k == 1) = false := by simp [g1]
          clear hx g1
          go_wp2
          go_roundw
          case rel => exact ⟨k + 1, by omega, by go_num, HNN, HBN.out _⟩
          case measure => simp [intOf]; omega
    · have hke : k = es.length := by omega
      subst hke
      have E : Hid (dataA es x n = (0, 11)) := show _ = _ by
        have hs : scan (isTwin es x) es.length 0 = -1 := by
          rcases scan_cases (P := isTwin es x) es.length 0 with e | ⟨k, k1, k2, k3, _, _⟩
          · exact e
          · exact absurd k3 (HN.out k k1 (by omega))
        rw [ED.out _ hs, if_neg (by omega)]
      clear HN ED hb hsz
      go_wp2
      go_ret2
      rw [E.out]
      exact ⟨rfl, HBW.out⟩

theorem checkData_any (es : List Ent) (v : Value) (x : Ent) (n : Int) (w : World) (hl : (es.length : Int) ≤ 2199023255552) (hr : RdX w v es) :
    Calls Try.prog 35 #[v, .agg #[.int .i64 x.a, .int .i64 x.b, .int .i64 x.c, .int .i64 x.d, .int .i64 x.k, .bool x.t, .string x.s], .int .i64 n] w fun e w' => e = .returned (.tuple #[.int .i64 (dataA es x n).1, .int .i64 (dataA es x n).2]) ∧ Below w.heap.size w w' := by
  by_cases h1 : x.d = n
  · have E : dataA es x n = (-1, 0) := by unfold dataA; rw [if_pos h1]
    rw [E]
    exact checkData_eq es v x n w h1
  · by_cases h2 : x.d < n
    · obtain ⟨ao, cap, rfl, _, _, _, h3⟩ := hr
      by_cases h0 : 0 < es.length
      · obtain ⟨g, off, rfl, h3'⟩ := h3 h0
        exact checkData_some es g off cap x n w hl h2 h0 h3'
      · have hl : es = [] := List.eq_nil_of_length_eq_zero (by omega)
        subst hl
        have E : dataA [] x n = (0, 11) := by unfold dataA; rw [if_neg h1, if_neg (fun h => by simp [scan] at h)]
        rw [E]
        exact checkData_none ao cap x n w h2
    · have E : dataA es x n = (0, 11) := by unfold dataA; rw [if_neg h1, if_neg (fun h => h2 h.1)]
      rw [E]
      exact checkData_gt es v x n w (by omega)
end

section
open Go.RowKit Go.Maps
set_option linter.unusedVariables false
set_option linter.unusedSimpArgs false

theorem find_prd (b n : Nat) (es : List Ent) (x : Ent) (w : World) (h : MapP w b n (prdM es es.length)) (h0 : x.b ≠ 0) (hx : -9223372036854775808 ≤ x.b ∧ x.b ≤ 9223372036854775807) :
    Calls Try.prog 31 #[.map (some b), .agg #[.int .i64 x.a, .int .i64 x.b, .int .i64 x.c, .int .i64 x.d, .int .i64 x.k, .bool x.t, .string x.s]] w fun e w' => e = .returned (.agg #[.int .i64 (prdOf es x).v, .int .i64 (prdOf es x).n, .int .i64 (prdOf es x).b, .int .i64 (prdOf es x).m]) ∧ Below w.heap.size w w' := by
  have h1 := find_any b n _ x w h hx
  have e : (prdM es es.length x.b).getD (Prd.new x) = prdOf es x := by unfold prdM prdOf; rw [if_neg h0]
  rw [e] at h1
  exact h1

/-- Four cells that hold what is told of a producer. -/
def Box4 (w : World) (g : Nat) (q : Prd) : Prop := w.cell? ⟨g, 0, none⟩ = some (.int .i64 q.v) ∧ w.cell? ⟨g, 1, none⟩ = some (.int .i64 q.n) ∧ w.cell? ⟨g, 2, none⟩ = some (.int .i64 q.b) ∧ w.cell? ⟨g, 3, none⟩ = some (.int .i64 q.m)
theorem Box4.below {w w' : World} {g C : Nat} {q : Prd} (h : Box4 w g q) (hg : g < C) (hb : Below C w w') : Box4 w' g q := by
  obtain ⟨a0, a1, a2, a3⟩ := h
  exact ⟨(hb.cell (p := ⟨g, 0, none⟩) hg).trans a0, (hb.cell (p := ⟨g, 1, none⟩) hg).trans a1, (hb.cell (p := ⟨g, 2, none⟩) hg).trans a2, (hb.cell (p := ⟨g, 3, none⟩) hg).trans a3⟩

theorem box4_new (w : World) (q : Prd) (T : TypeId) : Box4 (w.alloc (.cells #[.int .i64 q.v, .int .i64 q.n, .int .i64 q.b, .int .i64 q.m] T)) w.heap.size q := ⟨by simp, by simp, by simp, by simp⟩
theorem below_set4 {B g : Nat} {w w' : World} (h : Below B w w') (hg : B ≤ g) (a b c d : Value) : Below B w ((((w'.setCell ⟨g, 0, none⟩ a).setCell ⟨g, 1, none⟩ b).setCell ⟨g, 2, none⟩ c).setCell ⟨g, 3, none⟩ d) :=
  (((h.setCell (p := ⟨g, 0, none⟩) hg a).setCell (p := ⟨g, 1, none⟩) hg b).setCell (p := ⟨g, 2, none⟩) hg c).setCell (p := ⟨g, 3, none⟩) hg d
/-- Four cells that hold nothing yet. -/
def Zero4 (w : World) (g : Nat) : Prop := g < w.heap.size ∧ (w.cell? ⟨g, 0, none⟩ = some (.int .i64 0) ∧ w.cell? ⟨g, 1, none⟩ = some (.int .i64 0) ∧ w.cell? ⟨g, 2, none⟩ = some (.int .i64 0) ∧ w.cell? ⟨g, 3, none⟩ = some (.int .i64 0)) ∧ (w.frozen? ⟨g, 0, none⟩ = false ∧ w.frozen? ⟨g, 1, none⟩ = false ∧ w.frozen? ⟨g, 2, none⟩ = false ∧ w.frozen? ⟨g, 3, none⟩ = false)
theorem Zero4.below {w w' : World} {g : Nat} (h : Zero4 w g) (hb : Below w.heap.size w w') : Zero4 w' g := by
  obtain ⟨hg, ⟨a0, a1, a2, a3⟩, f0, f1, f2, f3⟩ := h
  exact ⟨Nat.lt_of_lt_of_le hg hb.size, ⟨(hb.cell (p := ⟨g, 0, none⟩) hg).trans a0, (hb.cell (p := ⟨g, 1, none⟩) hg).trans a1, (hb.cell (p := ⟨g, 2, none⟩) hg).trans a2, (hb.cell (p := ⟨g, 3, none⟩) hg).trans a3⟩, (hb.frozen (p := ⟨g, 0, none⟩) hg).trans f0, (hb.frozen (p := ⟨g, 1, none⟩) hg).trans f1, (hb.frozen (p := ⟨g, 2, none⟩) hg).trans f2, (hb.frozen (p := ⟨g, 3, none⟩) hg).trans f3⟩
theorem zero4_new (w : World) (T : TypeId) (g : Nat) (hg : g = w.heap.size) : Zero4 (w.alloc (.cells #[.int .i64 0, .int .i64 0, .int .i64 0, .int .i64 0] T)) g := by
  subst hg
  exact ⟨by simp, ⟨by simp, by simp, by simp, by simp⟩, by simp, by simp, by simp, by simp⟩
theorem zero4_old {w w' : World} {T : TypeId} {g : Nat} (hg : g = w.heap.size) (hb : Below (w.alloc (.cells #[.int .i64 0, .int .i64 0, .int .i64 0, .int .i64 0] T)).heap.size (w.alloc (.cells #[.int .i64 0, .int .i64 0, .int .i64 0, .int .i64 0] T)) w') : Zero4 w' g :=
  (zero4_new w T g hg).below hb
theorem zero4_oldD {w w' : World} {T : TypeId} {g : Nat} (hg : g = w.heap.size) (hb : Below (w.alloc (.cells #[.int .i64 0, .int .i64 0, .int .i64 0, .int .i64 0] T)).drew.heap.size (w.alloc (.cells #[.int .i64 0, .int .i64 0, .int .i64 0, .int .i64 0] T)).drew w') : Zero4 w' g :=
  Zero4.below (w := (w.alloc (.cells #[.int .i64 0, .int .i64 0, .int .i64 0, .int .i64 0] T)).drew) (zero4_new w T g hg) hb
theorem box4_set {w : World} {g : Nat} (h : Zero4 w g) (a b c d : Int) : Box4 ((((w.setCell ⟨g, 0, none⟩ (.int .i64 a)).setCell ⟨g, 1, none⟩ (.int .i64 b)).setCell ⟨g, 2, none⟩ (.int .i64 c)).setCell ⟨g, 3, none⟩ (.int .i64 d)) g ⟨a, b, c, d⟩ := by
  obtain ⟨hg, ⟨a0, a1, a2, a3⟩, f0, f1, f2, f3⟩ := h
  refine ⟨?_, ?_, ?_, ?_⟩ <;> simp [go_sem, a0, a1, a2, a3]

theorem prdOf_bd {es : List Ent} (hp : Plain es) (x : Ent) : -1 ≤ (prdOf es x).m ∧ (prdOf es x).m < es.length := by
  unfold prdOf
  cases hq : prdK es x.b es.length with
  | none => exact ⟨by show (-1 : Int) ≤ -1; omega, by show (-1 : Int) < _; omega⟩
  | some q =>
    obtain ⟨_, _, _, _, _, _, h1, h2⟩ := prd_ok hp x.b es.length (Nat.le_refl _) q hq
    exact ⟨h1, h2⟩

set_option maxRecDepth 100000 in
set_option maxHeartbeats 2000000 in
theorem check_some (es : List Ent) (v : Value) (x : Ent) (w : World) (hl : (es.length : Int) ≤ 2199023255552) (hp : Plain es) (hx : Plain [x]) (hr : RdX w v es) (h0 : x.b ≠ 0) :
    Calls Try.prog 13 #[v, .agg #[.int .i64 x.a, .int .i64 x.b, .int .i64 x.c, .int .i64 x.d, .int .i64 x.k, .bool x.t, .string x.s]] w fun e w' => e = .returned (.tuple #[.int .i64 (chk es x).1, .int .i64 (chk es x).2]) ∧ Below w.heap.size w w' := by
  have hx' := hx x (List.mem_singleton_self x)
  have HX : Hid (1 ≤ x.k ∧ x.k ≤ 3 ∧ 0 ≤ x.b ∧ x.b ≤ 1073741824 ∧ 0 ≤ x.c ∧ x.c ≤ 1073741824 ∧ 0 ≤ x.d ∧ x.d ≤ 1073741824) := hx'
  have HE : Hid _ := chk_prd es x h0 (by omega) (by omega)
  have HPB : Hid _ := prdOf_bd hp x
  have h0' : (x.b == 0) = false := by simp [h0]
  have HX0 : Hid (x.b ≠ 0) := h0
  have HP : Hid (Plain es) := hp
  have HL : Hid ((es.length : Int) ≤ 2199023255552) := hl
  have hB0 := bbox w (.cells #[.int .i64 x.a, .int .i64 x.b, .int .i64 x.c, .int .i64 x.d, .int .i64 x.k, .bool x.t, .string x.s] 24)
  have HB0 : Hid (Below w.heap.size w _) := hB0
  have HR : Hid (RdX _ v es) := hr.below (Nat.le_refl _) hB0
  have HBX : Hid (Box7 _ w.heap.size x) := box7_new w x 24
  have hsz : w.heap.size < (w.alloc (.cells #[.int .i64 x.a, .int .i64 x.b, .int .i64 x.c, .int .i64 x.d, .int .i64 x.k, .bool x.t, .string x.s] 24)).heap.size := by simp
  have HSZ : Hid (w.heap.size < _) := hsz
  clear hx hx' h0 hp hr hB0 hl hsz
  go_enter Try.func13, Try.ntmps13
  go_wp2
  generalize hW0 : w.alloc (.cells #[.int .i64 x.a, .int .i64 x.b, .int .i64 x.c, .int .i64 x.d, .int .i64 x.k, .bool x.t, .string x.s] 24) = W0 at *
  clear hW0
  obtain ⟨x0, x1, x2, x3, x4, x5, x6⟩ := HBX.out
  have hx0 := HSZ.out
  have hxn := Nat.ne_of_lt HSZ.out
  go_cut [6] (fun b W => ∃ g6, b = .pointer (some ⟨g6, 0, none⟩) ∧ Box4 W g6 (prdOf es x) ∧ Below W0.heap.size W0 W)
  case first =>
    go_region_held3 (fun W => W.cell? ⟨w.heap.size, 0, none⟩ = some (.int .i64 x.a) ∧ W.cell? ⟨w.heap.size, 1, none⟩ = some (.int .i64 x.b) ∧ W.cell? ⟨w.heap.size, 2, none⟩ = some (.int .i64 x.c) ∧ W.cell? ⟨w.heap.size, 3, none⟩ = some (.int .i64 x.d) ∧ W.cell? ⟨w.heap.size, 4, none⟩ = some (.int .i64 x.k) ∧ W.cell? ⟨w.heap.size, 5, none⟩ = some (.bool x.t) ∧ W.cell? ⟨w.heap.size, 6, none⟩ = some (.string x.s)) (first | exact Box7.below hbx3 hx0 (by repeat (first | refine Below.setCell ?_ (by first | (simp; done) | omega | (simp; omega)) _ | refine Below.alloc ?_ (by first | (simp; done) | omega | (simp; omega)) _ | refine Below.drew ?_ | exact Below.refl _ _)) | exact Box7.below hbx2 hx0 (by repeat (first | refine Below.setCell ?_ (by first | (simp; done) | omega | (simp; omega)) _ | refine Below.alloc ?_ (by first | (simp; done) | omega | (simp; omega)) _ | refine Below.drew ?_ | exact Below.refl _ _)) | exact Box7.below HBX.out hx0 (by repeat (first | refine Below.setCell ?_ (by first | (simp; done) | omega | (simp; omega)) _ | refine Below.alloc ?_ (by first | (simp; done) | omega | (simp; omega)) _ | refine Below.drew ?_ | exact Below.refl _ _))) (first | (go_at_call 32; go_must (refine (producers_any es _ _ HL.out HP.out (RdX.below HR.out (Nat.le_refl _) (by repeat (first | refine Below.alloc ?_ (by first | (simp; done) | omega) _ | refine Below.drew ?_ | exact Below.refl _ _)))).mono ?_; rintro e w2 ⟨rfl, ⟨n2, _, hm2⟩, hb2⟩; (have hB2 : Below W0.heap.size W0 w2 := bstep (by repeat (first | refine Below.alloc ?_ (by first | (simp; done) | omega) _ | refine Below.drew ?_ | exact Below.refl _ _)) hb2); (have hs2 := hB2.size); (have hbx2 := Box7.below HBX.out HSZ.out hB2); (try (have z2 : Zero4 w2 W0.heap.size := zero4_oldD rfl hb2; obtain ⟨_, ⟨r0, r1, r2, r3⟩, k0, k1, k2, k3⟩ := id z2)))) | (go_at_call 31; go_must (refine (find_prd _ n2 es x _ ?_ HX0.out (by have := HX.out; omega)).mono ?_; (first | exact hm2 | exact MapP.below hm2 (Nat.le_refl _) (bbox _ _) | (simpa using hm2)); rintro e w3 ⟨rfl, hb3⟩; (have hB3 : Below W0.heap.size W0 w3 := bstep (by first | exact hB2 | exact hB2.alloc hB2.size _) hb3); (have hs3 := hB3.size); (have hbx3 := Box7.below HBX.out HSZ.out hB3); (first | (have z3 : Zero4 w3 w2.heap.size := zero4_old rfl hb3; obtain ⟨hz3, ⟨t0, t1, t2, t3⟩, j0, j1, j2, j3⟩ := id z3) | (have z3 : Zero4 w3 W0.heap.size := z2.below hb3; obtain ⟨hz3, ⟨t0, t1, t2, t3⟩, j0, j1, j2, j3⟩ := id z3) | skip))))
    all_goals
      (try go_wp2_with fail)
      go_meet
    · exact ⟨_, rfl, box4_new _ _ _, hB3.alloc hs3 _⟩
    · exact ⟨_, rfl, box4_set z3 _ _ _ _, below_set4 hB3 hs2 _ _ _ _⟩
    · exact ⟨_, rfl, box4_set z3 _ _ _ _, below_set4 hB3 (Nat.le_refl _) _ _ _ _⟩
  case rest =>
    obtain ⟨g6, rfl, hq, hB⟩ := hcut
    clear x0 x1 x2 x3 x4 x5 x6
    have hbx := Box7.below HBX.out HSZ.out hB
    have hBW := HB0.out.trans (hB.mono (Nat.le_of_lt HSZ.out))
    have HBW : Hid (Below w.heap.size w wc) := hBW
    have HQ : Hid (Box4 wc g6 (prdOf es x)) := hq
    have HBX2 : Hid (Box7 wc w.heap.size x) := hbx
    have HR2 : Hid (RdX wc v es) := HR.out.below (Nat.le_refl _) hB
    obtain ⟨x0, x1, x2, x3, x4, x5, x6⟩ := hbx
    obtain ⟨p0, p1, p2, p3⟩ := hq
    have hgl := cell_lt p0
    have hwl := cell_lt x0
    clear HBX HR HB0 hB hBW
    by_cases hv : x.c < (prdOf es x).v
    · have hv' : decide (x.c < (prdOf es x).v) = true := by simp [hv]
      have E := HE.out
      rw [if_pos hv] at E
      have HEE : Hid _ := E
      clear hv E HE
      go_wp2
      go_ret2
      rw [HEE.out]
      exact ⟨rfl, HBW.out⟩
    · have hv' : decide (x.c < (prdOf es x).v) = false := by simp [hv]
      have E := HE.out
      rw [if_neg hv] at E
      clear hv HE
      by_cases hk : x.k = 1
      · rw [if_neg (fun h => h hk)] at E
        have HK : Hid (x.k = 1) := hk
        clear hk
        by_cases hw : (prdOf es x).v < x.c
        · have hw' : decide ((prdOf es x).v < x.c) = true := by simp [hw]
          rw [if_pos hw] at E
          have HEE : Hid _ := E
          clear hw E
          go_wp2_with fail
          refine (isMarker_no _ _ _ _ _ _ _ _ HK.out).mono ?_
          rintro e w4 ⟨rfl, hb4⟩
          clear x0 x1 x2 x3 x4 x5 x6 p0 p1 p2 p3
          obtain ⟨x0, x1, x2, x3, x4, x5, x6⟩ := Box7.below HBX2.out hwl hb4
          obtain ⟨p0, p1, p2, p3⟩ := Box4.below HQ.out hgl hb4
          go_wp2_with fail
          refine (checkData_any es _ x _ _ HL.out (HR2.out.below (Nat.le_refl _) hb4)).mono ?_
          rintro e w5 ⟨rfl, hb5⟩
          clear x0 x1 x2 x3 x4 x5 x6 p0 p1 p2 p3
          go_wp2
          go_ret2
          rw [HEE.out]
          exact ⟨rfl, bstep (bstep HBW.out hb4) hb5⟩
        · have hw' : decide ((prdOf es x).v < x.c) = false := by simp [hw]
          rw [if_neg hw] at E
          have HEE : Hid _ := E
          clear hw E
          go_wp2_with fail
          refine (isMarker_no _ _ _ _ _ _ _ _ HK.out).mono ?_
          rintro e w4 ⟨rfl, hb4⟩
          clear x0 x1 x2 x3 x4 x5 x6 p0 p1 p2 p3
          obtain ⟨x0, x1, x2, x3, x4, x5, x6⟩ := Box7.below HBX2.out hwl hb4
          obtain ⟨p0, p1, p2, p3⟩ := Box4.below HQ.out hgl hb4
          go_wp2_with fail
          refine (checkData_any es _ x _ _ HL.out (HR2.out.below (Nat.le_refl _) hb4)).mono ?_
          rintro e w5 ⟨rfl, hb5⟩
          clear x0 x1 x2 x3 x4 x5 x6 p0 p1 p2 p3
          go_wp2
          go_ret2
          rw [HEE.out]
          exact ⟨rfl, bstep (bstep HBW.out hb4) hb5⟩
      · rw [if_pos hk] at E
        have HEE : Hid _ := E
        have HK : Hid (x.k = 2 ∨ x.k = 3) := show _ ∨ _ by have := HX.out; omega
        clear hk E
        go_wp2_with fail
        refine (isMarker_yes _ _ _ _ _ _ _ _ HK.out).mono ?_
        rintro e w4 ⟨rfl, hb4⟩
        clear x0 x1 x2 x3 x4 x5 x6 p0 p1 p2 p3
        obtain ⟨x0, x1, x2, x3, x4, x5, x6⟩ := Box7.below HBX2.out hwl hb4
        obtain ⟨p0, p1, p2, p3⟩ := Box4.below HQ.out hgl hb4
        go_wp2_with fail
        refine (checkMarker_any es _ x (prdOf es x) _ HL.out (HR2.out.below (Nat.le_refl _) hb4) HPB.out.1 HPB.out.2).mono ?_
        rintro e w5 ⟨rfl, hb5⟩
        clear x0 x1 x2 x3 x4 x5 x6 p0 p1 p2 p3
        go_wp2
        go_ret2
        rw [HEE.out]
        exact ⟨rfl, bstep (bstep HBW.out hb4) hb5⟩

set_option maxRecDepth 100000 in
set_option maxHeartbeats 400000 in
theorem check_none (es : List Ent) (v : Value) (x : Ent) (w : World) (h0 : x.b = 0) :
    Calls Try.prog 13 #[v, .agg #[.int .i64 x.a, .int .i64 x.b, .int .i64 x.c, .int .i64 x.d, .int .i64 x.k, .bool x.t, .string x.s]] w fun e w' => e = .returned (.tuple #[.int .i64 (chk es x).1, .int .i64 (chk es x).2]) ∧ Below w.heap.size w w' := by
  have h0' : (x.b == 0) = true := by simp [h0]
  have E : Hid (chk es x = (-1, 0)) := show _ = _ by unfold chk; rw [if_pos h0]
  clear h0
  go_enter Try.func13, Try.ntmps13
  go_wp2
  go_ret2
  rw [E.out]
  exact ⟨rfl, bbox _ _⟩

theorem vcheck_any (es : List Ent) (v : Value) (x : Ent) (w : World) (hl : (es.length : Int) ≤ 2199023255552) (hp : Plain es) (hx : Plain [x]) (hr : RdX w v es) :
    Calls Try.prog 13 #[v, .agg #[.int .i64 x.a, .int .i64 x.b, .int .i64 x.c, .int .i64 x.d, .int .i64 x.k, .bool x.t, .string x.s]] w fun e w' => e = .returned (.tuple #[.int .i64 (chk es x).1, .int .i64 (chk es x).2]) ∧ Below w.heap.size w w' := by
  by_cases h0 : x.b = 0
  · exact check_none es v x w h0
  · exact check_some es v x w hl hp hx hr h0
end

end Go.Proofs.Ytdpiijndnefahaa
