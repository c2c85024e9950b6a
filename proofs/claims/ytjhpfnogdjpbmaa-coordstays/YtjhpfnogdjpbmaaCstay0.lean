/-
  A transaction of one producer, from its parts to its last marker (plain data).
-/
import Derived.Test.YtjhpfnogdjpbmaaCplay2
import Derived.Lib.SlicesCompact
namespace Go.Proofs.Ytjhpfnogdjpbmaa
open Go.RowKit
set_option linter.unusedVariables false
set_option linter.unusedSimpArgs false

/-- The parts that are named, each once, as they rise. -/
def setP (xs : List Int) : List Int := [0, 1, 2, 3].filter (fun q => xs.contains q)
def In4 (xs : List Int) : Prop := ∀ x ∈ xs, inR x 0 3 = true
theorem mem_setP {xs : List Int} {q : Int} (hq : q ∈ ([0, 1, 2, 3] : List Int)) : (setP xs).contains q = xs.contains q := by
  unfold setP
  rw [Bool.eq_iff_iff, List.contains_iff_mem, List.contains_iff_mem, List.mem_filter, List.contains_iff_mem]
  exact ⟨fun h => h.2, fun h => ⟨hq, h⟩⟩
theorem ins_setP (xs : List Int) (p : Int) : insP (setP xs) p = setP (xs ++ [p]) := by
  unfold insP
  conv => rhs; unfold setP
  refine List.filter_congr fun q hq => ?_
  rw [mem_setP hq, List.contains_append]
  by_cases e : q = p
  · subst e; simp
  · simp [e]
theorem setP_same {xs ys : List Int} (h : ∀ q, q ∈ xs ↔ q ∈ ys) : setP xs = setP ys := by
  unfold setP
  refine List.filter_congr fun q _ => ?_
  rw [Bool.eq_iff_iff, List.contains_iff_mem, List.contains_iff_mem]
  exact h q
theorem setP_snoc {xs : List Int} {x : Int} (hx : inR x 0 3 = true) (h : ∀ y ∈ xs, y < x) : setP (xs ++ [x]) = setP xs ++ [x] := by
  have hc : ∀ q, x ≤ q → xs.contains q = false := fun q hq => by
    rw [← Bool.not_eq_true, List.contains_iff_mem]
    intro hm
    have := h q hm
    omega
  unfold setP
  rcases in03 hx with rfl | rfl | rfl | rfl
  · have h0 := hc 0 (by omega); have h1 := hc 1 (by omega); have h2 := hc 2 (by omega); have h3 := hc 3 (by omega)
    simp only [List.filter_cons, List.filter_nil, List.contains_append, h0, h1, h2, h3]
    decide
  · have h1 := hc 1 (by omega); have h2 := hc 2 (by omega); have h3 := hc 3 (by omega)
    simp only [List.filter_cons, List.filter_nil, List.contains_append, h1, h2, h3]
    cases xs.contains 0 <;> decide
  · have h2 := hc 2 (by omega); have h3 := hc 3 (by omega)
    simp only [List.filter_cons, List.filter_nil, List.contains_append, h2, h3]
    cases xs.contains 0 <;> cases xs.contains 1 <;> decide
  · have h3 := hc 3 (by omega)
    simp only [List.filter_cons, List.filter_nil, List.contains_append, h3]
    cases xs.contains 0 <;> cases xs.contains 1 <;> cases xs.contains 2 <;> decide
theorem compact_set {s : List Int} (hs : s.Pairwise (· ≤ ·)) (h4 : In4 s) (m : Nat) (hm : m ≤ s.length) : Lib.compactUpTo s.toArray m = setP (s.take m) := by
  induction m with
  | zero => rfl
  | succ m ih =>
    have hml : m < s.length := by omega
    rw [Lib.compactUpTo_succ, ih (by omega), List.take_succ_eq_append_getElem hml]
    have e1 : s.toArray[m]! = s[m] := by simp [hml]
    rcases Nat.eq_zero_or_pos m with h0 | h0
    · subst h0
      rw [Lib.keeps_lt_one _ 0 (by omega), if_pos rfl, e1, setP_snoc (h4 _ (List.getElem_mem hml)) (by simp)]
    · have e2 : s.toArray[m - 1]! = s[m - 1]'(by omega) := by
        rw [getElem!_pos s.toArray (m - 1) (by simp; omega)]
        simp
      have hle : s[m - 1]'(by omega) ≤ s[m] := List.pairwise_iff_getElem.1 hs (m - 1) m (by omega) hml (by omega)
      by_cases e : s[m] = s[m - 1]'(by omega)
      · rw [Lib.keeps_neg h0 (by rw [e1, e2]; exact e), if_neg (by simp), List.append_nil]
        refine setP_same fun q => ?_
        rw [List.mem_append, List.mem_singleton]
        refine ⟨.inl, fun h => ?_⟩
        rcases h with h | h
        · exact h
        · rw [h, e, List.mem_take_iff_getElem]
          exact ⟨m - 1, by omega, rfl⟩
      · rw [Lib.keeps_pos (by rw [e1, e2]; exact e), if_pos rfl, e1, setP_snoc (h4 _ (List.getElem_mem hml))]
        intro y hy
        rw [List.mem_take_iff_getElem] at hy
        obtain ⟨j, hj, rfl⟩ := hy
        have : s[j]'(by omega) ≤ s[m - 1]'(by omega) := by
          by_cases ej : j = m - 1
          · subst ej; exact Int.le_refl _
          · exact List.pairwise_iff_getElem.1 hs j (m - 1) (by omega) (by omega) (by omega)
        omega
theorem sort_set (l : List Int) (h4 : In4 l) : Lib.compact (l.mergeSort fun x y => decide (x ≤ y)) = setP l := by
  have hs : (l.mergeSort fun x y => decide (x ≤ y)).Pairwise (· ≤ ·) := by
    have := List.pairwise_mergeSort (le := fun x y : Int => decide (x ≤ y)) (by intro a b c; simp; omega) (by intro a b; simp; omega) l
    simpa using this
  have hm : ∀ q, q ∈ (l.mergeSort fun x y => decide (x ≤ y)) ↔ q ∈ l := fun q => (List.mergeSort_perm l _).mem_iff
  unfold Lib.compact
  rw [compact_set hs (fun x hx => h4 x ((hm x).1 hx)) _ (Nat.le_refl _), List.take_length]
  exact setP_same hm
theorem setP_rise (xs : List Int) : riseB (setP xs) = true := by
  unfold setP
  simp only [List.filter_cons, List.filter_nil]
  cases xs.contains 0 <;> cases xs.contains 1 <;> cases xs.contains 2 <;> cases xs.contains 3 <;> decide
theorem setP_len (xs : List Int) : (setP xs).length ≤ 4 := rise_len (setP_rise xs)
theorem setP_ne (xs : List Int) (x : Int) (hx : inR x 0 3 = true) : setP (xs ++ [x]) ≠ [] := by
  rw [← ins_setP]
  exact (ins_rise (setP_rise xs) hx).2

/-- The producer, with its parts so far. -/
def stayT (ck pid : Int) (ps : List Int) : Txn := if ps = [] then newT nmD pid else ⟨nmD, pid, 0, 2, ps, ck, 0⟩
theorem stay_add (ck pid : Int) (ps : List Int) (p : Int) (h : insP ps p ≠ []) : (stayT ck pid ps).add ck p = stayT ck pid (insP ps p) := by
  unfold stayT
  rw [if_neg h]
  by_cases e : ps = []
  · subst e
    rw [if_pos rfl]
    unfold Txn.add newT
    simp
  · rw [if_neg e]
    unfold Txn.add
    simp
theorem stay_nm (ck pid : Int) (ps : List Int) : (stayT ck pid ps).nm = nmD ∧ (stayT ck pid ps).v = 0 ∧ (stayT ck pid ps).endB = false ∧ (stayT ck pid ps).id = pid ∧ (stayT ck pid ps).ps = ps := by
  unfold stayT
  split
  · rename_i h; subst h; exact ⟨rfl, rfl, rfl, rfl, rfl⟩
  · exact ⟨rfl, rfl, rfl, rfl, rfl⟩
/-- Behind its end, and behind some of its markers. -/
structure Ph (b : Bool) (pid : Int) (t : Txn) (ps : List Int) : Prop where
  nm : t.nm = nmD
  id : t.id = pid
  v : t.v = 0
  pp : t.ps = ps
  st : (ps ≠ [] ∧ t.st = wantI b) ∨ (ps = [] ∧ t.st = 1 ∧ t.dn = wantI b)
/-- The producer stands at k. -/
structure StayC (c : Crd) (k : Nat) (t : Txn) : Prop where
  m : CoP isName4 c
  lt : k < c.ts.length
  a : c.at k = t
theorem want_ne (b : Bool) : wantI b ≠ wantI (!b) ∧ wantI b ≠ 2 ∧ wantI b ≠ 1 ∧ wantI b ≠ 0 := by cases b <;> decide
theorem stay_end {c : Crd} {k : Nat} {ck pid : Int} {ps : List Int} (b : Bool) (h : StayC c k (stayT ck pid ps)) : ∃ d t, c.endP nmD 0 b = (d, 0) ∧ StayC d k t ∧ Ph b pid t ps := by
  obtain ⟨h1, h2, h3, h4, h5⟩ := stay_nm ck pid ps
  have hv := end_val (v := 0) b h.m.m nmD_ok h.lt (by rw [h.a, h1]) (by rw [h.a, h2])
  have hw := want_34 b
  have h0 : (c.endP nmD 0 b).2 = 0 := by
    rw [hv, h.a]
    unfold stayT
    by_cases e : ps = []
    · rw [if_pos e, if_neg (by show ¬ (1 : Int) = 2; omega), if_neg (by show ¬ (1 : Int) = _; omega), if_pos ⟨rfl, .inl rfl⟩]
    · rw [if_neg e, if_pos rfl]
  have hC := co_end h.m h0
  rw [hv, h.a] at hC ⊢
  unfold stayT at hC ⊢
  by_cases e : ps = []
  · rw [if_pos e, if_neg (by show ¬ (1 : Int) = 2; omega), if_neg (by show ¬ (1 : Int) = _; omega), if_pos ⟨rfl, .inl rfl⟩] at hC ⊢
    exact ⟨_, _, rfl, ⟨hC, by rw [setT_len]; exact h.lt, setT_at h.lt _⟩, ⟨rfl, rfl, rfl, e.symm, .inr ⟨e, rfl, rfl⟩⟩⟩
  · rw [if_neg e, if_pos rfl] at hC ⊢
    exact ⟨_, _, rfl, ⟨hC, by rw [setT_len]; exact h.lt, setT_at h.lt _⟩, ⟨rfl, rfl, rfl, rfl, .inl ⟨e, rfl⟩⟩⟩
theorem ph_again {c : Crd} {k : Nat} {b : Bool} {pid : Int} {t : Txn} {ps : List Int} (h : StayC c k t) (p : Ph b pid t ps) : ∃ d, c.endP nmD 0 b = (d, 0) := by
  have hv := end_val (v := 0) b h.m.m nmD_ok h.lt (by rw [h.a, p.nm]) (by rw [h.a, p.v])
  have hw := want_34 b
  rw [hv, h.a]
  rcases p.st with ⟨_, e⟩ | ⟨_, e1, e2⟩
  · rw [if_neg (by omega), if_pos e]; exact ⟨_, rfl⟩
  · rw [if_neg (by omega), if_neg (by omega), if_pos ⟨e1, .inr e2⟩]; exact ⟨_, rfl⟩
theorem ph_other {c : Crd} {k : Nat} {b : Bool} {pid : Int} {t : Txn} {ps : List Int} (h : StayC c k t) (p : Ph b pid t ps) : c.endP nmD 0 (!b) = (Crd.zero, 12) := by
  have hv := end_val (v := 0) (!b) h.m.m nmD_ok h.lt (by rw [h.a, p.nm]) (by rw [h.a, p.v])
  have hw := want_34 b
  have hw2 := want_34 (!b)
  have hn := (want_ne b).1
  rw [hv, h.a]
  rcases p.st with ⟨_, e⟩ | ⟨_, e1, e2⟩
  · rw [if_neg (by omega), if_neg (by omega), if_neg (by omega)]
  · rw [if_neg (by omega), if_neg (by omega), if_neg (by omega)]
theorem next_cases {c : Crd} (hm : MayC c) (n : Int) : c.nextP n = (⟨#[]⟩, 0, 0, 0, 0, false, 15) ∨ ∃ j, j < c.ts.length ∧ (c.at j).endB = true ∧ (c.cnt j : Int) = n ∧ c.nextP n = ((c.at j).nm, (c.at j).ps.getD 0 0, (c.at j).id, (c.at j).v, (c.at j).mkK, true, 0) := by
  unfold Crd.nextP Crd.nth
  rw [if_neg (by rw [mayC_iff.2 hm]; simp)]
  rcases scan_cases (P := fun i => (c.at i).endB = true ∧ (c.cnt i : Int) = n) c.ts.length 0 with h | ⟨k, _, h2, h3, _, h4⟩
  · left; rw [if_pos (by rw [h]; decide)]
  · right; exact ⟨k, by omega, h3.1, h3.2, by rw [if_neg (by rw [h4]; omega), h4, Int.toNat_natCast]⟩
/-- Where it has no marker on its way, or another one's turn it is. -/
theorem ph_skip {c : Crd} {k : Nat} {b : Bool} {pid : Int} {t : Txn} {ps : List Int} (h : StayC c k t) (p : Ph b pid t ps) (n : Int) (hn : ps = [] ∨ n ≠ (c.cnt k : Int)) : ∃ nm pp id v kd tx ge, c.nextP n = (nm, pp, id, v, kd, tx, ge) ∧ (ge = 15 ∨ (ge = 0 ∧ nm ≠ nmD)) := by
  rcases next_cases h.m.m n with e | ⟨j, hj, he, hc, e⟩
  · exact ⟨_, _, _, _, _, _, _, e, .inl rfl⟩
  · refine ⟨_, _, _, _, _, _, _, e, .inr ⟨rfl, fun hnm => ?_⟩⟩
    have hjk : j = k := by
      apply Classical.byContradiction
      intro hne
      rcases Nat.lt_or_gt_of_ne hne with hl | hl
      · exact (h.m.m.fr k j h.lt hl).1 (by rw [hnm, h.a, p.nm])
      · exact (h.m.m.fr j k hj hl).1 (by rw [hnm, h.a, p.nm])
    subst hjk
    rcases hn with e2 | e2
    · rw [h.a] at he
      rcases p.st with ⟨q, _⟩ | ⟨_, q, _⟩
      · exact q e2
      · unfold Txn.endB at he; rw [q] at he; cases he
    · exact e2 hc.symm
theorem mkK_kind {b : Bool} {t : Txn} (h : t.st = wantI b) : t.mkK = if b then 2 else 3 := by
  unfold Txn.mkK
  rw [h]
  cases b <;> decide
theorem cnt_lt {c : Crd} (k : Nat) : c.cnt k ≤ k := by
  induction k with
  | zero => simp [Crd.cnt]
  | succ k ih => simp only [Crd.cnt]; split <;> omega
theorem cnt_mono {c : Crd} {i j : Nat} (h : i ≤ j) : c.cnt i ≤ c.cnt j := by
  induction j with
  | zero => have : i = 0 := by omega
            subst this; exact Nat.le_refl _
  | succ j ih =>
    by_cases e : i = j + 1
    · subst e; exact Nat.le_refl _
    · have := ih (by omega)
      simp only [Crd.cnt]
      omega
/-- Where it is its turn. -/
theorem ph_turn {c : Crd} {k : Nat} {b : Bool} {pid p : Int} {t : Txn} {ps : List Int} (h : StayC c k t) (q : Ph b pid t (p :: ps)) : c.nextP (c.cnt k : Int) = (nmD, p, pid, 0, if b then 2 else 3, true, 0) := by
  have hst : t.st = wantI b := by
    rcases q.st with ⟨_, e⟩ | ⟨e, _⟩
    · exact e
    · cases e
  have hw := want_34 b
  have he : (c.at k).endB = true := by rw [h.a]; unfold Txn.endB; rw [hst]; rcases hw with e | e <;> rw [e] <;> decide
  rcases next_cases h.m.m (c.cnt k : Int) with e | ⟨j, hj, hje, hc, e⟩
  · exfalso
    unfold Crd.nextP Crd.nth at e
    rw [if_neg (by rw [mayC_iff.2 h.m.m]; simp)] at e
    rcases scan_cases (P := fun i => (c.at i).endB = true ∧ (c.cnt i : Int) = (c.cnt k : Int)) c.ts.length 0 with e2 | ⟨j, _, h2, h3, _, h4⟩
    · have e3 := scan_none.1 (show scan (fun i => (c.at i).endB = true ∧ (c.cnt i : Int) = (c.cnt k : Int)) c.ts.length 0 < 0 by rw [e2]; decide)
      exact e3 k (Nat.zero_le _) (by have := h.lt; omega) ⟨he, rfl⟩
    · rw [if_neg (by rw [h4]; omega)] at e
      simp at e
  · have hjk : j = k := by
      have hc' : c.cnt j = c.cnt k := by omega
      apply Classical.byContradiction
      intro hne
      rcases Nat.lt_or_gt_of_ne hne with hl | hl
      · have h1 := cnt_mono (c := c) (show j + 1 ≤ k from hl)
        simp only [Crd.cnt, hje, if_true] at h1
        omega
      · have h1 := cnt_mono (c := c) (show k + 1 ≤ j from hl)
        simp only [Crd.cnt, he, if_true] at h1
        omega
    subst hjk
    rw [e, h.a, q.nm, q.id, q.v, q.pp, mkK_kind hst]
    rfl
/-- One marker more. -/
theorem ph_done {c : Crd} {k : Nat} {b : Bool} {pid p : Int} {t : Txn} {ps : List Int} (h : StayC c k t) (q : Ph b pid t (p :: ps)) : ∃ d t', c.doneP nmD p = (d, 0) ∧ StayC d k t' ∧ Ph b pid t' ps := by
  have hst : t.st = wantI b := by
    rcases q.st with ⟨_, e⟩ | ⟨e, _⟩
    · exact e
    · cases e
  have hw := want_34 b
  have he : (c.at k).endB = true := by rw [h.a]; unfold Txn.endB; rw [hst]; rcases hw with e | e <;> rw [e] <;> decide
  have hr := (h.m.m.ok k h.lt).ps
  rw [h.a, q.pp] at hr
  have hnd := rise_nodup hr
  have hdel : delP t.ps p = ps := by
    rw [q.pp]
    have := del_at (k := 0) hnd (by simp)
    simpa using this
  have hd := done_val p h.m.m nmD_ok h.lt (by rw [h.a, q.nm]) he (by rw [h.a, q.pp]; simp)
  have hC := co_done h.m (s := nmD) (p := p) (by rw [hd])
  rw [hd, h.a] at hC ⊢
  refine ⟨_, _, rfl, ⟨hC, by rw [setT_len]; exact h.lt, setT_at h.lt _⟩, ?_⟩
  by_cases e : ps = []
  · rw [less_none hdel e]
    exact ⟨q.nm, q.id, q.v, rfl, .inr ⟨e, rfl, hst⟩⟩
  · rw [less_some hdel e]
    exact ⟨q.nm, q.id, q.v, rfl, .inl ⟨e, hst⟩⟩

end Go.Proofs.Ytjhpfnogdjpbmaa
