/-
  Coordinators to which things are done: what holds of them whatever is done (plain data).
-/
import Derived.Test.YtjhpfnogdjpbmaaCdone
namespace Go.Proofs.Ytjhpfnogdjpbmaa
open Go.RowKit
set_option linter.unusedVariables false
set_option linter.unusedSimpArgs false

theorem name_le {s : ByteArray} (h : nameB s = true) : s.size ≤ 8 := by
  unfold nameB at h
  rw [Bool.and_eq_true, inR_iff] at h
  omega
theorem mayC_fits {c : Crd} (h : MayC c) : c.fits := by
  have key : ∀ t ∈ c.ts, t.nm.size ≤ maxLen ∧ t.ps.length ≤ 4 := by
    intro t ht
    obtain ⟨i, hi, rfl⟩ := List.getElem_of_mem ht
    have := h.ok i hi
    rw [at_txn hi] at this
    have h1 := name_le this.nm
    exact ⟨by unfold maxLen; omega, rise_len this.ps⟩
  exact ⟨by have := h.n8; omega, fun t ht => by have := (key t ht).2; omega, fun t ht => (key t ht).1⟩
theorem setT_ne {c : Crd} {i j : Nat} (h : j ≠ i) (t : Txn) : (c.setT i t).at j = c.at j := by
  unfold Crd.setT Crd.at
  simp only [List.getD_eq_getElem?_getD]
  rw [List.getElem?_set_ne (fun e => h e.symm)]
theorem TxnOk.mono {ck nx ck' nx' : Int} {t : Txn} (h : TxnOk ck nx t) (h1 : ck ≤ ck') (h2 : nx ≤ nx') : TxnOk ck' nx' t :=
  ⟨h.nm, h.i0, by have := h.i1; omega, h.v0, h.v1, h.s0, h.s1, h.n0, by have := h.n1; omega, h.dn, h.ps, h.em⟩
theorem may_setT {c : Crd} (h : MayC c) {i : Nat} (hi : i < c.ts.length) {t : Txn} (ht : TxnOk c.ck c.nx t) (hn : t.nm = (c.at i).nm) (hd : t.id = (c.at i).id) : MayC (c.setT i t) := by
  have hnm : ∀ j, ((c.setT i t).at j).nm = (c.at j).nm ∧ ((c.setT i t).at j).id = (c.at j).id := fun j => by
    by_cases e : j = i
    · subst e; rw [setT_at hi]; exact ⟨hn, hd⟩
    · rw [setT_ne e]; exact ⟨rfl, rfl⟩
  refine ⟨h.c0, h.c1, h.x0, h.x1, h.w0, h.w1, by rw [setT_len]; exact h.n8, fun j hj => ?_, fun j k hj hk => ?_⟩
  · rw [setT_len] at hj
    by_cases e : j = i
    · subst e; rw [setT_at hi]; exact ht
    · rw [setT_ne e]; exact h.ok j hj
  · rw [setT_len] at hj
    rw [(hnm k).1, (hnm j).1, (hnm k).2, (hnm j).2]
    exact h.fr j k hj hk

/-- What holds in the midst: it may be, its names are of a kind, and so many numbers were told as there are producers. -/
structure CoP (N : ByteArray → Prop) (c : Crd) : Prop where
  m : MayC c
  n : ∀ i, i < c.ts.length → N (c.at i).nm
  x : c.nx = 1 + c.ts.length
theorem co_setT {N : ByteArray → Prop} {c : Crd} (h : CoP N c) {i : Nat} (hi : i < c.ts.length) {t : Txn} (ht : TxnOk c.ck c.nx t) (hn : t.nm = (c.at i).nm) (hd : t.id = (c.at i).id) : CoP N (c.setT i t) := by
  refine ⟨may_setT h.m hi ht hn hd, fun j hj => ?_, by rw [setT_len]; exact h.x⟩
  rw [setT_len] at hj
  by_cases e : j = i
  · subst e; rw [setT_at hi, hn]; exact h.n j hi
  · rw [setT_ne e]; exact h.n j hj
theorem renew_ok {ck nx : Int} {t : Txn} (h : TxnOk ck nx t) (hv : t.v ≠ 1073741824) : TxnOk ck nx t.renew := by
  have h1 := h.v0
  have h2 := h.v1
  have h3 := h.em
  refine ⟨h.nm, h.i0, h.i1, ?_, ?_, ?_, ?_, h.n0, h.n1, h.dn, h.ps, ?_⟩ <;> unfold Txn.renew <;> simp only
  · omega
  · omega
  · have := h.s0; split <;> omega
  · have := h.s1; split <;> omega
  · rw [h3]; split <;> omega
theorem add_at {c : Crd} {t : Txn} {j : Nat} (hj : j < c.ts.length) (n : Int) : ({ c with nx := n, ts := c.ts ++ [t] } : Crd).at j = c.at j := by
  unfold Crd.at
  simp [List.getD, List.getElem?_append, hj]
theorem add_last {c : Crd} {t : Txn} (n : Int) : ({ c with nx := n, ts := c.ts ++ [t] } : Crd).at c.ts.length = t := by
  unfold Crd.at
  simp [List.getD]
theorem pos_no {c : Crd} {s : ByteArray} (h : c.pos s < 0) : ∀ j, j < c.ts.length → (c.at j).nm ≠ s := by
  intro j hj e
  exact scan_none.1 h j (Nat.zero_le _) (by omega) (sameN_iff.2 e)
def newT (s : ByteArray) (n : Int) : Txn := ⟨s, n, 0, 1, [], 0, 0⟩
theorem newT_ok {s : ByteArray} {n ck nx : Int} (hs : nameB s = true) (h1 : 1 ≤ n) (h2 : n < nx) (h3 : 0 ≤ ck) : TxnOk ck nx (newT s n) := by
  unfold newT
  exact ⟨hs, h1, h2, (by show (0 : Int) ≤ 0; omega), (by show (0 : Int) ≤ 1073741824; omega), (by show (1 : Int) ≤ 1; omega), (by show (1 : Int) ≤ 4; omega), (by show (0 : Int) ≤ 0; omega), h3, .inl rfl, (by show riseB [] = true; decide), by simp⟩
theorem co_new {N : ByteArray → Prop} {c : Crd} (h : CoP N c) {s : ByteArray} (hN : N s) (hs : nameB s = true) (hp : c.pos s < 0) (h8 : c.ts.length < 8) (hx : c.nx < 1073741824) : CoP N { c with nx := c.nx + 1, ts := c.ts ++ [newT s c.nx] } := by
  have hm := h.m
  have hno := pos_no hp
  have hx0 := hm.x0
  refine ⟨⟨hm.c0, hm.c1, by show 1 ≤ c.nx + 1; omega, by show c.nx + 1 ≤ _; omega, hm.w0, hm.w1, by simp; omega, fun j hj => ?_, fun j k hj hk => ?_⟩, fun j hj => ?_, by have := h.x; simp; omega⟩
  · simp only [List.length_append, List.length_singleton] at hj
    by_cases e : j = c.ts.length
    · subst e
      rw [add_last]
      exact newT_ok hs hx0 (by show c.nx < c.nx + 1; omega) hm.c0
    · rw [add_at (by omega)]
      exact (hm.ok j (by omega)).mono (Int.le_refl _) (by show c.nx ≤ c.nx + 1; omega)
  · simp only [List.length_append, List.length_singleton] at hj
    by_cases e : j = c.ts.length
    · subst e
      rw [add_last, add_at hk]
      refine ⟨hno k hk, ?_⟩
      have := (hm.ok k hk).i1
      show _ ≠ c.nx
      omega
    · rw [add_at (by omega), add_at (by omega)]
      exact hm.fr j k (by omega) hk
  · simp only [List.length_append, List.length_singleton] at hj
    by_cases e : j = c.ts.length
    · subst e; rw [add_last]; exact hN
    · rw [add_at (by omega)]; exact h.n j (by omega)
theorem co_init {N : ByteArray → Prop} {c : Crd} (h : CoP N c) {s : ByteArray} (hN : N s) (h0 : (c.initP s).2.2.2 = 0) : CoP N (c.initP s).1 := by
  unfold Crd.initP at h0 ⊢
  by_cases h1 : c.flt s ≠ 0
  · rw [if_pos h1] at h0; exact absurd h0 h1
  rw [if_neg h1] at h0 ⊢
  have hf : c.flt s = 0 := by simpa using h1
  have hs := (flt_zero_iff.1 hf).2
  by_cases h2 : c.pos s < 0
  · rw [if_pos h2] at h0 ⊢
    by_cases h3 : 8 ≤ c.ts.length ∨ 1073741824 ≤ c.nx
    · rw [if_pos h3] at h0; cases h0
    rw [if_neg h3]
    exact co_new h hN hs h2 (by omega) (by omega)
  rw [if_neg h2] at h0 ⊢
  obtain ⟨k, hk, hp, _⟩ : ∃ k, k < c.ts.length ∧ c.pos s = (k : Int) ∧ True := by
    rcases pos_cases c s with e | ⟨k, hk, e, _⟩
    · omega
    · exact ⟨k, hk, e, trivial⟩
  rw [hp, Int.toNat_natCast] at h0 ⊢
  by_cases h3 : (c.at k).endB = true
  · rw [if_pos h3] at h0; cases h0
  rw [if_neg h3] at h0 ⊢
  by_cases h4 : (c.at k).v = 1073741824
  · rw [if_pos h4] at h0; cases h0
  rw [if_neg h4]
  exact co_setT h hk (renew_ok (h.m.ok k hk) h4) rfl rfl
theorem kfl_pos {c : Crd} {s : ByteArray} {v : Int} (h : c.kfl s v = 0) : ∃ k, k < c.ts.length ∧ c.pos s = (k : Int) ∧ (c.at k).v = v ∧ c.flt s = 0 := by
  unfold Crd.kfl at h
  by_cases h1 : c.flt s ≠ 0
  · rw [if_pos h1] at h; exact absurd h h1
  rw [if_neg h1] at h
  by_cases h2 : c.pos s < 0
  · rw [if_pos h2] at h; cases h
  rw [if_neg h2] at h
  rcases pos_cases c s with e | ⟨k, hk, e, _⟩
  · omega
  · rw [e, Int.toNat_natCast] at h
    by_cases h3 : (c.at k).v = v
    · exact ⟨k, hk, e, h3, by simpa using h1⟩
    · rw [if_neg h3] at h; cases h
theorem addT_ok {c : Crd} {k : Nat} {p : Int} (hm : MayC c) (hk : k < c.ts.length) (hp : inR p 0 3 = true) (he : (c.at k).endB = false) : TxnOk c.ck c.nx ((c.at k).add c.ck p) := by
  have h := hm.ok k hk
  have h1 := ins_rise h.ps hp
  have hst : (c.at k).st = 1 ∨ (c.at k).st = 2 := by
    have h2 := h.s0
    have h3 := h.s1
    unfold Txn.endB at he
    simp only [Bool.or_eq_false_iff, beq_eq_false_iff_ne] at he
    omega
  have hc := hm.c0
  refine ⟨h.nm, h.i0, h.i1, h.v0, h.v1, ?_, ?_, ?_, ?_, h.dn, h1.1, ?_⟩ <;> unfold Txn.add <;> simp only
  · split <;> omega
  · split <;> omega
  · have := h.n0; split <;> omega
  · have := h.n1; split <;> omega
  · constructor
    · intro e; exact absurd e h1.2
    · intro e; rcases hst with e2 | e2 <;> rw [e2] at e <;> simp at e
theorem co_add {N : ByteArray → Prop} {c : Crd} (h : CoP N c) {s : ByteArray} {v p : Int} (h0 : (c.addP s v p).2 = 0) : CoP N (c.addP s v p).1 := by
  unfold Crd.addP at h0 ⊢
  by_cases h1 : c.kfl s v ≠ 0
  · rw [if_pos h1] at h0; exact absurd h0 h1
  rw [if_neg h1] at h0 ⊢
  obtain ⟨k, hk, hp, _, _⟩ := kfl_pos (by simpa using h1)
  rw [hp, Int.toNat_natCast] at h0 ⊢
  by_cases h2 : inR p 0 3 = false
  · rw [if_pos h2] at h0; cases h0
  rw [if_neg h2] at h0 ⊢
  by_cases h3 : (c.at k).endB = true
  · rw [if_pos h3] at h0; cases h0
  rw [if_neg h3]
  exact co_setT h hk (addT_ok h.m hk (by simpa using h2) (by simpa using h3)) rfl rfl
theorem want_34 (b : Bool) : wantI b = 3 ∨ wantI b = 4 := by cases b <;> simp [wantI]
theorem co_end {N : ByteArray → Prop} {c : Crd} (h : CoP N c) {s : ByteArray} {v : Int} {b : Bool} (h0 : (c.endP s v b).2 = 0) : CoP N (c.endP s v b).1 := by
  unfold Crd.endP at h0 ⊢
  by_cases h1 : c.kfl s v ≠ 0
  · rw [if_pos h1] at h0; exact absurd h0 h1
  rw [if_neg h1] at h0 ⊢
  obtain ⟨k, hk, hp, _, _⟩ := kfl_pos (by simpa using h1)
  rw [hp, Int.toNat_natCast] at h0 ⊢
  have ho := h.m.ok k hk
  have hw := want_34 b
  by_cases h2 : (c.at k).st = 2
  · rw [if_pos h2]
    refine co_setT h hk ⟨ho.nm, ho.i0, ho.i1, ho.v0, ho.v1, ?_, ?_, ho.n0, ho.n1, ho.dn, ho.ps, ?_⟩ rfl rfl
    · show 1 ≤ wantI b; omega
    · show wantI b ≤ 4; omega
    · show (c.at k).ps = [] ↔ wantI b = 1
      rw [ho.em]; omega
  rw [if_neg h2] at h0 ⊢
  by_cases h3 : (c.at k).st = wantI b
  · rw [if_pos h3]; exact h
  rw [if_neg h3] at h0 ⊢
  by_cases h4 : (c.at k).st = 1 ∧ ((c.at k).dn = 0 ∨ (c.at k).dn = wantI b)
  · rw [if_pos h4]
    exact co_setT h hk ⟨ho.nm, ho.i0, ho.i1, ho.v0, ho.v1, ho.s0, ho.s1, ho.n0, ho.n1, by show wantI b = 0 ∨ wantI b = 3 ∨ wantI b = 4; omega, ho.ps, ho.em⟩ rfl rfl
  · rw [if_neg h4] at h0; cases h0
theorem lessT_ok {c : Crd} {k : Nat} {p : Int} (hm : MayC c) (hk : k < c.ts.length) (he : (c.at k).endB = true) : TxnOk c.ck c.nx ((c.at k).less p) := by
  have h := hm.ok k hk
  have h1 := del_rise p h.ps
  have hst : (c.at k).st = 3 ∨ (c.at k).st = 4 := by
    unfold Txn.endB at he
    simpa [Bool.or_eq_true, beq_iff_eq] using he
  have hd := h.dn
  refine ⟨h.nm, h.i0, h.i1, h.v0, h.v1, ?_, ?_, h.n0, h.n1, ?_, h1, ?_⟩ <;> unfold Txn.less <;> simp only
  · split <;> omega
  · split <;> omega
  · split <;> omega
  · constructor
    · intro e; rw [if_pos e]
    · intro e
      split at e
      · assumption
      · omega
theorem co_done {N : ByteArray → Prop} {c : Crd} (h : CoP N c) {s : ByteArray} {p : Int} (h0 : (c.doneP s p).2 = 0) : CoP N (c.doneP s p).1 := by
  unfold Crd.doneP at h0 ⊢
  by_cases h1 : c.flt s ≠ 0
  · rw [if_pos h1] at h0; exact absurd h0 h1
  rw [if_neg h1] at h0 ⊢
  by_cases h2 : c.pos s < 0
  · rw [if_pos h2] at h0; cases h0
  rw [if_neg h2] at h0 ⊢
  obtain ⟨k, hk, hp, _⟩ : ∃ k, k < c.ts.length ∧ c.pos s = (k : Int) ∧ True := by
    rcases pos_cases c s with e | ⟨k, hk, e, _⟩
    · omega
    · exact ⟨k, hk, e, trivial⟩
  rw [hp, Int.toNat_natCast] at h0 ⊢
  by_cases h3 : (c.at k).endB = false
  · rw [if_pos h3] at h0; cases h0
  rw [if_neg h3] at h0 ⊢
  by_cases h4 : (c.at k).ps.contains p = false
  · rw [if_pos h4] at h0; cases h0
  rw [if_neg h4]
  exact co_setT h hk (lessT_ok h.m hk (by simpa using h3)) rfl rfl
theorem tick_nm (t : Txn) (a b : Int) : (t.tick a b).nm = t.nm ∧ (t.tick a b).id = t.id := by
  unfold Txn.tick
  split <;> exact ⟨rfl, rfl⟩
theorem tick_ok {ck nx a b : Int} {t : Txn} (h : TxnOk ck nx t) (ha : ck ≤ a) : TxnOk a nx (t.tick a b) := by
  unfold Txn.tick
  have h2 := h.v0
  have h3 := h.v1
  split
  · rename_i hl
    unfold Txn.lateB at hl
    simp only [Bool.and_eq_true, beq_iff_eq, decide_eq_true_eq, bne_iff_ne, ne_eq] at hl
    have := h.n1
    refine ⟨h.nm, h.i0, h.i1, by show 0 ≤ t.v + 1; omega, by show t.v + 1 ≤ _; omega, (by show (1 : Int) ≤ 4; omega), (by show (4 : Int) ≤ 4; omega), h.n0, by show t.sn ≤ a; omega, h.dn, h.ps, ?_⟩
    show t.ps = [] ↔ (4 : Int) = 1
    rw [h.em]; omega
  · exact h.mono ha (Int.le_refl _)
theorem tick_at (c : Crd) (a b : Int) {j : Nat} (hj : j < c.ts.length) : ({ c with ck := a, ts := c.ts.map (fun t => t.tick a b) } : Crd).at j = (c.at j).tick a b := by
  unfold Crd.at
  simp [List.getD, hj]
theorem co_tick {N : ByteArray → Prop} {c : Crd} (h : CoP N c) {n : Int} (h0 : (c.tickP n).2 = 0) : CoP N (c.tickP n).1 := by
  unfold Crd.tickP at h0 ⊢
  by_cases h1 : c.mayB = false
  · rw [if_pos h1] at h0; cases h0
  rw [if_neg h1] at h0 ⊢
  by_cases h2 : inR n 0 1000 = false ∨ 1073741824 < c.ck + n
  · rw [if_pos h2] at h0; cases h0
  rw [if_neg h2]
  have hn : inR n 0 1000 = true := by
    cases e : inR n 0 1000 with
    | true => rfl
    | false => exact absurd (.inl e) h2
  rw [inR_iff] at hn
  have hm := h.m
  have hc := hm.c0
  refine ⟨⟨by show 0 ≤ c.ck + n; omega, by show c.ck + n ≤ _; omega, hm.x0, hm.x1, hm.w0, hm.w1, by simpa using hm.n8, fun j hj => ?_, fun j k hj hk => ?_⟩, fun j hj => ?_, by have := h.x; simpa using this⟩
  all_goals (simp only [List.length_map] at hj)
  · rw [tick_at _ _ _ hj]
    exact tick_ok (hm.ok j hj) (by show c.ck ≤ c.ck + n; omega)
  · rw [tick_at _ _ _ hj, tick_at _ _ _ (by omega : k < c.ts.length), (tick_nm _ _ _).1, (tick_nm _ _ _).1, (tick_nm _ _ _).2, (tick_nm _ _ _).2]
    exact hm.fr j k hj hk
  · rw [tick_at _ _ _ hj, (tick_nm _ _ _).1]
    exact h.n j hj

end Go.Proofs.Ytjhpfnogdjpbmaa
