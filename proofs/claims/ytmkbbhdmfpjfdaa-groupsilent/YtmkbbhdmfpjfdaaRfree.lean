/-
  A region that draws its order, whose operations read, reckon and call in a class of worlds: if each of them, wherever it comes up, yields what is told of it, then so does the region, whatever the order. (One proof an operation, none an order; a call may yield one of many values.)
-/
import Derived.Orders
import Derived.WalkKit
namespace Go.Proofs.Ytmkbbhdmfpjfdaa
set_option linter.unusedVariables false

def updV (f : Nat → Value) (i : Nat) (v : Value) : Nat → Value := fun j => if j = i then v else f j
theorem put_comm (a : Act) (d e : Option Tmp) (u v : Value) (h : d = none ∨ d ≠ e) : (a.put d u).put e v = (a.put e v).put d u := by
  cases d with
  | none => rfl
  | some d =>
    cases e with
    | none => rfl
    | some e =>
      have hne : d ≠ e := by
        rcases h with h | h
        · cases h
        · exact fun he => h (by rw [he])
      simp only [Act.put]
      rw [Array.setIfInBounds_comm _ _ hne]
/-- The frame behind those operations that are listed. -/
def over (a0 : Act) (L : Nat → Bool) (vs : Nat → Value) : List Oper → Nat → Act
  | [], _ => a0
  | o :: r, k => if L k = true then (over a0 L vs r (k + 1)).put o.dst (vs k) else over a0 L vs r (k + 1)
def Dis (l : List Oper) : Prop := l.Pairwise (fun o p => o.dst = none ∨ o.dst ≠ p.dst)
theorem over_congr (a0 : Act) (L L' : Nat → Bool) (vs vs' : Nat → Value) (l : List Oper) (k : Nat) (h1 : ∀ j, k ≤ j → L j = L' j) (h2 : ∀ j, k ≤ j → vs j = vs' j) : over a0 L vs l k = over a0 L' vs' l k := by
  induction l generalizing k with
  | nil => rfl
  | cons o r ih =>
    simp only [over]
    rw [ih (k + 1) (fun j hj => h1 j (by omega)) (fun j hj => h2 j (by omega)), h1 k (Nat.le_refl _), h2 k (Nat.le_refl _)]
def updB (f : Nat → Bool) (i : Nat) : Nat → Bool := fun j => if j = i then true else f j
theorem over_put (a0 : Act) (L : Nat → Bool) (vs : Nat → Value) (l : List Oper) (k i : Nat) (o : Oper) (hi : l[i]? = some o) (hd : Dis l) (hL : L (k + i) = false) (v : Value) :
    (over a0 L vs l k).put o.dst v = over a0 (updB L (k + i)) (updV vs (k + i) v) l k := by
  induction l generalizing k i with
  | nil => simp at hi
  | cons p r ih =>
    have hd1 : ∀ q ∈ r, p.dst = none ∨ p.dst ≠ q.dst := (List.pairwise_cons.1 hd).1
    have hd2 : Dis r := (List.pairwise_cons.1 hd).2
    cases i with
    | zero =>
      simp only [List.getElem?_cons_zero, Option.some.injEq] at hi
      subst hi
      rw [Nat.add_zero] at hL ⊢
      simp only [over]
      rw [if_neg (by rw [hL]; simp), if_pos (by simp [updB])]
      rw [over_congr a0 L (updB L k) vs (updV vs k v) r (k + 1) (fun j hj => by simp [updB, show j ≠ k by omega]) (fun j hj => by simp [updV, show j ≠ k by omega])]
      simp [updV]
    | succ i =>
      simp only [List.getElem?_cons_succ] at hi
      have hm : o ∈ r := List.mem_of_getElem? hi
      have e : k + (i + 1) = (k + 1) + i := by omega
      rw [e] at hL ⊢
      have := ih (k + 1) i hi hd2 hL
      simp only [over]
      by_cases hk : L k = true
      · rw [if_pos hk, if_pos (by simp [updB, hk]), put_comm _ _ _ _ _ (hd1 o hm), this]
        simp [updV, show k ≠ k + 1 + i by omega]
      · rw [if_neg hk, if_neg (by simp [updB, hk, show k ≠ k + 1 + i by omega]), this]
theorem over_size (a0 : Act) (L : Nat → Bool) (vs : Nat → Value) (l : List Oper) (k : Nat) : (over a0 L vs l k).tmps.size = a0.tmps.size := by
  induction l generalizing k with
  | nil => rfl
  | cons p r ih =>
    simp only [over]
    split
    · cases hp : p.dst with
      | none => simp only [Act.put]; exact ih (k + 1)
      | some t => simp only [Act.put, Array.size_setIfInBounds]; exact ih (k + 1)
    · exact ih (k + 1)
theorem over_at (a0 : Act) (L : Nat → Bool) (vs : Nat → Value) (l : List Oper) (k i : Nat) (o : Oper) (t : Tmp) (hi : l[i]? = some o) (ht : o.dst = some t) (hd : Dis l) (hL : L (k + i) = true) (hs : t < a0.tmps.size) : (over a0 L vs l k).tmps[t]? = some (vs (k + i)) := by
  induction l generalizing k i with
  | nil => simp at hi
  | cons p r ih =>
    have hd1 : ∀ q ∈ r, p.dst = none ∨ p.dst ≠ q.dst := (List.pairwise_cons.1 hd).1
    have hd2 : Dis r := (List.pairwise_cons.1 hd).2
    cases i with
    | zero =>
      simp only [List.getElem?_cons_zero, Option.some.injEq] at hi
      subst hi
      rw [Nat.add_zero] at hL ⊢
      simp only [over]
      rw [if_pos hL, ht]
      simp only [Act.put]
      rw [Array.getElem?_setIfInBounds]
      simp [over_size, hs]
    | succ i =>
      simp only [List.getElem?_cons_succ] at hi
      have hm : o ∈ r := List.mem_of_getElem? hi
      have e : k + (i + 1) = (k + 1) + i := by omega
      rw [e] at hL ⊢
      have := ih (k + 1) i hi hd2 hL
      simp only [over]
      split
      · cases hp : p.dst with
        | none => simp only [Act.put]; exact this
        | some t' =>
          have hne : t' ≠ t := by
            rcases hd1 o hm with h | h
            · rw [hp] at h; cases h
            · exact fun he => h (by rw [hp, ht, he])
          simp only [Act.put]
          rw [Array.getElem?_setIfInBounds, if_neg hne]
          exact this
      · exact this
theorem over_else (a0 : Act) (L : Nat → Bool) (vs : Nat → Value) (l : List Oper) (k : Nat) (t : Tmp) (h : ∀ o ∈ l, o.dst ≠ some t) : (over a0 L vs l k).tmps[t]? = a0.tmps[t]? := by
  induction l generalizing k with
  | nil => rfl
  | cons p r ih =>
    have := ih (k + 1) (fun o ho => h o (List.mem_cons_of_mem _ ho))
    have hp := h p (by simp)
    simp only [over]
    split
    · cases hd : p.dst with
      | none => simp only [Act.put]; exact this
      | some t' =>
        have hne : t' ≠ t := fun e => hp (by rw [hd, e])
        simp only [Act.put]
        rw [Array.getElem?_setIfInBounds, if_neg hne]
        exact this
    · exact this
theorem over_defers (a0 : Act) (L : Nat → Bool) (vs : Nat → Value) (l : List Oper) (k : Nat) : (over a0 L vs l k).defers = a0.defers := by
  induction l generalizing k with
  | nil => rfl
  | cons p r ih =>
    simp only [over]
    split
    · cases hp : p.dst with
      | none => simp only [Act.put]; exact ih (k + 1)
      | some t => simp only [Act.put]; exact ih (k + 1)
    · exact ih (k + 1)

/-- What an operation is asked, wherever it comes up: a is any frame in which those that it waits for have yielded what is told of them. -/
def Asked (P : Program) (l : List Oper) (C : World → Prop) (S : Nat → Value → Prop) (a0 : Act) (Q : Exit → Act → World → Prop) (i : Nat) (o : Oper) : Prop :=
  ∀ (a : Act) (w : World), C w → a.defers = a0.defers → a.tmps.size = a0.tmps.size → (∀ t, (∀ p ∈ l, p.dst ≠ some t) → a.tmps[t]? = a0.tmps[t]?) →
    (∀ e ∈ o.after.toList, Region.binds .any e = true → ∀ p t, l[e.on]? = some p → p.dst = some t → ∃ v, a.tmps[t]? = some v ∧ S e.on v) →
    if Region.wanted o (yielded l.toArray a.tmps) = true then o.wp P a w (fun a' w' => ∃ v, C w' ∧ S i v ∧ a' = a.put o.dst v) Q else S i undef

theorem filter_lt {p q : Nat → Bool} (R : List Nat) (i : Nat) (h1 : ∀ j, q j = true → p j = true) (hi : i ∈ R) (hp : p i = true) (hq : q i = false) : (R.filter q).length < (R.filter p).length := by
  have hle : ∀ T : List Nat, (T.filter q).length ≤ (T.filter p).length := fun T => by
    induction T with
    | nil => simp
    | cons x T ih =>
      simp only [List.filter_cons]
      cases hqx : q x with
      | true => rw [h1 x hqx]; simp; exact ih
      | false => cases p x <;> simp <;> omega
  induction R with
  | nil => simp at hi
  | cons x R ih =>
    simp only [List.filter_cons]
    by_cases e : i = x
    · subst e
      rw [hp, hq]
      have := hle R
      simp
      omega
    · have := ih (by
        rcases List.mem_cons.1 hi with h | h
        · exact absurd h e
        · exact h)
      cases hqx : q x with
      | true => rw [h1 x hqx]; simp; exact this
      | false => cases p x <;> simp <;> omega
theorem wpAny_free {P : Program} {l : List Oper} {C : World → Prop} {S : Nat → Value → Prop} {a0 : Act} {Q : Exit → Act → World → Prop} (hd : Dis l) (hsz : ∀ o ∈ l, ∀ t, o.dst = some t → t < a0.tmps.size)
    (hst : ∀ i o, l[i]? = some o → Asked P l C S a0 Q i o)
    (hend : ∀ (vs : Nat → Value) (w : World), C w → (∀ i, i < l.length → S i (vs i)) → Q .normal (over a0 (fun _ => true) vs l 0) w)
    (hfree : ∀ listed : Array Bool, listed.size = l.length → Region.ready .any l.toArray listed = [] → ∀ i, i < l.length → listed.getD i false = true) :
    ∀ (fuel : Nat) (listed : Array Bool) (vs : Nat → Value) (w : World), listed.size = l.length → C w → (∀ i, i < l.length → listed.getD i false = true → S i (vs i)) → ((List.range l.length).filter fun i => !listed.getD i true).length ≤ fuel →
      wpAny P .any l.toArray Q fuel listed (over a0 (fun i => listed.getD i false) vs l 0) w := by
  have hE : ∀ (listed : Array Bool) (vs : Nat → Value) (w : World), listed.size = l.length → C w → (∀ i, i < l.length → listed.getD i false = true → S i (vs i)) → Region.ready .any l.toArray listed = [] → Q .normal (over a0 (fun i => listed.getD i false) vs l 0) w := by
    intro listed vs w hs hC hS hr
    have hall := hfree listed hs hr
    have := hend vs w hC (fun i hi => hS i hi (hall i hi))
    have e : over a0 (fun i => listed.getD i false) vs l 0 = over a0 (fun _ => true) vs l 0 := by
      have key : ∀ (r : List Oper) (k : Nat), k + r.length = l.length → over a0 (fun i => listed.getD i false) vs r k = over a0 (fun _ => true) vs r k := by
        intro r
        induction r with
        | nil => intro k _; rfl
        | cons p r ih =>
          intro k hk
          simp only [List.length_cons] at hk
          simp only [over]
          rw [if_pos (hall k (by omega)), if_pos trivial, ih (k + 1) (by omega)]
      exact key l 0 (by omega)
    rw [e]
    exact this
  intro fuel
  induction fuel with
  | zero =>
    intro listed vs w hs hC hS hf
    have hr : Region.ready .any l.toArray listed = [] := by
      unfold Region.ready
      rw [List.filter_eq_nil_iff]
      intro i hi hh
      have hn := List.eq_nil_of_length_eq_zero (Nat.le_zero.1 hf)
      rw [List.filter_eq_nil_iff] at hn
      simp only [Bool.and_eq_true] at hh
      exact hn i (by simpa using hi) hh.1
    exact ⟨hr, hE listed vs w hs hC hS hr⟩
  | succ fuel ih =>
    intro listed vs w hs hC hS hf
    refine ⟨hE listed vs w hs hC hS, fun i hi => ?_⟩
    unfold Region.ready at hi
    rw [List.mem_filter] at hi
    obtain ⟨hi1, hi2⟩ := hi
    have hil : i < l.length := by simpa using hi1
    simp only [Bool.and_eq_true] at hi2
    obtain ⟨hi3, hi4⟩ := hi2
    have ho : l[i]? = some (l[i]'hil) := by simp [hil]
    have hoA : l.toArray[i]? = some (l[i]'hil) := by simp [hil]
    have hLt : listed.getD i true = false := by simpa using hi3
    have hLf : listed.getD i false = false := by
      have hlt : i < listed.size := by omega
      simp [Array.getD, hlt] at hLt ⊢
      exact hLt
    rw [hoA] at hi4
    simp only [Option.map_some, Option.getD_some] at hi4
    generalize l[i]'hil = o at *
    have hA := hst i o ho (over a0 (fun i => listed.getD i false) vs l 0) w hC (over_defers _ _ _ _ _) (over_size _ _ _ _ _) (fun t ht => over_else _ _ _ _ _ t ht) (fun e he hb p t hp ht => by
      have h1 := (Array.all_eq_true_iff_forall_mem.1 hi4) e (by simpa using he)
      simp only [hb, Bool.not_true, Bool.false_or] at h1
      have hel : e.on < l.length := (List.getElem?_eq_some_iff.1 hp).1
      refine ⟨vs e.on, ?_, hS e.on hel h1⟩
      have := over_at a0 (fun i => listed.getD i false) vs l 0 e.on p t hp ht hd (by simpa using h1) (hsz p (List.mem_of_getElem? hp) t ht)
      simpa using this)
    have hnext : ∀ v w', C w' → S i v → wpAny P .any l.toArray Q fuel (listed.setIfInBounds i true) ((over a0 (fun i => listed.getD i false) vs l 0).put o.dst v) w' := by
      intro v w' hC' hSv
      have hp := over_put a0 (fun i => listed.getD i false) vs l 0 i o ho hd (by simpa using hLf) v
      rw [Nat.zero_add] at hp
      rw [hp]
      have eL : over a0 (updB (fun i => listed.getD i false) i) (updV vs i v) l 0 = over a0 (fun j => (listed.setIfInBounds i true).getD j false) (updV vs i v) l 0 := by
        refine over_congr _ _ _ _ _ _ _ (fun j _ => ?_) (fun j _ => rfl)
        have hlt : i < listed.size := by omega
        by_cases e : j = i
        · subst e
          simp [updB, Array.getD, hlt]
        · simp only [updB, if_neg e, Array.getD_eq_getD_getElem?]
          rw [Array.getElem?_setIfInBounds, if_neg (fun h => e h.symm)]
      rw [eL]
      refine ih _ _ _ (by simpa using hs) hC' (fun j hj hh => ?_) ?_
      · by_cases e : j = i
        · subst e; simp [updV, hSv]
        · simp only [updV, if_neg e]
          refine hS j hj ?_
          rw [Array.getD_eq_getD_getElem?, Array.getElem?_setIfInBounds, if_neg (fun h => e h.symm)] at hh
          rw [Array.getD_eq_getD_getElem?]
          exact hh
      · have hlt : i < listed.size := by omega
        have := filter_lt (p := fun j => !listed.getD j true) (q := fun j => !(listed.setIfInBounds i true).getD j true) (List.range l.length) i (fun j hj => by
          by_cases e : j = i
          · subst e; simp [Array.getD, hlt] at hj
          · simp only [Array.getD_eq_getD_getElem?] at hj ⊢
            rw [Array.getElem?_setIfInBounds, if_neg (fun h => e h.symm)] at hj
            exact hj) (by simpa using hil) hi3 (by simp [Array.getD, hlt])
        omega
    unfold wpOp
    rw [hoA]
    simp only
    split
    · rename_i hw
      rw [if_pos hw] at hA
      left
      refine Oper.wp_mono ?_ hA
      rintro a' w' ⟨v, h1, h2, rfl⟩
      exact hnext v w' h1 h2
    · rename_i hw
      rw [if_neg hw] at hA
      exact hnext undef w hC hA

/-- The region, whatever its order. -/
theorem wp_region_free {P : Program} {id : Nat} {l : List Oper} {C : World → Prop} {S : Nat → Value → Prop} {a0 : Act} {w : World} {Q : Exit → Act → World → Prop} (hm : P.follows .mixedOrders = true) (hd : Dis l) (hsz : ∀ o ∈ l, ∀ t, o.dst = some t → t < a0.tmps.size)
    (hfree : ∀ listed : Array Bool, listed.size = l.length → Region.ready .any l.toArray listed = [] → ∀ i, i < l.length → listed.getD i false = true) (hC : C w.drew)
    (hst : ∀ i o, l[i]? = some o → Asked P l C S a0 Q i o)
    (hend : ∀ (vs : Nat → Value) (w : World), C w → (∀ i, i < l.length → S i (vs i)) → Q .normal (over a0 (fun _ => true) vs l 0) w) : (Code.region id l.toArray true).wp P Q a0 w := by
  refine wp_region_any hm ?_
  have h := wpAny_free hd hsz hst hend hfree l.toArray.size (Array.replicate l.toArray.size false) (fun _ => undef) w.drew (by simp) hC (fun i hi hh => by simp [Array.getD] at hh) (by
    refine Nat.le_trans (List.length_filter_le _ _) (by simp))
  have e : over a0 (fun i => (Array.replicate l.toArray.size false).getD i false) (fun _ => undef) l 0 = a0 := by
    have key : ∀ (r : List Oper) (k : Nat), over a0 (fun i => (Array.replicate l.toArray.size false).getD i false) (fun _ => undef) r k = a0 := by
      intro r
      induction r with
      | nil => intro k; rfl
      | cons p r ih =>
        intro k
        simp only [over]
        rw [if_neg (by simp [Array.getD]), ih (k + 1)]
    exact key l 0
  rw [e] at h
  exact h
/-- No operation waits for a later one, nor for itself: so none is left. -/
theorem free_of {l : List Oper} (h : ∀ i o, l[i]? = some o → ∀ e ∈ o.after.toList, Region.binds .any e = true → e.on < i) : ∀ listed : Array Bool, listed.size = l.length → Region.ready .any l.toArray listed = [] → ∀ i, i < l.length → listed.getD i false = true := by
  intro listed hs hr i
  induction i using Nat.strongRecOn with
  | ind i ih =>
    intro hi
    apply Classical.byContradiction
    intro hn
    have ho : l[i]? = some (l[i]'hi) := by simp [hi]
    have hin : i ∈ Region.ready .any l.toArray listed := by
      unfold Region.ready
      rw [List.mem_filter]
      refine ⟨by simpa using hi, ?_⟩
      have hoA : l.toArray[i]? = some (l[i]'hi) := by simp [hi]
      rw [hoA]
      simp only [Option.map_some, Option.getD_some, Bool.and_eq_true]
      refine ⟨?_, ?_⟩
      · have hlt : i < listed.size := by omega
        simp [Array.getD, hlt] at hn ⊢
        exact hn
      · rw [Array.all_eq_true_iff_forall_mem]
        intro e he
        cases hb : Region.binds .any e with
        | false => rfl
        | true =>
          have := h i _ ho e (by simpa using he) hb
          have h2 := ih e.on this (by omega)
          simp only [Bool.not_true, Bool.false_or]
          exact h2
    rw [hr] at hin
    simp at hin

/-- One by one. -/
def Each (X : Nat → Oper → Prop) : List Oper → Nat → Prop
  | [], _ => True
  | o :: r, k => X k o ∧ Each X r (k + 1)
theorem each_get {X : Nat → Oper → Prop} {l : List Oper} {k : Nat} (h : Each X l k) : ∀ i o, l[i]? = some o → X (k + i) o := by
  induction l generalizing k with
  | nil => intro i o hi; simp at hi
  | cons p r ih =>
    intro i o hi
    cases i with
    | zero => simp at hi; subst hi; exact h.1
    | succ i =>
      simp at hi
      have := ih h.2 i o hi
      rw [show k + (i + 1) = k + 1 + i by omega]
      exact this
theorem each_at {X : Nat → Oper → Prop} {l : List Oper} (h : Each X l 0) : ∀ i o, l[i]? = some o → X i o := fun i o hi => by
  have := each_get h i o hi
  rwa [Nat.zero_add] at this
/-- The three closed facts of a region, as one. -/
def regionB (l : List Oper) (n : Nat) : Bool :=
  (l.map (·.dst)).all (fun d => match d with | some t => decide (t < n) | none => true) &&
  decide ((l.map (·.dst)).Pairwise (fun d e => d = none ∨ d ≠ e)) &&
  (List.range l.length).all (fun i => match l[i]? with | some o => o.after.toList.all (fun e => !Region.binds .any e || decide (e.on < i)) | none => true)
theorem regionB_spec {l : List Oper} {n : Nat} (h : regionB l n = true) : Dis l ∧ (∀ o ∈ l, ∀ t, o.dst = some t → t < n) ∧ ∀ i o, l[i]? = some o → ∀ e ∈ o.after.toList, Region.binds .any e = true → e.on < i := by
  unfold regionB at h
  simp only [Bool.and_eq_true] at h
  obtain ⟨⟨h1, h2⟩, h3⟩ := h
  refine ⟨?_, fun o ho t ht => ?_, fun i o hi e he hb => ?_⟩
  · have := of_decide_eq_true h2
    rw [List.pairwise_map] at this
    exact this
  · have := List.all_eq_true.1 h1 o.dst (List.mem_map.2 ⟨o, ho, rfl⟩)
    rw [ht] at this
    exact of_decide_eq_true this
  · have := List.all_eq_true.1 h3 i (by simpa using (List.getElem?_eq_some_iff.1 hi).1)
    rw [hi] at this
    have := List.all_eq_true.1 this e he
    rw [hb] at this
    simpa using this

theorem slot_else {a a0 : Act} {l : List Oper} {t : Tmp} {v : Value} (he : ∀ t, (∀ p ∈ l, p.dst ≠ some t) → a.tmps[t]? = a0.tmps[t]?) (hb : (l.all fun p => decide (p.dst ≠ some t)) = true) (hv : a0.tmps[t]? = some v) : a.tmps[t]? = some v :=
  (he t (fun p hp => of_decide_eq_true (List.all_eq_true.1 hb p hp))).trans hv
theorem eval_slot {a : Act} {t : Tmp} {v : Value} (h : a.tmps[t]? = some v) : a.eval (.tmp t) = v := by
  simp [Act.eval, Array.getD_eq_getD_getElem?, h]
theorem yielded_slot {ops : Array Oper} {tmps : Array Value} {j : Nat} {t : Tmp} {b : Bool} (hd : (ops[j]?).bind (·.dst) = some t) (h : tmps[t]? = some (.bool b)) : yielded ops tmps j = some b := by
  unfold yielded
  rw [hd]
  simp [h]
theorem wanted_yes {o : Oper} {y : Nat → Option Bool} {j : Nat} {b : Bool} (hg : o.guard = some (j, b)) (h : y j = some b) : Region.wanted o y = true := by
  unfold Region.wanted
  rw [hg]
  simp [h]
theorem wanted_no {o : Oper} {y : Nat → Option Bool} {j : Nat} {b c : Bool} (hg : o.guard = some (j, b)) (h : y j = some c) (hne : c ≠ b) : Region.wanted o y = false := by
  unfold Region.wanted
  rw [hg]
  simp [h, hne]
theorem wanted_free {o : Oper} {y : Nat → Option Bool} (hg : o.guard = none) : Region.wanted o y = true := by
  unfold Region.wanted
  rw [hg]

end Go.Proofs.Ytmkbbhdmfpjfdaa
