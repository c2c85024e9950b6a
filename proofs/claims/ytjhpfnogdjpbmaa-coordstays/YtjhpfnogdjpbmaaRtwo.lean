/-
  A region that draws its order and stores once: ahead of the store the worlds are of one class, behind it of another one. What the store hangs on comes ahead of it, whatever the order; of the other operations both classes are asked.
-/
import Derived.Test.YtjhpfnogdjpbmaaRfree
namespace Go.Proofs.Ytjhpfnogdjpbmaa
set_option linter.unusedVariables false

def AskedTo (P : Program) (l : List Oper) (C D : World → Prop) (S : Nat → Value → Prop) (a0 : Act) (Q : Exit → Act → World → Prop) (i : Nat) (o : Oper) : Prop :=
  ∀ (a : Act) (w : World), C w → a.defers = a0.defers → a.tmps.size = a0.tmps.size → (∀ t, (∀ p ∈ l, p.dst ≠ some t) → a.tmps[t]? = a0.tmps[t]?) →
    (∀ e ∈ o.after.toList, Region.binds .any e = true → ∀ p t, l[e.on]? = some p → p.dst = some t → ∃ v, a.tmps[t]? = some v ∧ S e.on v) →
    if Region.wanted o (yielded l.toArray a.tmps) = true then o.wp P a w (fun a' w' => ∃ v, D w' ∧ S i v ∧ a' = a.put o.dst v) Q else D w ∧ S i undef
theorem Asked.to {P : Program} {l : List Oper} {C : World → Prop} {S : Nat → Value → Prop} {a0 : Act} {Q : Exit → Act → World → Prop} {i : Nat} {o : Oper} (h : Asked P l C S a0 Q i o) : AskedTo P l C C S a0 Q i o := by
  intro a w hC h1 h2 h3 h4
  have := h a w hC h1 h2 h3 h4
  split
  · rename_i hw; rw [if_pos hw] at this; exact this
  · rename_i hw; rw [if_neg hw] at this; exact ⟨hC, this⟩

def twoB (l : List Oper) (s : Nat) (ex : List Nat) : Bool :=
  decide (s < l.length) && (List.range l.length).all fun i => i == s || ex.contains i || (List.range l.length).any fun j => decide (i < j) && (j == s || !ex.contains j) && match l[j]? with | some o => o.after.toList.any (fun e => Region.binds .any e && e.on == i) | none => false
theorem twoB_spec {l : List Oper} {s : Nat} {ex : List Nat} (h : twoB l s ex = true) : s < l.length ∧ ∀ i, i < l.length → i ≠ s → ex.contains i = false → ∃ j o, l[j]? = some o ∧ i < j ∧ (j = s ∨ ex.contains j = false) ∧ ∃ e ∈ o.after.toList, Region.binds .any e = true ∧ e.on = i := by
  unfold twoB at h
  rw [Bool.and_eq_true] at h
  refine ⟨of_decide_eq_true h.1, fun i hi hne hex => ?_⟩
  have := List.all_eq_true.1 h.2 i (by simpa using hi)
  rw [hex] at this
  simp only [Bool.or_eq_true, beq_iff_eq, hne, false_or, Bool.false_eq_true] at this
  obtain ⟨j, hj, hh⟩ := List.any_eq_true.1 this
  simp only [Bool.and_eq_true, decide_eq_true_eq, Bool.or_eq_true, beq_iff_eq, Bool.not_eq_true'] at hh
  obtain ⟨⟨h1, h2⟩, h3⟩ := hh
  cases ho : l[j]? with
  | none => rw [ho] at h3; simp at h3
  | some o =>
    rw [ho] at h3
    obtain ⟨e, he, h4⟩ := List.any_eq_true.1 h3
    simp only [Bool.and_eq_true, beq_iff_eq] at h4
    exact ⟨j, o, ho, h1, h2, e, he, h4.1, h4.2⟩

theorem wpAny_two {P : Program} {l : List Oper} {C0 C1 : World → Prop} {S : Nat → Value → Prop} {a0 : Act} {Q : Exit → Act → World → Prop} (s : Nat) (ex : List Nat) (hd : Dis l) (hsz : ∀ o ∈ l, ∀ t, o.dst = some t → t < a0.tmps.size)
    (hs : s < l.length) (hN : ∀ i, i < l.length → i ≠ s → ex.contains i = false → ∃ j o, l[j]? = some o ∧ i < j ∧ (j = s ∨ ex.contains j = false) ∧ ∃ e ∈ o.after.toList, Region.binds .any e = true ∧ e.on = i)
    (hst0 : ∀ i o, l[i]? = some o → i ≠ s → AskedTo P l C0 C0 S a0 Q i o)
    (hst1 : ∀ i o, l[i]? = some o → i ≠ s → ex.contains i = true → AskedTo P l C1 C1 S a0 Q i o)
    (hsto : ∀ o, l[s]? = some o → AskedTo P l C0 C1 S a0 Q s o)
    (hend : ∀ (vs : Nat → Value) (w : World), C1 w → (∀ i, i < l.length → S i (vs i)) → Q .normal (over a0 (fun _ => true) vs l 0) w)
    (hfree : ∀ listed : Array Bool, listed.size = l.length → Region.ready .any l.toArray listed = [] → ∀ i, i < l.length → listed.getD i false = true) :
    ∀ (fuel : Nat) (listed : Array Bool) (vs : Nat → Value) (w : World), listed.size = l.length → (listed.getD s false = true → C1 w) → (listed.getD s false = false → C0 w) →
      (∀ j o, l[j]? = some o → listed.getD j false = true → ∀ e ∈ o.after.toList, Region.binds .any e = true → listed.getD e.on false = true) →
      (∀ i, i < l.length → listed.getD i false = true → S i (vs i)) → ((List.range l.length).filter fun i => !listed.getD i true).length ≤ fuel →
      wpAny P .any l.toArray Q fuel listed (over a0 (fun i => listed.getD i false) vs l 0) w := by
  have hE : ∀ (listed : Array Bool) (vs : Nat → Value) (w : World), listed.size = l.length → (listed.getD s false = true → C1 w) → (∀ i, i < l.length → listed.getD i false = true → S i (vs i)) → Region.ready .any l.toArray listed = [] → Q .normal (over a0 (fun i => listed.getD i false) vs l 0) w := by
    intro listed vs w hsl hC hS hr
    have hall := hfree listed hsl hr
    have := hend vs w (hC (hall s hs)) (fun i hi => hS i hi (hall i hi))
    have e : over a0 (fun i => listed.getD i false) vs l 0 = over a0 (fun _ => true) vs l 0 := by
      have key : ∀ (r : List Oper) (k : Nat), k + r.length = l.length → over a0 (fun i => listed.getD i false) vs r k = over a0 (fun _ => true) vs r k := by
        intro r
        induction r with
        | nil => intro k _; rfl
        | cons p r ih =>
          intro k hk
          simp only [List.length_cons] at hk
          simp only [over]
          rw [if_pos (hall k (by omega)), if_pos trivial, ih (k + 1) (by omega)]
      exact key l 0 (by omega)
    rw [e]
    exact this
  intro fuel
  induction fuel with
  | zero =>
    intro listed vs w hsl hC1 hC0 hJ hS hf
    have hr : Region.ready .any l.toArray listed = [] := by
      unfold Region.ready
      rw [List.filter_eq_nil_iff]
      intro i hi hh
      have hn := List.eq_nil_of_length_eq_zero (Nat.le_zero.1 hf)
      rw [List.filter_eq_nil_iff] at hn
      simp only [Bool.and_eq_true] at hh
      exact hn i (by simpa using hi) hh.1
    exact ⟨hr, hE listed vs w hsl hC1 hS hr⟩
  | succ fuel ih =>
    intro listed vs w hsl hC1 hC0 hJ hS hf
    refine ⟨hE listed vs w hsl hC1 hS, fun i hi => ?_⟩
    unfold Region.ready at hi
    rw [List.mem_filter] at hi
    obtain ⟨hi1, hi2⟩ := hi
    have hil : i < l.length := by simpa using hi1
    simp only [Bool.and_eq_true] at hi2
    obtain ⟨hi3, hi4⟩ := hi2
    have ho : l[i]? = some (l[i]'hil) := by simp [hil]
    have hoA : l.toArray[i]? = some (l[i]'hil) := by simp [hil]
    have hLt : listed.getD i true = false := by simpa using hi3
    have hLf : listed.getD i false = false := by
      have hlt : i < listed.size := by omega
      simp [Array.getD, hlt] at hLt ⊢
      exact hLt
    rw [hoA] at hi4
    simp only [Option.map_some, Option.getD_some] at hi4
    generalize l[i]'hil = o at *
    have hset : ∀ j, (listed.setIfInBounds i true).getD j false = if j = i then true else listed.getD j false := by
      intro j
      have hlt : i < listed.size := by omega
      by_cases e : j = i
      · subst e; simp [Array.getD, hlt]
      · simp only [Array.getD_eq_getD_getElem?, if_neg e]
        rw [Array.getElem?_setIfInBounds, if_neg (fun h => e h.symm)]
    have hdeps : ∀ e ∈ o.after.toList, Region.binds .any e = true → listed.getD e.on false = true := fun e he hb => by
      have h1 := (Array.all_eq_true_iff_forall_mem.1 hi4) e (by simpa using he)
      simp only [hb, Bool.not_true, Bool.false_or] at h1
      exact h1
    have hJ' : ∀ j o', l[j]? = some o' → (listed.setIfInBounds i true).getD j false = true → ∀ e ∈ o'.after.toList, Region.binds .any e = true → (listed.setIfInBounds i true).getD e.on false = true := fun j o' ho' hj e he hb => by
      rw [hset] at hj ⊢
      by_cases e1 : j = i
      · subst e1
        rw [ho] at ho'
        obtain rfl := Option.some.inj ho'
        rw [hdeps e he hb]
        simp
      · rw [if_neg e1] at hj
        rw [hJ j o' ho' hj e he hb]
        simp
    have hget : ∀ e ∈ o.after.toList, Region.binds .any e = true → ∀ p t, l[e.on]? = some p → p.dst = some t → ∃ v, (over a0 (fun i => listed.getD i false) vs l 0).tmps[t]? = some v ∧ S e.on v := fun e he hb p t hp ht => by
      have h1 := hdeps e he hb
      have hel : e.on < l.length := (List.getElem?_eq_some_iff.1 hp).1
      refine ⟨vs e.on, ?_, hS e.on hel h1⟩
      have := over_at a0 (fun i => listed.getD i false) vs l 0 e.on p t hp ht hd (by simpa using h1) (hsz p (List.mem_of_getElem? hp) t ht)
      simpa using this
    have hnext : ∀ v w', ((listed.setIfInBounds i true).getD s false = true → C1 w') → ((listed.setIfInBounds i true).getD s false = false → C0 w') → S i v → wpAny P .any l.toArray Q fuel (listed.setIfInBounds i true) ((over a0 (fun i => listed.getD i false) vs l 0).put o.dst v) w' := by
      intro v w' hC1' hC0' hSv
      have hp := over_put a0 (fun i => listed.getD i false) vs l 0 i o ho hd (by simpa using hLf) v
      rw [Nat.zero_add] at hp
      rw [hp]
      have eL : over a0 (updB (fun i => listed.getD i false) i) (updV vs i v) l 0 = over a0 (fun j => (listed.setIfInBounds i true).getD j false) (updV vs i v) l 0 := by
        refine over_congr _ _ _ _ _ _ _ (fun j _ => ?_) (fun j _ => rfl)
        rw [hset]
        simp [updB]
      rw [eL]
      refine ih _ _ _ (by simpa using hsl) hC1' hC0' hJ' (fun j hj hh => ?_) ?_
      · by_cases e : j = i
        · subst e; simp [updV, hSv]
        · simp only [updV, if_neg e]
          refine hS j hj ?_
          rw [hset, if_neg e] at hh
          exact hh
      · have hlt : i < listed.size := by omega
        have := filter_lt (p := fun j => !listed.getD j true) (q := fun j => !(listed.setIfInBounds i true).getD j true) (List.range l.length) i (fun j hj => by
          by_cases e : j = i
          · subst e; simp [Array.getD, hlt] at hj
          · simp only [Array.getD_eq_getD_getElem?] at hj ⊢
            rw [Array.getElem?_setIfInBounds, if_neg (fun h => e h.symm)] at hj
            exact hj) (by simpa using hil) hi3 (by simp [Array.getD, hlt])
        omega
    have fin : ∀ C D : World → Prop, C w → (∀ w', D w' → ((listed.setIfInBounds i true).getD s false = true → C1 w') ∧ ((listed.setIfInBounds i true).getD s false = false → C0 w')) → AskedTo P l C D S a0 Q i o → wpOp P l.toArray Q i (wpAny P .any l.toArray Q fuel (listed.setIfInBounds i true)) (over a0 (fun i => listed.getD i false) vs l 0) w := by
      intro C D hC hD hA'
      have hA := hA' (over a0 (fun i => listed.getD i false) vs l 0) w hC (over_defers _ _ _ _ _) (over_size _ _ _ _ _) (fun t ht => over_else _ _ _ _ _ t ht) hget
      unfold wpOp
      rw [hoA]
      simp only
      split
      · rename_i hw
        rw [if_pos hw] at hA
        left
        refine Oper.wp_mono ?_ hA
        rintro a' w' ⟨v, h1, h2, rfl⟩
        exact hnext v w' (hD w' h1).1 (hD w' h1).2 h2
      · rename_i hw
        rw [if_neg hw] at hA
        exact hnext undef w (hD w hA.1).1 (hD w hA.1).2 hA.2
    by_cases his : i = s
    · subst his
      exact fin C0 C1 (hC0 hLf) (fun w' h => ⟨fun _ => h, fun hh => by rw [hset] at hh; simp at hh⟩) (hsto o ho)
    · have hss : (listed.setIfInBounds i true).getD s false = listed.getD s false := by rw [hset, if_neg (fun h => his h.symm)]
      cases hls : listed.getD s false with
      | false => exact fin C0 C0 (hC0 hls) (fun w' h => ⟨fun hh => by rw [hss, hls] at hh; simp at hh, fun _ => h⟩) (hst0 i o ho his)
      | true =>
        have hex : ex.contains i = true := by
          cases hx : ex.contains i with
          | true => rfl
          | false =>
            have key : ∀ n i, l.length - i = n → i < l.length → i ≠ s → ex.contains i = false → listed.getD i false = true := by
              intro n
              induction n using Nat.strongRecOn with
              | ind n ihn =>
                intro i hn hi hne hx
                obtain ⟨j, oj, hj, hij, hor, e, he, hb, hon⟩ := hN i hi hne hx
                have hjl : j < l.length := (List.getElem?_eq_some_iff.1 hj).1
                have hlj : listed.getD j false = true := by
                  by_cases hjs : j = s
                  · rw [hjs]; exact hls
                  · rcases hor with h | h
                    · exact absurd h hjs
                    · exact ihn (l.length - j) (by omega) j rfl hjl hjs h
                have := hJ j oj hj hlj e he hb
                rwa [hon] at this
            have := key (l.length - i) i rfl hil his hx
            rw [hLf] at this
            cases this
        exact fin C1 C1 (hC1 hls) (fun w' h => ⟨fun _ => h, fun hh => by rw [hss, hls] at hh; simp at hh⟩) (hst1 i o ho his hex)

/-- The region, whatever its order. -/
theorem wp_region_two {P : Program} {id : Nat} {l : List Oper} {C0 C1 : World → Prop} {S : Nat → Value → Prop} {a0 : Act} {w : World} {Q : Exit → Act → World → Prop} (s : Nat) (ex : List Nat) (hm : P.follows .mixedOrders = true) {n : Nat} (hn : n = a0.tmps.size) (hB : regionB l n = true) (h2 : twoB l s ex = true) (hC : C0 w.drew)
    (hst0 : ∀ i o, l[i]? = some o → if i = s then AskedTo P l C0 C1 S a0 Q i o else AskedTo P l C0 C0 S a0 Q i o)
    (hst1 : ∀ i o, l[i]? = some o → ex.contains i = true → i = s ∨ AskedTo P l C1 C1 S a0 Q i o)
    (hend : ∀ (vs : Nat → Value) (w : World), C1 w → (∀ i, i < l.length → S i (vs i)) → Q .normal (over a0 (fun _ => true) vs l 0) w) : (Code.region id l.toArray true).wp P Q a0 w := by
  subst hn
  obtain ⟨hd, hsz, hdp⟩ := regionB_spec hB
  obtain ⟨hs, hN⟩ := twoB_spec h2
  refine wp_region_any hm ?_
  have h := wpAny_two s ex hd hsz hs hN (fun i o ho hne => by have := hst0 i o ho; rwa [if_neg hne] at this) (fun i o ho hne hx => by
    rcases hst1 i o ho hx with h | h
    · exact absurd h hne
    · exact h) (fun o ho => by have := hst0 s o ho; rwa [if_pos rfl] at this) hend (free_of hdp) l.toArray.size (Array.replicate l.toArray.size false) (fun _ => undef) w.drew (by simp) (fun hh => by simp [Array.getD] at hh) (fun _ => hC) (fun j o _ hh => by simp [Array.getD] at hh) (fun i hi hh => by simp [Array.getD] at hh) (by
    refine Nat.le_trans (List.length_filter_le _ _) (by simp))
  have e : over a0 (fun i => (Array.replicate l.toArray.size false).getD i false) (fun _ => undef) l 0 = a0 := by
    have key : ∀ (r : List Oper) (k : Nat), over a0 (fun i => (Array.replicate l.toArray.size false).getD i false) (fun _ => undef) r k = a0 := by
      intro r
      induction r with
      | nil => intro k; rfl
      | cons p r ih =>
        intro k
        simp only [over]
        rw [if_neg (by simp [Array.getD]), ih (k + 1)]
    exact key l 0
  rw [e] at h
  exact h

end Go.Proofs.Ytjhpfnogdjpbmaa
