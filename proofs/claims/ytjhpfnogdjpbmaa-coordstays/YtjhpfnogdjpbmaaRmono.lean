/-
  A region that draws its order, whose operations turn the world: what is told of each one's value is told of a world, and the later ones keep it. One proof an operation, none an order.
-/
import Derived.Test.YtjhpfnogdjpbmaaRfree
namespace Go.Proofs.Ytjhpfnogdjpbmaa
set_option linter.unusedVariables false

/-- What an operation leaves: its value, and all that was told of the others. -/
def MPost (C : World → Prop) (S : Nat → Value → World → Prop) (i : Nat) (a : Act) (d : Option Tmp) (w : World) (a' : Act) (w' : World) : Prop :=
  ∃ v, C w' ∧ S i v w' ∧ (∀ j u, j ≠ i → S j u w → S j u w') ∧ a' = a.put d v
def AskedM (P : Program) (l : List Oper) (C : World → Prop) (S : Nat → Value → World → Prop) (a0 : Act) (Q : Exit → Act → World → Prop) (i : Nat) (o : Oper) : Prop :=
  ∀ (a : Act) (w : World), C w → a.defers = a0.defers → a.tmps.size = a0.tmps.size → (∀ t, (∀ p ∈ l, p.dst ≠ some t) → a.tmps[t]? = a0.tmps[t]?) →
    (∀ e ∈ o.after.toList, Region.binds .any e = true → ∀ p t, l[e.on]? = some p → p.dst = some t → ∃ v, a.tmps[t]? = some v ∧ S e.on v w) →
    if Region.wanted o (yielded l.toArray a.tmps) = true then o.wp P a w (MPost C S i a o.dst w) Q else S i undef w
theorem MPost.same {C : World → Prop} {S : Nat → Value → World → Prop} {i : Nat} {a a' : Act} {d : Option Tmp} {w : World} (v : Value) (hC : C w) (hS : S i v w) (ha : a' = a.put d v) : MPost C S i a d w a' w :=
  ⟨v, hC, hS, fun _ _ _ h => h, ha⟩
theorem MPost.turn {C : World → Prop} {S : Nat → Value → World → Prop} {i : Nat} {a a' : Act} {d : Option Tmp} {w w' : World} (v : Value) (hC : C w') (hS : S i v w') (hk : ∀ j u, j ≠ i → S j u w → S j u w') (ha : a' = a.put d v) : MPost C S i a d w a' w' :=
  ⟨v, hC, hS, hk, ha⟩

theorem wpAny_mono {P : Program} {l : List Oper} {C : World → Prop} {S : Nat → Value → World → Prop} {a0 : Act} {Q : Exit → Act → World → Prop} (hd : Dis l) (hsz : ∀ o ∈ l, ∀ t, o.dst = some t → t < a0.tmps.size)
    (hst : ∀ i o, l[i]? = some o → AskedM P l C S a0 Q i o)
    (hend : ∀ (vs : Nat → Value) (w : World), C w → (∀ i, i < l.length → S i (vs i) w) → Q .normal (over a0 (fun _ => true) vs l 0) w)
    (hfree : ∀ listed : Array Bool, listed.size = l.length → Region.ready .any l.toArray listed = [] → ∀ i, i < l.length → listed.getD i false = true) :
    ∀ (fuel : Nat) (listed : Array Bool) (vs : Nat → Value) (w : World), listed.size = l.length → C w → (∀ i, i < l.length → listed.getD i false = true → S i (vs i) w) → ((List.range l.length).filter fun i => !listed.getD i true).length ≤ fuel →
      wpAny P .any l.toArray Q fuel listed (over a0 (fun i => listed.getD i false) vs l 0) w := by
  have hE : ∀ (listed : Array Bool) (vs : Nat → Value) (w : World), listed.size = l.length → C w → (∀ i, i < l.length → listed.getD i false = true → S i (vs i) w) → Region.ready .any l.toArray listed = [] → Q .normal (over a0 (fun i => listed.getD i false) vs l 0) w := by
    intro listed vs w hs hC hS hr
    have hall := hfree listed hs hr
    have := hend vs w hC (fun i hi => hS i hi (hall i hi))
    have e : over a0 (fun i => listed.getD i false) vs l 0 = over a0 (fun _ => true) vs l 0 := by
      have key : ∀ (r : List Oper) (k : Nat), k + r.length = l.length → over a0 (fun i => listed.getD i false) vs r k = over a0 (fun _ => true) vs r k := by
        intro r
        induction r with
        | nil => intro k _; rfl
        | cons p r ih =>
          intro k hk
          simp only [List.length_cons] at hk
          simp only [over]
          rw [if_pos (hall k (by omega)), if_pos trivial, ih (k + 1) (by omega)]
      exact key l 0 (by omega)
    rw [e]
    exact this
  intro fuel
  induction fuel with
  | zero =>
    intro listed vs w hs hC hS hf
    have hr : Region.ready .any l.toArray listed = [] := by
      unfold Region.ready
      rw [List.filter_eq_nil_iff]
      intro i hi hh
      have hn := List.eq_nil_of_length_eq_zero (Nat.le_zero.1 hf)
      rw [List.filter_eq_nil_iff] at hn
      simp only [Bool.and_eq_true] at hh
      exact hn i (by simpa using hi) hh.1
    exact ⟨hr, hE listed vs w hs hC hS hr⟩
  | succ fuel ih =>
    intro listed vs w hs hC hS hf
    refine ⟨hE listed vs w hs hC hS, fun i hi => ?_⟩
    unfold Region.ready at hi
    rw [List.mem_filter] at hi
    obtain ⟨hi1, hi2⟩ := hi
    have hil : i < l.length := by simpa using hi1
    simp only [Bool.and_eq_true] at hi2
    obtain ⟨hi3, hi4⟩ := hi2
    have ho : l[i]? = some (l[i]'hil) := by simp [hil]
    have hoA : l.toArray[i]? = some (l[i]'hil) := by simp [hil]
    have hLt : listed.getD i true = false := by simpa using hi3
    have hLf : listed.getD i false = false := by
      have hlt : i < listed.size := by omega
      simp [Array.getD, hlt] at hLt ⊢
      exact hLt
    rw [hoA] at hi4
    simp only [Option.map_some, Option.getD_some] at hi4
    generalize l[i]'hil = o at *
    have hA := hst i o ho (over a0 (fun i => listed.getD i false) vs l 0) w hC (over_defers _ _ _ _ _) (over_size _ _ _ _ _) (fun t ht => over_else _ _ _ _ _ t ht) (fun e he hb p t hp ht => by
      have h1 := (Array.all_eq_true_iff_forall_mem.1 hi4) e (by simpa using he)
      simp only [hb, Bool.not_true, Bool.false_or] at h1
      have hel : e.on < l.length := (List.getElem?_eq_some_iff.1 hp).1
      refine ⟨vs e.on, ?_, hS e.on hel h1⟩
      have := over_at a0 (fun i => listed.getD i false) vs l 0 e.on p t hp ht hd (by simpa using h1) (hsz p (List.mem_of_getElem? hp) t ht)
      simpa using this)
    have hnext : ∀ v w', C w' → S i v w' → (∀ j u, j ≠ i → S j u w → S j u w') → wpAny P .any l.toArray Q fuel (listed.setIfInBounds i true) ((over a0 (fun i => listed.getD i false) vs l 0).put o.dst v) w' := by
      intro v w' hC' hSv hkp
      have hp := over_put a0 (fun i => listed.getD i false) vs l 0 i o ho hd (by simpa using hLf) v
      rw [Nat.zero_add] at hp
      rw [hp]
      have eL : over a0 (updB (fun i => listed.getD i false) i) (updV vs i v) l 0 = over a0 (fun j => (listed.setIfInBounds i true).getD j false) (updV vs i v) l 0 := by
        refine over_congr _ _ _ _ _ _ _ (fun j _ => ?_) (fun j _ => rfl)
        have hlt : i < listed.size := by omega
        by_cases e : j = i
        · subst e
          simp [updB, Array.getD, hlt]
        · simp only [updB, if_neg e, Array.getD_eq_getD_getElem?]
          rw [Array.getElem?_setIfInBounds, if_neg (fun h => e h.symm)]
      rw [eL]
      refine ih _ _ _ (by simpa using hs) hC' (fun j hj hh => ?_) ?_
      · by_cases e : j = i
        · subst e; simp [updV, hSv]
        · simp only [updV, if_neg e]
          refine hkp j _ e (hS j hj ?_)
          rw [Array.getD_eq_getD_getElem?, Array.getElem?_setIfInBounds, if_neg (fun h => e h.symm)] at hh
          rw [Array.getD_eq_getD_getElem?]
          exact hh
      · have hlt : i < listed.size := by omega
        have := filter_lt (p := fun j => !listed.getD j true) (q := fun j => !(listed.setIfInBounds i true).getD j true) (List.range l.length) i (fun j hj => by
          by_cases e : j = i
          · subst e; simp [Array.getD, hlt] at hj
          · simp only [Array.getD_eq_getD_getElem?] at hj ⊢
            rw [Array.getElem?_setIfInBounds, if_neg (fun h => e h.symm)] at hj
            exact hj) (by simpa using hil) hi3 (by simp [Array.getD, hlt])
        omega
    unfold wpOp
    rw [hoA]
    simp only
    split
    · rename_i hw
      rw [if_pos hw] at hA
      left
      refine Oper.wp_mono ?_ hA
      rintro a' w' ⟨v, h1, h2, h3, rfl⟩
      exact hnext v w' h1 h2 h3
    · rename_i hw
      rw [if_neg hw] at hA
      exact hnext undef w hC hA (fun _ _ _ h => h)

theorem wp_region_mono {P : Program} {id : Nat} {l : List Oper} {C : World → Prop} {S : Nat → Value → World → Prop} {a0 : Act} {w : World} {Q : Exit → Act → World → Prop} (hm : P.follows .mixedOrders = true) {n : Nat} (hn : n = a0.tmps.size) (hB : regionB l n = true) (hC : C w.drew)
    (hst : ∀ i o, l[i]? = some o → AskedM P l C S a0 Q i o)
    (hend : ∀ (vs : Nat → Value) (w : World), C w → (∀ i, i < l.length → S i (vs i) w) → Q .normal (over a0 (fun _ => true) vs l 0) w) : (Code.region id l.toArray true).wp P Q a0 w := by
  subst hn
  obtain ⟨hd, hsz, hdp⟩ := regionB_spec hB
  refine wp_region_any hm ?_
  have h := wpAny_mono hd hsz hst hend (free_of hdp) l.toArray.size (Array.replicate l.toArray.size false) (fun _ => undef) w.drew (by simp) hC (fun i hi hh => by simp [Array.getD] at hh) (by
    refine Nat.le_trans (List.length_filter_le _ _) (by simp))
  have e : over a0 (fun i => (Array.replicate l.toArray.size false).getD i false) (fun _ => undef) l 0 = a0 := by
    have key : ∀ (r : List Oper) (k : Nat), over a0 (fun i => (Array.replicate l.toArray.size false).getD i false) (fun _ => undef) r k = a0 := by
      intro r
      induction r with
      | nil => intro k; rfl
      | cons p r ih =>
        intro k
        simp only [over]
        rw [if_neg (by simp [Array.getD]), ih (k + 1)]
    exact key l 0
  rw [e] at h
  exact h

end Go.Proofs.Ytjhpfnogdjpbmaa
