/-
  What replicas do, with bytes and with entries alone: Put, Crash, Fetch.
-/
import Derived.Test.YtkolelpdedmkeaaQops
namespace Go.Proofs.Ytkolelpdedmkeaa
open Go.RowKit
set_option linter.unusedVariables false
set_option linter.unusedSimpArgs false

theorem app_flat {es : List Ent} (h : Oks es) (hl : es.length < 400) (k : Nat) (hk : k ≤ es.length) {x : Ent} (hx : x.flt = 0) : appF (flat es) (endOf es k) x = 0 := by
  obtain ⟨h1, h2, _⟩ := lft_flat h (by omega) k hk
  have hfl := flat_len es h
  have hb := body_len' x hx
  have he := enc_len x
  unfold appF
  rw [if_neg (by simp [h1]), if_neg (by simp [hx]), if_neg]
  rw [h2]
  show ¬ (400 ≤ es.length ∨ 40000 < (es.flatMap Ent.enc).length + x.enc.length)
  omega
theorem app_full {es : List Ent} (h : Oks es) (hl : es.length = 400) (k : Nat) (hk : k ≤ es.length) {x : Ent} (hx : x.flt = 0) : appF (flat es) (endOf es k) x = 16 := by
  obtain ⟨h1, h2, _⟩ := lft_flat h (by omega) k hk
  unfold appF
  rw [if_neg (by simp [h1]), if_neg (by simp [hx]), if_pos]
  rw [h2]
  exact .inl (by omega)
/-- Of the first j so many keep up and are up. -/
def Ap.ups (A : Ap) : Nat → Nat
  | 0 => 0
  | j + 1 => A.ups j + if A.isr j = true ∧ A.up j = true then 1 else 0
theorem prt_ups (A : Ap) (j : Nat) (h : j ≤ A.n) : A.prt.ups j = A.ups j := by
  induction j with
  | zero => rfl
  | succ j ih =>
    simp only [Prt.ups, Ap.ups]
    rw [ih (by omega), prt_isr A (by omega), (prt_up A (show j < A.n by omega)).1]
theorem Fine.put {A : Ap} (F : Fine A) (d : Nat) (x : Ent) (hx : x.flt = 0) (hl : (A.es d).length < 400) : Fine (A.put d x) := by
  refine ⟨F.cnt, F.few, F.epo, F.bas, F.kno, fun i hi => ?_, fun i hi => ?_, fun i hi => ?_, F.led, F.som⟩
  · by_cases e : i = d
    · subst e
      simp only [Ap.put, upd_same]
      exact ⟨(F.ent i hi).1.snoc hx, by simp; omega⟩
    · simp only [Ap.put, upd_other _ _ e]; exact F.ent i hi
  · have := F.saf i hi
    by_cases e : i = d
    · subst e; simp only [Ap.put, upd_same]; simp; omega
    · simp only [Ap.put, upd_other _ _ e]; exact this
  · have := F.hig i hi
    by_cases e : i = d
    · subst e; simp only [Ap.put, upd_same]; simp; omega
    · simp only [Ap.put, upd_other _ _ e]; exact this
/-- P4.4, of what nobody sends. -/
theorem put_prt {A : Ap} (F : Fine A) (x : Ent) (hb : x.b = 0) (hx : (A.prt.ent x).flt = 0) :
    A.prt.putP x = match A.ld with
      | none => (Prt.zero, 0, 8)
      | some d => if A.ups A.n < A.fw then (Prt.zero, 0, 9) else if (A.es d).length = 400 then (Prt.zero, 0, 16) else ((A.put d (A.prt.ent x)).prt, ((A.es d).length : Int), 0) := by
  unfold Prt.putP
  rw [fine_may F, if_neg (by simp)]
  rcases ld_cases A with hd | ⟨d, hd⟩
  · rw [if_pos ((ld_prt A).1.2 hd), hd]
  · obtain ⟨q1, q2, q3⟩ := F.led d hd
    have hc : chk (A.prt.at A.prt.ld.toNat).es (A.prt.ent x) = (-1, 0) := by
      unfold chk
      rw [if_pos (show (A.prt.ent x).b = 0 from hb)]
    rw [if_neg (fun h => by rw [(ld_prt A).1.1 h] at hd; cases hd), if_neg (by simp [hx]), hc, if_neg (by simp), if_neg (by simp), (ld_prt A).2.2 d hd, (prt_len A).2.1, prt_ups A A.n (Nat.le_refl _), (prt_up A q1).2.2.1, (prt_up A q1).2.2.2, prt_at A d q1, (rep_es F q1).1, hd]
    have hf : A.prt.fw = (A.fw : Int) := rfl
    rw [hf]
    simp only
    by_cases h1 : A.ups A.n < A.fw
    · rw [if_pos h1, if_pos (by omega)]
    rw [if_neg h1, if_neg (by omega)]
    obtain ⟨e1, e2⟩ := F.ent d q1
    have e3 := F.saf d q1
    by_cases h2 : (A.es d).length = 400
    · rw [if_pos h2, app_full e1 h2 _ e3 hx, if_pos (by simp)]
    · rw [if_neg h2, app_flat e1 (by omega) _ e3 hx, if_neg (by simp)]
      generalize A.prt.ent x = z at *
      congr 1
      unfold Prt.setR
      show Prt.mk A.ep (ldI A.ld) _ _ (((List.range A.n).map A.rep).modify d _) _ _ = _
      rw [range_modify]
      have e4 := rep_upd A d (A.up d) (A.es d ++ [z]) (A.sf d) (A.hi d)
      simp only [upd_self] at e4
      show Prt.mk A.ep (ldI A.ld) _ _ ((List.range A.n).map (upd A.rep d ⟨A.up d, flat (A.es d) ++ z.enc, endOf (A.es d) (A.sf d), A.hi d⟩)) _ _ = _
      rw [← flat_snoc, ← endOf_snoc (A.es d) z (A.sf d) e3, e4]
      rfl

/-- A crash leaves whole entries, and all safe ones. -/
theorem stay_flat {es : List Ent} (h : Oks es) (k : Nat) (hk : k ≤ es.length) (m : Int) (hm : 0 ≤ m) : ∃ j, k ≤ j ∧ j ≤ es.length ∧ stayOf (flat es) (endOf es k) m = endOf es j ∧ (m = 0 → j = k) := by
  have hle : endOf es k ≤ (flat es).length := endOf_le es k
  have hlo : ∀ left, left = (if m < ((flat es).length : Int) - (endOf es k : Int) then ((endOf es k : Int) + m).toNat else (flat es).length) → endOf es k ≤ left ∧ left ≤ (flat es).length ∧ (m = 0 → left = endOf es k) := by
    intro left hl
    rw [hl]
    split <;> omega
  unfold stayOf
  generalize hg : (if m < ((flat es).length : Int) - (endOf es k : Int) then ((endOf es k : Int) + m).toNat else (flat es).length) = left
  obtain ⟨l1, l2, l3⟩ := hlo left hg.symm
  obtain ⟨j, hj, hd, hej, hnj⟩ := decP_cut es h left ((flat es).take left).length (by simp only [List.length_take]; omega)
  have hd' : decL ((flat es).take left) = (es.take j, endOf es j) := hd
  have hkj : k ≤ j := by
    rcases Nat.lt_or_ge j k with hlt | hge
    · have e1 := hnj (by omega)
      have e2 : endOf es (j + 1) ≤ endOf es k := by
        rcases Nat.lt_or_ge (j + 1) k with h1 | h1
        · exact Nat.le_of_lt (endOf_lt es (j + 1) k h1 hk)
        · rw [show k = j + 1 by omega]; exact Nat.le_refl _
      omega
    · exact hge
  refine ⟨j, hkj, hj, by rw [hd'], fun hm0 => ?_⟩
  have e3 := l3 hm0
  rcases Nat.lt_or_ge k j with h1 | h1
  · have := endOf_lt es k j h1 hj
    omega
  · omega
theorem Fine.crash {A : Ap} (F : Fine A) (r m : Nat) (h2 : m ≤ (A.es r).length) : Fine (A.crash r m) := by
  refine ⟨F.cnt, F.few, F.epo, F.bas, fun i hi => ?_, fun i hi => ?_, fun i hi => ?_, fun i hi => ?_, fun d hd => ?_, F.som⟩
  · by_cases e : i = r
    · subst e; simp [Ap.crash, upd_same]
    · simp only [Ap.crash, upd_other _ _ e]; exact F.kno i hi
  · obtain ⟨e1, e2⟩ := F.ent i hi
    by_cases e : i = r
    · subst e; simp only [Ap.crash, upd_same]; exact ⟨e1.take m, by rw [List.length_take]; omega⟩
    · simp only [Ap.crash, upd_other _ _ e]; exact ⟨e1, e2⟩
  · by_cases e : i = r
    · subst e; simp only [Ap.crash, upd_same, List.length_take]; omega
    · simp only [Ap.crash, upd_other _ _ e]; exact F.saf i hi
  · by_cases e : i = r
    · subst e; simp only [Ap.crash, upd_same, List.length_take]; omega
    · simp only [Ap.crash, upd_other _ _ e]; exact F.hig i hi
  · simp only [Ap.crash] at hd
    split at hd
    · cases hd
    · rename_i hn
      obtain ⟨q1, q2, q3⟩ := F.led d hd
      have e : d ≠ r := fun e => hn (by rw [hd, e])
      exact ⟨q1, q2, by simp only [Ap.crash, upd_other _ _ e]; exact q3⟩
theorem crash_prt {A : Ap} (F : Fine A) {r : Nat} (hr : r < A.n) (k : Int) (hk : 0 ≤ k) : ∃ m, A.sf r ≤ m ∧ m ≤ (A.es r).length ∧ (k = 0 → m = A.sf r) ∧ A.prt.crashP r k = if A.up r = false then (Prt.zero, 7) else ((A.crash r m).prt, 0) := by
  obtain ⟨e1, e2⟩ := F.ent r hr
  obtain ⟨m, m1, m2, m3, m4⟩ := stay_flat e1 (A.sf r) (F.saf r hr) k hk
  refine ⟨m, m1, m2, m4, ?_⟩
  unfold Prt.crashP
  rw [fine_flt F hr, if_neg (by simp), Int.toNat_natCast, (prt_up A hr).1]
  by_cases hu : A.up r = false
  · rw [if_pos hu, if_pos hu]
  rw [if_neg hu, if_neg hu]
  have hc : crashF (A.prt.at r).l (A.prt.at r).y k = 0 := by
    unfold crashF
    rw [prt_at A r hr, (rep_es F hr).2.2, if_neg (by simp), if_neg (by omega)]
  rw [hc, if_neg (by simp)]
  congr 1
  unfold Prt.setR
  have hz : ((0 : Int)) = ((0 : Nat) : Int) := rfl
  have hl : (A.prt.ld = (r : Int)) ↔ A.ld = some r := (ld_prt A).2.1 r
  have hld : (if A.prt.ld = (r : Int) then -1 else A.prt.ld) = ldI (if A.ld = some r then none else A.ld) := by
    by_cases h : A.ld = some r
    · rw [if_pos h, if_pos (hl.2 h)]; rfl
    · rw [if_neg h, if_neg (fun hh => h (hl.1 hh))]; rfl
  rw [hld]
  show Prt.mk A.ep _ _ ((A.prt.kn).set r ((0 : Nat) : Int)) (((List.range A.n).map A.rep).modify r _) _ _ = _
  rw [range_modify, kn_upd]
  have ht : (flat (A.es r)).take (endOf (A.es r) m) = flat ((A.es r).take m) := endOf_take (A.es r) m
  have hd : (decL (flat ((A.es r).take m))).1 = (A.es r).take m := by
    have := dec_encs ((A.es r).take m) (e1.take m)
    rw [show decL (flat ((A.es r).take m)) = _ from this]
  have hn : ((A.es r).take m).length = m := by rw [List.length_take]; omega
  have hem : endOf ((A.es r).take m) m = endOf (A.es r) m := by
    unfold endOf
    rw [List.take_take, Nat.min_self]
  have hrep : (⟨false, (A.rep r).l.take (stayOf (A.rep r).l (A.rep r).y k), stayOf (A.rep r).l (A.rep r).y k, min (A.rep r).h (decL ((A.rep r).l.take (stayOf (A.rep r).l (A.rep r).y k))).1.length⟩ : Rep) = ⟨false, flat ((A.es r).take m), (endOf ((A.es r).take m) m : Nat), ((min (A.hi r) m : Nat) : Int)⟩ := by
    show (⟨false, (flat (A.es r)).take (stayOf (flat (A.es r)) (endOf (A.es r) (A.sf r)) k), (stayOf (flat (A.es r)) (endOf (A.es r) (A.sf r)) k : Nat), min (A.hi r : Int) ((decL ((flat (A.es r)).take (stayOf (flat (A.es r)) (endOf (A.es r) (A.sf r)) k))).1.length : Nat)⟩ : Rep) = _
    rw [m3, ht, hd, hn, hem]
    congr 1
    omega
  rw [hrep]
  have e4 := rep_upd A r false ((A.es r).take m) m (min (A.hi r) m)
  rw [e4]
  rfl

theorem cut_flatS {es : List Ent} (h : Oks es) (k n : Nat) (hk : k ≤ es.length) (hn : n ≤ es.length) : cutS (flat es) (endOf es k) n = ((endOf (es.take n) (min k n) : Nat) : Int) := by
  have hd : (decL (flat es)).1 = es := by rw [show decL (flat es) = _ from dec_encs es h]
  unfold cutS
  rw [hd]
  have e1 : endOf (es.take n) (min k n) = endOf es (min k n) := by
    unfold endOf
    rw [List.take_take, Nat.min_eq_left (Nat.min_le_right _ _)]
  rw [e1]
  rcases Nat.lt_or_ge n k with hlt | hge
  · have := endOf_lt es n k hlt hk
    rw [if_neg (by omega), Nat.min_eq_right (by omega)]
  · have : endOf es k ≤ endOf es n := by
      rcases Nat.lt_or_ge k n with h1 | h1
      · exact Nat.le_of_lt (endOf_lt es k n h1 hn)
      · rw [show k = n by omega]; exact Nat.le_refl _
    rw [if_pos (by omega), Nat.min_eq_left hge]
theorem Fine.meet {A : Ap} (F : Fine A) {r d : Nat} (hr : r < A.n) (hh : A.hi r ≤ com (A.es r) (A.es d)) : Fine (A.meet r d) := by
  obtain ⟨c1, c2⟩ := com_le (A.es r) (A.es d)
  have h4 := (F.ent r hr).2
  refine ⟨F.cnt, F.few, F.epo, F.bas, fun i hi => ?_, fun i hi => ?_, fun i hi => ?_, fun i hi => ?_, F.led, F.som⟩
  · by_cases e : i = r
    · subst e; simp only [Ap.meet, upd_same]; omega
    · simp only [Ap.meet, upd_other _ _ e]; exact F.kno i hi
  · obtain ⟨e1, e2⟩ := F.ent i hi
    by_cases e : i = r
    · subst e; simp only [Ap.meet, upd_same]; exact ⟨e1.take _, by rw [List.length_take]; omega⟩
    · simp only [Ap.meet, upd_other _ _ e]; exact ⟨e1, e2⟩
  · have := F.saf i hi
    by_cases e : i = r
    · subst e; simp only [Ap.meet, upd_same, List.length_take]; omega
    · simp only [Ap.meet, upd_other _ _ e]; exact this
  · by_cases e : i = r
    · subst e; simp only [Ap.meet, upd_same, List.length_take]; omega
    · simp only [Ap.meet, upd_other _ _ e]; exact F.hig i hi
/-- A replica's log, cut to what is as the leader's. -/
theorem met_prt {A : Ap} (F : Fine A) {r d : Nat} (hr : r < A.n) (hh : A.hi r ≤ com (A.es r) (A.es d)) : A.prt.met r (com (A.es r) (A.es d)) = (A.meet r d).raise.prt := by
  obtain ⟨e1, e2⟩ := F.ent r hr
  have e3 := F.saf r hr
  have FM := F.meet hr hh
  rw [← raise_prt FM]
  have hsf := (rep_es FM (show r < (A.meet r d).n from hr)).2.1
  have hme : (A.meet r d).es r = (A.es r).take (com (A.es r) (A.es d)) := by simp only [Ap.meet, upd_same]
  have hms : (A.meet r d).sf r = min (A.sf r) (com (A.es r) (A.es d)) := by simp only [Ap.meet, upd_same]
  obtain ⟨c1, c2⟩ := com_le (A.es r) (A.es d)
  have hn := (show ((A.es r).take (com (A.es r) (A.es d))).length = com (A.es r) (A.es d) by rw [List.length_take]; omega)
  unfold Prt.met
  rw [prt_at A r hr, (rep_es F hr).1]
  have ht : (A.rep r).l.take (endOf (A.es r) (com (A.es r) (A.es d))) = flat ((A.es r).take (com (A.es r) (A.es d))) := endOf_take (A.es r) _
  have hc : cutS (A.rep r).l (A.rep r).y (com (A.es r) (A.es d)) = ((endOf ((A.es r).take (com (A.es r) (A.es d))) (min (A.sf r) (com (A.es r) (A.es d))) : Nat) : Int) := cut_flatS e1 _ _ e3 c1
  have hs : Rep.safe ⟨false, (A.rep r).l.take (endOf (A.es r) (com (A.es r) (A.es d))), cutS (A.rep r).l (A.rep r).y (com (A.es r) (A.es d)), 0⟩ = min (A.sf r) (com (A.es r) (A.es d)) := by
    rw [ht, hc]
    have := hsf
    unfold Rep.safe Ap.rep at this
    unfold Rep.safe
    rw [hme, hms] at this
    exact this
  rw [hs]
  congr 1
  unfold Prt.setR
  show Prt.mk A.ep (ldI A.ld) _ ((A.prt.kn).set r ((min (A.sf r) (com (A.es r) (A.es d)) : Nat) : Int)) (((List.range A.n).map A.rep).modify r _) _ _ = _
  rw [range_modify, kn_upd]
  have e4 := rep_upd A r (A.up r) ((A.es r).take (com (A.es r) (A.es d))) (min (A.sf r) (com (A.es r) (A.es d))) (A.hi r)
  simp only [upd_self] at e4
  show Prt.mk A.ep (ldI A.ld) _ _ ((List.range A.n).map (upd A.rep r ⟨A.up r, (A.rep r).l.take (endOf (A.rep r).es (com (A.es r) (A.es d))), cutS (A.rep r).l (A.rep r).y (com (A.es r) (A.es d)), A.hi r⟩)) _ _ = _
  rw [(rep_es F hr).1, ht, hc, e4]
  rfl

end Go.Proofs.Ytkolelpdedmkeaa
