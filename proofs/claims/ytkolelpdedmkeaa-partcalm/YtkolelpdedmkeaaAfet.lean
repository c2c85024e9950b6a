/-
  What is safe of a log that is cut; two replicas told apart.
  What part.Fetch leaves, in the order in which the code does it; the calls that it makes, in one form each.
-/
import Derived.Test.YtkolelpdedmkeaaPnext
import Derived.Test.YtkolelpdedmkeaaApopC
namespace Go.Proofs.Ytkolelpdedmkeaa

section
open Go.RowKit
set_option linter.unusedVariables false
set_option linter.unusedSimpArgs false

theorem endOf_mono (es : List Ent) (i j : Nat) (hij : i ≤ j) (hj : j ≤ es.length) : endOf es i ≤ endOf es j := by
  by_cases e : i = j
  · subst e; exact Nat.le_refl _
  · exact Nat.le_of_lt (endOf_lt es i j (by omega) hj)
/-- Of a log that is cut to n entries those are safe that were, and are left. -/
theorem cut_safe {l : List Int} {y : Int} (hb : Bytes l) (h : lft l y = 0) (n : Nat) (hn : n ≤ (decL l).1.length) :
    cutS l y n = (endOf (decL l).1 (min (decL (l.take y.toNat)).1.length n) : Nat) ∧ (decL ((l.take (endOf (decL l).1 n)).take (cutS l y n).toNat)).1.length = min (decL (l.take y.toNat)).1.length n := by
  obtain ⟨h1, h2, h3, h4, h5, h6⟩ := lft_ok h
  have hall := dec_all hb h2
  have hflt := (dec_back l hb).2.2
  obtain ⟨k, hk, hc, c1, c2⟩ := dec_cut l hb h2 y.toNat (by omega)
  rw [hc] at h6
  simp only at h6
  have hs : (decL (l.take y.toNat)).1.length = k := by rw [hc]; simp; omega
  rw [hs]
  generalize hes : (decL l).1 = es at *
  have hcut : cutS l y n = (endOf es (min k n) : Nat) := by
    unfold cutS
    rw [hes]
    by_cases hkn : k ≤ n
    · have := endOf_mono es k n hkn hn
      rw [if_pos (by omega), Nat.min_eq_left hkn]
      omega
    · have := endOf_lt es n k (by omega) hk
      rw [if_neg (by omega), Nat.min_eq_right (by omega)]
  refine ⟨hcut, ?_⟩
  rw [hcut, Int.toNat_natCast, List.take_take]
  have hle := endOf_mono es (min k n) n (by omega) hn
  rw [Nat.min_eq_left hle]
  have e1 : l.take (endOf es (min k n)) = (es.take (min k n)).flatMap Ent.enc := by
    have := endOf_take es (min k n)
    rwa [hall] at this
  rw [e1, dec_encs (es.take (min k n)) (fun e he => hflt e (List.mem_of_mem_take he))]
  simp
  omega

theorem setR_comm (p : Prt) (i j : Nat) (hij : i ≠ j) (f g : Rep → Rep) : (p.setR i f).setR j g = (p.setR j g).setR i f := by
  unfold Prt.setR
  simp only
  congr 1
  apply List.ext_getElem (by simp)
  intro k h1 h2
  rw [List.getElem_modify, List.getElem_modify, List.getElem_modify, List.getElem_modify]
  by_cases e1 : i = k
  · by_cases e2 : j = k
    · omega
    · rw [if_neg e2, if_pos e1, if_pos e1, if_neg e2]
  · by_cases e2 : j = k
    · rw [if_pos e2, if_neg e1, if_neg e1, if_pos e2]
    · rw [if_neg e2, if_neg e1, if_neg e1, if_neg e2]
theorem low_setR (p : Prt) (r : Nat) (f : Rep → Rep) (n : Int) (k : Nat) : (p.setR r f).low n k = p.low n k := by
  induction k with
  | zero => rfl
  | succ k ih =>
    simp only [Prt.low, ih]
    rfl
/-- What happens to another replica's log does not touch what is raised. -/
theorem raised_other (p : Prt) (r : Nat) (f : Rep → Rep) (h0 : 0 ≤ p.ld) (hr : r ≠ p.ld.toNat) : (p.setR r f).raised = p.raised.setR r f := by
  have e1 : (p.setR r f).at p.ld.toNat = p.at p.ld.toNat := setR_other p r p.ld.toNat f (fun h => hr h.symm)
  have e2 : (p.setR r f).ld = p.ld := rfl
  have e3 : (p.setR r f).isr.length = p.isr.length := rfl
  unfold Prt.raised
  rw [e2, e1, e3, low_setR]
  simp only [if_neg (show ¬ p.ld < 0 by omega)]
  by_cases hc : (p.at p.ld.toNat).h < p.low (p.at p.ld.toNat).es.length p.isr.length
  · rw [if_pos hc, if_pos hc]
    exact setR_comm p r p.ld.toNat hr f _
  · rw [if_neg hc, if_neg hc]
theorem raised_kn_at (p : Prt) (r : Nat) (h0 : 0 ≤ p.ld) (hr : r ≠ p.ld.toNat) : p.raised.at r = p.at r := by
  unfold Prt.raised
  rw [if_neg (by omega)]
  split
  · exact setR_other p p.ld.toNat r _ hr
  · rfl

/-- What the document does first (cut, then raise) and what the code does (raise, then cut) is the same. -/
theorem met_form {p : Prt} {r : Nat} (hb : Bytes (p.at r).l) (hl : lft (p.at r).l (p.at r).y = 0) (h0 : 0 ≤ p.ld) (hr : r ≠ p.ld.toNat) (n : Nat) (hn : n ≤ (p.at r).es.length) :
    p.met r n = (({ p with kn := p.kn.set r (min (n : Int) ((p.at r).safe : Nat)) } : Prt).raised).setR r (fun x => { x with l := x.l.take (endOf x.es n), y := cutS x.l x.y n }) := by
  have K : ((Rep.safe ⟨false, (p.at r).l.take (endOf (p.at r).es n), cutS (p.at r).l (p.at r).y n, 0⟩ : Nat) : Int) = min (n : Int) ((p.at r).safe : Nat) := by
    have h2 := (cut_safe hb hl n hn).2
    have e1 : Rep.safe ⟨false, (p.at r).l.take (endOf (p.at r).es n), cutS (p.at r).l (p.at r).y n, 0⟩ = min (p.at r).safe n := h2
    rw [e1]
    omega
  unfold Prt.met
  rw [K]
  exact raised_other ({ p with kn := p.kn.set r (min (n : Int) ((p.at r).safe : Nat)) } : Prt) r _ h0 hr

/-- Entries behind the first k. -/
theorem RdX.drop {w : World} {g off n cap : Nat} {es : List Ent} (h : RdX w (.slice (some ⟨g, off, none⟩) n cap) es) (k : Nat) (hk : k ≤ es.length) : RdX w (.slice (some ⟨g, off + k * 7, none⟩) (es.drop k).length (cap - k)) (es.drop k) := by
  obtain ⟨ao, cap', e, h1, h2, h3, h4⟩ := h
  simp only [Value.slice.injEq] at e
  obtain ⟨rfl, rfl, rfl⟩ := e
  refine ⟨_, _, rfl, by simp; omega, by omega, by simp, fun h0 => ⟨g, off + k * 7, rfl, fun i hi j hj => ?_⟩⟩
  have hi' : i < es.length - k := by simpa using hi
  obtain ⟨g', off', e, hg⟩ := h4 (by omega)
  simp only [Option.some.injEq, Addr.mk.injEq, and_true] at e
  obtain ⟨rfl, rfl⟩ := e
  have := hg (k + i) (by omega) j hj
  rw [List.getElem_drop, show off + k * 7 + i * 7 + j = off + (k + i) * 7 + j by omega]
  exact this
theorem at_drop (es : List Ent) (k : Nat) : Ent.at (es.drop k) 0 = Ent.at es k := by
  unfold Ent.at
  simp [List.getD]
end

section
open Go.RowKit
set_option linter.unusedVariables false
set_option linter.unusedSimpArgs false

/-- How many come: the first one of those that are left, if it has room. -/
def cameOf (l : List Int) (y : Int) (es : List Ent) : Nat := if 0 < es.length ∧ apf l y (Ent.at es 0) = 0 then 1 else 0
def longOf (l : List Int) (y : Int) (es : List Ent) : List Int := if 0 < es.length ∧ apf l y (Ent.at es 0) = 0 then l ++ (Ent.at es 0).enc else l

theorem appendNext_one (l : List Int) (au : Option Addr) (cu : Nat) (y : Int) (es : List Ent) (v : Value) (w : World) (C : Nat) (hC : C ≤ w.heap.size) (hl : l.length ≤ 140737488355328) (ho : Own C (.slice au l.length cu) l w) (h : RdX w v es) (came : Nat) (NL : List Int) (hc : cameOf l y es = came) (hNL : longOf l y es = NL) :
    Calls Try.prog 90 #[.agg #[.slice au l.length cu, .int .i64 y], v] w fun e w' => ∃ av cv, e = .returned (.tuple #[.agg #[(.slice av NL.length cv), .int .i64 y], .int .i64 came]) ∧ Own C (.slice av NL.length cv) NL w' ∧ Below w.heap.size w w' ∧ ∀ k, (Value.slice av NL.length cv).ownBlock = some k → (Value.slice au l.length cu).ownBlock = some k ∨ w.heap.size ≤ k := by
  unfold cameOf at hc
  unfold longOf at hNL
  by_cases h0 : 0 < es.length
  · by_cases h1 : apf l y (Ent.at es 0) = 0
    · rw [if_pos ⟨h0, h1⟩] at hc hNL
      subst hc
      refine (appendNext_ok l au cu y es v _ w hl ho.rd h h0 rfl h1 NL hNL).mono ?_
      rintro e w' ⟨av, cv, rfl, ho', hb⟩
      exact ⟨av, cv, rfl, ho'.mono hC, hb, fun k hk => .inr (ho'.blk k hk).1⟩
    · rw [if_neg (fun x => h1 x.2)] at hc hNL
      subst hc hNL
      refine (appendNext_bad l au cu y es v _ w hl ho.rd h h0 rfl h1).mono ?_
      rintro e w' ⟨rfl, hb⟩
      exact ⟨au, cu, rfl, ho.below (Nat.le_refl _) hb, hb, fun k hk => .inl hk⟩
  · rw [if_neg (fun x => h0 x.1)] at hc hNL
    subst hc hNL
    obtain ⟨ao, co, rfl, -⟩ := h
    have e : es.length = 0 := by omega
    rw [e]
    refine (appendNext_none l au cu y ao co w).mono ?_
    rintro e w' ⟨rfl, hb⟩
    exact ⟨au, cu, rfl, ho.below (Nat.le_refl _) hb, hb, fun k hk => .inl hk⟩

theorem dropX {w : World} {g c : Nat} {es : List Ent} (h : RdX w (.slice (some ⟨g, 0, none⟩) es.length c) es) (k : Nat) (hk : k ≤ es.length) : RdX w (.slice (if c = k then some ⟨g, 0, none⟩ else some ⟨g, k * 7, none⟩) (es.length - k) (c - k)) (es.drop k) := by
  by_cases e : c = k
  · rw [if_pos e]
    have hc : es.length ≤ c := by
      obtain ⟨ao, cap', e', h1, -⟩ := h
      simp only [Value.slice.injEq] at e'
      omega
    have h0 : es.length - k = 0 := by omega
    exact ⟨_, _, by rw [List.length_drop], by rw [List.length_drop]; omega, by rw [e]; simp, (fun h => by cases h), fun h => by rw [List.length_drop] at h; omega⟩
  · rw [if_neg e]
    have := h.drop k hk
    rw [List.length_drop, Nat.zero_add] at this
    exact this

theorem cut_take {l : List Int} {y : Int} (hb : Bytes l) (h : lft l y = 0) (n : Nat) : l.take (endOf (decL l).1 n) = ((decL l).1.take n).flatMap Ent.enc := by
  have hall := dec_all hb (lft_ok h).2.1
  have := endOf_take (decL l).1 n
  rwa [hall] at this
theorem segCut_ok (l : List Int) (u : Value) (y : Int) (n : Nat) (w : World) (hl : l.length ≤ 140737488355328) (h : Rd w u l) (h0 : lft l y = 0) (hn : n ≤ (decL l).1.length) (NL : List Int) (Y : Int) (hNL : l.take (endOf (decL l).1 n) = NL) (hY : cutS l y n = Y) :
    Calls Try.prog 89 #[.agg #[u, .int .i64 y], .int .i64 n] w fun e w' => ∃ av cv, e = .returned (.tuple #[.agg #[.slice av NL.length cv, .int .i64 Y], .int .i64 0]) ∧ Own w.heap.size (.slice av NL.length cv) NL w' ∧ Below w.heap.size w w' := by
  have hz : cuf l y n = 0 := by
    unfold cuf
    rw [if_neg (by simp [h0]), if_neg (by omega)]
  refine (segCut_any l u y n w hl h).mono ?_
  rintro e w' ⟨hb, -, h2⟩
  obtain ⟨v, rfl, ho⟩ := h2 hz
  rw [Int.toNat_natCast] at *
  have e1 : cutY l y n = Y := hY
  rw [e1]
  rw [← cut_take h.1 h0 n, hNL] at ho
  obtain ⟨av, cv, rfl⟩ := ho.shape
  exact ⟨av, cv, rfl, ho, hb⟩

/-- What is known of a replica that fetches. -/
def Prt.know (p : Prt) (r n : Nat) : Prt := { p with kn := p.kn.set r (min (n : Int) ((p.at r).safe : Nat)) }
theorem know_lo {p : Prt} {r n : Nat} (h : (n : Int) ≤ ((p.at r).safe : Nat)) : p.know r n = { p with kn := p.kn.set r (n : Int) } := by
  unfold Prt.know
  rw [Int.min_eq_left h]
theorem know_hi {p : Prt} {r n : Nat} (h : ((p.at r).safe : Nat) ≤ (n : Int)) : p.know r n = { p with kn := p.kn.set r (((p.at r).safe : Nat) : Int) } := by
  unfold Prt.know
  rw [Int.min_eq_right h]
theorem fetch_form {p : Prt} {r : Nat} (hb : Bytes (p.at r).l) (hl : lft (p.at r).l (p.at r).y = 0) (hr : r < p.rs.length) (h0 : p.ofl r = 0) (hup : (p.at r).up = true)
    (n : Nat) (hn : com (p.at r).es (p.at p.ld.toNat).es = n) (q : Prt) (hq : (p.know r n).raised = q) (L : List Int) (hL : (p.at r).l.take (endOf (p.at r).es n) = L) (Y : Int) (hY : cutS (p.at r).l (p.at r).y n = Y)
    (came : Nat) (hc : cameOf L Y ((p.at p.ld.toNat).es.drop n) = came) (NL : List Int) (hNL : longOf L Y ((p.at p.ld.toNat).es.drop n) = NL) (H : Int) (hH : min (max (q.at r).h (q.at p.ld.toNat).h) (n + came : Int) = H) :
    p.fetchP r = (((q.setR r (fun x => { x with l := NL })).setR r (fun x => { x with y := Y })).setR r (fun x => { x with h := H }), (came : Int), 0) := by
  obtain ⟨m, -, -, l0, l1⟩ := ofl_zero h0
  have hrd : r ≠ p.ld.toNat := by omega
  have hf : p.flt r = 0 := by
    unfold Prt.ofl at h0
    by_cases h1 : p.flt r = 0
    · exact h1
    · rw [if_pos h1] at h0; exact h0
  have hnl : n ≤ (p.at r).es.length ∧ n ≤ (p.at p.ld.toNat).es.length := by
    have := com_le (p.at r).es (p.at p.ld.toNat).es
    rw [hn] at this
    exact this
  have hm := met_form hb hl l0 hrd n hnl.1
  have e0 : (p.know r n).at r = p.at r := rfl
  have e1 : q.at r = p.at r := by rw [← hq, raised_kn_at (p.know r n) r l0 hrd, e0]
  have hrq : r < q.rs.length := by rw [← hq, (raised_len _).2.2.1]; exact hr
  have hm' : p.met r n = q.setR r (fun x => { x with l := L, y := Y }) := by
    rw [hm]
    show (p.know r n).raised.setR r _ = _
    rw [hq]
    exact setR_congr hrq (by rw [e1]; subst hL hY; rfl)
  have e2 : (p.met r n).at r = { q.at r with l := L, y := Y } := by rw [hm', setR_at _ _ _ hrq]
  have e3 : (p.met r n).at p.ld.toNat = q.at p.ld.toNat := by rw [hm', setR_other _ _ _ _ (fun e => hrd e.symm)]
  unfold Prt.fetchP
  rw [if_neg (by simp [hf]), if_neg (by omega), Int.toNat_natCast, if_neg (by simp [hup])]
  simp only [hn]
  rw [e2, e3]
  have e4 : (n < (p.at p.ld.toNat).es.length ∧ appF L Y (Ent.at (p.at p.ld.toNat).es n) = 0) ↔ (0 < ((p.at p.ld.toNat).es.drop n).length ∧ apf L Y (Ent.at ((p.at p.ld.toNat).es.drop n) 0) = 0) := by
    rw [at_drop, List.length_drop]
    constructor
    · rintro ⟨x, y⟩; exact ⟨by omega, y⟩
    · rintro ⟨x, y⟩; exact ⟨by omega, y⟩
  have e5 : (if n < (p.at p.ld.toNat).es.length ∧ appF L Y (Ent.at (p.at p.ld.toNat).es n) = 0 then 1 else 0) = came := by
    rw [← hc]
    unfold cameOf
    by_cases h : n < (p.at p.ld.toNat).es.length ∧ appF L Y (Ent.at (p.at p.ld.toNat).es n) = 0
    · rw [if_pos h, if_pos (e4.1 h)]
    · rw [if_neg h, if_neg (fun x => h (e4.2 x))]
  have e6 : (if came = 1 then L ++ (Ent.at (p.at p.ld.toNat).es n).enc else L) = NL := by
    rw [← hNL, ← hc]
    unfold cameOf longOf
    by_cases h : n < (p.at p.ld.toNat).es.length ∧ appF L Y (Ent.at (p.at p.ld.toNat).es n) = 0
    · rw [if_pos (e4.1 h), if_pos (e4.1 h), if_pos rfl, at_drop]
    · rw [if_neg (fun x => h (e4.2 x)), if_neg (fun x => h (e4.2 x)), if_neg (by simp)]
  simp only at *
  rw [e5]
  refine Prod.ext ?_ rfl
  show (p.met r n).setR r _ = _
  rw [hm', setR_setR, setR_setR, setR_setR]
  refine setR_congr hrq ?_
  simp only [Rep.mk.injEq, true_and, e6]
  rw [← hH, e1]
  push_cast
  rfl

theorem fetch_ofl {p : Prt} {r : Int} (h : ¬ p.ofl r = 0) : p.fetchP r = (Prt.zero, 0, p.ofl r) := by
  unfold Prt.ofl at h ⊢
  unfold Prt.fetchP
  by_cases h1 : p.flt r = 0
  · rw [if_neg (by simp [h1])] at h
    have e1 : ¬ p.flt r ≠ 0 := by simp [h1]
    rw [if_neg e1, if_neg e1]
    by_cases h2 : p.ld < 0 ∨ p.ld = r
    · rw [if_pos h2, if_pos h2]
    · rw [if_neg h2] at h; exact absurd rfl h
  · rw [if_pos h1, if_pos h1]
theorem fetch_down {p : Prt} {r : Nat} (h0 : p.ofl r = 0) (h : (p.at r).up = false) : p.fetchP r = (Prt.zero, 0, 7) := by
  obtain ⟨m, -, -, l0, l1⟩ := ofl_zero h0
  have hf : p.flt r = 0 := by
    unfold Prt.ofl at h0
    by_cases h1 : p.flt r = 0
    · exact h1
    · rw [if_pos h1] at h0; exact h0
  unfold Prt.fetchP
  rw [if_neg (by simp [hf]), if_neg (by omega), Int.toNat_natCast, if_pos h]
end

end Go.Proofs.Ytkolelpdedmkeaa
