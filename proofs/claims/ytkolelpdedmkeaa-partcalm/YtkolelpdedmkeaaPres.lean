/-
  What the calls of package part answer: a part and an error; a part and two numbers.
-/
import Derived.Test.YtkolelpdedmkeaaPraise
import Derived.Test.YtkolelpdedmkeaaAown
namespace Go.Proofs.Ytkolelpdedmkeaa
open Go.RowKit
set_option linter.unusedVariables false
set_option linter.unusedSimpArgs false

/-- A part and more values. -/
def Res (w : World) (q : Prt) (more : List Value) (e : Ending) (w' : World) : Prop :=
  ∃ vi vk vr us, e = .returned (.tuple (.agg #[.int .i64 q.ep, .int .i64 q.ld, vi, vk, vr, .int .i64 q.fw, .int .i64 q.bs] :: more).toArray) ∧ RdP w' q vi vk vr us ∧ Below w.heap.size w w'
theorem res_zero {w W : World} {b : Nat} {q : Prt} {more : List Value} (hq : q = Prt.zero) (hB : Below w.heap.size w W) (hb : w.heap.size ≤ b) : Res w q more (.returned (.tuple (.agg #[.int .i64 0, .int .i64 0, nilV, nilV, nilV, .int .i64 0, .int .i64 0] :: more).toArray)) (put7 W b Prt.zero nilV nilV nilV) := by
  subst hq
  exact ⟨nilV, nilV, nilV, fun _ => nilV, rfl, nil_rdp _, below_put hB hb _ _ _ _⟩
theorem OwnP.rd' {B : Nat} {w : World} {q : Prt} {gi gk gr ci ck cr li lk lr : Nat} {us : Nat → Value} (h : OwnP B w q gi gk gr ci ck cr us) (h1 : q.isr.length = li) (h2 : q.kn.length = lk) (h3 : q.rs.length = lr) : RdP w q (.slice (some ⟨gi, 0, none⟩) li ci) (.slice (some ⟨gk, 0, none⟩) lk ck) (.slice (some ⟨gr, 0, none⟩) lr cr) us := by
  subst h1 h2 h3
  exact h.1
theorem res_ok {w W : World} {b B : Nat} {q q' p : Prt} {gi gk gr ci ck cr li lk lr : Nat} {us : Nat → Value} {more : List Value} (hq : q' = q) (hO : OwnP B W q gi gk gr ci ck cr us) (hb : b < B) (hf : ∀ o, W.frozen? ⟨b, o, none⟩ = false) (hB : Below w.heap.size w W) (hwb : w.heap.size ≤ b) (h1 : q.isr.length = li) (h2 : q.kn.length = lk) (h3 : q.rs.length = lr) (h4 : q.ep = p.ep) (h5 : q.ld = p.ld) (h6 : q.fw = p.fw) (h7 : q.bs = p.bs) :
    Res w q' more (.returned (.tuple (.agg #[.int .i64 p.ep, .int .i64 p.ld, .slice (some ⟨gi, 0, none⟩) li ci, .slice (some ⟨gk, 0, none⟩) lk ck, .slice (some ⟨gr, 0, none⟩) lr cr, .int .i64 p.fw, .int .i64 p.bs] :: more).toArray)) (put7 W b p (.slice (some ⟨gi, 0, none⟩) li ci) (.slice (some ⟨gk, 0, none⟩) lk ck) (.slice (some ⟨gr, 0, none⟩) lr cr)) := by
  subst hq
  refine ⟨_, _, _, us, ?_, (hO.put hf hb _ _ _ _).rd' h1 h2 h3, below_put hB hwb _ _ _ _⟩
  rw [h4, h5, h6, h7]
theorem raiseHigh_at (q : Prt) (B gi gk gr ci ck cr li lk lr : Nat) (ep ld fw bs : Int) (us : Nat → Value) (w : World) (h : OwnP B w q gi gk gr ci ck cr us) (hB : B ≤ w.heap.size) (h0 : 0 ≤ ld) (h1 : ld < lr) (hi : li = lr) (hk : lk = lr) (hl : lft (q.at ld.toNat).l (q.at ld.toNat).y = 0) (hn : (lr : Int) ≤ 5) (e1 : q.isr.length = li) (e2 : q.kn.length = lk) (e3 : q.rs.length = lr) (e4 : q.ep = ep) (e5 : q.ld = ld) (e6 : q.fw = fw) (e7 : q.bs = bs) :
    Calls Try.prog 84 #[.agg #[.int .i64 ep, .int .i64 ld, .slice (some ⟨gi, 0, none⟩) li ci, .slice (some ⟨gk, 0, none⟩) lk ck, .slice (some ⟨gr, 0, none⟩) lr cr, .int .i64 fw, .int .i64 bs]] w fun e w' => e = .returned (.tuple #[]) ∧ OwnP B w' q.raised gi gk gr ci ck cr us ∧ Below B w w' := by
  subst e1 e2 e3 e4 e5 e6 e7
  exact raiseHigh_any q B gi gk gr ci ck cr us w h hB h0 h1 hi hk hl hn
theorem raised_len (q : Prt) : q.raised.isr = q.isr ∧ q.raised.kn = q.kn ∧ q.raised.rs.length = q.rs.length ∧ q.raised.ep = q.ep ∧ q.raised.ld = q.ld ∧ q.raised.fw = q.fw ∧ q.raised.bs = q.bs := by
  unfold Prt.raised Prt.setR
  split
  · exact ⟨rfl, rfl, rfl, rfl, rfl, rfl, rfl⟩
  · split <;> simp
theorem setR_len (p : Prt) (i : Nat) (f : Rep → Rep) : (p.setR i f).isr = p.isr ∧ (p.setR i f).kn = p.kn ∧ (p.setR i f).rs.length = p.rs.length := by
  unfold Prt.setR
  simp
theorem setR_at (p : Prt) (i : Nat) (f : Rep → Rep) (h : i < p.rs.length) : (p.setR i f).at i = f (p.at i) := by
  have h' : i < (p.setR i f).rs.length := by rw [(setR_len p i f).2.2]; exact h
  rw [at_rep h', at_rep h]
  exact modify_same h h'
theorem setR_other (p : Prt) (i j : Nat) (f : Rep → Rep) (e : j ≠ i) : (p.setR i f).at j = p.at j := by
  unfold Prt.setR Prt.at
  simp only [List.getD]
  rw [List.getElem?_modify]
  have : ∀ o : Option Rep, (fun a => if i = j then f a else a) <$> o = o := fun o => by
    cases o with
    | none => rfl
    | some a => simp [show ¬ i = j from fun h => e h.symm]
  rw [this]

theorem ofl_zero {p : Prt} {r : Int} (h : p.ofl r = 0) : May p ∧ 0 ≤ r ∧ r < p.rs.length ∧ 0 ≤ p.ld ∧ p.ld ≠ r := by
  unfold Prt.ofl at h
  by_cases h0 : p.flt r = 0
  · rw [if_neg (by simp [h0])] at h
    obtain ⟨m, r0, r1⟩ := flt_zero h0
    by_cases h1 : p.ld < 0 ∨ p.ld = r
    · rw [if_pos h1] at h; cases h
    · exact ⟨m, r0, r1, by omega, by omega⟩
  · rw [if_pos h0] at h
    exact absurd h h0

theorem setR_setR (p : Prt) (i : Nat) (f g : Rep → Rep) : (p.setR i f).setR i g = p.setR i (fun r => g (f r)) := by
  unfold Prt.setR
  simp only
  congr 1
  apply List.ext_getElem (by simp)
  intro j h1 h2
  rw [List.getElem_modify, List.getElem_modify, List.getElem_modify]
  by_cases e : i = j
  · rw [if_pos e, if_pos e, if_pos e]
  · rw [if_neg e, if_neg e, if_neg e]
theorem other_iff (p : Prt) (n m : Nat) : p.other n m = true ↔ ∃ i, i < m ∧ i ≠ n ∧ p.isr.getD i false = true := by
  induction m with
  | zero => simp [Prt.other]
  | succ m ih =>
    simp only [Prt.other, Bool.or_eq_true, ih, Bool.and_eq_true, decide_eq_true_eq]
    refine ⟨fun h => ?_, fun ⟨i, h1, h2, h3⟩ => ?_⟩
    · rcases h with ⟨i, h1, h2, h3⟩ | ⟨h1, h2⟩
      · exact ⟨i, by omega, h2, h3⟩
      · exact ⟨m, by omega, by omega, h2⟩
    · by_cases e : i = m
      · subst e; exact .inr ⟨by omega, h3⟩
      · exact .inl ⟨i, by omega, h2, h3⟩
theorem other_has (p : Prt) (n : Nat) (h : n < p.isr.length) : p.other n p.isr.length = hasB (p.isr.set n false) := by
  rw [Bool.eq_iff_iff, other_iff, contains_iff]
  refine ⟨fun ⟨i, h1, h2, h3⟩ => ⟨i, by simpa using h1, ?_⟩, fun ⟨i, h1, h3⟩ => ?_⟩
  · simp only [List.getD, List.getElem?_set] at h3 ⊢
    rw [if_neg (fun e => h2 e.symm)]
    exact h3
  · have h1' : i < p.isr.length := by simpa using h1
    simp only [List.getD, List.getElem?_set] at h3
    by_cases e : n = i
    · rw [if_pos e] at h3
      split at h3 <;> simp at h3
    · rw [if_neg e] at h3
      exact ⟨i, h1', fun h => e h.symm, h3⟩

end Go.Proofs.Ytkolelpdedmkeaa
