/-
  The walks of the laws ViewStable, ViewChecks and ViewReads, given what package view answers.
  The walk of the law ViewChecks, given what view.Check answers.
-/
import Derived.Test.YtkolelpdedmkeaaAapp
import Derived.Test.YtkolelpdedmkeaaAread
import Derived.Test.YtkolelpdedmkeaaLsameE
import Derived.Deep.RegionHeld3
import Derived.Deep.DeepCutAuto
namespace Go.Proofs.Ytkolelpdedmkeaa

section
open Go.RowKit
set_option linter.unusedVariables false
set_option linter.unusedSimpArgs false

/-- view.Stable answers what P3.4 says. -/
def StableC : Prop := ∀ (es : List Ent) (v : Value) (h : Int) (w : World), (es.length : Int) ≤ 2199023255552 → Plain es → RdX w v es →
    Calls Try.prog 122 #[v, .int .i64 h] w fun e w' => e = .returned (.tuple #[.int .i64 (stf es h).1, .int .i64 (stf es h).2]) ∧ Below w.heap.size w w'

/-- view.Check answers what P3.3 says. -/
def CheckC : Prop := ∀ (es : List Ent) (v : Value) (x : Ent) (w : World), (es.length : Int) ≤ 2199023255552 → Plain es → Plain [x] → RdX w v es →
    Calls Try.prog 76 #[v, .agg #[.int .i64 x.a, .int .i64 x.b, .int .i64 x.c, .int .i64 x.d, .int .i64 x.k, .bool x.t, .string x.s]] w fun e w' => e = .returned (.tuple #[.int .i64 (chk es x).1, .int .i64 (chk es x).2]) ∧ Below w.heap.size w w'

/-- view.Read answers what P3.5 says, where nobody's entries are of no transaction. -/
def ReadC : Prop := ∀ (es : List Ent) (v : Value) (h fr ms : Int) (w : World), (es.length : Int) ≤ 2199023255552 → Plain es → NoTx es → RdX w v es →
    Calls Try.prog 96 #[v, .int .i64 h, .int .i64 fr, .int .i64 ms] w fun e w' => ∃ u, e = .returned (.tuple #[u, .int .i64 (rdA es h fr ms).2.1, .int .i64 (rdA es h fr ms).2.2]) ∧ OwnS w.heap.size u (rdA es h fr ms).1 w' ∧ Below w.heap.size w w'

theorem rdF_len (es : List Ent) (h fin f i m : Nat) : (rdF es h fin f i m).1.length ≤ m := by
  induction f generalizing i m with
  | zero => simp [rdF]
  | succ f ih =>
    simp only [rdF]
    split
    · simp
    · split
      · have := ih (i + 1) (m - 1)
        simp only [List.length_cons]
        omega
      · exact ih (i + 1) m
theorem rdA_len (es : List Ent) (h fr ms : Int) : (rdA es h fr ms).1.length ≤ 20 := by
  unfold rdA
  split
  · simp
  · split
    · simp
    · have := rdF_len es h.toNat (stb es h.toNat) es.length fr.toNat ms.toNat
      simp only
      omega

end

section
open Go.RowKit
set_option linter.unusedVariables false
set_option linter.unusedSimpArgs false

/-- Seven cells that hold an entry. -/
def Seven (w : World) (g : Nat) (x : Ent) : Prop := w.cell? ⟨g, 0, none⟩ = some (.int .i64 x.a) ∧ w.cell? ⟨g, 1, none⟩ = some (.int .i64 x.b) ∧ w.cell? ⟨g, 2, none⟩ = some (.int .i64 x.c) ∧ w.cell? ⟨g, 3, none⟩ = some (.int .i64 x.d) ∧ w.cell? ⟨g, 4, none⟩ = some (.int .i64 x.k) ∧ w.cell? ⟨g, 5, none⟩ = some (.bool x.t) ∧ w.cell? ⟨g, 6, none⟩ = some (.string x.s)
theorem Seven.below {w w' : World} {g C : Nat} {x : Ent} (h : Seven w g x) (hg : g < C) (hb : Below C w w') : Seven w' g x := by
  obtain ⟨a0, a1, a2, a3, a4, a5, a6⟩ := h
  exact ⟨(hb.cell (p := ⟨g, 0, none⟩) hg).trans a0, (hb.cell (p := ⟨g, 1, none⟩) hg).trans a1, (hb.cell (p := ⟨g, 2, none⟩) hg).trans a2, (hb.cell (p := ⟨g, 3, none⟩) hg).trans a3, (hb.cell (p := ⟨g, 4, none⟩) hg).trans a4, (hb.cell (p := ⟨g, 5, none⟩) hg).trans a5, (hb.cell (p := ⟨g, 6, none⟩) hg).trans a6⟩
theorem seven_new (w : World) (x : Ent) (T : TypeId) (g : Nat) (hg : g = w.heap.size) : Seven (w.alloc (.cells #[.int .i64 x.a, .int .i64 x.b, .int .i64 x.c, .int .i64 x.d, .int .i64 x.k, .bool x.t, .string x.s] T)) g x := by
  subst hg
  exact ⟨by simp, by simp, by simp, by simp, by simp, by simp, by simp⟩

theorem seven_old {w w1 w2 w3 : World} {x : Ent} {T : TypeId} (h1 : Below (w.heap.size + 1) (w.alloc (.cells #[.int .i64 x.a, .int .i64 x.b, .int .i64 x.c, .int .i64 x.d, .int .i64 x.k, .bool x.t, .string x.s] T)) w1) (h2 : Below w1.heap.size w1 w2) (h3 : Below w2.heap.size w2 w3) : Seven w3 w.heap.size x := by
  have s1 := h1.size
  have s2 := h2.size
  simp only [World.size_alloc] at s1
  exact ((seven_new w x T _ rfl).below (Nat.lt_succ_self _) ((h1.trans (h2.mono s1)).trans (h3.mono (Nat.le_trans s1 s2))))

section
variable {w : World} {ops : Array Oper} {o : Oper} {a : Act} {K : Act → World → Prop} {Q : Exit → Act → World → Prop} {E : Prop}
/-- An entry more, as one step of a region that draws its order. -/
theorem step_appV (hw : Region.wanted o (yielded ops a.tmps) = true) (s x : Operand)
    (ho : o.op = .call { callee := .builtin .append, args := #[s, x], argTypes := #[56, 56] })
    (B : Nat) (v : Value) (es : List Ent) (hs : a.eval s = v) (e : Ent) (hown : OwnE B v es w) (g : Nat) (hx : a.eval x = .slice (some ⟨g, 0, none⟩) 1 1)
    (hc : Seven w g e) (hlen : es.length + 1 ≤ 2199023255552)
    (h : ∀ v' w', OwnE B v' (es ++ [e]) w' → Below B w w' → K (a.put o.dst v') w') :
    if Region.wanted o (yielded ops a.tmps) = true then Oper.wp Try.prog o a w K Q else E := by
  rw [if_pos hw]
  obtain ⟨i, hi, hz0, hz1, hz2⟩ := info_parts infoEntry
  obtain ⟨c0, c1, c2, c3, c4, c5, c6⟩ := hc
  refine wp_append_own w s x _ ho B _ i zeroE.val 7 64 Try.underlying56 hi hz0 hz1 hz2 rfl (by decide) v _ _ hs hown.1 ⟨g, 0, none⟩ 1 1 e.cells hx rfl ?_ ?_ (by unfold maxLen; omega) (by omega) hown.2 ?_
  · intro j u hj
    have hj' : j < 7 := by
      have := (List.getElem?_eq_some_iff.1 hj).1
      simpa [Ent.cells] using this
    rw [Addr.add_lit, Nat.zero_add]
    rcases (show j = 0 ∨ j = 1 ∨ j = 2 ∨ j = 3 ∨ j = 4 ∨ j = 5 ∨ j = 6 from by omega) with rfl | rfl | rfl | rfl | rfl | rfl | rfl <;> (simp [Ent.cells] at hj; subst hj; assumption)
  · intro u hu
    simp [Ent.cells] at hu
    rcases hu with rfl | rfl | rfl | rfl | rfl | rfl | rfl <;> rfl
  · intro v' w' ho' hg _
    refine h v' w' ⟨by simpa [List.flatMap_append] using ho', Nat.le_trans hown.2 hg.size⟩ ?_
    exact (Below.refl B w).grown hg hown.2 (fun k hk => (hown.1.lt k hk).1)
end

end

end Go.Proofs.Ytkolelpdedmkeaa
