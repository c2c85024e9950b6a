/-
  The walk of the document's StableOf.
-/
import Derived.Test.YtimnfgfomlegpaeVchk
namespace Go.Proofs.Ytimnfgfomlegpae
open Go.RowKit
set_option linter.unusedVariables false
set_option linter.unusedSimpArgs false

theorem at_take (es : List Ent) (h i : Nat) (hi : i < h) : Ent.at (es.take h) i = Ent.at es i := by
  unfold Ent.at
  simp only [List.getD_eq_getElem?_getD, List.getElem?_take, if_pos hi]
theorem markK_take (es : List Ent) (p : Int) (h k : Nat) (hk : k ≤ h) : markK (es.take h) p k = markK es p k := by
  induction k with
  | zero => rfl
  | succ k ih => simp only [markK, at_take es h k (by omega), ih (by omega)]
theorem scan_congr {P Q : Nat → Prop} [DecidablePred P] [DecidablePred Q] (f i : Nat) (h : ∀ j, i ≤ j → j < i + f → (P j ↔ Q j)) : scan P f i = scan Q f i := by
  induction f generalizing i with
  | zero => rfl
  | succ f ih =>
    simp only [scan]
    rw [ih (i + 1) (fun j h1 h2 => h j (by omega) (by omega))]
    by_cases hp : P i
    · rw [if_pos hp, if_pos ((h i (Nat.le_refl _) (by omega)).1 hp)]
    · rw [if_neg hp, if_neg (fun hq => hp ((h i (Nat.le_refl _) (by omega)).2 hq))]
theorem openN_take (es : List Ent) (p : Int) (h : Nat) (hh : h ≤ es.length) : openN (es.take h) p (es.take h).length = openN es p h := by
  have hl : (es.take h).length = h := by simp; omega
  unfold openN
  rw [hl, markK_take es p h h (Nat.le_refl _)]
  have hb := markK_bd es p h
  apply scan_congr
  intro j j1 j2
  have hj : j < h := by omega
  unfold isTxn
  rw [at_take es h j hj]
theorem RdX.take {w : World} {ao : Option Addr} {n cap : Nat} {es : List Ent} (h : RdX w (.slice ao n cap) es) (k : Nat) (hk : k ≤ es.length) : RdX w (.slice ao k cap) (es.take k) := by
  obtain ⟨a1, c1, e, h1, h2, h4, h3⟩ := h
  simp only [Value.slice.injEq] at e
  obtain ⟨rfl, rfl, rfl⟩ := e
  have hl : (es.take k).length = k := by simp; omega
  refine ⟨ao, cap, by rw [hl], by omega, h2, h4, fun h0 => ?_⟩
  obtain ⟨g, off, rfl, hg⟩ := h3 (by omega)
  refine ⟨g, off, rfl, fun i hi j hj => ?_⟩
  rw [hl] at hi
  rw [hg i (by omega) j hj, List.getElem_take]

/-- What P3.4 answers. -/
def stf (es : List Ent) (h : Int) : Int × Int := if h < 0 ∨ (es.length : Int) < h then (0, 2) else (stb es h.toNat, 0)

end Go.Proofs.Ytimnfgfomlegpae
