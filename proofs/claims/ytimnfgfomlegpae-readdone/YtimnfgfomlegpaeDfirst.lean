/-
  The walk of wire.decodeFirst: the entry that bytes begin with.
-/
import Derived.Test.YtimnfgfomlegpaeDbody
namespace Go.Proofs.Ytimnfgfomlegpae
open Go.RowKit
set_option linter.unusedVariables false
set_option linter.unusedSimpArgs false

theorem bytes_eq (l r : List Int) (hl : Bytes l) (hr : Bytes r) : ((strOfNums l).toList == (strOfNums r).toList) = decide (l = r) := by
  rw [Lib.toList_data, Lib.toList_data, strOfNums_data, strOfNums_data, Bool.eq_iff_iff, beq_iff_eq, decide_eq_true_iff]
  constructor
  · intro h
    have h1 := strL_strOfNums l hl
    have h2 := strL_strOfNums r hr
    unfold strL at h1 h2
    rw [strOfNums_data] at h1 h2
    rw [h] at h1
    exact h1.symm.trans h2
  · intro h
    rw [h]

theorem rd_cut {w : World} {l : List Int} {b off cap : Nat} (hb : Bytes l) (hcap : l.length ≤ cap) (hm : cap ≤ maxLen) (hc : ∀ i, i < l.length → w.cell? ⟨b, off + i, none⟩ = some (.int .u8 (l.getD i 0))) (k n : Nat) (hk : k + n ≤ l.length) :
    Rd w (.slice (if cap = k then some ⟨b, off, none⟩ else some ⟨b, off + k, none⟩) n (cap - k)) ((l.drop k).take n) := by
  have hl : ((l.drop k).take n).length = n := by simp; omega
  refine ⟨bytes_take (bytes_drop hb k) n, _, cap - k, by rw [hl], by omega, by omega, ?_, fun h => ?_⟩
  · intro h
    split at h <;> simp at h
  · rw [hl] at h
    refine ⟨b, off + k, by rw [if_neg (by omega)], fun i hi => ?_⟩
    rw [hl] at hi
    have := hc (k + i) (by omega)
    rw [← Nat.add_assoc] at this
    rw [this]
    simp [List.getD, hi]

theorem box_free {w wi : World} {cs : Array Value} {T : TypeId} (hb : Below (w.heap.size + 1) (w.alloc (.cells cs T)) wi) (o : Nat) : wi.frozen? ⟨w.heap.size, o, none⟩ = false := by
  rw [hb.frozen (p := ⟨w.heap.size, o, none⟩) (by show w.heap.size < _; omega)]
  simp

theorem below_stores {w wi : World} {o : Obj} {v0 v1 v2 v3 v4 v5 v6 : Value} (hb : Below w.heap.size w wi) : Below w.heap.size w ((((((((wi.setCell ⟨w.heap.size, 0, none⟩ v0).setCell ⟨w.heap.size, 1, none⟩ v1).setCell ⟨w.heap.size, 2, none⟩ v2).setCell ⟨w.heap.size, 3, none⟩ v3).setCell ⟨w.heap.size, 4, none⟩ v4).setCell ⟨w.heap.size, 5, none⟩ v5).setCell ⟨w.heap.size, 6, none⟩ v6).alloc o) := by
  have h := (((((((hb.setCell (p := ⟨w.heap.size, 0, none⟩) (Nat.le_refl _) v0).setCell (p := ⟨w.heap.size, 1, none⟩) (Nat.le_refl _) v1).setCell (p := ⟨w.heap.size, 2, none⟩) (Nat.le_refl _) v2).setCell (p := ⟨w.heap.size, 3, none⟩) (Nat.le_refl _) v3).setCell (p := ⟨w.heap.size, 4, none⟩) (Nat.le_refl _) v4).setCell (p := ⟨w.heap.size, 5, none⟩) (Nat.le_refl _) v5).setCell (p := ⟨w.heap.size, 6, none⟩) (Nat.le_refl _) v6)
  exact h.alloc h.size o

theorem below_stores' {w wi : World} {v0 v1 v2 v3 v4 v5 v6 : Value} (hb : Below w.heap.size w wi) : Below w.heap.size w (((((((wi.setCell ⟨w.heap.size, 0, none⟩ v0).setCell ⟨w.heap.size, 1, none⟩ v1).setCell ⟨w.heap.size, 2, none⟩ v2).setCell ⟨w.heap.size, 3, none⟩ v3).setCell ⟨w.heap.size, 4, none⟩ v4).setCell ⟨w.heap.size, 5, none⟩ v5).setCell ⟨w.heap.size, 6, none⟩ v6) :=
  (((((((hb.setCell (p := ⟨w.heap.size, 0, none⟩) (Nat.le_refl _) v0).setCell (p := ⟨w.heap.size, 1, none⟩) (Nat.le_refl _) v1).setCell (p := ⟨w.heap.size, 2, none⟩) (Nat.le_refl _) v2).setCell (p := ⟨w.heap.size, 3, none⟩) (Nat.le_refl _) v3).setCell (p := ⟨w.heap.size, 4, none⟩) (Nat.le_refl _) v4).setCell (p := ⟨w.heap.size, 5, none⟩) (Nat.le_refl _) v5).setCell (p := ⟨w.heap.size, 6, none⟩) (Nat.le_refl _) v6)

def firstV (l : List Int) : Ent × Nat := match firstP l with
  | none => (zeroE, 0)
  | some p => p
theorem firstV_none {l : List Int} (h : firstP l = none) : firstV l = (zeroE, 0) := by simp [firstV, h]
theorem firstV_some {l : List Int} {e : Ent} {z : Nat} (h : firstP l = some (e, z)) : firstV l = (e, z) := by simp [firstV, h]

end Go.Proofs.Ytimnfgfomlegpae
