/-
  The walks of wire.Check and of the document's EntryFault: each returns the same number of the entry's fields, and turns nothing that was there.
-/
import Derived.Test.YtimnfgfomlegpaeRows
import Derived.WalkKit
import Derived.WalkSpells
import Derived.WalkLawsBesides
import Derived.Lib.Strings
namespace Go.Proofs.Ytimnfgfomlegpae
open Go.RowKit

theorem bcell {W w1 : World} (hb : Below W.heap.size W w1) : (∀ b o, b < W.heap.size → w1.cell? ⟨b, o, none⟩ = W.cell? ⟨b, o, none⟩) ∧ (∀ b o, b < W.heap.size → w1.frozen? ⟨b, o, none⟩ = W.frozen? ⟨b, o, none⟩) :=
  ⟨fun b o h => hb.cell (p := ⟨b, o, none⟩) h, fun b o h => hb.frozen (p := ⟨b, o, none⟩) h⟩
theorem bstep {w b c : World} (h : Below w.heap.size w b) (k : Below b.heap.size b c) : Below w.heap.size w c := h.trans (k.mono h.size)
theorem bbox (w : World) (o : Obj) : Below w.heap.size w (w.alloc o) := (Below.refl _ _).alloc (Nat.le_refl _) _

def inB (n : Int) : Bool := decide (0 ≤ n ∧ n ≤ 1073741824)
def mkB (k : Int) : Bool := decide (k = 2 ∨ k = 3)
def fmB (b d : Int) (t : Bool) (n : Nat) : Bool := decide (b ≠ 0 ∧ t = true ∧ d = 0 ∧ n = 0)
def fnB (c d : Int) (t : Bool) : Bool := decide (t = false ∧ c = 0 ∧ d = 0)
/-- What P1.1 answers. -/
def flt (a b c d k : Int) (t : Bool) (n : Nat) : Int :=
  if k ≠ 1 ∧ mkB k = false then 3
  else if inB a = false ∨ inB b = false ∨ inB c = false ∨ inB d = false then 2
  else if 40 < n then 1
  else if mkB k = true ∧ fmB b d t n = false then 4
  else if b = 0 ∧ fnB c d t = false then 4
  else 0

def inR (n l h : Int) : Bool := decide (l ≤ n ∧ n ≤ h)

theorem sempty (s : ByteArray) : s.toList.isEmpty = decide (s.size = 0) := by
  rw [Lib.toList_data]
  have h : s.size = s.data.toList.length := by simp
  rw [h]
  cases s.data.toList <;> simp

theorem inR0 (n : Int) : inR n 0 1073741824 = inB n := rfl
theorem inR13 (k : Int) (hm : mkB k = true) : inR k 1 3 = true := by simp [mkB] at hm; simp [inR]; omega
theorem inR13n (k : Int) (hm : mkB k = false) (hk : k ≠ 1) : inR k 1 3 = false := by simp [mkB] at hm; simp [inR]; omega

end Go.Proofs.Ytimnfgfomlegpae
