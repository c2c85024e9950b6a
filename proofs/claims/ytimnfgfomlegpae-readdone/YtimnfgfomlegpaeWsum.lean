/-
  The walks of the two sums over a slice of bytes.
-/
import Derived.Test.YtimnfgfomlegpaeWcheck
import Derived.Test.YtimnfgfomlegpaeWmath
namespace Go.Proofs.Ytimnfgfomlegpae
open Go.RowKit

/-- A slice of bytes that reads as l. -/
def Rd (w : World) (v : Value) (l : List Int) : Prop :=
  Bytes l ∧ ∃ ao cap, v = .slice ao l.length cap ∧ l.length ≤ cap ∧ cap ≤ maxLen ∧ (ao = none → cap = 0) ∧ (0 < l.length → ∃ b off, ao = some ⟨b, off, none⟩ ∧ ∀ i, i < l.length → w.cell? ⟨b, off + i, none⟩ = some (.int .u8 (l.getD i 0)))

theorem ret_int {k : IntKind} {a b : Int} (h : a = b) : Ending.returned (.int k a) = .returned (.int k b) := by rw [h]

theorem sum_step (l : List Int) (k : Nat) (hb : Bytes l) (hl : l.length ≤ 300) (hlt : k < l.length) :
    wrap64 (sumFrom 0 (l.take k) + wrap64 (((k : Int) + 1) * wrap64 (l[k]'hlt))) = sumFrom 0 (l.take (k + 1)) := by
  have h1 := sum_small (l.take k) (bytes_take hb k) (by simp; omega)
  have h2 := sum_small (l.take (k + 1)) (bytes_take hb (k + 1)) (by simp; omega)
  have h3 := sum_snoc l k hlt
  have e : l.getD k 0 = l[k] := by simp [List.getD, hlt]
  have hx := bytes_getD hb k
  rw [e] at h3 hx
  rw [w64 (l[k]'hlt) (by omega)]
  generalize ((k : Int) + 1) * l[k] = m at *
  rw [w64 m (by omega), w64 _ (by omega)]
  omega

end Go.Proofs.Ytimnfgfomlegpae
