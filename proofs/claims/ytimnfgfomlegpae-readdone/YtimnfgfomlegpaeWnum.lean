/-
  The walks of the two ways to write a number.
-/
import Derived.Test.YtimnfgfomlegpaeWbuf
namespace Go.Proofs.Ytimnfgfomlegpae
open Go.RowKit

theorem sev_len (n : Int) : (sev n).length ≤ 5 := sevF_len 5 n.toNat
theorem sev_bytes (n : Int) : Bytes (sev n) := sevF_bytes 5 n.toNat

theorem num_step (f : Nat) (m : Int) (l l' X : List Int) (hM : m.toNat < 128 ^ (f + 1)) (hs : ¬ m < 128) (H : l ++ X = l' ++ sevF (f + 1) m.toNat) :
    ∃ f', f = f' + 1 ∧ (m / 128).toNat < 128 ^ (f' + 1) ∧ l ++ X = (l' ++ [m % 128 + 128]) ++ sevF (f' + 1) (m / 128).toNat := by
  cases f with
  | zero => omega
  | succ f' =>
    have e1 : (m / 128).toNat = m.toNat / 128 := by omega
    refine ⟨f', rfl, by rw [Nat.pow_succ] at hM; omega, ?_⟩
    rw [H, sevF_big _ _ (by omega), e1, List.append_assoc, List.singleton_append]
    congr 2
    omega

end Go.Proofs.Ytimnfgfomlegpae
