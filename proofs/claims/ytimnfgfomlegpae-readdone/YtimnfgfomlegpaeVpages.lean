/-
  The walk of ReadPages, given what view.Check, view.Stable and view.Read answer.
-/
import Derived.Test.YtimnfgfomlegpaeVtexts
import Derived.Test.YtimnfgfomlegpaeVkeep
import Derived.Test.YtimnfgfomlegpaeVcon1
import Derived.Test.YtimnfgfomlegpaeVdread
namespace Go.Proofs.Ytimnfgfomlegpae
open Go.RowKit
set_option linter.unusedVariables false
set_option linter.unusedSimpArgs false

theorem sentL_notx (rs : List Raw4) (m : Nat) : NoTx (sentL rs m) := by
  intro e he hb
  obtain ⟨i, hi, rfl⟩ := List.mem_iff_getElem.1 he
  have := sentL_txn rs m i hi
  rw [at_get hi] at this
  cases ht : ((sentL rs m)[i]'hi).t with
  | false => rfl
  | true => have := this ht; omega
theorem rdA_ok (es : List Ent) (n f m : Nat) (hn : n ≤ es.length) (hf : f ≤ es.length) (hm : 1 ≤ m ∧ m ≤ 20) : rdA es n f m = ((rdF es n (stb es n) es.length f m).1, ((rdF es n (stb es n) es.length f m).2 : Int), 0) := by
  have hs : stf es n = ((stb es n : Int), 0) := by unfold stf; rw [if_neg (by omega), Int.toNat_natCast]
  unfold rdA
  rw [hs, if_neg (by simp), if_neg (by omega)]
  simp

end Go.Proofs.Ytimnfgfomlegpae
