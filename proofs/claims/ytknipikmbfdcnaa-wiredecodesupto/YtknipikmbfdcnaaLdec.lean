/-
  The walk of the law WireDecodes.
-/
import Derived.Test.YtknipikmbfdcnaaAdoc
namespace Go.Proofs.Ytknipikmbfdcnaa
open Go.RowKit
set_option linter.unusedVariables false
set_option linter.unusedSimpArgs false

set_option maxRecDepth 100000 in
set_option maxHeartbeats 1000000 in
theorem wireDecodes_walk (l : List Int) (v : Value) (w : World) (hl : l.length ≤ 1099511627775) (h : Rd w v l) :
    Calls Try.prog 5 #[v] w fun e w' => e = .returned (.bool true) ∧ Below w.heap.size w w' := by
  have hes := (decP_len l.length l h.1).1
  go_enter Try.func5, Try.ntmps5
  go_wp2_with fail
  refine (octets_any l v _ (by omega) h).mono ?_
  rintro e w1 ⟨u, rfl, hu, hb1⟩
  go_wp2_with fail
  refine (decode_any l u _ hl hu.rd).mono ?_
  rintro e w2 ⟨va, rfl, hva, hb2⟩
  have hB2 := bstep hb1 hb2
  have hR := h.below (Nat.le_refl _) hB2
  clear hu h hb1 hb2
  go_wp2_with fail
  refine (entriesIn_any l v _ hl hR).mono ?_
  rintro e w3 ⟨vb, rfl, hvb, hb3⟩
  have hva3 := hva.below (Nat.le_refl _) hb3
  have hB3 := bstep hB2 hb3
  have hn : (((decL l).2 : Int) == ((decL l).2 : Int)) = true := by simp
  clear hB2 hb3 hR hva
  go_wp2_with fail
  refine (sameEntries_any (decL l).1 _ _ _ (by unfold decL; omega) hva3.rd hvb.rd).mono ?_
  rintro e w4 ⟨rfl, hb4⟩
  have hB4 := bstep hB3 hb4
  clear hva3 hvb hb4 hB3
  go_wp2_with fail
  go_ret
  exact ⟨rfl, hB4⟩

end Go.Proofs.Ytknipikmbfdcnaa
