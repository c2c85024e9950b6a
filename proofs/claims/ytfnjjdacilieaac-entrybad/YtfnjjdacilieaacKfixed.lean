/-
  The walks of wireTells and of the law EntryFixed.
-/
import Derived.Test.YtfnjjdacilieaacKmath
import Derived.Test.YtfnjjdacilieaacKeq
import Derived.Deep.QuietTactic
import Derived.BigQuiet
namespace Go.Proofs.Ytfnjjdacilieaac
open Go.RowKit
set_option linter.unusedVariables false
set_option linter.unusedSimpArgs false

def tellE : Ent := ⟨0, 1, 0, 0, 2, true, ⟨#[]⟩⟩
theorem tellE_ok : tellE.flt = 0 := by decide +kernel

set_option maxHeartbeats 1000000 in
theorem wireTells_any (w : World) : Calls Try.prog 9 #[] w fun e w' => e = .returned (.bool true) ∧ Below w.heap.size w w' := by
  have HC : Hid (∀ w, _) := fun w => encode_ok 0 1 0 0 2 true ⟨#[]⟩ w tellE_ok
  have hlen := enc_len tellE
  have hbl := body_len' tellE tellE_ok
  have HO : Hid _ := dec_one tellE tellE_ok
  have hfold : encL 0 1 0 0 2 true ⟨#[]⟩ = tellE.enc := rfl
  rw [hfold] at HC
  have hn0 : 0 < tellE.enc.length := by omega
  have hn1 : tellE.enc.length ≤ 64 := by omega
  generalize tellE.enc = L at *
  clear hfold hlen hbl
  go_enter Try.func9, Try.ntmps9
  go_wp2_with fail
  refine (HC.out _).mono ?_
  rintro e' w2 ⟨vb, rfl, hvb, hb2⟩
  go_wp2_with fail
  refine (decode_any L _ _ (by omega) hvb.rd).mono ?_
  rintro e' w3 ⟨va, rfl, hva, hb3⟩
  rw [HO.out] at hva ⊢
  have hB := bstep hb2 hb3
  obtain ⟨ao, cap, rfl⟩ := hvb.shape
  obtain ⟨ae, ce, rfl, _⟩ := hva.rd
  have hl1 : (([tellE].length : Nat) : Int) = 1 := rfl
  clear hvb hva hb2 hb3 HC HO
  go_wp2_with fail
  go_ret
  exact ⟨rfl, hB⟩

end Go.Proofs.Ytfnjjdacilieaac
