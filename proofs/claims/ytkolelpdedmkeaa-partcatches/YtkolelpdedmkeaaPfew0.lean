/-
  Parts of so many replicas, of which one after the other crashes (plain data).
-/
import Derived.Test.YtkolelpdedmkeaaAq
namespace Go.Proofs.Ytkolelpdedmkeaa
open Go.RowKit
set_option linter.unusedVariables false
set_option linter.unusedSimpArgs false

def eD : Ent := ⟨0, 0, 0, 0, 1, false, ⟨#[]⟩⟩
/-- Behind the crash of the first so many that follow. -/
def fewS (k m : Nat) : Nat → Prt
  | 0 => ((newP k m).1.electP 0).1
  | r + 1 => ((fewS k m r).crashP ((r + 1 : Nat) : Int) 0).1
theorem few_facts : ∀ k : Fin 6, ∀ m : Fin 6, ∀ r : Fin 5, 2 ≤ k.val → 1 ≤ m.val → m.val ≤ k.val → r.val + 1 < k.val →
    ((fewS k.val m.val r.val).putP eD).2.2 = (if m.val + r.val ≤ k.val then 0 else 9) ∧ ((fewS k.val m.val r.val).crashP ((r.val + 1 : Nat) : Int) 0).2 = 0 := by
  decide +kernel
theorem few_last : ∀ k : Fin 6, ∀ m : Fin 6, 2 ≤ k.val → 1 ≤ m.val → m.val ≤ k.val →
    ((fewS k.val m.val (k.val - 1)).putP eD).2.2 = (if m.val = 1 then 0 else 9) := by
  decide +kernel
theorem few_range : ∀ k : Fin 6, 2 ≤ k.val → (newP k.val ((k.val : Int) + 1)).2 = 2 := by
  decide +kernel
theorem pair2 {α β : Type} {x : α × β} {b : β} (h : x.2 = b) : ∃ a, x = (a, b) ∧ x.1 = a := ⟨x.1, Prod.ext rfl h, rfl⟩
theorem pair3 {α β γ : Type} {x : α × β × γ} {c : γ} (h : x.2.2 = c) : ∃ a b, x = (a, b, c) := ⟨x.1, x.2.1, Prod.ext rfl (Prod.ext rfl h)⟩

end Go.Proofs.Ytkolelpdedmkeaa
