/-
  A part of two replicas, of which one fell behind and keeps up again (plain data).
-/
import Derived.Test.YtkolelpdedmkeaaAq
namespace Go.Proofs.Ytkolelpdedmkeaa
open Go.RowKit
set_option linter.unusedVariables false
set_option linter.unusedSimpArgs false

def catW (i : Nat) : Ent := ⟨0, 0, 0, 0, 1, false, wordS (i : Int)⟩
def catA : Nat → Prt
  | 0 => ((((newP 2 1).1.electP 0).1).shrinkP 1).1
  | i + 1 => ((catA i).putP (catW i)).1
def catB (k : Nat) : Prt := ((catA k).syncP 0).1
def catE (p : Prt) : Prt := (p.fetchP 1).1
def catF (k : Nat) : Nat → Prt
  | 0 => catB k
  | j + 1 => ((catE (catF k j)).syncP 1).1
def catH (k : Nat) : Prt := ((catE (catF k k)).expandP 1).1
def smallB (p : Prt) : Bool := p.rs.all fun r => decide (r.l.length ≤ 100000)
theorem small_of {p : Prt} (h : smallB p = true) : p.small := by
  intro r hr
  have := List.all_eq_true.1 h r hr
  have := of_decide_eq_true this
  omega
theorem cat_one : (newP 2 1).2 = 0 ∧ ((newP 2 1).1.electP 0).2 = 0 ∧ ((((newP 2 1).1.electP 0).1).shrinkP 1).2 = 0 ∧ smallB (newP 2 1).1 = true ∧ smallB ((newP 2 1).1.electP 0).1 = true := by
  decide +kernel
theorem cat_put : ∀ i : Fin 8, ((catA i.val).putP (catW i.val)).2.2 = 0 ∧ smallB (catA i.val) = true := by
  decide +kernel
theorem cat_mid : ∀ k : Fin 9, 1 ≤ k.val → smallB (catA k.val) = true ∧ ((catA k.val).syncP 0).2 = 0 ∧ smallB (catB k.val) = true ∧ ((catB k.val).expandP 1).2 = 13 ∧ ((catF k.val k.val).expandP 1).2 = 13 ∧ ((catF k.val k.val).fetchP 1).2.2 = 0 ∧ ((catE (catF k.val k.val)).expandP 1).2 = 0 ∧ ((catH k.val).expandP 1).2 = 6 ∧ ((catH k.val).at 0).h = k.val ∧ (catH k.val).rs.length = 2 ∧ smallB (catE (catF k.val k.val)) = true ∧ smallB (catH k.val) = true := by
  decide +kernel
theorem cat_loop : ∀ k : Fin 9, ∀ j : Fin 9, 1 ≤ k.val → j.val ≤ k.val → smallB (catF k.val j.val) = true ∧ smallB (catE (catF k.val j.val)) = true := by
  decide +kernel

end Go.Proofs.Ytkolelpdedmkeaa
