/-
  An entry that comes in by value, opened: five numbers, a bool and a text, each within its bounds.
-/
import Derived.Test.YtmkbbhdmfpjfdaaRows
import Derived.WalkKit
import Derived.ProofKit
import Derived.OpenShut
import Derived.ShutString
import Derived.ChangeOld
import Derived.Below
namespace Go.Proofs.Ytmkbbhdmfpjfdaa
open Go.ChangeShapes Go.WideShapes Go.ChangeAt Go.RowKit
set_option maxRecDepth 100000
open Go.ChangeMaps (open_string shut_string)

theorem own : ownKnob Try.prog.godebug = none := by kernel_rfl

theorem laidOut : laidOutB Try.prog = true := by kernel_rfl

theorem cellsI : Try.prog.cellsOf 3 = 1 := by kernel_rfl

theorem cellsB : Try.prog.cellsOf 4 = 1 := by kernel_rfl

theorem cellsS : Try.prog.cellsOf 9 = 1 := by kernel_rfl

theorem array7 {α : Type} {a : Array α} (h : a.size = 7) : ∃ x0 x1 x2 x3 x4 x5 x6, a = #[x0, x1, x2, x3, x4, x5, x6] := by
  obtain ⟨l⟩ := a
  match l, h with
  | [x0, x1, x2, x3, x4, x5, x6], _ => exact ⟨x0, x1, x2, x3, x4, x5, x6, rfl⟩

end Go.Proofs.Ytmkbbhdmfpjfdaa
