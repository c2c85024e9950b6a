/-
  No cell of these rows narrows 'for every input' (looked for: loops, veiled, ifaces, maps, wideKeys, modest, calm, conditions, laid).
  DERIVED. THE GIVEN ROWS OF THIS SEAT. 14 by the template 'for every input the law returns true; each argument reads behind the call as it read before'; 0 by the template 'total and deterministic' (their statements: YtjhpfnogdjpbmaaTotals.lean).
  GIVEN WITH THE SEED: the statements are not yours to turn. If you find one false, say at which input.
  Laid BY PROGRAM, IN A SANDBOX (cutbox-rows.mjs): the forced cells as the released guide's own fill.sh prints them over the translation 8ed6a6ae8b115d44… (all of the seat's roots in one cut). By AI agents, Wed Nov 11 2026. No macro, syntax, notation, axiom, sorry.
-/
import Derived.Test.YtjhpfnogdjpbmaaChecked
import GoSem.Claim
import GoSem.ClaimJoined
import GoSem.ClaimMapViews
import Derived.JoinedTies
import Derived.KernelRfl
namespace Go.Proofs.Ytjhpfnogdjpbmaa
/- THE CELL 'sum', in the pinned program and in every row, IS THE sha256 OF THE DUMP (.gsa) THAT YtjhpfnogdjpbmaaProg.lean LOADS. Nothing in Lean hashes anything: it is a label: what it is worth is what the hold of that sum in a sandbox is worth. -/
noncomputable def Try.pinned : Pinned := { name := "ytjhpfnogdjpbmaa", sum := "8ed6a6ae8b115d4451a9fbea9ddcb2cf86d5d91253b9c1942c31a70c846bff6b", checked := Try.checked }
namespace Rows
def none {H : Type} : Left H := { results := [], args := [] }

/-- 'tailracelaw.CoordNew': WHATEVER THE INPUT: true; the input reads as it did. -/
def coordNewSpec : ChangeSpec := { name := "coordNew", fn := fun _ => fun
  | [d] => { results := [.lit (.bool true)], args := [d] }
  | _ => none }
def coordNewRow : OpenClaim := { program := "ytjhpfnogdjpbmaa", sum := "8ed6a6ae8b115d4451a9fbea9ddcb2cf86d5d91253b9c1942c31a70c846bff6b", func := "tailrace/tailracelaw.CoordNew", spec := "coordNew", apart := false }
def CoordNewSaid : Prop := coordNewRow.holds Try.pinned (OpenSpec.ofChange coordNewSpec)

/-- ITS FALSE NEIGHBOUR: 'it returns false'. Refute it at one input. -/
def coordNewWrong : ChangeSpec := { name := "coordNew", fn := fun _ => fun
  | [d] => { results := [.lit (.bool false)], args := [d] }
  | _ => none }
def CoordNewWrongFalsely : Prop := coordNewRow.holds Try.pinned (OpenSpec.ofChange coordNewWrong)

/-- 'tailracelaw.CoordChecks': WHATEVER THE INPUT: true; the input reads as it did. -/
def coordChecksSpec : ChangeSpec := { name := "coordChecks", fn := fun _ => fun
  | [d] => { results := [.lit (.bool true)], args := [d] }
  | _ => none }
def coordChecksRow : OpenClaim := { program := "ytjhpfnogdjpbmaa", sum := "8ed6a6ae8b115d4451a9fbea9ddcb2cf86d5d91253b9c1942c31a70c846bff6b", func := "tailrace/tailracelaw.CoordChecks", spec := "coordChecks", unfollowed := true, recurses := true, apart := false }
def CoordChecksSaid : Prop := coordChecksRow.holds Try.pinned (OpenSpec.ofChange coordChecksSpec)

/-- ITS FALSE NEIGHBOUR: 'it returns false'. Refute it at one input. -/
def coordChecksWrong : ChangeSpec := { name := "coordChecks", fn := fun _ => fun
  | [d] => { results := [.lit (.bool false)], args := [d] }
  | _ => none }
def CoordChecksWrongFalsely : Prop := coordChecksRow.holds Try.pinned (OpenSpec.ofChange coordChecksWrong)

/-- 'tailracelaw.CoordCopies': WHATEVER THE INPUT: true; the input reads as it did. -/
def coordCopiesSpec : ChangeSpec := { name := "coordCopies", fn := fun _ => fun
  | [d] => { results := [.lit (.bool true)], args := [d] }
  | _ => none }
def coordCopiesRow : OpenClaim := { program := "ytjhpfnogdjpbmaa", sum := "8ed6a6ae8b115d4451a9fbea9ddcb2cf86d5d91253b9c1942c31a70c846bff6b", func := "tailrace/tailracelaw.CoordCopies", spec := "coordCopies", apart := false }
def CoordCopiesSaid : Prop := coordCopiesRow.holds Try.pinned (OpenSpec.ofChange coordCopiesSpec)

/-- ITS FALSE NEIGHBOUR: 'it returns false'. Refute it at one input. -/
def coordCopiesWrong : ChangeSpec := { name := "coordCopies", fn := fun _ => fun
  | [d] => { results := [.lit (.bool false)], args := [d] }
  | _ => none }
def CoordCopiesWrongFalsely : Prop := coordCopiesRow.holds Try.pinned (OpenSpec.ofChange coordCopiesWrong)

/-- 'tailracelaw.CoordInits': WHATEVER THE INPUT: true; the input reads as it did. -/
def coordInitsSpec : ChangeSpec := { name := "coordInits", fn := fun _ => fun
  | [d1, d2] => { results := [.lit (.bool true)], args := [d1, d2] }
  | _ => none }
def coordInitsRow : OpenClaim := { program := "ytjhpfnogdjpbmaa", sum := "8ed6a6ae8b115d4451a9fbea9ddcb2cf86d5d91253b9c1942c31a70c846bff6b", func := "tailrace/tailracelaw.CoordInits", spec := "coordInits", unfollowed := true, recurses := true, apart := false }
def CoordInitsSaid : Prop := coordInitsRow.holds Try.pinned (OpenSpec.ofChange coordInitsSpec)

/-- ITS FALSE NEIGHBOUR: 'it returns false'. Refute it at one input. -/
def coordInitsWrong : ChangeSpec := { name := "coordInits", fn := fun _ => fun
  | [d1, d2] => { results := [.lit (.bool false)], args := [d1, d2] }
  | _ => none }
def CoordInitsWrongFalsely : Prop := coordInitsRow.holds Try.pinned (OpenSpec.ofChange coordInitsWrong)

/-- 'tailracelaw.CoordAdds': WHATEVER THE INPUT: true; the input reads as it did. -/
def coordAddsSpec : ChangeSpec := { name := "coordAdds", fn := fun _ => fun
  | [d1, d2, d3, d4] => { results := [.lit (.bool true)], args := [d1, d2, d3, d4] }
  | _ => none }
def coordAddsRow : OpenClaim := { program := "ytjhpfnogdjpbmaa", sum := "8ed6a6ae8b115d4451a9fbea9ddcb2cf86d5d91253b9c1942c31a70c846bff6b", func := "tailrace/tailracelaw.CoordAdds", spec := "coordAdds", inPlace := ["slices.overlaps[int]"], unfollowed := true, recurses := true, apart := false }
def CoordAddsSaid : Prop := coordAddsRow.holds Try.pinned (OpenSpec.ofChange coordAddsSpec)

/-- ITS FALSE NEIGHBOUR: 'it returns false'. Refute it at one input. -/
def coordAddsWrong : ChangeSpec := { name := "coordAdds", fn := fun _ => fun
  | [d1, d2, d3, d4] => { results := [.lit (.bool false)], args := [d1, d2, d3, d4] }
  | _ => none }
def CoordAddsWrongFalsely : Prop := coordAddsRow.holds Try.pinned (OpenSpec.ofChange coordAddsWrong)

/-- 'tailracelaw.CoordEnds': WHATEVER THE INPUT: true; the input reads as it did. -/
def coordEndsSpec : ChangeSpec := { name := "coordEnds", fn := fun _ => fun
  | [d1, d2, d3, d4] => { results := [.lit (.bool true)], args := [d1, d2, d3, d4] }
  | _ => none }
def coordEndsRow : OpenClaim := { program := "ytjhpfnogdjpbmaa", sum := "8ed6a6ae8b115d4451a9fbea9ddcb2cf86d5d91253b9c1942c31a70c846bff6b", func := "tailrace/tailracelaw.CoordEnds", spec := "coordEnds", unfollowed := true, recurses := true, apart := false }
def CoordEndsSaid : Prop := coordEndsRow.holds Try.pinned (OpenSpec.ofChange coordEndsSpec)

/-- ITS FALSE NEIGHBOUR: 'it returns false'. Refute it at one input. -/
def coordEndsWrong : ChangeSpec := { name := "coordEnds", fn := fun _ => fun
  | [d1, d2, d3, d4] => { results := [.lit (.bool false)], args := [d1, d2, d3, d4] }
  | _ => none }
def CoordEndsWrongFalsely : Prop := coordEndsRow.holds Try.pinned (OpenSpec.ofChange coordEndsWrong)

/-- 'tailracelaw.CoordNext': WHATEVER THE INPUT: true; the input reads as it did. -/
def coordNextSpec : ChangeSpec := { name := "coordNext", fn := fun _ => fun
  | [d1, d2] => { results := [.lit (.bool true)], args := [d1, d2] }
  | _ => none }
def coordNextRow : OpenClaim := { program := "ytjhpfnogdjpbmaa", sum := "8ed6a6ae8b115d4451a9fbea9ddcb2cf86d5d91253b9c1942c31a70c846bff6b", func := "tailrace/tailracelaw.CoordNext", spec := "coordNext", unfollowed := true, recurses := true, apart := false }
def CoordNextSaid : Prop := coordNextRow.holds Try.pinned (OpenSpec.ofChange coordNextSpec)

/-- ITS FALSE NEIGHBOUR: 'it returns false'. Refute it at one input. -/
def coordNextWrong : ChangeSpec := { name := "coordNext", fn := fun _ => fun
  | [d1, d2] => { results := [.lit (.bool false)], args := [d1, d2] }
  | _ => none }
def CoordNextWrongFalsely : Prop := coordNextRow.holds Try.pinned (OpenSpec.ofChange coordNextWrong)

/-- 'tailracelaw.CoordDone': WHATEVER THE INPUT: true; the input reads as it did. -/
def coordDoneSpec : ChangeSpec := { name := "coordDone", fn := fun _ => fun
  | [d1, d2, d3] => { results := [.lit (.bool true)], args := [d1, d2, d3] }
  | _ => none }
def coordDoneRow : OpenClaim := { program := "ytjhpfnogdjpbmaa", sum := "8ed6a6ae8b115d4451a9fbea9ddcb2cf86d5d91253b9c1942c31a70c846bff6b", func := "tailrace/tailracelaw.CoordDone", spec := "coordDone", unfollowed := true, recurses := true, apart := false }
def CoordDoneSaid : Prop := coordDoneRow.holds Try.pinned (OpenSpec.ofChange coordDoneSpec)

/-- ITS FALSE NEIGHBOUR: 'it returns false'. Refute it at one input. -/
def coordDoneWrong : ChangeSpec := { name := "coordDone", fn := fun _ => fun
  | [d1, d2, d3] => { results := [.lit (.bool false)], args := [d1, d2, d3] }
  | _ => none }
def CoordDoneWrongFalsely : Prop := coordDoneRow.holds Try.pinned (OpenSpec.ofChange coordDoneWrong)

/-- 'tailracelaw.CoordTicks': WHATEVER THE INPUT: true; the input reads as it did. -/
def coordTicksSpec : ChangeSpec := { name := "coordTicks", fn := fun _ => fun
  | [d1, d2] => { results := [.lit (.bool true)], args := [d1, d2] }
  | _ => none }
def coordTicksRow : OpenClaim := { program := "ytjhpfnogdjpbmaa", sum := "8ed6a6ae8b115d4451a9fbea9ddcb2cf86d5d91253b9c1942c31a70c846bff6b", func := "tailrace/tailracelaw.CoordTicks", spec := "coordTicks", unfollowed := true, recurses := true, apart := false }
def CoordTicksSaid : Prop := coordTicksRow.holds Try.pinned (OpenSpec.ofChange coordTicksSpec)

/-- ITS FALSE NEIGHBOUR: 'it returns false'. Refute it at one input. -/
def coordTicksWrong : ChangeSpec := { name := "coordTicks", fn := fun _ => fun
  | [d1, d2] => { results := [.lit (.bool false)], args := [d1, d2] }
  | _ => none }
def CoordTicksWrongFalsely : Prop := coordTicksRow.holds Try.pinned (OpenSpec.ofChange coordTicksWrong)

/-- 'tailracekeep.CoordGood': WHATEVER THE INPUT: true; the input reads as it did. -/
def coordGoodSpec : ChangeSpec := { name := "coordGood", fn := fun _ => fun
  | [d] => { results := [.lit (.bool true)], args := [d] }
  | _ => none }
def coordGoodRow : OpenClaim := { program := "ytjhpfnogdjpbmaa", sum := "8ed6a6ae8b115d4451a9fbea9ddcb2cf86d5d91253b9c1942c31a70c846bff6b", func := "tailrace/tailracekeep.CoordGood", spec := "coordGood", inPlace := ["slices.overlaps[int]"], unfollowed := true, recurses := true, apart := false }
def CoordGoodSaid : Prop := coordGoodRow.holds Try.pinned (OpenSpec.ofChange coordGoodSpec)

/-- ITS FALSE NEIGHBOUR: 'it returns false'. Refute it at one input. -/
def coordGoodWrong : ChangeSpec := { name := "coordGood", fn := fun _ => fun
  | [d] => { results := [.lit (.bool false)], args := [d] }
  | _ => none }
def CoordGoodWrongFalsely : Prop := coordGoodRow.holds Try.pinned (OpenSpec.ofChange coordGoodWrong)

/-- 'tailracekeep.CoordFences': WHATEVER THE INPUT: true; the input reads as it did. -/
def coordFencesSpec : ChangeSpec := { name := "coordFences", fn := fun _ => fun
  | [d1, d2] => { results := [.lit (.bool true)], args := [d1, d2] }
  | _ => none }
def coordFencesRow : OpenClaim := { program := "ytjhpfnogdjpbmaa", sum := "8ed6a6ae8b115d4451a9fbea9ddcb2cf86d5d91253b9c1942c31a70c846bff6b", func := "tailrace/tailracekeep.CoordFences", spec := "coordFences", inPlace := ["slices.overlaps[int]"], unfollowed := true, recurses := true, apart := false }
def CoordFencesSaid : Prop := coordFencesRow.holds Try.pinned (OpenSpec.ofChange coordFencesSpec)

/-- ITS FALSE NEIGHBOUR: 'it returns false'. Refute it at one input. -/
def coordFencesWrong : ChangeSpec := { name := "coordFences", fn := fun _ => fun
  | [d1, d2] => { results := [.lit (.bool false)], args := [d1, d2] }
  | _ => none }
def CoordFencesWrongFalsely : Prop := coordFencesRow.holds Try.pinned (OpenSpec.ofChange coordFencesWrong)

/-- 'tailracekeep.CoordStays': WHATEVER THE INPUT: true; the input reads as it did. -/
def coordStaysSpec : ChangeSpec := { name := "coordStays", fn := fun _ => fun
  | [d1, d2, d3] => { results := [.lit (.bool true)], args := [d1, d2, d3] }
  | _ => none }
def coordStaysRow : OpenClaim := { program := "ytjhpfnogdjpbmaa", sum := "8ed6a6ae8b115d4451a9fbea9ddcb2cf86d5d91253b9c1942c31a70c846bff6b", func := "tailrace/tailracekeep.CoordStays", spec := "coordStays", inPlace := ["slices.overlaps[int]"], unfollowed := true, recurses := true, apart := false }
def CoordStaysSaid : Prop := coordStaysRow.holds Try.pinned (OpenSpec.ofChange coordStaysSpec)

/-- ITS FALSE NEIGHBOUR: 'it returns false'. Refute it at one input. -/
def coordStaysWrong : ChangeSpec := { name := "coordStays", fn := fun _ => fun
  | [d1, d2, d3] => { results := [.lit (.bool false)], args := [d1, d2, d3] }
  | _ => none }
def CoordStaysWrongFalsely : Prop := coordStaysRow.holds Try.pinned (OpenSpec.ofChange coordStaysWrong)

/-- 'tailracekeep.CoordWaits': WHATEVER THE INPUT: true; the input reads as it did. -/
def coordWaitsSpec : ChangeSpec := { name := "coordWaits", fn := fun _ => fun
  | [d1, d2] => { results := [.lit (.bool true)], args := [d1, d2] }
  | _ => none }
def coordWaitsRow : OpenClaim := { program := "ytjhpfnogdjpbmaa", sum := "8ed6a6ae8b115d4451a9fbea9ddcb2cf86d5d91253b9c1942c31a70c846bff6b", func := "tailrace/tailracekeep.CoordWaits", spec := "coordWaits", inPlace := ["slices.overlaps[int]"], unfollowed := true, recurses := true, apart := false }
def CoordWaitsSaid : Prop := coordWaitsRow.holds Try.pinned (OpenSpec.ofChange coordWaitsSpec)

/-- ITS FALSE NEIGHBOUR: 'it returns false'. Refute it at one input. -/
def coordWaitsWrong : ChangeSpec := { name := "coordWaits", fn := fun _ => fun
  | [d1, d2] => { results := [.lit (.bool false)], args := [d1, d2] }
  | _ => none }
def CoordWaitsWrongFalsely : Prop := coordWaitsRow.holds Try.pinned (OpenSpec.ofChange coordWaitsWrong)

/-- 'tailracekeep.CoordPids': WHATEVER THE INPUT: true; the input reads as it did. -/
def coordPidsSpec : ChangeSpec := { name := "coordPids", fn := fun _ => fun
  | [d] => { results := [.lit (.bool true)], args := [d] }
  | _ => none }
def coordPidsRow : OpenClaim := { program := "ytjhpfnogdjpbmaa", sum := "8ed6a6ae8b115d4451a9fbea9ddcb2cf86d5d91253b9c1942c31a70c846bff6b", func := "tailrace/tailracekeep.CoordPids", spec := "coordPids", unfollowed := true, recurses := true, apart := false }
def CoordPidsSaid : Prop := coordPidsRow.holds Try.pinned (OpenSpec.ofChange coordPidsSpec)

/-- ITS FALSE NEIGHBOUR: 'it returns false'. Refute it at one input. -/
def coordPidsWrong : ChangeSpec := { name := "coordPids", fn := fun _ => fun
  | [d] => { results := [.lit (.bool false)], args := [d] }
  | _ => none }
def CoordPidsWrongFalsely : Prop := coordPidsRow.holds Try.pinned (OpenSpec.ofChange coordPidsWrong)

/- THE SECOND FORM. 'bulk': how many values and letters a reading holds, each counted each time it is reached (what is shared counts as often as it is met; a slice's spare places count too). A statement '..UptoSaid' is the law's where the arguments, and the package variables that the reading takes, are together of bulk at most 1048576: NARROWER than '..Said'. Prove '..Said' where nothing that the law and all that it calls make is longer than what came in: it says more and counts as full. Else prove '..UptoSaid'. A law counts once. -/
mutual
def uptoBulk {H : Type} : DataW H → Nat
  | .lit (.string bytes) => bytes.length + 1
  | .lit _ => 1
  | .nil => 1
  | .ptr d => uptoBulk d + 1
  | .slice elems spare => uptoBulkAll elems + uptoBulkAll spare + 1
  | .agg parts => uptoBulkAll parts + 1
  | .iface _ d => uptoBulk d + 1
  | .map entries => uptoBulkEntries entries + 1
  | .held _ => 1
def uptoBulkAll {H : Type} : List (DataW H) → Nat
  | [] => 0
  | d :: r => uptoBulk d + uptoBulkAll r
def uptoBulkEntries {H : Type} : List (Lit × DataW H) → Nat
  | [] => 0
  | x :: r => uptoBulkEntry x + uptoBulkEntries r
def uptoBulkEntry {H : Type} : Lit × DataW H → Nat
  | (.string bytes, d) => bytes.length + uptoBulk d + 1
  | (_, d) => uptoBulk d + 1
 end
def uptoSmall : (H : Type) → List (DataW H) → Bool := fun _ ds => decide (uptoBulkAll ds ≤ 1048576)
def OpenSpec.upto (s : _root_.Go.ChangeSpec) : _root_.Go.OpenSpec := { _root_.Go.OpenSpec.ofChange s with cond := some uptoSmall }

/-- 'tailracelaw.CoordNew', WHERE WHAT IT READS IS OF BULK AT MOST 1048576: true; the input reads as it did. -/
def coordNewUptoRow : OpenClaim := { program := "ytjhpfnogdjpbmaa", sum := "8ed6a6ae8b115d4451a9fbea9ddcb2cf86d5d91253b9c1942c31a70c846bff6b", func := "tailrace/tailracelaw.CoordNew", spec := "coordNew", apart := false, narrowed := true }
def CoordNewUptoSaid : Prop := coordNewUptoRow.holds Try.pinned (OpenSpec.upto coordNewSpec)

/-- 'tailracelaw.CoordChecks', WHERE WHAT IT READS IS OF BULK AT MOST 1048576: true; the input reads as it did. -/
def coordChecksUptoRow : OpenClaim := { program := "ytjhpfnogdjpbmaa", sum := "8ed6a6ae8b115d4451a9fbea9ddcb2cf86d5d91253b9c1942c31a70c846bff6b", func := "tailrace/tailracelaw.CoordChecks", spec := "coordChecks", unfollowed := true, recurses := true, apart := false, narrowed := true }
def CoordChecksUptoSaid : Prop := coordChecksUptoRow.holds Try.pinned (OpenSpec.upto coordChecksSpec)

/-- 'tailracelaw.CoordCopies', WHERE WHAT IT READS IS OF BULK AT MOST 1048576: true; the input reads as it did. -/
def coordCopiesUptoRow : OpenClaim := { program := "ytjhpfnogdjpbmaa", sum := "8ed6a6ae8b115d4451a9fbea9ddcb2cf86d5d91253b9c1942c31a70c846bff6b", func := "tailrace/tailracelaw.CoordCopies", spec := "coordCopies", apart := false, narrowed := true }
def CoordCopiesUptoSaid : Prop := coordCopiesUptoRow.holds Try.pinned (OpenSpec.upto coordCopiesSpec)

/-- 'tailracelaw.CoordInits', WHERE WHAT IT READS IS OF BULK AT MOST 1048576: true; the input reads as it did. -/
def coordInitsUptoRow : OpenClaim := { program := "ytjhpfnogdjpbmaa", sum := "8ed6a6ae8b115d4451a9fbea9ddcb2cf86d5d91253b9c1942c31a70c846bff6b", func := "tailrace/tailracelaw.CoordInits", spec := "coordInits", unfollowed := true, recurses := true, apart := false, narrowed := true }
def CoordInitsUptoSaid : Prop := coordInitsUptoRow.holds Try.pinned (OpenSpec.upto coordInitsSpec)

/-- 'tailracelaw.CoordAdds', WHERE WHAT IT READS IS OF BULK AT MOST 1048576: true; the input reads as it did. -/
def coordAddsUptoRow : OpenClaim := { program := "ytjhpfnogdjpbmaa", sum := "8ed6a6ae8b115d4451a9fbea9ddcb2cf86d5d91253b9c1942c31a70c846bff6b", func := "tailrace/tailracelaw.CoordAdds", spec := "coordAdds", inPlace := ["slices.overlaps[int]"], unfollowed := true, recurses := true, apart := false, narrowed := true }
def CoordAddsUptoSaid : Prop := coordAddsUptoRow.holds Try.pinned (OpenSpec.upto coordAddsSpec)

/-- 'tailracelaw.CoordEnds', WHERE WHAT IT READS IS OF BULK AT MOST 1048576: true; the input reads as it did. -/
def coordEndsUptoRow : OpenClaim := { program := "ytjhpfnogdjpbmaa", sum := "8ed6a6ae8b115d4451a9fbea9ddcb2cf86d5d91253b9c1942c31a70c846bff6b", func := "tailrace/tailracelaw.CoordEnds", spec := "coordEnds", unfollowed := true, recurses := true, apart := false, narrowed := true }
def CoordEndsUptoSaid : Prop := coordEndsUptoRow.holds Try.pinned (OpenSpec.upto coordEndsSpec)

/-- 'tailracelaw.CoordNext', WHERE WHAT IT READS IS OF BULK AT MOST 1048576: true; the input reads as it did. -/
def coordNextUptoRow : OpenClaim := { program := "ytjhpfnogdjpbmaa", sum := "8ed6a6ae8b115d4451a9fbea9ddcb2cf86d5d91253b9c1942c31a70c846bff6b", func := "tailrace/tailracelaw.CoordNext", spec := "coordNext", unfollowed := true, recurses := true, apart := false, narrowed := true }
def CoordNextUptoSaid : Prop := coordNextUptoRow.holds Try.pinned (OpenSpec.upto coordNextSpec)

/-- 'tailracelaw.CoordDone', WHERE WHAT IT READS IS OF BULK AT MOST 1048576: true; the input reads as it did. -/
def coordDoneUptoRow : OpenClaim := { program := "ytjhpfnogdjpbmaa", sum := "8ed6a6ae8b115d4451a9fbea9ddcb2cf86d5d91253b9c1942c31a70c846bff6b", func := "tailrace/tailracelaw.CoordDone", spec := "coordDone", unfollowed := true, recurses := true, apart := false, narrowed := true }
def CoordDoneUptoSaid : Prop := coordDoneUptoRow.holds Try.pinned (OpenSpec.upto coordDoneSpec)

/-- 'tailracelaw.CoordTicks', WHERE WHAT IT READS IS OF BULK AT MOST 1048576: true; the input reads as it did. -/
def coordTicksUptoRow : OpenClaim := { program := "ytjhpfnogdjpbmaa", sum := "8ed6a6ae8b115d4451a9fbea9ddcb2cf86d5d91253b9c1942c31a70c846bff6b", func := "tailrace/tailracelaw.CoordTicks", spec := "coordTicks", unfollowed := true, recurses := true, apart := false, narrowed := true }
def CoordTicksUptoSaid : Prop := coordTicksUptoRow.holds Try.pinned (OpenSpec.upto coordTicksSpec)

/-- 'tailracekeep.CoordGood', WHERE WHAT IT READS IS OF BULK AT MOST 1048576: true; the input reads as it did. -/
def coordGoodUptoRow : OpenClaim := { program := "ytjhpfnogdjpbmaa", sum := "8ed6a6ae8b115d4451a9fbea9ddcb2cf86d5d91253b9c1942c31a70c846bff6b", func := "tailrace/tailracekeep.CoordGood", spec := "coordGood", inPlace := ["slices.overlaps[int]"], unfollowed := true, recurses := true, apart := false, narrowed := true }
def CoordGoodUptoSaid : Prop := coordGoodUptoRow.holds Try.pinned (OpenSpec.upto coordGoodSpec)

/-- 'tailracekeep.CoordFences', WHERE WHAT IT READS IS OF BULK AT MOST 1048576: true; the input reads as it did. -/
def coordFencesUptoRow : OpenClaim := { program := "ytjhpfnogdjpbmaa", sum := "8ed6a6ae8b115d4451a9fbea9ddcb2cf86d5d91253b9c1942c31a70c846bff6b", func := "tailrace/tailracekeep.CoordFences", spec := "coordFences", inPlace := ["slices.overlaps[int]"], unfollowed := true, recurses := true, apart := false, narrowed := true }
def CoordFencesUptoSaid : Prop := coordFencesUptoRow.holds Try.pinned (OpenSpec.upto coordFencesSpec)

/-- 'tailracekeep.CoordStays', WHERE WHAT IT READS IS OF BULK AT MOST 1048576: true; the input reads as it did. -/
def coordStaysUptoRow : OpenClaim := { program := "ytjhpfnogdjpbmaa", sum := "8ed6a6ae8b115d4451a9fbea9ddcb2cf86d5d91253b9c1942c31a70c846bff6b", func := "tailrace/tailracekeep.CoordStays", spec := "coordStays", inPlace := ["slices.overlaps[int]"], unfollowed := true, recurses := true, apart := false, narrowed := true }
def CoordStaysUptoSaid : Prop := coordStaysUptoRow.holds Try.pinned (OpenSpec.upto coordStaysSpec)

/-- 'tailracekeep.CoordWaits', WHERE WHAT IT READS IS OF BULK AT MOST 1048576: true; the input reads as it did. -/
def coordWaitsUptoRow : OpenClaim := { program := "ytjhpfnogdjpbmaa", sum := "8ed6a6ae8b115d4451a9fbea9ddcb2cf86d5d91253b9c1942c31a70c846bff6b", func := "tailrace/tailracekeep.CoordWaits", spec := "coordWaits", inPlace := ["slices.overlaps[int]"], unfollowed := true, recurses := true, apart := false, narrowed := true }
def CoordWaitsUptoSaid : Prop := coordWaitsUptoRow.holds Try.pinned (OpenSpec.upto coordWaitsSpec)

/-- 'tailracekeep.CoordPids', WHERE WHAT IT READS IS OF BULK AT MOST 1048576: true; the input reads as it did. -/
def coordPidsUptoRow : OpenClaim := { program := "ytjhpfnogdjpbmaa", sum := "8ed6a6ae8b115d4451a9fbea9ddcb2cf86d5d91253b9c1942c31a70c846bff6b", func := "tailrace/tailracekeep.CoordPids", spec := "coordPids", unfollowed := true, recurses := true, apart := false, narrowed := true }
def CoordPidsUptoSaid : Prop := coordPidsUptoRow.holds Try.pinned (OpenSpec.upto coordPidsSpec)

end Rows
end Go.Proofs.Ytjhpfnogdjpbmaa
