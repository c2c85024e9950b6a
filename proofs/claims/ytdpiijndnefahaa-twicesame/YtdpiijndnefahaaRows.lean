/-
  No cell of these rows narrows 'for every input' (looked for: loops, veiled, ifaces, maps, wideKeys, modest, calm, conditions, laid).
  DERIVED. THE GIVEN ROWS OF THIS SEAT. 8 by the template 'for every input the law returns true; each argument reads behind the call as it read before'; 0 by the template 'total and deterministic' (their statements: YtdpiijndnefahaaTotals.lean).
  GIVEN WITH THE SEED: the statements are not yours to turn. If you find one false, say at which input.
  Laid BY PROGRAM, IN A SANDBOX (cutbox-rows.mjs): the forced cells as the released guide's own fill.sh prints them over the translation d169faa5d56e66b8… (all of the seat's roots in one cut). By AI agents, Wed Nov 11 2026. No macro, syntax, notation, axiom, sorry.
-/
import Derived.Test.YtdpiijndnefahaaChecked
import GoSem.Claim
import GoSem.ClaimJoined
import GoSem.ClaimMapViews
import Derived.JoinedTies
import Derived.KernelRfl
namespace Go.Proofs.Ytdpiijndnefahaa
/- THE CELL 'sum', in the pinned program and in every row, IS THE sha256 OF THE DUMP (.gsa) THAT YtdpiijndnefahaaProg.lean LOADS. Nothing in Lean hashes anything: it is a label: what it is worth is what the hold of that sum in a sandbox is worth. -/
noncomputable def Try.pinned : Pinned := { name := "ytdpiijndnefahaa", sum := "d169faa5d56e66b84d1dfc82f69d5530f3b530baed8d6b5d8cce4298143ce88a", checked := Try.checked }
namespace Rows
def none {H : Type} : Left H := { results := [], args := [] }

/-- 'tailracelaw.ViewChecks': WHATEVER THE INPUT: true; the input reads as it did. -/
def viewChecksSpec : ChangeSpec := { name := "viewChecks", fn := fun _ => fun
  | [d1, d2] => { results := [.lit (.bool true)], args := [d1, d2] }
  | _ => none }
def viewChecksRow : OpenClaim := { program := "ytdpiijndnefahaa", sum := "d169faa5d56e66b84d1dfc82f69d5530f3b530baed8d6b5d8cce4298143ce88a", func := "tailrace/tailracelaw.ViewChecks", spec := "viewChecks", plainKeys := false, apart := false }
def ViewChecksSaid : Prop := viewChecksRow.holds Try.pinned (OpenSpec.ofChange viewChecksSpec)

/-- ITS FALSE NEIGHBOUR: 'it returns false'. Refute it at one input. -/
def viewChecksWrong : ChangeSpec := { name := "viewChecks", fn := fun _ => fun
  | [d1, d2] => { results := [.lit (.bool false)], args := [d1, d2] }
  | _ => none }
def ViewChecksWrongFalsely : Prop := viewChecksRow.holds Try.pinned (OpenSpec.ofChange viewChecksWrong)

/-- 'tailracelaw.ViewStable': WHATEVER THE INPUT: true; the input reads as it did. -/
def viewStableSpec : ChangeSpec := { name := "viewStable", fn := fun _ => fun
  | [d1, d2] => { results := [.lit (.bool true)], args := [d1, d2] }
  | _ => none }
def viewStableRow : OpenClaim := { program := "ytdpiijndnefahaa", sum := "d169faa5d56e66b84d1dfc82f69d5530f3b530baed8d6b5d8cce4298143ce88a", func := "tailrace/tailracelaw.ViewStable", spec := "viewStable", plainKeys := false, apart := false }
def ViewStableSaid : Prop := viewStableRow.holds Try.pinned (OpenSpec.ofChange viewStableSpec)

/-- ITS FALSE NEIGHBOUR: 'it returns false'. Refute it at one input. -/
def viewStableWrong : ChangeSpec := { name := "viewStable", fn := fun _ => fun
  | [d1, d2] => { results := [.lit (.bool false)], args := [d1, d2] }
  | _ => none }
def ViewStableWrongFalsely : Prop := viewStableRow.holds Try.pinned (OpenSpec.ofChange viewStableWrong)

/-- 'tailracelaw.ViewReads': WHATEVER THE INPUT: true; the input reads as it did. -/
def viewReadsSpec : ChangeSpec := { name := "viewReads", fn := fun _ => fun
  | [d1, d2, d3, d4] => { results := [.lit (.bool true)], args := [d1, d2, d3, d4] }
  | _ => none }
def viewReadsRow : OpenClaim := { program := "ytdpiijndnefahaa", sum := "d169faa5d56e66b84d1dfc82f69d5530f3b530baed8d6b5d8cce4298143ce88a", func := "tailrace/tailracelaw.ViewReads", spec := "viewReads", plainKeys := false, apart := false }
def ViewReadsSaid : Prop := viewReadsRow.holds Try.pinned (OpenSpec.ofChange viewReadsSpec)

/-- ITS FALSE NEIGHBOUR: 'it returns false'. Refute it at one input. -/
def viewReadsWrong : ChangeSpec := { name := "viewReads", fn := fun _ => fun
  | [d1, d2, d3, d4] => { results := [.lit (.bool false)], args := [d1, d2, d3, d4] }
  | _ => none }
def ViewReadsWrongFalsely : Prop := viewReadsRow.holds Try.pinned (OpenSpec.ofChange viewReadsWrong)

/-- 'tailracekeep.OnceEach': WHATEVER THE INPUT: true; the input reads as it did. -/
def onceEachSpec : ChangeSpec := { name := "onceEach", fn := fun _ => fun
  | [d] => { results := [.lit (.bool true)], args := [d] }
  | _ => none }
def onceEachRow : OpenClaim := { program := "ytdpiijndnefahaa", sum := "d169faa5d56e66b84d1dfc82f69d5530f3b530baed8d6b5d8cce4298143ce88a", func := "tailrace/tailracekeep.OnceEach", spec := "onceEach", plainKeys := false, apart := false }
def OnceEachSaid : Prop := onceEachRow.holds Try.pinned (OpenSpec.ofChange onceEachSpec)

/-- ITS FALSE NEIGHBOUR: 'it returns false'. Refute it at one input. -/
def onceEachWrong : ChangeSpec := { name := "onceEach", fn := fun _ => fun
  | [d] => { results := [.lit (.bool false)], args := [d] }
  | _ => none }
def OnceEachWrongFalsely : Prop := onceEachRow.holds Try.pinned (OpenSpec.ofChange onceEachWrong)

/-- 'tailracekeep.TwiceSame': WHATEVER THE INPUT: true; the input reads as it did. -/
def twiceSameSpec : ChangeSpec := { name := "twiceSame", fn := fun _ => fun
  | [d1, d2] => { results := [.lit (.bool true)], args := [d1, d2] }
  | _ => none }
def twiceSameRow : OpenClaim := { program := "ytdpiijndnefahaa", sum := "d169faa5d56e66b84d1dfc82f69d5530f3b530baed8d6b5d8cce4298143ce88a", func := "tailrace/tailracekeep.TwiceSame", spec := "twiceSame", unfollowed := true, recurses := true, plainKeys := false, apart := false }
def TwiceSameSaid : Prop := twiceSameRow.holds Try.pinned (OpenSpec.ofChange twiceSameSpec)

/-- ITS FALSE NEIGHBOUR: 'it returns false'. Refute it at one input. -/
def twiceSameWrong : ChangeSpec := { name := "twiceSame", fn := fun _ => fun
  | [d1, d2] => { results := [.lit (.bool false)], args := [d1, d2] }
  | _ => none }
def TwiceSameWrongFalsely : Prop := twiceSameRow.holds Try.pinned (OpenSpec.ofChange twiceSameWrong)

/-- 'tailracekeep.StableAhead': WHATEVER THE INPUT: true; the input reads as it did. -/
def stableAheadSpec : ChangeSpec := { name := "stableAhead", fn := fun _ => fun
  | [d1, d2, d3] => { results := [.lit (.bool true)], args := [d1, d2, d3] }
  | _ => none }
def stableAheadRow : OpenClaim := { program := "ytdpiijndnefahaa", sum := "d169faa5d56e66b84d1dfc82f69d5530f3b530baed8d6b5d8cce4298143ce88a", func := "tailrace/tailracekeep.StableAhead", spec := "stableAhead", unfollowed := true, recurses := true, plainKeys := false, apart := false }
def StableAheadSaid : Prop := stableAheadRow.holds Try.pinned (OpenSpec.ofChange stableAheadSpec)

/-- ITS FALSE NEIGHBOUR: 'it returns false'. Refute it at one input. -/
def stableAheadWrong : ChangeSpec := { name := "stableAhead", fn := fun _ => fun
  | [d1, d2, d3] => { results := [.lit (.bool false)], args := [d1, d2, d3] }
  | _ => none }
def StableAheadWrongFalsely : Prop := stableAheadRow.holds Try.pinned (OpenSpec.ofChange stableAheadWrong)

/-- 'tailracekeep.ReadPages': WHATEVER THE INPUT: true; the input reads as it did. -/
def readPagesSpec : ChangeSpec := { name := "readPages", fn := fun _ => fun
  | [d1, d2] => { results := [.lit (.bool true)], args := [d1, d2] }
  | _ => none }
def readPagesRow : OpenClaim := { program := "ytdpiijndnefahaa", sum := "d169faa5d56e66b84d1dfc82f69d5530f3b530baed8d6b5d8cce4298143ce88a", func := "tailrace/tailracekeep.ReadPages", spec := "readPages", plainKeys := false, apart := false }
def ReadPagesSaid : Prop := readPagesRow.holds Try.pinned (OpenSpec.ofChange readPagesSpec)

/-- ITS FALSE NEIGHBOUR: 'it returns false'. Refute it at one input. -/
def readPagesWrong : ChangeSpec := { name := "readPages", fn := fun _ => fun
  | [d1, d2] => { results := [.lit (.bool false)], args := [d1, d2] }
  | _ => none }
def ReadPagesWrongFalsely : Prop := readPagesRow.holds Try.pinned (OpenSpec.ofChange readPagesWrong)

/-- 'tailracekeep.ReadDone': WHATEVER THE INPUT: true; the input reads as it did. -/
def readDoneSpec : ChangeSpec := { name := "readDone", fn := fun _ => fun
  | [d] => { results := [.lit (.bool true)], args := [d] }
  | _ => none }
def readDoneRow : OpenClaim := { program := "ytdpiijndnefahaa", sum := "d169faa5d56e66b84d1dfc82f69d5530f3b530baed8d6b5d8cce4298143ce88a", func := "tailrace/tailracekeep.ReadDone", spec := "readDone", unfollowed := true, recurses := true, plainKeys := false, apart := false }
def ReadDoneSaid : Prop := readDoneRow.holds Try.pinned (OpenSpec.ofChange readDoneSpec)

/-- ITS FALSE NEIGHBOUR: 'it returns false'. Refute it at one input. -/
def readDoneWrong : ChangeSpec := { name := "readDone", fn := fun _ => fun
  | [d] => { results := [.lit (.bool false)], args := [d] }
  | _ => none }
def ReadDoneWrongFalsely : Prop := readDoneRow.holds Try.pinned (OpenSpec.ofChange readDoneWrong)

/- THE SECOND FORM. 'bulk': how many values and letters a reading holds, each counted each time it is reached (what is shared counts as often as it is met; a slice's spare places count too). A statement '..UptoSaid' is the law's where the arguments, and the package variables that the reading takes, are together of bulk at most 1048576: NARROWER than '..Said'. Prove '..Said' where nothing that the law and all that it calls make is longer than what came in: it says more and counts as full. Else prove '..UptoSaid'. A law counts once. -/
mutual
def uptoBulk {H : Type} : DataW H → Nat
  | .lit (.string bytes) => bytes.length + 1
  | .lit _ => 1
  | .nil => 1
  | .ptr d => uptoBulk d + 1
  | .slice elems spare => uptoBulkAll elems + uptoBulkAll spare + 1
  | .agg parts => uptoBulkAll parts + 1
  | .iface _ d => uptoBulk d + 1
  | .map entries => uptoBulkEntries entries + 1
  | .held _ => 1
def uptoBulkAll {H : Type} : List (DataW H) → Nat
  | [] => 0
  | d :: r => uptoBulk d + uptoBulkAll r
def uptoBulkEntries {H : Type} : List (Lit × DataW H) → Nat
  | [] => 0
  | x :: r => uptoBulkEntry x + uptoBulkEntries r
def uptoBulkEntry {H : Type} : Lit × DataW H → Nat
  | (.string bytes, d) => bytes.length + uptoBulk d + 1
  | (_, d) => uptoBulk d + 1
 end
def uptoSmall : (H : Type) → List (DataW H) → Bool := fun _ ds => decide (uptoBulkAll ds ≤ 1048576)
def OpenSpec.upto (s : _root_.Go.ChangeSpec) : _root_.Go.OpenSpec := { _root_.Go.OpenSpec.ofChange s with cond := some uptoSmall }

/-- 'tailracelaw.ViewChecks', WHERE WHAT IT READS IS OF BULK AT MOST 1048576: true; the input reads as it did. -/
def viewChecksUptoRow : OpenClaim := { program := "ytdpiijndnefahaa", sum := "d169faa5d56e66b84d1dfc82f69d5530f3b530baed8d6b5d8cce4298143ce88a", func := "tailrace/tailracelaw.ViewChecks", spec := "viewChecks", plainKeys := false, apart := false, narrowed := true }
def ViewChecksUptoSaid : Prop := viewChecksUptoRow.holds Try.pinned (OpenSpec.upto viewChecksSpec)

/-- 'tailracelaw.ViewStable', WHERE WHAT IT READS IS OF BULK AT MOST 1048576: true; the input reads as it did. -/
def viewStableUptoRow : OpenClaim := { program := "ytdpiijndnefahaa", sum := "d169faa5d56e66b84d1dfc82f69d5530f3b530baed8d6b5d8cce4298143ce88a", func := "tailrace/tailracelaw.ViewStable", spec := "viewStable", plainKeys := false, apart := false, narrowed := true }
def ViewStableUptoSaid : Prop := viewStableUptoRow.holds Try.pinned (OpenSpec.upto viewStableSpec)

/-- 'tailracelaw.ViewReads', WHERE WHAT IT READS IS OF BULK AT MOST 1048576: true; the input reads as it did. -/
def viewReadsUptoRow : OpenClaim := { program := "ytdpiijndnefahaa", sum := "d169faa5d56e66b84d1dfc82f69d5530f3b530baed8d6b5d8cce4298143ce88a", func := "tailrace/tailracelaw.ViewReads", spec := "viewReads", plainKeys := false, apart := false, narrowed := true }
def ViewReadsUptoSaid : Prop := viewReadsUptoRow.holds Try.pinned (OpenSpec.upto viewReadsSpec)

/-- 'tailracekeep.OnceEach', WHERE WHAT IT READS IS OF BULK AT MOST 1048576: true; the input reads as it did. -/
def onceEachUptoRow : OpenClaim := { program := "ytdpiijndnefahaa", sum := "d169faa5d56e66b84d1dfc82f69d5530f3b530baed8d6b5d8cce4298143ce88a", func := "tailrace/tailracekeep.OnceEach", spec := "onceEach", plainKeys := false, apart := false, narrowed := true }
def OnceEachUptoSaid : Prop := onceEachUptoRow.holds Try.pinned (OpenSpec.upto onceEachSpec)

/-- 'tailracekeep.TwiceSame', WHERE WHAT IT READS IS OF BULK AT MOST 1048576: true; the input reads as it did. -/
def twiceSameUptoRow : OpenClaim := { program := "ytdpiijndnefahaa", sum := "d169faa5d56e66b84d1dfc82f69d5530f3b530baed8d6b5d8cce4298143ce88a", func := "tailrace/tailracekeep.TwiceSame", spec := "twiceSame", unfollowed := true, recurses := true, plainKeys := false, apart := false, narrowed := true }
def TwiceSameUptoSaid : Prop := twiceSameUptoRow.holds Try.pinned (OpenSpec.upto twiceSameSpec)

/-- 'tailracekeep.StableAhead', WHERE WHAT IT READS IS OF BULK AT MOST 1048576: true; the input reads as it did. -/
def stableAheadUptoRow : OpenClaim := { program := "ytdpiijndnefahaa", sum := "d169faa5d56e66b84d1dfc82f69d5530f3b530baed8d6b5d8cce4298143ce88a", func := "tailrace/tailracekeep.StableAhead", spec := "stableAhead", unfollowed := true, recurses := true, plainKeys := false, apart := false, narrowed := true }
def StableAheadUptoSaid : Prop := stableAheadUptoRow.holds Try.pinned (OpenSpec.upto stableAheadSpec)

/-- 'tailracekeep.ReadPages', WHERE WHAT IT READS IS OF BULK AT MOST 1048576: true; the input reads as it did. -/
def readPagesUptoRow : OpenClaim := { program := "ytdpiijndnefahaa", sum := "d169faa5d56e66b84d1dfc82f69d5530f3b530baed8d6b5d8cce4298143ce88a", func := "tailrace/tailracekeep.ReadPages", spec := "readPages", plainKeys := false, apart := false, narrowed := true }
def ReadPagesUptoSaid : Prop := readPagesUptoRow.holds Try.pinned (OpenSpec.upto readPagesSpec)

/-- 'tailracekeep.ReadDone', WHERE WHAT IT READS IS OF BULK AT MOST 1048576: true; the input reads as it did. -/
def readDoneUptoRow : OpenClaim := { program := "ytdpiijndnefahaa", sum := "d169faa5d56e66b84d1dfc82f69d5530f3b530baed8d6b5d8cce4298143ce88a", func := "tailrace/tailracekeep.ReadDone", spec := "readDone", unfollowed := true, recurses := true, plainKeys := false, apart := false, narrowed := true }
def ReadDoneUptoSaid : Prop := readDoneUptoRow.holds Try.pinned (OpenSpec.upto readDoneSpec)

end Rows
end Go.Proofs.Ytdpiijndnefahaa
