/-
  No cell of these rows narrows 'for every input' (looked for: loops, veiled, ifaces, maps, wideKeys, modest, calm, conditions, laid).
  DERIVED. THE GIVEN ROWS OF THIS SEAT. 17 by the template 'for every input the law returns true; each argument reads behind the call as it read before'; 0 by the template 'total and deterministic' (their statements: YtknipikmbfdcnaaTotals.lean).
  GIVEN WITH THE SEED: the statements are not yours to turn. If you find one false, say at which input.
  Laid BY PROGRAM, IN A SANDBOX (cutbox-rows.mjs): the forced cells as the released guide's own fill.sh prints them over the translation 119883eb7804ce18… (all of the seat's roots in one cut). By AI agents, Wed Nov 11 2026. No macro, syntax, notation, axiom, sorry.
-/
import Derived.Test.YtknipikmbfdcnaaChecked
import GoSem.Claim
import GoSem.ClaimJoined
import GoSem.ClaimMapViews
import Derived.JoinedTies
import Derived.KernelRfl
namespace Go.Proofs.Ytknipikmbfdcnaa
/- THE CELL 'sum', in the pinned program and in every row, IS THE sha256 OF THE DUMP (.gsa) THAT YtknipikmbfdcnaaProg.lean LOADS. Nothing in Lean hashes anything: it is a label: what it is worth is what the hold of that sum in a sandbox is worth. -/
noncomputable def Try.pinned : Pinned := { name := "ytknipikmbfdcnaa", sum := "119883eb7804ce185aab0be295f1c329cb1a14e949eeb457470d0da67e8771f2", checked := Try.checked }
namespace Rows
def none {H : Type} : Left H := { results := [], args := [] }

/-- 'tailracelaw.WireChecks': WHATEVER THE INPUT: true; the input reads as it did. -/
def wireChecksSpec : ChangeSpec := { name := "wireChecks", fn := fun _ => fun
  | [d] => { results := [.lit (.bool true)], args := [d] }
  | _ => none }
def wireChecksRow : OpenClaim := { program := "ytknipikmbfdcnaa", sum := "119883eb7804ce185aab0be295f1c329cb1a14e949eeb457470d0da67e8771f2", func := "tailrace/tailracelaw.WireChecks", spec := "wireChecks", apart := false }
def WireChecksSaid : Prop := wireChecksRow.holds Try.pinned (OpenSpec.ofChange wireChecksSpec)

/-- ITS FALSE NEIGHBOUR: 'it returns false'. Refute it at one input. -/
def wireChecksWrong : ChangeSpec := { name := "wireChecks", fn := fun _ => fun
  | [d] => { results := [.lit (.bool false)], args := [d] }
  | _ => none }
def WireChecksWrongFalsely : Prop := wireChecksRow.holds Try.pinned (OpenSpec.ofChange wireChecksWrong)

/-- 'tailracelaw.WireEncodes': WHATEVER THE INPUT: true; the input reads as it did. -/
def wireEncodesSpec : ChangeSpec := { name := "wireEncodes", fn := fun _ => fun
  | [d] => { results := [.lit (.bool true)], args := [d] }
  | _ => none }
def wireEncodesRow : OpenClaim := { program := "ytknipikmbfdcnaa", sum := "119883eb7804ce185aab0be295f1c329cb1a14e949eeb457470d0da67e8771f2", func := "tailrace/tailracelaw.WireEncodes", spec := "wireEncodes", recurses := true, apart := false }
def WireEncodesSaid : Prop := wireEncodesRow.holds Try.pinned (OpenSpec.ofChange wireEncodesSpec)

/-- ITS FALSE NEIGHBOUR: 'it returns false'. Refute it at one input. -/
def wireEncodesWrong : ChangeSpec := { name := "wireEncodes", fn := fun _ => fun
  | [d] => { results := [.lit (.bool false)], args := [d] }
  | _ => none }
def WireEncodesWrongFalsely : Prop := wireEncodesRow.holds Try.pinned (OpenSpec.ofChange wireEncodesWrong)

/-- 'tailracelaw.WireDecodes': WHATEVER THE INPUT: true; the input reads as it did. -/
def wireDecodesSpec : ChangeSpec := { name := "wireDecodes", fn := fun _ => fun
  | [d] => { results := [.lit (.bool true)], args := [d] }
  | _ => none }
def wireDecodesRow : OpenClaim := { program := "ytknipikmbfdcnaa", sum := "119883eb7804ce185aab0be295f1c329cb1a14e949eeb457470d0da67e8771f2", func := "tailrace/tailracelaw.WireDecodes", spec := "wireDecodes", apart := false }
def WireDecodesSaid : Prop := wireDecodesRow.holds Try.pinned (OpenSpec.ofChange wireDecodesSpec)

/-- ITS FALSE NEIGHBOUR: 'it returns false'. Refute it at one input. -/
def wireDecodesWrong : ChangeSpec := { name := "wireDecodes", fn := fun _ => fun
  | [d] => { results := [.lit (.bool false)], args := [d] }
  | _ => none }
def WireDecodesWrongFalsely : Prop := wireDecodesRow.holds Try.pinned (OpenSpec.ofChange wireDecodesWrong)

/-- 'tailracekeep.EntryBack': WHATEVER THE INPUT: true; the input reads as it did. -/
def entryBackSpec : ChangeSpec := { name := "entryBack", fn := fun _ => fun
  | [d] => { results := [.lit (.bool true)], args := [d] }
  | _ => none }
def entryBackRow : OpenClaim := { program := "ytknipikmbfdcnaa", sum := "119883eb7804ce185aab0be295f1c329cb1a14e949eeb457470d0da67e8771f2", func := "tailrace/tailracekeep.EntryBack", spec := "entryBack", apart := false }
def EntryBackSaid : Prop := entryBackRow.holds Try.pinned (OpenSpec.ofChange entryBackSpec)

/-- ITS FALSE NEIGHBOUR: 'it returns false'. Refute it at one input. -/
def entryBackWrong : ChangeSpec := { name := "entryBack", fn := fun _ => fun
  | [d] => { results := [.lit (.bool false)], args := [d] }
  | _ => none }
def EntryBackWrongFalsely : Prop := entryBackRow.holds Try.pinned (OpenSpec.ofChange entryBackWrong)

/-- 'tailracekeep.EntryFixed': WHATEVER THE INPUT: true; the input reads as it did. -/
def entryFixedSpec : ChangeSpec := { name := "entryFixed", fn := fun _ => fun
  | [d] => { results := [.lit (.bool true)], args := [d] }
  | _ => none }
def entryFixedRow : OpenClaim := { program := "ytknipikmbfdcnaa", sum := "119883eb7804ce185aab0be295f1c329cb1a14e949eeb457470d0da67e8771f2", func := "tailrace/tailracekeep.EntryFixed", spec := "entryFixed", apart := false }
def EntryFixedSaid : Prop := entryFixedRow.holds Try.pinned (OpenSpec.ofChange entryFixedSpec)

/-- ITS FALSE NEIGHBOUR: 'it returns false'. Refute it at one input. -/
def entryFixedWrong : ChangeSpec := { name := "entryFixed", fn := fun _ => fun
  | [d] => { results := [.lit (.bool false)], args := [d] }
  | _ => none }
def EntryFixedWrongFalsely : Prop := entryFixedRow.holds Try.pinned (OpenSpec.ofChange entryFixedWrong)

/-- 'tailracekeep.EntrySpoilt': WHATEVER THE INPUT: true; the input reads as it did. -/
def entrySpoiltSpec : ChangeSpec := { name := "entrySpoilt", fn := fun _ => fun
  | [d1, d2, d3] => { results := [.lit (.bool true)], args := [d1, d2, d3] }
  | _ => none }
def entrySpoiltRow : OpenClaim := { program := "ytknipikmbfdcnaa", sum := "119883eb7804ce185aab0be295f1c329cb1a14e949eeb457470d0da67e8771f2", func := "tailrace/tailracekeep.EntrySpoilt", spec := "entrySpoilt", apart := false }
def EntrySpoiltSaid : Prop := entrySpoiltRow.holds Try.pinned (OpenSpec.ofChange entrySpoiltSpec)

/-- ITS FALSE NEIGHBOUR: 'it returns false'. Refute it at one input. -/
def entrySpoiltWrong : ChangeSpec := { name := "entrySpoilt", fn := fun _ => fun
  | [d1, d2, d3] => { results := [.lit (.bool false)], args := [d1, d2, d3] }
  | _ => none }
def EntrySpoiltWrongFalsely : Prop := entrySpoiltRow.holds Try.pinned (OpenSpec.ofChange entrySpoiltWrong)

/-- 'tailracelaw.SegChecks': WHATEVER THE INPUT: true; the input reads as it did. -/
def segChecksSpec : ChangeSpec := { name := "segChecks", fn := fun _ => fun
  | [d] => { results := [.lit (.bool true)], args := [d] }
  | _ => none }
def segChecksRow : OpenClaim := { program := "ytknipikmbfdcnaa", sum := "119883eb7804ce185aab0be295f1c329cb1a14e949eeb457470d0da67e8771f2", func := "tailrace/tailracelaw.SegChecks", spec := "segChecks", apart := false }
def SegChecksSaid : Prop := segChecksRow.holds Try.pinned (OpenSpec.ofChange segChecksSpec)

/-- ITS FALSE NEIGHBOUR: 'it returns false'. Refute it at one input. -/
def segChecksWrong : ChangeSpec := { name := "segChecks", fn := fun _ => fun
  | [d] => { results := [.lit (.bool false)], args := [d] }
  | _ => none }
def SegChecksWrongFalsely : Prop := segChecksRow.holds Try.pinned (OpenSpec.ofChange segChecksWrong)

/-- 'tailracelaw.SegEntries': WHATEVER THE INPUT: true; the input reads as it did. -/
def segEntriesSpec : ChangeSpec := { name := "segEntries", fn := fun _ => fun
  | [d] => { results := [.lit (.bool true)], args := [d] }
  | _ => none }
def segEntriesRow : OpenClaim := { program := "ytknipikmbfdcnaa", sum := "119883eb7804ce185aab0be295f1c329cb1a14e949eeb457470d0da67e8771f2", func := "tailrace/tailracelaw.SegEntries", spec := "segEntries", apart := false }
def SegEntriesSaid : Prop := segEntriesRow.holds Try.pinned (OpenSpec.ofChange segEntriesSpec)

/-- ITS FALSE NEIGHBOUR: 'it returns false'. Refute it at one input. -/
def segEntriesWrong : ChangeSpec := { name := "segEntries", fn := fun _ => fun
  | [d] => { results := [.lit (.bool false)], args := [d] }
  | _ => none }
def SegEntriesWrongFalsely : Prop := segEntriesRow.holds Try.pinned (OpenSpec.ofChange segEntriesWrong)

/-- 'tailracelaw.SegAppends': WHATEVER THE INPUT: true; the input reads as it did. -/
def segAppendsSpec : ChangeSpec := { name := "segAppends", fn := fun _ => fun
  | [d1, d2] => { results := [.lit (.bool true)], args := [d1, d2] }
  | _ => none }
def segAppendsRow : OpenClaim := { program := "ytknipikmbfdcnaa", sum := "119883eb7804ce185aab0be295f1c329cb1a14e949eeb457470d0da67e8771f2", func := "tailrace/tailracelaw.SegAppends", spec := "segAppends", recurses := true, apart := false }
def SegAppendsSaid : Prop := segAppendsRow.holds Try.pinned (OpenSpec.ofChange segAppendsSpec)

/-- ITS FALSE NEIGHBOUR: 'it returns false'. Refute it at one input. -/
def segAppendsWrong : ChangeSpec := { name := "segAppends", fn := fun _ => fun
  | [d1, d2] => { results := [.lit (.bool false)], args := [d1, d2] }
  | _ => none }
def SegAppendsWrongFalsely : Prop := segAppendsRow.holds Try.pinned (OpenSpec.ofChange segAppendsWrong)

/-- 'tailracelaw.SegSyncs': WHATEVER THE INPUT: true; the input reads as it did. -/
def segSyncsSpec : ChangeSpec := { name := "segSyncs", fn := fun _ => fun
  | [d] => { results := [.lit (.bool true)], args := [d] }
  | _ => none }
def segSyncsRow : OpenClaim := { program := "ytknipikmbfdcnaa", sum := "119883eb7804ce185aab0be295f1c329cb1a14e949eeb457470d0da67e8771f2", func := "tailrace/tailracelaw.SegSyncs", spec := "segSyncs", apart := false }
def SegSyncsSaid : Prop := segSyncsRow.holds Try.pinned (OpenSpec.ofChange segSyncsSpec)

/-- ITS FALSE NEIGHBOUR: 'it returns false'. Refute it at one input. -/
def segSyncsWrong : ChangeSpec := { name := "segSyncs", fn := fun _ => fun
  | [d] => { results := [.lit (.bool false)], args := [d] }
  | _ => none }
def SegSyncsWrongFalsely : Prop := segSyncsRow.holds Try.pinned (OpenSpec.ofChange segSyncsWrong)

/-- 'tailracelaw.SegCuts': WHATEVER THE INPUT: true; the input reads as it did. -/
def segCutsSpec : ChangeSpec := { name := "segCuts", fn := fun _ => fun
  | [d1, d2] => { results := [.lit (.bool true)], args := [d1, d2] }
  | _ => none }
def segCutsRow : OpenClaim := { program := "ytknipikmbfdcnaa", sum := "119883eb7804ce185aab0be295f1c329cb1a14e949eeb457470d0da67e8771f2", func := "tailrace/tailracelaw.SegCuts", spec := "segCuts", apart := false }
def SegCutsSaid : Prop := segCutsRow.holds Try.pinned (OpenSpec.ofChange segCutsSpec)

/-- ITS FALSE NEIGHBOUR: 'it returns false'. Refute it at one input. -/
def segCutsWrong : ChangeSpec := { name := "segCuts", fn := fun _ => fun
  | [d1, d2] => { results := [.lit (.bool false)], args := [d1, d2] }
  | _ => none }
def SegCutsWrongFalsely : Prop := segCutsRow.holds Try.pinned (OpenSpec.ofChange segCutsWrong)

/-- 'tailracelaw.SegCrashes': WHATEVER THE INPUT: true; the input reads as it did. -/
def segCrashesSpec : ChangeSpec := { name := "segCrashes", fn := fun _ => fun
  | [d1, d2] => { results := [.lit (.bool true)], args := [d1, d2] }
  | _ => none }
def segCrashesRow : OpenClaim := { program := "ytknipikmbfdcnaa", sum := "119883eb7804ce185aab0be295f1c329cb1a14e949eeb457470d0da67e8771f2", func := "tailrace/tailracelaw.SegCrashes", spec := "segCrashes", apart := false }
def SegCrashesSaid : Prop := segCrashesRow.holds Try.pinned (OpenSpec.ofChange segCrashesSpec)

/-- ITS FALSE NEIGHBOUR: 'it returns false'. Refute it at one input. -/
def segCrashesWrong : ChangeSpec := { name := "segCrashes", fn := fun _ => fun
  | [d1, d2] => { results := [.lit (.bool false)], args := [d1, d2] }
  | _ => none }
def SegCrashesWrongFalsely : Prop := segCrashesRow.holds Try.pinned (OpenSpec.ofChange segCrashesWrong)

/-- 'tailracekeep.EntryTorn': WHATEVER THE INPUT: true; the input reads as it did. -/
def entryTornSpec : ChangeSpec := { name := "entryTorn", fn := fun _ => fun
  | [d1, d2] => { results := [.lit (.bool true)], args := [d1, d2] }
  | _ => none }
def entryTornRow : OpenClaim := { program := "ytknipikmbfdcnaa", sum := "119883eb7804ce185aab0be295f1c329cb1a14e949eeb457470d0da67e8771f2", func := "tailrace/tailracekeep.EntryTorn", spec := "entryTorn", apart := false }
def EntryTornSaid : Prop := entryTornRow.holds Try.pinned (OpenSpec.ofChange entryTornSpec)

/-- ITS FALSE NEIGHBOUR: 'it returns false'. Refute it at one input. -/
def entryTornWrong : ChangeSpec := { name := "entryTorn", fn := fun _ => fun
  | [d1, d2] => { results := [.lit (.bool false)], args := [d1, d2] }
  | _ => none }
def EntryTornWrongFalsely : Prop := entryTornRow.holds Try.pinned (OpenSpec.ofChange entryTornWrong)

/-- 'tailracekeep.EntryBad': WHATEVER THE INPUT: true; the input reads as it did. -/
def entryBadSpec : ChangeSpec := { name := "entryBad", fn := fun _ => fun
  | [d1, d2] => { results := [.lit (.bool true)], args := [d1, d2] }
  | _ => none }
def entryBadRow : OpenClaim := { program := "ytknipikmbfdcnaa", sum := "119883eb7804ce185aab0be295f1c329cb1a14e949eeb457470d0da67e8771f2", func := "tailrace/tailracekeep.EntryBad", spec := "entryBad", apart := false }
def EntryBadSaid : Prop := entryBadRow.holds Try.pinned (OpenSpec.ofChange entryBadSpec)

/-- ITS FALSE NEIGHBOUR: 'it returns false'. Refute it at one input. -/
def entryBadWrong : ChangeSpec := { name := "entryBad", fn := fun _ => fun
  | [d1, d2] => { results := [.lit (.bool false)], args := [d1, d2] }
  | _ => none }
def EntryBadWrongFalsely : Prop := entryBadRow.holds Try.pinned (OpenSpec.ofChange entryBadWrong)

/-- 'tailracekeep.LogGrows': WHATEVER THE INPUT: true; the input reads as it did. -/
def logGrowsSpec : ChangeSpec := { name := "logGrows", fn := fun _ => fun
  | [d1, d2] => { results := [.lit (.bool true)], args := [d1, d2] }
  | _ => none }
def logGrowsRow : OpenClaim := { program := "ytknipikmbfdcnaa", sum := "119883eb7804ce185aab0be295f1c329cb1a14e949eeb457470d0da67e8771f2", func := "tailrace/tailracekeep.LogGrows", spec := "logGrows", apart := false }
def LogGrowsSaid : Prop := logGrowsRow.holds Try.pinned (OpenSpec.ofChange logGrowsSpec)

/-- ITS FALSE NEIGHBOUR: 'it returns false'. Refute it at one input. -/
def logGrowsWrong : ChangeSpec := { name := "logGrows", fn := fun _ => fun
  | [d1, d2] => { results := [.lit (.bool false)], args := [d1, d2] }
  | _ => none }
def LogGrowsWrongFalsely : Prop := logGrowsRow.holds Try.pinned (OpenSpec.ofChange logGrowsWrong)

/-- 'tailracekeep.LogCrashes': WHATEVER THE INPUT: true; the input reads as it did. -/
def logCrashesSpec : ChangeSpec := { name := "logCrashes", fn := fun _ => fun
  | [d1, d2, d3] => { results := [.lit (.bool true)], args := [d1, d2, d3] }
  | _ => none }
def logCrashesRow : OpenClaim := { program := "ytknipikmbfdcnaa", sum := "119883eb7804ce185aab0be295f1c329cb1a14e949eeb457470d0da67e8771f2", func := "tailrace/tailracekeep.LogCrashes", spec := "logCrashes", apart := false }
def LogCrashesSaid : Prop := logCrashesRow.holds Try.pinned (OpenSpec.ofChange logCrashesSpec)

/-- ITS FALSE NEIGHBOUR: 'it returns false'. Refute it at one input. -/
def logCrashesWrong : ChangeSpec := { name := "logCrashes", fn := fun _ => fun
  | [d1, d2, d3] => { results := [.lit (.bool false)], args := [d1, d2, d3] }
  | _ => none }
def LogCrashesWrongFalsely : Prop := logCrashesRow.holds Try.pinned (OpenSpec.ofChange logCrashesWrong)

/-- 'tailracekeep.LogCuts': WHATEVER THE INPUT: true; the input reads as it did. -/
def logCutsSpec : ChangeSpec := { name := "logCuts", fn := fun _ => fun
  | [d1, d2, d3] => { results := [.lit (.bool true)], args := [d1, d2, d3] }
  | _ => none }
def logCutsRow : OpenClaim := { program := "ytknipikmbfdcnaa", sum := "119883eb7804ce185aab0be295f1c329cb1a14e949eeb457470d0da67e8771f2", func := "tailrace/tailracekeep.LogCuts", spec := "logCuts", apart := false }
def LogCutsSaid : Prop := logCutsRow.holds Try.pinned (OpenSpec.ofChange logCutsSpec)

/-- ITS FALSE NEIGHBOUR: 'it returns false'. Refute it at one input. -/
def logCutsWrong : ChangeSpec := { name := "logCuts", fn := fun _ => fun
  | [d1, d2, d3] => { results := [.lit (.bool false)], args := [d1, d2, d3] }
  | _ => none }
def LogCutsWrongFalsely : Prop := logCutsRow.holds Try.pinned (OpenSpec.ofChange logCutsWrong)

/- THE SECOND FORM. 'bulk': how many values and letters a reading holds, each counted each time it is reached (what is shared counts as often as it is met; a slice's spare places count too). A statement '..UptoSaid' is the law's where the arguments, and the package variables that the reading takes, are together of bulk at most 1048576: NARROWER than '..Said'. Prove '..Said' where nothing that the law and all that it calls make is longer than what came in: it says more and counts as full. Else prove '..UptoSaid'. A law counts once. -/
mutual
def uptoBulk {H : Type} : DataW H → Nat
  | .lit (.string bytes) => bytes.length + 1
  | .lit _ => 1
  | .nil => 1
  | .ptr d => uptoBulk d + 1
  | .slice elems spare => uptoBulkAll elems + uptoBulkAll spare + 1
  | .agg parts => uptoBulkAll parts + 1
  | .iface _ d => uptoBulk d + 1
  | .map entries => uptoBulkEntries entries + 1
  | .held _ => 1
def uptoBulkAll {H : Type} : List (DataW H) → Nat
  | [] => 0
  | d :: r => uptoBulk d + uptoBulkAll r
def uptoBulkEntries {H : Type} : List (Lit × DataW H) → Nat
  | [] => 0
  | x :: r => uptoBulkEntry x + uptoBulkEntries r
def uptoBulkEntry {H : Type} : Lit × DataW H → Nat
  | (.string bytes, d) => bytes.length + uptoBulk d + 1
  | (_, d) => uptoBulk d + 1
 end
def uptoSmall : (H : Type) → List (DataW H) → Bool := fun _ ds => decide (uptoBulkAll ds ≤ 1048576)
def OpenSpec.upto (s : _root_.Go.ChangeSpec) : _root_.Go.OpenSpec := { _root_.Go.OpenSpec.ofChange s with cond := some uptoSmall }

/-- 'tailracelaw.WireChecks', WHERE WHAT IT READS IS OF BULK AT MOST 1048576: true; the input reads as it did. -/
def wireChecksUptoRow : OpenClaim := { program := "ytknipikmbfdcnaa", sum := "119883eb7804ce185aab0be295f1c329cb1a14e949eeb457470d0da67e8771f2", func := "tailrace/tailracelaw.WireChecks", spec := "wireChecks", apart := false, narrowed := true }
def WireChecksUptoSaid : Prop := wireChecksUptoRow.holds Try.pinned (OpenSpec.upto wireChecksSpec)

/-- 'tailracelaw.WireEncodes', WHERE WHAT IT READS IS OF BULK AT MOST 1048576: true; the input reads as it did. -/
def wireEncodesUptoRow : OpenClaim := { program := "ytknipikmbfdcnaa", sum := "119883eb7804ce185aab0be295f1c329cb1a14e949eeb457470d0da67e8771f2", func := "tailrace/tailracelaw.WireEncodes", spec := "wireEncodes", recurses := true, apart := false, narrowed := true }
def WireEncodesUptoSaid : Prop := wireEncodesUptoRow.holds Try.pinned (OpenSpec.upto wireEncodesSpec)

/-- 'tailracelaw.WireDecodes', WHERE WHAT IT READS IS OF BULK AT MOST 1048576: true; the input reads as it did. -/
def wireDecodesUptoRow : OpenClaim := { program := "ytknipikmbfdcnaa", sum := "119883eb7804ce185aab0be295f1c329cb1a14e949eeb457470d0da67e8771f2", func := "tailrace/tailracelaw.WireDecodes", spec := "wireDecodes", apart := false, narrowed := true }
def WireDecodesUptoSaid : Prop := wireDecodesUptoRow.holds Try.pinned (OpenSpec.upto wireDecodesSpec)

/-- 'tailracekeep.EntryBack', WHERE WHAT IT READS IS OF BULK AT MOST 1048576: true; the input reads as it did. -/
def entryBackUptoRow : OpenClaim := { program := "ytknipikmbfdcnaa", sum := "119883eb7804ce185aab0be295f1c329cb1a14e949eeb457470d0da67e8771f2", func := "tailrace/tailracekeep.EntryBack", spec := "entryBack", apart := false, narrowed := true }
def EntryBackUptoSaid : Prop := entryBackUptoRow.holds Try.pinned (OpenSpec.upto entryBackSpec)

/-- 'tailracekeep.EntryFixed', WHERE WHAT IT READS IS OF BULK AT MOST 1048576: true; the input reads as it did. -/
def entryFixedUptoRow : OpenClaim := { program := "ytknipikmbfdcnaa", sum := "119883eb7804ce185aab0be295f1c329cb1a14e949eeb457470d0da67e8771f2", func := "tailrace/tailracekeep.EntryFixed", spec := "entryFixed", apart := false, narrowed := true }
def EntryFixedUptoSaid : Prop := entryFixedUptoRow.holds Try.pinned (OpenSpec.upto entryFixedSpec)

/-- 'tailracekeep.EntrySpoilt', WHERE WHAT IT READS IS OF BULK AT MOST 1048576: true; the input reads as it did. -/
def entrySpoiltUptoRow : OpenClaim := { program := "ytknipikmbfdcnaa", sum := "119883eb7804ce185aab0be295f1c329cb1a14e949eeb457470d0da67e8771f2", func := "tailrace/tailracekeep.EntrySpoilt", spec := "entrySpoilt", apart := false, narrowed := true }
def EntrySpoiltUptoSaid : Prop := entrySpoiltUptoRow.holds Try.pinned (OpenSpec.upto entrySpoiltSpec)

/-- 'tailracelaw.SegChecks', WHERE WHAT IT READS IS OF BULK AT MOST 1048576: true; the input reads as it did. -/
def segChecksUptoRow : OpenClaim := { program := "ytknipikmbfdcnaa", sum := "119883eb7804ce185aab0be295f1c329cb1a14e949eeb457470d0da67e8771f2", func := "tailrace/tailracelaw.SegChecks", spec := "segChecks", apart := false, narrowed := true }
def SegChecksUptoSaid : Prop := segChecksUptoRow.holds Try.pinned (OpenSpec.upto segChecksSpec)

/-- 'tailracelaw.SegEntries', WHERE WHAT IT READS IS OF BULK AT MOST 1048576: true; the input reads as it did. -/
def segEntriesUptoRow : OpenClaim := { program := "ytknipikmbfdcnaa", sum := "119883eb7804ce185aab0be295f1c329cb1a14e949eeb457470d0da67e8771f2", func := "tailrace/tailracelaw.SegEntries", spec := "segEntries", apart := false, narrowed := true }
def SegEntriesUptoSaid : Prop := segEntriesUptoRow.holds Try.pinned (OpenSpec.upto segEntriesSpec)

/-- 'tailracelaw.SegAppends', WHERE WHAT IT READS IS OF BULK AT MOST 1048576: true; the input reads as it did. -/
def segAppendsUptoRow : OpenClaim := { program := "ytknipikmbfdcnaa", sum := "119883eb7804ce185aab0be295f1c329cb1a14e949eeb457470d0da67e8771f2", func := "tailrace/tailracelaw.SegAppends", spec := "segAppends", recurses := true, apart := false, narrowed := true }
def SegAppendsUptoSaid : Prop := segAppendsUptoRow.holds Try.pinned (OpenSpec.upto segAppendsSpec)

/-- 'tailracelaw.SegSyncs', WHERE WHAT IT READS IS OF BULK AT MOST 1048576: true; the input reads as it did. -/
def segSyncsUptoRow : OpenClaim := { program := "ytknipikmbfdcnaa", sum := "119883eb7804ce185aab0be295f1c329cb1a14e949eeb457470d0da67e8771f2", func := "tailrace/tailracelaw.SegSyncs", spec := "segSyncs", apart := false, narrowed := true }
def SegSyncsUptoSaid : Prop := segSyncsUptoRow.holds Try.pinned (OpenSpec.upto segSyncsSpec)

/-- 'tailracelaw.SegCuts', WHERE WHAT IT READS IS OF BULK AT MOST 1048576: true; the input reads as it did. -/
def segCutsUptoRow : OpenClaim := { program := "ytknipikmbfdcnaa", sum := "119883eb7804ce185aab0be295f1c329cb1a14e949eeb457470d0da67e8771f2", func := "tailrace/tailracelaw.SegCuts", spec := "segCuts", apart := false, narrowed := true }
def SegCutsUptoSaid : Prop := segCutsUptoRow.holds Try.pinned (OpenSpec.upto segCutsSpec)

/-- 'tailracelaw.SegCrashes', WHERE WHAT IT READS IS OF BULK AT MOST 1048576: true; the input reads as it did. -/
def segCrashesUptoRow : OpenClaim := { program := "ytknipikmbfdcnaa", sum := "119883eb7804ce185aab0be295f1c329cb1a14e949eeb457470d0da67e8771f2", func := "tailrace/tailracelaw.SegCrashes", spec := "segCrashes", apart := false, narrowed := true }
def SegCrashesUptoSaid : Prop := segCrashesUptoRow.holds Try.pinned (OpenSpec.upto segCrashesSpec)

/-- 'tailracekeep.EntryTorn', WHERE WHAT IT READS IS OF BULK AT MOST 1048576: true; the input reads as it did. -/
def entryTornUptoRow : OpenClaim := { program := "ytknipikmbfdcnaa", sum := "119883eb7804ce185aab0be295f1c329cb1a14e949eeb457470d0da67e8771f2", func := "tailrace/tailracekeep.EntryTorn", spec := "entryTorn", apart := false, narrowed := true }
def EntryTornUptoSaid : Prop := entryTornUptoRow.holds Try.pinned (OpenSpec.upto entryTornSpec)

/-- 'tailracekeep.EntryBad', WHERE WHAT IT READS IS OF BULK AT MOST 1048576: true; the input reads as it did. -/
def entryBadUptoRow : OpenClaim := { program := "ytknipikmbfdcnaa", sum := "119883eb7804ce185aab0be295f1c329cb1a14e949eeb457470d0da67e8771f2", func := "tailrace/tailracekeep.EntryBad", spec := "entryBad", apart := false, narrowed := true }
def EntryBadUptoSaid : Prop := entryBadUptoRow.holds Try.pinned (OpenSpec.upto entryBadSpec)

/-- 'tailracekeep.LogGrows', WHERE WHAT IT READS IS OF BULK AT MOST 1048576: true; the input reads as it did. -/
def logGrowsUptoRow : OpenClaim := { program := "ytknipikmbfdcnaa", sum := "119883eb7804ce185aab0be295f1c329cb1a14e949eeb457470d0da67e8771f2", func := "tailrace/tailracekeep.LogGrows", spec := "logGrows", apart := false, narrowed := true }
def LogGrowsUptoSaid : Prop := logGrowsUptoRow.holds Try.pinned (OpenSpec.upto logGrowsSpec)

/-- 'tailracekeep.LogCrashes', WHERE WHAT IT READS IS OF BULK AT MOST 1048576: true; the input reads as it did. -/
def logCrashesUptoRow : OpenClaim := { program := "ytknipikmbfdcnaa", sum := "119883eb7804ce185aab0be295f1c329cb1a14e949eeb457470d0da67e8771f2", func := "tailrace/tailracekeep.LogCrashes", spec := "logCrashes", apart := false, narrowed := true }
def LogCrashesUptoSaid : Prop := logCrashesUptoRow.holds Try.pinned (OpenSpec.upto logCrashesSpec)

/-- 'tailracekeep.LogCuts', WHERE WHAT IT READS IS OF BULK AT MOST 1048576: true; the input reads as it did. -/
def logCutsUptoRow : OpenClaim := { program := "ytknipikmbfdcnaa", sum := "119883eb7804ce185aab0be295f1c329cb1a14e949eeb457470d0da67e8771f2", func := "tailrace/tailracekeep.LogCuts", spec := "logCuts", apart := false, narrowed := true }
def LogCutsUptoSaid : Prop := logCutsUptoRow.holds Try.pinned (OpenSpec.upto logCutsSpec)

end Rows
end Go.Proofs.Ytknipikmbfdcnaa
