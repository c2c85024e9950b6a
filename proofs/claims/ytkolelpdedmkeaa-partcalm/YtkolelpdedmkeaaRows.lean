/-
  No cell of these rows narrows 'for every input' (looked for: loops, veiled, ifaces, maps, wideKeys, modest, calm, conditions, laid).
  DERIVED. THE GIVEN ROWS OF THIS SEAT. 21 by the template 'for every input the law returns true; each argument reads behind the call as it read before'; 0 by the template 'total and deterministic' (their statements: YtkolelpdedmkeaaTotals.lean).
  GIVEN WITH THE SEED: the statements are not yours to turn. If you find one false, say at which input.
  Laid BY PROGRAM, IN A SANDBOX (cutbox-rows.mjs): the forced cells as the released guide's own fill.sh prints them over the translation fe8ed80fb6653410… (all of the seat's roots in one cut). By AI agents, Wed Nov 11 2026. No macro, syntax, notation, axiom, sorry.
-/
import Derived.Test.YtkolelpdedmkeaaChecked
import GoSem.Claim
import GoSem.ClaimJoined
import GoSem.ClaimMapViews
import Derived.JoinedTies
import Derived.KernelRfl
namespace Go.Proofs.Ytkolelpdedmkeaa
/- THE CELL 'sum', in the pinned program and in every row, IS THE sha256 OF THE DUMP (.gsa) THAT YtkolelpdedmkeaaProg.lean LOADS. Nothing in Lean hashes anything: it is a label: what it is worth is what the hold of that sum in a sandbox is worth. -/
noncomputable def Try.pinned : Pinned := { name := "ytkolelpdedmkeaa", sum := "fe8ed80fb6653410c0659b0bd86e379d74292ac951eb378c51010dac07705994", checked := Try.checked }
namespace Rows
def none {H : Type} : Left H := { results := [], args := [] }

/-- 'tailracelaw.PartNew': WHATEVER THE INPUT: true; the input reads as it did. -/
def partNewSpec : ChangeSpec := { name := "partNew", fn := fun _ => fun
  | [d1, d2] => { results := [.lit (.bool true)], args := [d1, d2] }
  | _ => none }
def partNewRow : OpenClaim := { program := "ytkolelpdedmkeaa", sum := "fe8ed80fb6653410c0659b0bd86e379d74292ac951eb378c51010dac07705994", func := "tailrace/tailracelaw.PartNew", spec := "partNew", apart := false }
def PartNewSaid : Prop := partNewRow.holds Try.pinned (OpenSpec.ofChange partNewSpec)

/-- ITS FALSE NEIGHBOUR: 'it returns false'. Refute it at one input. -/
def partNewWrong : ChangeSpec := { name := "partNew", fn := fun _ => fun
  | [d1, d2] => { results := [.lit (.bool false)], args := [d1, d2] }
  | _ => none }
def PartNewWrongFalsely : Prop := partNewRow.holds Try.pinned (OpenSpec.ofChange partNewWrong)

/-- 'tailracelaw.PartChecks': WHATEVER THE INPUT: true; the input reads as it did. -/
def partChecksSpec : ChangeSpec := { name := "partChecks", fn := fun _ => fun
  | [d] => { results := [.lit (.bool true)], args := [d] }
  | _ => none }
def partChecksRow : OpenClaim := { program := "ytkolelpdedmkeaa", sum := "fe8ed80fb6653410c0659b0bd86e379d74292ac951eb378c51010dac07705994", func := "tailrace/tailracelaw.PartChecks", spec := "partChecks", apart := false }
def PartChecksSaid : Prop := partChecksRow.holds Try.pinned (OpenSpec.ofChange partChecksSpec)

/-- ITS FALSE NEIGHBOUR: 'it returns false'. Refute it at one input. -/
def partChecksWrong : ChangeSpec := { name := "partChecks", fn := fun _ => fun
  | [d] => { results := [.lit (.bool false)], args := [d] }
  | _ => none }
def PartChecksWrongFalsely : Prop := partChecksRow.holds Try.pinned (OpenSpec.ofChange partChecksWrong)

/-- 'tailracelaw.PartCopies': WHATEVER THE INPUT: true; the input reads as it did. -/
def partCopiesSpec : ChangeSpec := { name := "partCopies", fn := fun _ => fun
  | [d] => { results := [.lit (.bool true)], args := [d] }
  | _ => none }
def partCopiesRow : OpenClaim := { program := "ytkolelpdedmkeaa", sum := "fe8ed80fb6653410c0659b0bd86e379d74292ac951eb378c51010dac07705994", func := "tailrace/tailracelaw.PartCopies", spec := "partCopies", apart := false }
def PartCopiesSaid : Prop := partCopiesRow.holds Try.pinned (OpenSpec.ofChange partCopiesSpec)

/-- ITS FALSE NEIGHBOUR: 'it returns false'. Refute it at one input. -/
def partCopiesWrong : ChangeSpec := { name := "partCopies", fn := fun _ => fun
  | [d] => { results := [.lit (.bool false)], args := [d] }
  | _ => none }
def PartCopiesWrongFalsely : Prop := partCopiesRow.holds Try.pinned (OpenSpec.ofChange partCopiesWrong)

/-- 'tailracelaw.PartPuts': WHATEVER THE INPUT: true; the input reads as it did. -/
def partPutsSpec : ChangeSpec := { name := "partPuts", fn := fun _ => fun
  | [d1, d2] => { results := [.lit (.bool true)], args := [d1, d2] }
  | _ => none }
def partPutsRow : OpenClaim := { program := "ytkolelpdedmkeaa", sum := "fe8ed80fb6653410c0659b0bd86e379d74292ac951eb378c51010dac07705994", func := "tailrace/tailracelaw.PartPuts", spec := "partPuts", recurses := true, apart := false }
def PartPutsSaid : Prop := partPutsRow.holds Try.pinned (OpenSpec.ofChange partPutsSpec)

/-- ITS FALSE NEIGHBOUR: 'it returns false'. Refute it at one input. -/
def partPutsWrong : ChangeSpec := { name := "partPuts", fn := fun _ => fun
  | [d1, d2] => { results := [.lit (.bool false)], args := [d1, d2] }
  | _ => none }
def PartPutsWrongFalsely : Prop := partPutsRow.holds Try.pinned (OpenSpec.ofChange partPutsWrong)

/-- 'tailracelaw.PartSyncs': WHATEVER THE INPUT: true; the input reads as it did. -/
def partSyncsSpec : ChangeSpec := { name := "partSyncs", fn := fun _ => fun
  | [d1, d2] => { results := [.lit (.bool true)], args := [d1, d2] }
  | _ => none }
def partSyncsRow : OpenClaim := { program := "ytkolelpdedmkeaa", sum := "fe8ed80fb6653410c0659b0bd86e379d74292ac951eb378c51010dac07705994", func := "tailrace/tailracelaw.PartSyncs", spec := "partSyncs", apart := false }
def PartSyncsSaid : Prop := partSyncsRow.holds Try.pinned (OpenSpec.ofChange partSyncsSpec)

/-- ITS FALSE NEIGHBOUR: 'it returns false'. Refute it at one input. -/
def partSyncsWrong : ChangeSpec := { name := "partSyncs", fn := fun _ => fun
  | [d1, d2] => { results := [.lit (.bool false)], args := [d1, d2] }
  | _ => none }
def PartSyncsWrongFalsely : Prop := partSyncsRow.holds Try.pinned (OpenSpec.ofChange partSyncsWrong)

/-- 'tailracelaw.PartFetches': WHATEVER THE INPUT: true; the input reads as it did. -/
def partFetchesSpec : ChangeSpec := { name := "partFetches", fn := fun _ => fun
  | [d1, d2] => { results := [.lit (.bool true)], args := [d1, d2] }
  | _ => none }
def partFetchesRow : OpenClaim := { program := "ytkolelpdedmkeaa", sum := "fe8ed80fb6653410c0659b0bd86e379d74292ac951eb378c51010dac07705994", func := "tailrace/tailracelaw.PartFetches", spec := "partFetches", recurses := true, apart := false }
def PartFetchesSaid : Prop := partFetchesRow.holds Try.pinned (OpenSpec.ofChange partFetchesSpec)

/-- ITS FALSE NEIGHBOUR: 'it returns false'. Refute it at one input. -/
def partFetchesWrong : ChangeSpec := { name := "partFetches", fn := fun _ => fun
  | [d1, d2] => { results := [.lit (.bool false)], args := [d1, d2] }
  | _ => none }
def PartFetchesWrongFalsely : Prop := partFetchesRow.holds Try.pinned (OpenSpec.ofChange partFetchesWrong)

/-- 'tailracelaw.PartCrashes': WHATEVER THE INPUT: true; the input reads as it did. -/
def partCrashesSpec : ChangeSpec := { name := "partCrashes", fn := fun _ => fun
  | [d1, d2, d3] => { results := [.lit (.bool true)], args := [d1, d2, d3] }
  | _ => none }
def partCrashesRow : OpenClaim := { program := "ytkolelpdedmkeaa", sum := "fe8ed80fb6653410c0659b0bd86e379d74292ac951eb378c51010dac07705994", func := "tailrace/tailracelaw.PartCrashes", spec := "partCrashes", apart := false }
def PartCrashesSaid : Prop := partCrashesRow.holds Try.pinned (OpenSpec.ofChange partCrashesSpec)

/-- ITS FALSE NEIGHBOUR: 'it returns false'. Refute it at one input. -/
def partCrashesWrong : ChangeSpec := { name := "partCrashes", fn := fun _ => fun
  | [d1, d2, d3] => { results := [.lit (.bool false)], args := [d1, d2, d3] }
  | _ => none }
def PartCrashesWrongFalsely : Prop := partCrashesRow.holds Try.pinned (OpenSpec.ofChange partCrashesWrong)

/-- 'tailracelaw.PartRises': WHATEVER THE INPUT: true; the input reads as it did. -/
def partRisesSpec : ChangeSpec := { name := "partRises", fn := fun _ => fun
  | [d1, d2] => { results := [.lit (.bool true)], args := [d1, d2] }
  | _ => none }
def partRisesRow : OpenClaim := { program := "ytkolelpdedmkeaa", sum := "fe8ed80fb6653410c0659b0bd86e379d74292ac951eb378c51010dac07705994", func := "tailrace/tailracelaw.PartRises", spec := "partRises", apart := false }
def PartRisesSaid : Prop := partRisesRow.holds Try.pinned (OpenSpec.ofChange partRisesSpec)

/-- ITS FALSE NEIGHBOUR: 'it returns false'. Refute it at one input. -/
def partRisesWrong : ChangeSpec := { name := "partRises", fn := fun _ => fun
  | [d1, d2] => { results := [.lit (.bool false)], args := [d1, d2] }
  | _ => none }
def PartRisesWrongFalsely : Prop := partRisesRow.holds Try.pinned (OpenSpec.ofChange partRisesWrong)

/-- 'tailracelaw.PartWipes': WHATEVER THE INPUT: true; the input reads as it did. -/
def partWipesSpec : ChangeSpec := { name := "partWipes", fn := fun _ => fun
  | [d1, d2] => { results := [.lit (.bool true)], args := [d1, d2] }
  | _ => none }
def partWipesRow : OpenClaim := { program := "ytkolelpdedmkeaa", sum := "fe8ed80fb6653410c0659b0bd86e379d74292ac951eb378c51010dac07705994", func := "tailrace/tailracelaw.PartWipes", spec := "partWipes", apart := false }
def PartWipesSaid : Prop := partWipesRow.holds Try.pinned (OpenSpec.ofChange partWipesSpec)

/-- ITS FALSE NEIGHBOUR: 'it returns false'. Refute it at one input. -/
def partWipesWrong : ChangeSpec := { name := "partWipes", fn := fun _ => fun
  | [d1, d2] => { results := [.lit (.bool false)], args := [d1, d2] }
  | _ => none }
def PartWipesWrongFalsely : Prop := partWipesRow.holds Try.pinned (OpenSpec.ofChange partWipesWrong)

/-- 'tailracelaw.PartElects': WHATEVER THE INPUT: true; the input reads as it did. -/
def partElectsSpec : ChangeSpec := { name := "partElects", fn := fun _ => fun
  | [d1, d2] => { results := [.lit (.bool true)], args := [d1, d2] }
  | _ => none }
def partElectsRow : OpenClaim := { program := "ytkolelpdedmkeaa", sum := "fe8ed80fb6653410c0659b0bd86e379d74292ac951eb378c51010dac07705994", func := "tailrace/tailracelaw.PartElects", spec := "partElects", apart := false }
def PartElectsSaid : Prop := partElectsRow.holds Try.pinned (OpenSpec.ofChange partElectsSpec)

/-- ITS FALSE NEIGHBOUR: 'it returns false'. Refute it at one input. -/
def partElectsWrong : ChangeSpec := { name := "partElects", fn := fun _ => fun
  | [d1, d2] => { results := [.lit (.bool false)], args := [d1, d2] }
  | _ => none }
def PartElectsWrongFalsely : Prop := partElectsRow.holds Try.pinned (OpenSpec.ofChange partElectsWrong)

/-- 'tailracelaw.PartShrinks': WHATEVER THE INPUT: true; the input reads as it did. -/
def partShrinksSpec : ChangeSpec := { name := "partShrinks", fn := fun _ => fun
  | [d1, d2] => { results := [.lit (.bool true)], args := [d1, d2] }
  | _ => none }
def partShrinksRow : OpenClaim := { program := "ytkolelpdedmkeaa", sum := "fe8ed80fb6653410c0659b0bd86e379d74292ac951eb378c51010dac07705994", func := "tailrace/tailracelaw.PartShrinks", spec := "partShrinks", apart := false }
def PartShrinksSaid : Prop := partShrinksRow.holds Try.pinned (OpenSpec.ofChange partShrinksSpec)

/-- ITS FALSE NEIGHBOUR: 'it returns false'. Refute it at one input. -/
def partShrinksWrong : ChangeSpec := { name := "partShrinks", fn := fun _ => fun
  | [d1, d2] => { results := [.lit (.bool false)], args := [d1, d2] }
  | _ => none }
def PartShrinksWrongFalsely : Prop := partShrinksRow.holds Try.pinned (OpenSpec.ofChange partShrinksWrong)

/-- 'tailracelaw.PartExpands': WHATEVER THE INPUT: true; the input reads as it did. -/
def partExpandsSpec : ChangeSpec := { name := "partExpands", fn := fun _ => fun
  | [d1, d2] => { results := [.lit (.bool true)], args := [d1, d2] }
  | _ => none }
def partExpandsRow : OpenClaim := { program := "ytkolelpdedmkeaa", sum := "fe8ed80fb6653410c0659b0bd86e379d74292ac951eb378c51010dac07705994", func := "tailrace/tailracelaw.PartExpands", spec := "partExpands", apart := false }
def PartExpandsSaid : Prop := partExpandsRow.holds Try.pinned (OpenSpec.ofChange partExpandsSpec)

/-- ITS FALSE NEIGHBOUR: 'it returns false'. Refute it at one input. -/
def partExpandsWrong : ChangeSpec := { name := "partExpands", fn := fun _ => fun
  | [d1, d2] => { results := [.lit (.bool false)], args := [d1, d2] }
  | _ => none }
def PartExpandsWrongFalsely : Prop := partExpandsRow.holds Try.pinned (OpenSpec.ofChange partExpandsWrong)

/-- 'tailracelaw.PartReads': WHATEVER THE INPUT: true; the input reads as it did. -/
def partReadsSpec : ChangeSpec := { name := "partReads", fn := fun _ => fun
  | [d1, d2, d3] => { results := [.lit (.bool true)], args := [d1, d2, d3] }
  | _ => none }
def partReadsRow : OpenClaim := { program := "ytkolelpdedmkeaa", sum := "fe8ed80fb6653410c0659b0bd86e379d74292ac951eb378c51010dac07705994", func := "tailrace/tailracelaw.PartReads", spec := "partReads", apart := false }
def PartReadsSaid : Prop := partReadsRow.holds Try.pinned (OpenSpec.ofChange partReadsSpec)

/-- ITS FALSE NEIGHBOUR: 'it returns false'. Refute it at one input. -/
def partReadsWrong : ChangeSpec := { name := "partReads", fn := fun _ => fun
  | [d1, d2, d3] => { results := [.lit (.bool false)], args := [d1, d2, d3] }
  | _ => none }
def PartReadsWrongFalsely : Prop := partReadsRow.holds Try.pinned (OpenSpec.ofChange partReadsWrong)

/-- 'tailracekeep.PartGood': WHATEVER THE INPUT: true; the input reads as it did. -/
def partGoodSpec : ChangeSpec := { name := "partGood", fn := fun _ => fun
  | [d1, d2, d3] => { results := [.lit (.bool true)], args := [d1, d2, d3] }
  | _ => none }
def partGoodRow : OpenClaim := { program := "ytkolelpdedmkeaa", sum := "fe8ed80fb6653410c0659b0bd86e379d74292ac951eb378c51010dac07705994", func := "tailrace/tailracekeep.PartGood", spec := "partGood", apart := false }
def PartGoodSaid : Prop := partGoodRow.holds Try.pinned (OpenSpec.ofChange partGoodSpec)

/-- ITS FALSE NEIGHBOUR: 'it returns false'. Refute it at one input. -/
def partGoodWrong : ChangeSpec := { name := "partGood", fn := fun _ => fun
  | [d1, d2, d3] => { results := [.lit (.bool false)], args := [d1, d2, d3] }
  | _ => none }
def PartGoodWrongFalsely : Prop := partGoodRow.holds Try.pinned (OpenSpec.ofChange partGoodWrong)

/-- 'tailracekeep.PartKept': WHATEVER THE INPUT: true; the input reads as it did. -/
def partKeptSpec : ChangeSpec := { name := "partKept", fn := fun _ => fun
  | [d1, d2, d3] => { results := [.lit (.bool true)], args := [d1, d2, d3] }
  | _ => none }
def partKeptRow : OpenClaim := { program := "ytkolelpdedmkeaa", sum := "fe8ed80fb6653410c0659b0bd86e379d74292ac951eb378c51010dac07705994", func := "tailrace/tailracekeep.PartKept", spec := "partKept", apart := false }
def PartKeptSaid : Prop := partKeptRow.holds Try.pinned (OpenSpec.ofChange partKeptSpec)

/-- ITS FALSE NEIGHBOUR: 'it returns false'. Refute it at one input. -/
def partKeptWrong : ChangeSpec := { name := "partKept", fn := fun _ => fun
  | [d1, d2, d3] => { results := [.lit (.bool false)], args := [d1, d2, d3] }
  | _ => none }
def PartKeptWrongFalsely : Prop := partKeptRow.holds Try.pinned (OpenSpec.ofChange partKeptWrong)

/-- 'tailracekeep.PartAlike': WHATEVER THE INPUT: true; the input reads as it did. -/
def partAlikeSpec : ChangeSpec := { name := "partAlike", fn := fun _ => fun
  | [d1, d2] => { results := [.lit (.bool true)], args := [d1, d2] }
  | _ => none }
def partAlikeRow : OpenClaim := { program := "ytkolelpdedmkeaa", sum := "fe8ed80fb6653410c0659b0bd86e379d74292ac951eb378c51010dac07705994", func := "tailrace/tailracekeep.PartAlike", spec := "partAlike", apart := false }
def PartAlikeSaid : Prop := partAlikeRow.holds Try.pinned (OpenSpec.ofChange partAlikeSpec)

/-- ITS FALSE NEIGHBOUR: 'it returns false'. Refute it at one input. -/
def partAlikeWrong : ChangeSpec := { name := "partAlike", fn := fun _ => fun
  | [d1, d2] => { results := [.lit (.bool false)], args := [d1, d2] }
  | _ => none }
def PartAlikeWrongFalsely : Prop := partAlikeRow.holds Try.pinned (OpenSpec.ofChange partAlikeWrong)

/-- 'tailracekeep.ReadsKept': WHATEVER THE INPUT: true; the input reads as it did. -/
def readsKeptSpec : ChangeSpec := { name := "readsKept", fn := fun _ => fun
  | [d1, d2, d3] => { results := [.lit (.bool true)], args := [d1, d2, d3] }
  | _ => none }
def readsKeptRow : OpenClaim := { program := "ytkolelpdedmkeaa", sum := "fe8ed80fb6653410c0659b0bd86e379d74292ac951eb378c51010dac07705994", func := "tailrace/tailracekeep.ReadsKept", spec := "readsKept", apart := false }
def ReadsKeptSaid : Prop := readsKeptRow.holds Try.pinned (OpenSpec.ofChange readsKeptSpec)

/-- ITS FALSE NEIGHBOUR: 'it returns false'. Refute it at one input. -/
def readsKeptWrong : ChangeSpec := { name := "readsKept", fn := fun _ => fun
  | [d1, d2, d3] => { results := [.lit (.bool false)], args := [d1, d2, d3] }
  | _ => none }
def ReadsKeptWrongFalsely : Prop := readsKeptRow.holds Try.pinned (OpenSpec.ofChange readsKeptWrong)

/-- 'tailracekeep.PartCalm': WHATEVER THE INPUT: true; the input reads as it did. -/
def partCalmSpec : ChangeSpec := { name := "partCalm", fn := fun _ => fun
  | [d1, d2] => { results := [.lit (.bool true)], args := [d1, d2] }
  | _ => none }
def partCalmRow : OpenClaim := { program := "ytkolelpdedmkeaa", sum := "fe8ed80fb6653410c0659b0bd86e379d74292ac951eb378c51010dac07705994", func := "tailrace/tailracekeep.PartCalm", spec := "partCalm", apart := false }
def PartCalmSaid : Prop := partCalmRow.holds Try.pinned (OpenSpec.ofChange partCalmSpec)

/-- ITS FALSE NEIGHBOUR: 'it returns false'. Refute it at one input. -/
def partCalmWrong : ChangeSpec := { name := "partCalm", fn := fun _ => fun
  | [d1, d2] => { results := [.lit (.bool false)], args := [d1, d2] }
  | _ => none }
def PartCalmWrongFalsely : Prop := partCalmRow.holds Try.pinned (OpenSpec.ofChange partCalmWrong)

/-- 'tailracekeep.PartFew': WHATEVER THE INPUT: true; the input reads as it did. -/
def partFewSpec : ChangeSpec := { name := "partFew", fn := fun _ => fun
  | [d1, d2] => { results := [.lit (.bool true)], args := [d1, d2] }
  | _ => none }
def partFewRow : OpenClaim := { program := "ytkolelpdedmkeaa", sum := "fe8ed80fb6653410c0659b0bd86e379d74292ac951eb378c51010dac07705994", func := "tailrace/tailracekeep.PartFew", spec := "partFew", apart := false }
def PartFewSaid : Prop := partFewRow.holds Try.pinned (OpenSpec.ofChange partFewSpec)

/-- ITS FALSE NEIGHBOUR: 'it returns false'. Refute it at one input. -/
def partFewWrong : ChangeSpec := { name := "partFew", fn := fun _ => fun
  | [d1, d2] => { results := [.lit (.bool false)], args := [d1, d2] }
  | _ => none }
def PartFewWrongFalsely : Prop := partFewRow.holds Try.pinned (OpenSpec.ofChange partFewWrong)

/-- 'tailracekeep.PartLed': WHATEVER THE INPUT: true; the input reads as it did. -/
def partLedSpec : ChangeSpec := { name := "partLed", fn := fun _ => fun
  | [d1, d2] => { results := [.lit (.bool true)], args := [d1, d2] }
  | _ => none }
def partLedRow : OpenClaim := { program := "ytkolelpdedmkeaa", sum := "fe8ed80fb6653410c0659b0bd86e379d74292ac951eb378c51010dac07705994", func := "tailrace/tailracekeep.PartLed", spec := "partLed", apart := false }
def PartLedSaid : Prop := partLedRow.holds Try.pinned (OpenSpec.ofChange partLedSpec)

/-- ITS FALSE NEIGHBOUR: 'it returns false'. Refute it at one input. -/
def partLedWrong : ChangeSpec := { name := "partLed", fn := fun _ => fun
  | [d1, d2] => { results := [.lit (.bool false)], args := [d1, d2] }
  | _ => none }
def PartLedWrongFalsely : Prop := partLedRow.holds Try.pinned (OpenSpec.ofChange partLedWrong)

/-- 'tailracekeep.PartCatches': WHATEVER THE INPUT: true; the input reads as it did. -/
def partCatchesSpec : ChangeSpec := { name := "partCatches", fn := fun _ => fun
  | [d1, d2] => { results := [.lit (.bool true)], args := [d1, d2] }
  | _ => none }
def partCatchesRow : OpenClaim := { program := "ytkolelpdedmkeaa", sum := "fe8ed80fb6653410c0659b0bd86e379d74292ac951eb378c51010dac07705994", func := "tailrace/tailracekeep.PartCatches", spec := "partCatches", apart := false }
def PartCatchesSaid : Prop := partCatchesRow.holds Try.pinned (OpenSpec.ofChange partCatchesSpec)

/-- ITS FALSE NEIGHBOUR: 'it returns false'. Refute it at one input. -/
def partCatchesWrong : ChangeSpec := { name := "partCatches", fn := fun _ => fun
  | [d1, d2] => { results := [.lit (.bool false)], args := [d1, d2] }
  | _ => none }
def PartCatchesWrongFalsely : Prop := partCatchesRow.holds Try.pinned (OpenSpec.ofChange partCatchesWrong)

/- THE SECOND FORM. 'bulk': how many values and letters a reading holds, each counted each time it is reached (what is shared counts as often as it is met; a slice's spare places count too). A statement '..UptoSaid' is the law's where the arguments, and the package variables that the reading takes, are together of bulk at most 1048576: NARROWER than '..Said'. Prove '..Said' where nothing that the law and all that it calls make is longer than what came in: it says more and counts as full. Else prove '..UptoSaid'. A law counts once. -/
mutual
def uptoBulk {H : Type} : DataW H → Nat
  | .lit (.string bytes) => bytes.length + 1
  | .lit _ => 1
  | .nil => 1
  | .ptr d => uptoBulk d + 1
  | .slice elems spare => uptoBulkAll elems + uptoBulkAll spare + 1
  | .agg parts => uptoBulkAll parts + 1
  | .iface _ d => uptoBulk d + 1
  | .map entries => uptoBulkEntries entries + 1
  | .held _ => 1
def uptoBulkAll {H : Type} : List (DataW H) → Nat
  | [] => 0
  | d :: r => uptoBulk d + uptoBulkAll r
def uptoBulkEntries {H : Type} : List (Lit × DataW H) → Nat
  | [] => 0
  | x :: r => uptoBulkEntry x + uptoBulkEntries r
def uptoBulkEntry {H : Type} : Lit × DataW H → Nat
  | (.string bytes, d) => bytes.length + uptoBulk d + 1
  | (_, d) => uptoBulk d + 1
 end
def uptoSmall : (H : Type) → List (DataW H) → Bool := fun _ ds => decide (uptoBulkAll ds ≤ 1048576)
def OpenSpec.upto (s : _root_.Go.ChangeSpec) : _root_.Go.OpenSpec := { _root_.Go.OpenSpec.ofChange s with cond := some uptoSmall }

/-- 'tailracelaw.PartNew', WHERE WHAT IT READS IS OF BULK AT MOST 1048576: true; the input reads as it did. -/
def partNewUptoRow : OpenClaim := { program := "ytkolelpdedmkeaa", sum := "fe8ed80fb6653410c0659b0bd86e379d74292ac951eb378c51010dac07705994", func := "tailrace/tailracelaw.PartNew", spec := "partNew", apart := false, narrowed := true }
def PartNewUptoSaid : Prop := partNewUptoRow.holds Try.pinned (OpenSpec.upto partNewSpec)

/-- 'tailracelaw.PartChecks', WHERE WHAT IT READS IS OF BULK AT MOST 1048576: true; the input reads as it did. -/
def partChecksUptoRow : OpenClaim := { program := "ytkolelpdedmkeaa", sum := "fe8ed80fb6653410c0659b0bd86e379d74292ac951eb378c51010dac07705994", func := "tailrace/tailracelaw.PartChecks", spec := "partChecks", apart := false, narrowed := true }
def PartChecksUptoSaid : Prop := partChecksUptoRow.holds Try.pinned (OpenSpec.upto partChecksSpec)

/-- 'tailracelaw.PartCopies', WHERE WHAT IT READS IS OF BULK AT MOST 1048576: true; the input reads as it did. -/
def partCopiesUptoRow : OpenClaim := { program := "ytkolelpdedmkeaa", sum := "fe8ed80fb6653410c0659b0bd86e379d74292ac951eb378c51010dac07705994", func := "tailrace/tailracelaw.PartCopies", spec := "partCopies", apart := false, narrowed := true }
def PartCopiesUptoSaid : Prop := partCopiesUptoRow.holds Try.pinned (OpenSpec.upto partCopiesSpec)

/-- 'tailracelaw.PartPuts', WHERE WHAT IT READS IS OF BULK AT MOST 1048576: true; the input reads as it did. -/
def partPutsUptoRow : OpenClaim := { program := "ytkolelpdedmkeaa", sum := "fe8ed80fb6653410c0659b0bd86e379d74292ac951eb378c51010dac07705994", func := "tailrace/tailracelaw.PartPuts", spec := "partPuts", recurses := true, apart := false, narrowed := true }
def PartPutsUptoSaid : Prop := partPutsUptoRow.holds Try.pinned (OpenSpec.upto partPutsSpec)

/-- 'tailracelaw.PartSyncs', WHERE WHAT IT READS IS OF BULK AT MOST 1048576: true; the input reads as it did. -/
def partSyncsUptoRow : OpenClaim := { program := "ytkolelpdedmkeaa", sum := "fe8ed80fb6653410c0659b0bd86e379d74292ac951eb378c51010dac07705994", func := "tailrace/tailracelaw.PartSyncs", spec := "partSyncs", apart := false, narrowed := true }
def PartSyncsUptoSaid : Prop := partSyncsUptoRow.holds Try.pinned (OpenSpec.upto partSyncsSpec)

/-- 'tailracelaw.PartFetches', WHERE WHAT IT READS IS OF BULK AT MOST 1048576: true; the input reads as it did. -/
def partFetchesUptoRow : OpenClaim := { program := "ytkolelpdedmkeaa", sum := "fe8ed80fb6653410c0659b0bd86e379d74292ac951eb378c51010dac07705994", func := "tailrace/tailracelaw.PartFetches", spec := "partFetches", recurses := true, apart := false, narrowed := true }
def PartFetchesUptoSaid : Prop := partFetchesUptoRow.holds Try.pinned (OpenSpec.upto partFetchesSpec)

/-- 'tailracelaw.PartCrashes', WHERE WHAT IT READS IS OF BULK AT MOST 1048576: true; the input reads as it did. -/
def partCrashesUptoRow : OpenClaim := { program := "ytkolelpdedmkeaa", sum := "fe8ed80fb6653410c0659b0bd86e379d74292ac951eb378c51010dac07705994", func := "tailrace/tailracelaw.PartCrashes", spec := "partCrashes", apart := false, narrowed := true }
def PartCrashesUptoSaid : Prop := partCrashesUptoRow.holds Try.pinned (OpenSpec.upto partCrashesSpec)

/-- 'tailracelaw.PartRises', WHERE WHAT IT READS IS OF BULK AT MOST 1048576: true; the input reads as it did. -/
def partRisesUptoRow : OpenClaim := { program := "ytkolelpdedmkeaa", sum := "fe8ed80fb6653410c0659b0bd86e379d74292ac951eb378c51010dac07705994", func := "tailrace/tailracelaw.PartRises", spec := "partRises", apart := false, narrowed := true }
def PartRisesUptoSaid : Prop := partRisesUptoRow.holds Try.pinned (OpenSpec.upto partRisesSpec)

/-- 'tailracelaw.PartWipes', WHERE WHAT IT READS IS OF BULK AT MOST 1048576: true; the input reads as it did. -/
def partWipesUptoRow : OpenClaim := { program := "ytkolelpdedmkeaa", sum := "fe8ed80fb6653410c0659b0bd86e379d74292ac951eb378c51010dac07705994", func := "tailrace/tailracelaw.PartWipes", spec := "partWipes", apart := false, narrowed := true }
def PartWipesUptoSaid : Prop := partWipesUptoRow.holds Try.pinned (OpenSpec.upto partWipesSpec)

/-- 'tailracelaw.PartElects', WHERE WHAT IT READS IS OF BULK AT MOST 1048576: true; the input reads as it did. -/
def partElectsUptoRow : OpenClaim := { program := "ytkolelpdedmkeaa", sum := "fe8ed80fb6653410c0659b0bd86e379d74292ac951eb378c51010dac07705994", func := "tailrace/tailracelaw.PartElects", spec := "partElects", apart := false, narrowed := true }
def PartElectsUptoSaid : Prop := partElectsUptoRow.holds Try.pinned (OpenSpec.upto partElectsSpec)

/-- 'tailracelaw.PartShrinks', WHERE WHAT IT READS IS OF BULK AT MOST 1048576: true; the input reads as it did. -/
def partShrinksUptoRow : OpenClaim := { program := "ytkolelpdedmkeaa", sum := "fe8ed80fb6653410c0659b0bd86e379d74292ac951eb378c51010dac07705994", func := "tailrace/tailracelaw.PartShrinks", spec := "partShrinks", apart := false, narrowed := true }
def PartShrinksUptoSaid : Prop := partShrinksUptoRow.holds Try.pinned (OpenSpec.upto partShrinksSpec)

/-- 'tailracelaw.PartExpands', WHERE WHAT IT READS IS OF BULK AT MOST 1048576: true; the input reads as it did. -/
def partExpandsUptoRow : OpenClaim := { program := "ytkolelpdedmkeaa", sum := "fe8ed80fb6653410c0659b0bd86e379d74292ac951eb378c51010dac07705994", func := "tailrace/tailracelaw.PartExpands", spec := "partExpands", apart := false, narrowed := true }
def PartExpandsUptoSaid : Prop := partExpandsUptoRow.holds Try.pinned (OpenSpec.upto partExpandsSpec)

/-- 'tailracelaw.PartReads', WHERE WHAT IT READS IS OF BULK AT MOST 1048576: true; the input reads as it did. -/
def partReadsUptoRow : OpenClaim := { program := "ytkolelpdedmkeaa", sum := "fe8ed80fb6653410c0659b0bd86e379d74292ac951eb378c51010dac07705994", func := "tailrace/tailracelaw.PartReads", spec := "partReads", apart := false, narrowed := true }
def PartReadsUptoSaid : Prop := partReadsUptoRow.holds Try.pinned (OpenSpec.upto partReadsSpec)

/-- 'tailracekeep.PartGood', WHERE WHAT IT READS IS OF BULK AT MOST 1048576: true; the input reads as it did. -/
def partGoodUptoRow : OpenClaim := { program := "ytkolelpdedmkeaa", sum := "fe8ed80fb6653410c0659b0bd86e379d74292ac951eb378c51010dac07705994", func := "tailrace/tailracekeep.PartGood", spec := "partGood", apart := false, narrowed := true }
def PartGoodUptoSaid : Prop := partGoodUptoRow.holds Try.pinned (OpenSpec.upto partGoodSpec)

/-- 'tailracekeep.PartKept', WHERE WHAT IT READS IS OF BULK AT MOST 1048576: true; the input reads as it did. -/
def partKeptUptoRow : OpenClaim := { program := "ytkolelpdedmkeaa", sum := "fe8ed80fb6653410c0659b0bd86e379d74292ac951eb378c51010dac07705994", func := "tailrace/tailracekeep.PartKept", spec := "partKept", apart := false, narrowed := true }
def PartKeptUptoSaid : Prop := partKeptUptoRow.holds Try.pinned (OpenSpec.upto partKeptSpec)

/-- 'tailracekeep.PartAlike', WHERE WHAT IT READS IS OF BULK AT MOST 1048576: true; the input reads as it did. -/
def partAlikeUptoRow : OpenClaim := { program := "ytkolelpdedmkeaa", sum := "fe8ed80fb6653410c0659b0bd86e379d74292ac951eb378c51010dac07705994", func := "tailrace/tailracekeep.PartAlike", spec := "partAlike", apart := false, narrowed := true }
def PartAlikeUptoSaid : Prop := partAlikeUptoRow.holds Try.pinned (OpenSpec.upto partAlikeSpec)

/-- 'tailracekeep.ReadsKept', WHERE WHAT IT READS IS OF BULK AT MOST 1048576: true; the input reads as it did. -/
def readsKeptUptoRow : OpenClaim := { program := "ytkolelpdedmkeaa", sum := "fe8ed80fb6653410c0659b0bd86e379d74292ac951eb378c51010dac07705994", func := "tailrace/tailracekeep.ReadsKept", spec := "readsKept", apart := false, narrowed := true }
def ReadsKeptUptoSaid : Prop := readsKeptUptoRow.holds Try.pinned (OpenSpec.upto readsKeptSpec)

/-- 'tailracekeep.PartCalm', WHERE WHAT IT READS IS OF BULK AT MOST 1048576: true; the input reads as it did. -/
def partCalmUptoRow : OpenClaim := { program := "ytkolelpdedmkeaa", sum := "fe8ed80fb6653410c0659b0bd86e379d74292ac951eb378c51010dac07705994", func := "tailrace/tailracekeep.PartCalm", spec := "partCalm", apart := false, narrowed := true }
def PartCalmUptoSaid : Prop := partCalmUptoRow.holds Try.pinned (OpenSpec.upto partCalmSpec)

/-- 'tailracekeep.PartFew', WHERE WHAT IT READS IS OF BULK AT MOST 1048576: true; the input reads as it did. -/
def partFewUptoRow : OpenClaim := { program := "ytkolelpdedmkeaa", sum := "fe8ed80fb6653410c0659b0bd86e379d74292ac951eb378c51010dac07705994", func := "tailrace/tailracekeep.PartFew", spec := "partFew", apart := false, narrowed := true }
def PartFewUptoSaid : Prop := partFewUptoRow.holds Try.pinned (OpenSpec.upto partFewSpec)

/-- 'tailracekeep.PartLed', WHERE WHAT IT READS IS OF BULK AT MOST 1048576: true; the input reads as it did. -/
def partLedUptoRow : OpenClaim := { program := "ytkolelpdedmkeaa", sum := "fe8ed80fb6653410c0659b0bd86e379d74292ac951eb378c51010dac07705994", func := "tailrace/tailracekeep.PartLed", spec := "partLed", apart := false, narrowed := true }
def PartLedUptoSaid : Prop := partLedUptoRow.holds Try.pinned (OpenSpec.upto partLedSpec)

/-- 'tailracekeep.PartCatches', WHERE WHAT IT READS IS OF BULK AT MOST 1048576: true; the input reads as it did. -/
def partCatchesUptoRow : OpenClaim := { program := "ytkolelpdedmkeaa", sum := "fe8ed80fb6653410c0659b0bd86e379d74292ac951eb378c51010dac07705994", func := "tailrace/tailracekeep.PartCatches", spec := "partCatches", apart := false, narrowed := true }
def PartCatchesUptoSaid : Prop := partCatchesUptoRow.holds Try.pinned (OpenSpec.upto partCatchesSpec)

end Rows
end Go.Proofs.Ytkolelpdedmkeaa
