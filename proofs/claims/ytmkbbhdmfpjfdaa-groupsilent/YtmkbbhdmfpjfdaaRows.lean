/-
  No cell of these rows narrows 'for every input' (looked for: loops, veiled, ifaces, maps, wideKeys, modest, calm, conditions, laid).
  DERIVED. THE GIVEN ROWS OF THIS SEAT. 15 by the template 'for every input the law returns true; each argument reads behind the call as it read before'; 0 by the template 'total and deterministic' (their statements: YtmkbbhdmfpjfdaaTotals.lean).
  GIVEN WITH THE SEED: the statements are not yours to turn. If you find one false, say at which input.
  Laid BY PROGRAM, IN A SANDBOX (cutbox-rows.mjs): the forced cells as the released guide's own fill.sh prints them over the translation e1d5e50afc0fd3db… (all of the seat's roots in one cut). By AI agents, Wed Nov 11 2026. No macro, syntax, notation, axiom, sorry.
-/
import Derived.Test.YtmkbbhdmfpjfdaaChecked
import GoSem.Claim
import GoSem.ClaimJoined
import GoSem.ClaimMapViews
import Derived.JoinedTies
import Derived.KernelRfl
namespace Go.Proofs.Ytmkbbhdmfpjfdaa
/- THE CELL 'sum', in the pinned program and in every row, IS THE sha256 OF THE DUMP (.gsa) THAT YtmkbbhdmfpjfdaaProg.lean LOADS. Nothing in Lean hashes anything: it is a label: what it is worth is what the hold of that sum in a sandbox is worth. -/
noncomputable def Try.pinned : Pinned := { name := "ytmkbbhdmfpjfdaa", sum := "e1d5e50afc0fd3dbf7922a4eedeaa0fe34fddb7e247c233d03b696ea03c65e75", checked := Try.checked }
namespace Rows
def none {H : Type} : Left H := { results := [], args := [] }

/-- 'tailracelaw.GroupNew': WHATEVER THE INPUT: true; the input reads as it did. -/
def groupNewSpec : ChangeSpec := { name := "groupNew", fn := fun _ => fun
  | [d] => { results := [.lit (.bool true)], args := [d] }
  | _ => none }
def groupNewRow : OpenClaim := { program := "ytmkbbhdmfpjfdaa", sum := "e1d5e50afc0fd3dbf7922a4eedeaa0fe34fddb7e247c233d03b696ea03c65e75", func := "tailrace/tailracelaw.GroupNew", spec := "groupNew", apart := false }
def GroupNewSaid : Prop := groupNewRow.holds Try.pinned (OpenSpec.ofChange groupNewSpec)

/-- ITS FALSE NEIGHBOUR: 'it returns false'. Refute it at one input. -/
def groupNewWrong : ChangeSpec := { name := "groupNew", fn := fun _ => fun
  | [d] => { results := [.lit (.bool false)], args := [d] }
  | _ => none }
def GroupNewWrongFalsely : Prop := groupNewRow.holds Try.pinned (OpenSpec.ofChange groupNewWrong)

/-- 'tailracelaw.GroupAssigns': WHATEVER THE INPUT: true; the input reads as it did. -/
def groupAssignsSpec : ChangeSpec := { name := "groupAssigns", fn := fun _ => fun
  | [d1, d2] => { results := [.lit (.bool true)], args := [d1, d2] }
  | _ => none }
def groupAssignsRow : OpenClaim := { program := "ytmkbbhdmfpjfdaa", sum := "e1d5e50afc0fd3dbf7922a4eedeaa0fe34fddb7e247c233d03b696ea03c65e75", func := "tailrace/tailracelaw.GroupAssigns", spec := "groupAssigns", inPlace := ["internal/bytealg.abigen_runtime_cmpstring"], unfollowed := true, recurses := true, apart := false }
def GroupAssignsSaid : Prop := groupAssignsRow.holds Try.pinned (OpenSpec.ofChange groupAssignsSpec)

/-- ITS FALSE NEIGHBOUR: 'it returns false'. Refute it at one input. -/
def groupAssignsWrong : ChangeSpec := { name := "groupAssigns", fn := fun _ => fun
  | [d1, d2] => { results := [.lit (.bool false)], args := [d1, d2] }
  | _ => none }
def GroupAssignsWrongFalsely : Prop := groupAssignsRow.holds Try.pinned (OpenSpec.ofChange groupAssignsWrong)

/-- 'tailracelaw.GroupChecks': WHATEVER THE INPUT: true; the input reads as it did. -/
def groupChecksSpec : ChangeSpec := { name := "groupChecks", fn := fun _ => fun
  | [d] => { results := [.lit (.bool true)], args := [d] }
  | _ => none }
def groupChecksRow : OpenClaim := { program := "ytmkbbhdmfpjfdaa", sum := "e1d5e50afc0fd3dbf7922a4eedeaa0fe34fddb7e247c233d03b696ea03c65e75", func := "tailrace/tailracelaw.GroupChecks", spec := "groupChecks", unfollowed := true, recurses := true, apart := false }
def GroupChecksSaid : Prop := groupChecksRow.holds Try.pinned (OpenSpec.ofChange groupChecksSpec)

/-- ITS FALSE NEIGHBOUR: 'it returns false'. Refute it at one input. -/
def groupChecksWrong : ChangeSpec := { name := "groupChecks", fn := fun _ => fun
  | [d] => { results := [.lit (.bool false)], args := [d] }
  | _ => none }
def GroupChecksWrongFalsely : Prop := groupChecksRow.holds Try.pinned (OpenSpec.ofChange groupChecksWrong)

/-- 'tailracelaw.GroupCopies': WHATEVER THE INPUT: true; the input reads as it did. -/
def groupCopiesSpec : ChangeSpec := { name := "groupCopies", fn := fun _ => fun
  | [d] => { results := [.lit (.bool true)], args := [d] }
  | _ => none }
def groupCopiesRow : OpenClaim := { program := "ytmkbbhdmfpjfdaa", sum := "e1d5e50afc0fd3dbf7922a4eedeaa0fe34fddb7e247c233d03b696ea03c65e75", func := "tailrace/tailracelaw.GroupCopies", spec := "groupCopies", apart := false }
def GroupCopiesSaid : Prop := groupCopiesRow.holds Try.pinned (OpenSpec.ofChange groupCopiesSpec)

/-- ITS FALSE NEIGHBOUR: 'it returns false'. Refute it at one input. -/
def groupCopiesWrong : ChangeSpec := { name := "groupCopies", fn := fun _ => fun
  | [d] => { results := [.lit (.bool false)], args := [d] }
  | _ => none }
def GroupCopiesWrongFalsely : Prop := groupCopiesRow.holds Try.pinned (OpenSpec.ofChange groupCopiesWrong)

/-- 'tailracelaw.GroupJoins': WHATEVER THE INPUT: true; the input reads as it did. -/
def groupJoinsSpec : ChangeSpec := { name := "groupJoins", fn := fun _ => fun
  | [d1, d2, d3] => { results := [.lit (.bool true)], args := [d1, d2, d3] }
  | _ => none }
def groupJoinsRow : OpenClaim := { program := "ytmkbbhdmfpjfdaa", sum := "e1d5e50afc0fd3dbf7922a4eedeaa0fe34fddb7e247c233d03b696ea03c65e75", func := "tailrace/tailracelaw.GroupJoins", spec := "groupJoins", inPlace := ["internal/bytealg.abigen_runtime_cmpstring"], unfollowed := true, recurses := true, apart := false }
def GroupJoinsSaid : Prop := groupJoinsRow.holds Try.pinned (OpenSpec.ofChange groupJoinsSpec)

/-- ITS FALSE NEIGHBOUR: 'it returns false'. Refute it at one input. -/
def groupJoinsWrong : ChangeSpec := { name := "groupJoins", fn := fun _ => fun
  | [d1, d2, d3] => { results := [.lit (.bool false)], args := [d1, d2, d3] }
  | _ => none }
def GroupJoinsWrongFalsely : Prop := groupJoinsRow.holds Try.pinned (OpenSpec.ofChange groupJoinsWrong)

/-- 'tailracelaw.GroupLeaves': WHATEVER THE INPUT: true; the input reads as it did. -/
def groupLeavesSpec : ChangeSpec := { name := "groupLeaves", fn := fun _ => fun
  | [d1, d2, d3] => { results := [.lit (.bool true)], args := [d1, d2, d3] }
  | _ => none }
def groupLeavesRow : OpenClaim := { program := "ytmkbbhdmfpjfdaa", sum := "e1d5e50afc0fd3dbf7922a4eedeaa0fe34fddb7e247c233d03b696ea03c65e75", func := "tailrace/tailracelaw.GroupLeaves", spec := "groupLeaves", inPlace := ["internal/bytealg.abigen_runtime_cmpstring"], unfollowed := true, recurses := true, apart := false }
def GroupLeavesSaid : Prop := groupLeavesRow.holds Try.pinned (OpenSpec.ofChange groupLeavesSpec)

/-- ITS FALSE NEIGHBOUR: 'it returns false'. Refute it at one input. -/
def groupLeavesWrong : ChangeSpec := { name := "groupLeaves", fn := fun _ => fun
  | [d1, d2, d3] => { results := [.lit (.bool false)], args := [d1, d2, d3] }
  | _ => none }
def GroupLeavesWrongFalsely : Prop := groupLeavesRow.holds Try.pinned (OpenSpec.ofChange groupLeavesWrong)

/-- 'tailracelaw.GroupBeats': WHATEVER THE INPUT: true; the input reads as it did. -/
def groupBeatsSpec : ChangeSpec := { name := "groupBeats", fn := fun _ => fun
  | [d1, d2, d3] => { results := [.lit (.bool true)], args := [d1, d2, d3] }
  | _ => none }
def groupBeatsRow : OpenClaim := { program := "ytmkbbhdmfpjfdaa", sum := "e1d5e50afc0fd3dbf7922a4eedeaa0fe34fddb7e247c233d03b696ea03c65e75", func := "tailrace/tailracelaw.GroupBeats", spec := "groupBeats", unfollowed := true, recurses := true, apart := false }
def GroupBeatsSaid : Prop := groupBeatsRow.holds Try.pinned (OpenSpec.ofChange groupBeatsSpec)

/-- ITS FALSE NEIGHBOUR: 'it returns false'. Refute it at one input. -/
def groupBeatsWrong : ChangeSpec := { name := "groupBeats", fn := fun _ => fun
  | [d1, d2, d3] => { results := [.lit (.bool false)], args := [d1, d2, d3] }
  | _ => none }
def GroupBeatsWrongFalsely : Prop := groupBeatsRow.holds Try.pinned (OpenSpec.ofChange groupBeatsWrong)

/-- 'tailracelaw.GroupStores': WHATEVER THE INPUT: true; the input reads as it did. -/
def groupStoresSpec : ChangeSpec := { name := "groupStores", fn := fun _ => fun
  | [d1, d2, d3, d4, d5] => { results := [.lit (.bool true)], args := [d1, d2, d3, d4, d5] }
  | _ => none }
def groupStoresRow : OpenClaim := { program := "ytmkbbhdmfpjfdaa", sum := "e1d5e50afc0fd3dbf7922a4eedeaa0fe34fddb7e247c233d03b696ea03c65e75", func := "tailrace/tailracelaw.GroupStores", spec := "groupStores", inPlace := ["slices.overlaps[tailrace/api.Offset]"], unfollowed := true, recurses := true, apart := false }
def GroupStoresSaid : Prop := groupStoresRow.holds Try.pinned (OpenSpec.ofChange groupStoresSpec)

/-- ITS FALSE NEIGHBOUR: 'it returns false'. Refute it at one input. -/
def groupStoresWrong : ChangeSpec := { name := "groupStores", fn := fun _ => fun
  | [d1, d2, d3, d4, d5] => { results := [.lit (.bool false)], args := [d1, d2, d3, d4, d5] }
  | _ => none }
def GroupStoresWrongFalsely : Prop := groupStoresRow.holds Try.pinned (OpenSpec.ofChange groupStoresWrong)

/-- 'tailracelaw.GroupWhere': WHATEVER THE INPUT: true; the input reads as it did. -/
def groupWhereSpec : ChangeSpec := { name := "groupWhere", fn := fun _ => fun
  | [d1, d2, d3] => { results := [.lit (.bool true)], args := [d1, d2, d3] }
  | _ => none }
def groupWhereRow : OpenClaim := { program := "ytmkbbhdmfpjfdaa", sum := "e1d5e50afc0fd3dbf7922a4eedeaa0fe34fddb7e247c233d03b696ea03c65e75", func := "tailrace/tailracelaw.GroupWhere", spec := "groupWhere", unfollowed := true, recurses := true, apart := false }
def GroupWhereSaid : Prop := groupWhereRow.holds Try.pinned (OpenSpec.ofChange groupWhereSpec)

/-- ITS FALSE NEIGHBOUR: 'it returns false'. Refute it at one input. -/
def groupWhereWrong : ChangeSpec := { name := "groupWhere", fn := fun _ => fun
  | [d1, d2, d3] => { results := [.lit (.bool false)], args := [d1, d2, d3] }
  | _ => none }
def GroupWhereWrongFalsely : Prop := groupWhereRow.holds Try.pinned (OpenSpec.ofChange groupWhereWrong)

/-- 'tailracelaw.GroupTicks': WHATEVER THE INPUT: true; the input reads as it did. -/
def groupTicksSpec : ChangeSpec := { name := "groupTicks", fn := fun _ => fun
  | [d1, d2, d3] => { results := [.lit (.bool true)], args := [d1, d2, d3] }
  | _ => none }
def groupTicksRow : OpenClaim := { program := "ytmkbbhdmfpjfdaa", sum := "e1d5e50afc0fd3dbf7922a4eedeaa0fe34fddb7e247c233d03b696ea03c65e75", func := "tailrace/tailracelaw.GroupTicks", spec := "groupTicks", inPlace := ["internal/bytealg.abigen_runtime_cmpstring"], unfollowed := true, recurses := true, apart := false }
def GroupTicksSaid : Prop := groupTicksRow.holds Try.pinned (OpenSpec.ofChange groupTicksSpec)

/-- ITS FALSE NEIGHBOUR: 'it returns false'. Refute it at one input. -/
def groupTicksWrong : ChangeSpec := { name := "groupTicks", fn := fun _ => fun
  | [d1, d2, d3] => { results := [.lit (.bool false)], args := [d1, d2, d3] }
  | _ => none }
def GroupTicksWrongFalsely : Prop := groupTicksRow.holds Try.pinned (OpenSpec.ofChange groupTicksWrong)

/-- 'tailracekeep.GroupGood': WHATEVER THE INPUT: true; the input reads as it did. -/
def groupGoodSpec : ChangeSpec := { name := "groupGood", fn := fun _ => fun
  | [d1, d2] => { results := [.lit (.bool true)], args := [d1, d2] }
  | _ => none }
def groupGoodRow : OpenClaim := { program := "ytmkbbhdmfpjfdaa", sum := "e1d5e50afc0fd3dbf7922a4eedeaa0fe34fddb7e247c233d03b696ea03c65e75", func := "tailrace/tailracekeep.GroupGood", spec := "groupGood", inPlace := ["internal/bytealg.abigen_runtime_cmpstring", "slices.overlaps[tailrace/api.Offset]"], unfollowed := true, recurses := true, apart := false }
def GroupGoodSaid : Prop := groupGoodRow.holds Try.pinned (OpenSpec.ofChange groupGoodSpec)

/-- ITS FALSE NEIGHBOUR: 'it returns false'. Refute it at one input. -/
def groupGoodWrong : ChangeSpec := { name := "groupGood", fn := fun _ => fun
  | [d1, d2] => { results := [.lit (.bool false)], args := [d1, d2] }
  | _ => none }
def GroupGoodWrongFalsely : Prop := groupGoodRow.holds Try.pinned (OpenSpec.ofChange groupGoodWrong)

/-- 'tailracekeep.GroupShares': WHATEVER THE INPUT: true; the input reads as it did. -/
def groupSharesSpec : ChangeSpec := { name := "groupShares", fn := fun _ => fun
  | [d1, d2] => { results := [.lit (.bool true)], args := [d1, d2] }
  | _ => none }
def groupSharesRow : OpenClaim := { program := "ytmkbbhdmfpjfdaa", sum := "e1d5e50afc0fd3dbf7922a4eedeaa0fe34fddb7e247c233d03b696ea03c65e75", func := "tailrace/tailracekeep.GroupShares", spec := "groupShares", inPlace := ["internal/bytealg.abigen_runtime_cmpstring", "slices.overlaps[tailrace/api.Offset]"], unfollowed := true, recurses := true, apart := false }
def GroupSharesSaid : Prop := groupSharesRow.holds Try.pinned (OpenSpec.ofChange groupSharesSpec)

/-- ITS FALSE NEIGHBOUR: 'it returns false'. Refute it at one input. -/
def groupSharesWrong : ChangeSpec := { name := "groupShares", fn := fun _ => fun
  | [d1, d2] => { results := [.lit (.bool false)], args := [d1, d2] }
  | _ => none }
def GroupSharesWrongFalsely : Prop := groupSharesRow.holds Try.pinned (OpenSpec.ofChange groupSharesWrong)

/-- 'tailracekeep.GroupOrder': WHATEVER THE INPUT: true; the input reads as it did. -/
def groupOrderSpec : ChangeSpec := { name := "groupOrder", fn := fun _ => fun
  | [d1, d2, d3] => { results := [.lit (.bool true)], args := [d1, d2, d3] }
  | _ => none }
def groupOrderRow : OpenClaim := { program := "ytmkbbhdmfpjfdaa", sum := "e1d5e50afc0fd3dbf7922a4eedeaa0fe34fddb7e247c233d03b696ea03c65e75", func := "tailrace/tailracekeep.GroupOrder", spec := "groupOrder", inPlace := ["internal/bytealg.abigen_runtime_cmpstring"], unfollowed := true, recurses := true, apart := false }
def GroupOrderSaid : Prop := groupOrderRow.holds Try.pinned (OpenSpec.ofChange groupOrderSpec)

/-- ITS FALSE NEIGHBOUR: 'it returns false'. Refute it at one input. -/
def groupOrderWrong : ChangeSpec := { name := "groupOrder", fn := fun _ => fun
  | [d1, d2, d3] => { results := [.lit (.bool false)], args := [d1, d2, d3] }
  | _ => none }
def GroupOrderWrongFalsely : Prop := groupOrderRow.holds Try.pinned (OpenSpec.ofChange groupOrderWrong)

/-- 'tailracekeep.GroupGoesOn': WHATEVER THE INPUT: true; the input reads as it did. -/
def groupGoesOnSpec : ChangeSpec := { name := "groupGoesOn", fn := fun _ => fun
  | [d1, d2] => { results := [.lit (.bool true)], args := [d1, d2] }
  | _ => none }
def groupGoesOnRow : OpenClaim := { program := "ytmkbbhdmfpjfdaa", sum := "e1d5e50afc0fd3dbf7922a4eedeaa0fe34fddb7e247c233d03b696ea03c65e75", func := "tailrace/tailracekeep.GroupGoesOn", spec := "groupGoesOn", inPlace := ["internal/bytealg.abigen_runtime_cmpstring", "slices.overlaps[tailrace/api.Offset]"], unfollowed := true, recurses := true, apart := false }
def GroupGoesOnSaid : Prop := groupGoesOnRow.holds Try.pinned (OpenSpec.ofChange groupGoesOnSpec)

/-- ITS FALSE NEIGHBOUR: 'it returns false'. Refute it at one input. -/
def groupGoesOnWrong : ChangeSpec := { name := "groupGoesOn", fn := fun _ => fun
  | [d1, d2] => { results := [.lit (.bool false)], args := [d1, d2] }
  | _ => none }
def GroupGoesOnWrongFalsely : Prop := groupGoesOnRow.holds Try.pinned (OpenSpec.ofChange groupGoesOnWrong)

/-- 'tailracekeep.GroupSilent': WHATEVER THE INPUT: true; the input reads as it did. -/
def groupSilentSpec : ChangeSpec := { name := "groupSilent", fn := fun _ => fun
  | [d1, d2] => { results := [.lit (.bool true)], args := [d1, d2] }
  | _ => none }
def groupSilentRow : OpenClaim := { program := "ytmkbbhdmfpjfdaa", sum := "e1d5e50afc0fd3dbf7922a4eedeaa0fe34fddb7e247c233d03b696ea03c65e75", func := "tailrace/tailracekeep.GroupSilent", spec := "groupSilent", inPlace := ["internal/bytealg.abigen_runtime_cmpstring"], unfollowed := true, recurses := true, apart := false }
def GroupSilentSaid : Prop := groupSilentRow.holds Try.pinned (OpenSpec.ofChange groupSilentSpec)

/-- ITS FALSE NEIGHBOUR: 'it returns false'. Refute it at one input. -/
def groupSilentWrong : ChangeSpec := { name := "groupSilent", fn := fun _ => fun
  | [d1, d2] => { results := [.lit (.bool false)], args := [d1, d2] }
  | _ => none }
def GroupSilentWrongFalsely : Prop := groupSilentRow.holds Try.pinned (OpenSpec.ofChange groupSilentWrong)

/- THE SECOND FORM. 'bulk': how many values and letters a reading holds, each counted each time it is reached (what is shared counts as often as it is met; a slice's spare places count too). A statement '..UptoSaid' is the law's where the arguments, and the package variables that the reading takes, are together of bulk at most 1048576: NARROWER than '..Said'. Prove '..Said' where nothing that the law and all that it calls make is longer than what came in: it says more and counts as full. Else prove '..UptoSaid'. A law counts once. -/
mutual
def uptoBulk {H : Type} : DataW H → Nat
  | .lit (.string bytes) => bytes.length + 1
  | .lit _ => 1
  | .nil => 1
  | .ptr d => uptoBulk d + 1
  | .slice elems spare => uptoBulkAll elems + uptoBulkAll spare + 1
  | .agg parts => uptoBulkAll parts + 1
  | .iface _ d => uptoBulk d + 1
  | .map entries => uptoBulkEntries entries + 1
  | .held _ => 1
def uptoBulkAll {H : Type} : List (DataW H) → Nat
  | [] => 0
  | d :: r => uptoBulk d + uptoBulkAll r
def uptoBulkEntries {H : Type} : List (Lit × DataW H) → Nat
  | [] => 0
  | x :: r => uptoBulkEntry x + uptoBulkEntries r
def uptoBulkEntry {H : Type} : Lit × DataW H → Nat
  | (.string bytes, d) => bytes.length + uptoBulk d + 1
  | (_, d) => uptoBulk d + 1
 end
def uptoSmall : (H : Type) → List (DataW H) → Bool := fun _ ds => decide (uptoBulkAll ds ≤ 1048576)
def OpenSpec.upto (s : _root_.Go.ChangeSpec) : _root_.Go.OpenSpec := { _root_.Go.OpenSpec.ofChange s with cond := some uptoSmall }

/-- 'tailracelaw.GroupNew', WHERE WHAT IT READS IS OF BULK AT MOST 1048576: true; the input reads as it did. -/
def groupNewUptoRow : OpenClaim := { program := "ytmkbbhdmfpjfdaa", sum := "e1d5e50afc0fd3dbf7922a4eedeaa0fe34fddb7e247c233d03b696ea03c65e75", func := "tailrace/tailracelaw.GroupNew", spec := "groupNew", apart := false, narrowed := true }
def GroupNewUptoSaid : Prop := groupNewUptoRow.holds Try.pinned (OpenSpec.upto groupNewSpec)

/-- 'tailracelaw.GroupAssigns', WHERE WHAT IT READS IS OF BULK AT MOST 1048576: true; the input reads as it did. -/
def groupAssignsUptoRow : OpenClaim := { program := "ytmkbbhdmfpjfdaa", sum := "e1d5e50afc0fd3dbf7922a4eedeaa0fe34fddb7e247c233d03b696ea03c65e75", func := "tailrace/tailracelaw.GroupAssigns", spec := "groupAssigns", inPlace := ["internal/bytealg.abigen_runtime_cmpstring"], unfollowed := true, recurses := true, apart := false, narrowed := true }
def GroupAssignsUptoSaid : Prop := groupAssignsUptoRow.holds Try.pinned (OpenSpec.upto groupAssignsSpec)

/-- 'tailracelaw.GroupChecks', WHERE WHAT IT READS IS OF BULK AT MOST 1048576: true; the input reads as it did. -/
def groupChecksUptoRow : OpenClaim := { program := "ytmkbbhdmfpjfdaa", sum := "e1d5e50afc0fd3dbf7922a4eedeaa0fe34fddb7e247c233d03b696ea03c65e75", func := "tailrace/tailracelaw.GroupChecks", spec := "groupChecks", unfollowed := true, recurses := true, apart := false, narrowed := true }
def GroupChecksUptoSaid : Prop := groupChecksUptoRow.holds Try.pinned (OpenSpec.upto groupChecksSpec)

/-- 'tailracelaw.GroupCopies', WHERE WHAT IT READS IS OF BULK AT MOST 1048576: true; the input reads as it did. -/
def groupCopiesUptoRow : OpenClaim := { program := "ytmkbbhdmfpjfdaa", sum := "e1d5e50afc0fd3dbf7922a4eedeaa0fe34fddb7e247c233d03b696ea03c65e75", func := "tailrace/tailracelaw.GroupCopies", spec := "groupCopies", apart := false, narrowed := true }
def GroupCopiesUptoSaid : Prop := groupCopiesUptoRow.holds Try.pinned (OpenSpec.upto groupCopiesSpec)

/-- 'tailracelaw.GroupJoins', WHERE WHAT IT READS IS OF BULK AT MOST 1048576: true; the input reads as it did. -/
def groupJoinsUptoRow : OpenClaim := { program := "ytmkbbhdmfpjfdaa", sum := "e1d5e50afc0fd3dbf7922a4eedeaa0fe34fddb7e247c233d03b696ea03c65e75", func := "tailrace/tailracelaw.GroupJoins", spec := "groupJoins", inPlace := ["internal/bytealg.abigen_runtime_cmpstring"], unfollowed := true, recurses := true, apart := false, narrowed := true }
def GroupJoinsUptoSaid : Prop := groupJoinsUptoRow.holds Try.pinned (OpenSpec.upto groupJoinsSpec)

/-- 'tailracelaw.GroupLeaves', WHERE WHAT IT READS IS OF BULK AT MOST 1048576: true; the input reads as it did. -/
def groupLeavesUptoRow : OpenClaim := { program := "ytmkbbhdmfpjfdaa", sum := "e1d5e50afc0fd3dbf7922a4eedeaa0fe34fddb7e247c233d03b696ea03c65e75", func := "tailrace/tailracelaw.GroupLeaves", spec := "groupLeaves", inPlace := ["internal/bytealg.abigen_runtime_cmpstring"], unfollowed := true, recurses := true, apart := false, narrowed := true }
def GroupLeavesUptoSaid : Prop := groupLeavesUptoRow.holds Try.pinned (OpenSpec.upto groupLeavesSpec)

/-- 'tailracelaw.GroupBeats', WHERE WHAT IT READS IS OF BULK AT MOST 1048576: true; the input reads as it did. -/
def groupBeatsUptoRow : OpenClaim := { program := "ytmkbbhdmfpjfdaa", sum := "e1d5e50afc0fd3dbf7922a4eedeaa0fe34fddb7e247c233d03b696ea03c65e75", func := "tailrace/tailracelaw.GroupBeats", spec := "groupBeats", unfollowed := true, recurses := true, apart := false, narrowed := true }
def GroupBeatsUptoSaid : Prop := groupBeatsUptoRow.holds Try.pinned (OpenSpec.upto groupBeatsSpec)

/-- 'tailracelaw.GroupStores', WHERE WHAT IT READS IS OF BULK AT MOST 1048576: true; the input reads as it did. -/
def groupStoresUptoRow : OpenClaim := { program := "ytmkbbhdmfpjfdaa", sum := "e1d5e50afc0fd3dbf7922a4eedeaa0fe34fddb7e247c233d03b696ea03c65e75", func := "tailrace/tailracelaw.GroupStores", spec := "groupStores", inPlace := ["slices.overlaps[tailrace/api.Offset]"], unfollowed := true, recurses := true, apart := false, narrowed := true }
def GroupStoresUptoSaid : Prop := groupStoresUptoRow.holds Try.pinned (OpenSpec.upto groupStoresSpec)

/-- 'tailracelaw.GroupWhere', WHERE WHAT IT READS IS OF BULK AT MOST 1048576: true; the input reads as it did. -/
def groupWhereUptoRow : OpenClaim := { program := "ytmkbbhdmfpjfdaa", sum := "e1d5e50afc0fd3dbf7922a4eedeaa0fe34fddb7e247c233d03b696ea03c65e75", func := "tailrace/tailracelaw.GroupWhere", spec := "groupWhere", unfollowed := true, recurses := true, apart := false, narrowed := true }
def GroupWhereUptoSaid : Prop := groupWhereUptoRow.holds Try.pinned (OpenSpec.upto groupWhereSpec)

/-- 'tailracelaw.GroupTicks', WHERE WHAT IT READS IS OF BULK AT MOST 1048576: true; the input reads as it did. -/
def groupTicksUptoRow : OpenClaim := { program := "ytmkbbhdmfpjfdaa", sum := "e1d5e50afc0fd3dbf7922a4eedeaa0fe34fddb7e247c233d03b696ea03c65e75", func := "tailrace/tailracelaw.GroupTicks", spec := "groupTicks", inPlace := ["internal/bytealg.abigen_runtime_cmpstring"], unfollowed := true, recurses := true, apart := false, narrowed := true }
def GroupTicksUptoSaid : Prop := groupTicksUptoRow.holds Try.pinned (OpenSpec.upto groupTicksSpec)

/-- 'tailracekeep.GroupGood', WHERE WHAT IT READS IS OF BULK AT MOST 1048576: true; the input reads as it did. -/
def groupGoodUptoRow : OpenClaim := { program := "ytmkbbhdmfpjfdaa", sum := "e1d5e50afc0fd3dbf7922a4eedeaa0fe34fddb7e247c233d03b696ea03c65e75", func := "tailrace/tailracekeep.GroupGood", spec := "groupGood", inPlace := ["internal/bytealg.abigen_runtime_cmpstring", "slices.overlaps[tailrace/api.Offset]"], unfollowed := true, recurses := true, apart := false, narrowed := true }
def GroupGoodUptoSaid : Prop := groupGoodUptoRow.holds Try.pinned (OpenSpec.upto groupGoodSpec)

/-- 'tailracekeep.GroupShares', WHERE WHAT IT READS IS OF BULK AT MOST 1048576: true; the input reads as it did. -/
def groupSharesUptoRow : OpenClaim := { program := "ytmkbbhdmfpjfdaa", sum := "e1d5e50afc0fd3dbf7922a4eedeaa0fe34fddb7e247c233d03b696ea03c65e75", func := "tailrace/tailracekeep.GroupShares", spec := "groupShares", inPlace := ["internal/bytealg.abigen_runtime_cmpstring", "slices.overlaps[tailrace/api.Offset]"], unfollowed := true, recurses := true, apart := false, narrowed := true }
def GroupSharesUptoSaid : Prop := groupSharesUptoRow.holds Try.pinned (OpenSpec.upto groupSharesSpec)

/-- 'tailracekeep.GroupOrder', WHERE WHAT IT READS IS OF BULK AT MOST 1048576: true; the input reads as it did. -/
def groupOrderUptoRow : OpenClaim := { program := "ytmkbbhdmfpjfdaa", sum := "e1d5e50afc0fd3dbf7922a4eedeaa0fe34fddb7e247c233d03b696ea03c65e75", func := "tailrace/tailracekeep.GroupOrder", spec := "groupOrder", inPlace := ["internal/bytealg.abigen_runtime_cmpstring"], unfollowed := true, recurses := true, apart := false, narrowed := true }
def GroupOrderUptoSaid : Prop := groupOrderUptoRow.holds Try.pinned (OpenSpec.upto groupOrderSpec)

/-- 'tailracekeep.GroupGoesOn', WHERE WHAT IT READS IS OF BULK AT MOST 1048576: true; the input reads as it did. -/
def groupGoesOnUptoRow : OpenClaim := { program := "ytmkbbhdmfpjfdaa", sum := "e1d5e50afc0fd3dbf7922a4eedeaa0fe34fddb7e247c233d03b696ea03c65e75", func := "tailrace/tailracekeep.GroupGoesOn", spec := "groupGoesOn", inPlace := ["internal/bytealg.abigen_runtime_cmpstring", "slices.overlaps[tailrace/api.Offset]"], unfollowed := true, recurses := true, apart := false, narrowed := true }
def GroupGoesOnUptoSaid : Prop := groupGoesOnUptoRow.holds Try.pinned (OpenSpec.upto groupGoesOnSpec)

/-- 'tailracekeep.GroupSilent', WHERE WHAT IT READS IS OF BULK AT MOST 1048576: true; the input reads as it did. -/
def groupSilentUptoRow : OpenClaim := { program := "ytmkbbhdmfpjfdaa", sum := "e1d5e50afc0fd3dbf7922a4eedeaa0fe34fddb7e247c233d03b696ea03c65e75", func := "tailrace/tailracekeep.GroupSilent", spec := "groupSilent", inPlace := ["internal/bytealg.abigen_runtime_cmpstring"], unfollowed := true, recurses := true, apart := false, narrowed := true }
def GroupSilentUptoSaid : Prop := groupSilentUptoRow.holds Try.pinned (OpenSpec.upto groupSilentSpec)

end Rows
end Go.Proofs.Ytmkbbhdmfpjfdaa
