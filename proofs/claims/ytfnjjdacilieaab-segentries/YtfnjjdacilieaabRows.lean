/-
  No cell of these rows narrows 'for every input' (looked for: loops, veiled, ifaces, maps, wideKeys, modest, calm, conditions, laid).
  DERIVED. THE GIVEN ROWS OF THIS SEAT. 6 by the template 'for every input the law returns true; each argument reads behind the call as it read before'; 0 by the template 'total and deterministic' (their statements: YtfnjjdacilieaabTotals.lean).
  GIVEN WITH THE SEED: the statements are not yours to turn. If you find one false, say at which input.
  Laid BY PROGRAM, IN A SANDBOX (cutbox-rows.mjs): the forced cells as the released guide's own fill.sh prints them over the translation 1233af6a00602b68… (all of the seat's roots in one cut). By AI agents, Wed Nov 11 2026. No macro, syntax, notation, axiom, sorry.
-/
import Derived.Test.YtfnjjdacilieaabChecked
import GoSem.Claim
import GoSem.ClaimJoined
import GoSem.ClaimMapViews
import Derived.JoinedTies
import Derived.KernelRfl
namespace Go.Proofs.Ytfnjjdacilieaab
/- THE CELL 'sum', in the pinned program and in every row, IS THE sha256 OF THE DUMP (.gsa) THAT YtfnjjdacilieaabProg.lean LOADS. Nothing in Lean hashes anything: it is a label: what it is worth is what the hold of that sum in a sandbox is worth. -/
noncomputable def Try.pinned : Pinned := { name := "ytfnjjdacilieaab", sum := "1233af6a00602b6831a65120cd5321ba8411b6baa025066b6d73058359607576", checked := Try.checked }
namespace Rows
def none {H : Type} : Left H := { results := [], args := [] }

/-- 'tailracelaw.SegChecks': WHATEVER THE INPUT: true; the input reads as it did. -/
def segChecksSpec : ChangeSpec := { name := "segChecks", fn := fun _ => fun
  | [d] => { results := [.lit (.bool true)], args := [d] }
  | _ => none }
def segChecksRow : OpenClaim := { program := "ytfnjjdacilieaab", sum := "1233af6a00602b6831a65120cd5321ba8411b6baa025066b6d73058359607576", func := "tailrace/tailracelaw.SegChecks", spec := "segChecks", apart := false }
def SegChecksSaid : Prop := segChecksRow.holds Try.pinned (OpenSpec.ofChange segChecksSpec)

/-- ITS FALSE NEIGHBOUR: 'it returns false'. Refute it at one input. -/
def segChecksWrong : ChangeSpec := { name := "segChecks", fn := fun _ => fun
  | [d] => { results := [.lit (.bool false)], args := [d] }
  | _ => none }
def SegChecksWrongFalsely : Prop := segChecksRow.holds Try.pinned (OpenSpec.ofChange segChecksWrong)

/-- 'tailracelaw.SegEntries': WHATEVER THE INPUT: true; the input reads as it did. -/
def segEntriesSpec : ChangeSpec := { name := "segEntries", fn := fun _ => fun
  | [d] => { results := [.lit (.bool true)], args := [d] }
  | _ => none }
def segEntriesRow : OpenClaim := { program := "ytfnjjdacilieaab", sum := "1233af6a00602b6831a65120cd5321ba8411b6baa025066b6d73058359607576", func := "tailrace/tailracelaw.SegEntries", spec := "segEntries", apart := false }
def SegEntriesSaid : Prop := segEntriesRow.holds Try.pinned (OpenSpec.ofChange segEntriesSpec)

/-- ITS FALSE NEIGHBOUR: 'it returns false'. Refute it at one input. -/
def segEntriesWrong : ChangeSpec := { name := "segEntries", fn := fun _ => fun
  | [d] => { results := [.lit (.bool false)], args := [d] }
  | _ => none }
def SegEntriesWrongFalsely : Prop := segEntriesRow.holds Try.pinned (OpenSpec.ofChange segEntriesWrong)

/-- 'tailracelaw.SegAppends': WHATEVER THE INPUT: true; the input reads as it did. -/
def segAppendsSpec : ChangeSpec := { name := "segAppends", fn := fun _ => fun
  | [d1, d2] => { results := [.lit (.bool true)], args := [d1, d2] }
  | _ => none }
def segAppendsRow : OpenClaim := { program := "ytfnjjdacilieaab", sum := "1233af6a00602b6831a65120cd5321ba8411b6baa025066b6d73058359607576", func := "tailrace/tailracelaw.SegAppends", spec := "segAppends", recurses := true, apart := false }
def SegAppendsSaid : Prop := segAppendsRow.holds Try.pinned (OpenSpec.ofChange segAppendsSpec)

/-- ITS FALSE NEIGHBOUR: 'it returns false'. Refute it at one input. -/
def segAppendsWrong : ChangeSpec := { name := "segAppends", fn := fun _ => fun
  | [d1, d2] => { results := [.lit (.bool false)], args := [d1, d2] }
  | _ => none }
def SegAppendsWrongFalsely : Prop := segAppendsRow.holds Try.pinned (OpenSpec.ofChange segAppendsWrong)

/-- 'tailracelaw.SegSyncs': WHATEVER THE INPUT: true; the input reads as it did. -/
def segSyncsSpec : ChangeSpec := { name := "segSyncs", fn := fun _ => fun
  | [d] => { results := [.lit (.bool true)], args := [d] }
  | _ => none }
def segSyncsRow : OpenClaim := { program := "ytfnjjdacilieaab", sum := "1233af6a00602b6831a65120cd5321ba8411b6baa025066b6d73058359607576", func := "tailrace/tailracelaw.SegSyncs", spec := "segSyncs", apart := false }
def SegSyncsSaid : Prop := segSyncsRow.holds Try.pinned (OpenSpec.ofChange segSyncsSpec)

/-- ITS FALSE NEIGHBOUR: 'it returns false'. Refute it at one input. -/
def segSyncsWrong : ChangeSpec := { name := "segSyncs", fn := fun _ => fun
  | [d] => { results := [.lit (.bool false)], args := [d] }
  | _ => none }
def SegSyncsWrongFalsely : Prop := segSyncsRow.holds Try.pinned (OpenSpec.ofChange segSyncsWrong)

/-- 'tailracelaw.SegCuts': WHATEVER THE INPUT: true; the input reads as it did. -/
def segCutsSpec : ChangeSpec := { name := "segCuts", fn := fun _ => fun
  | [d1, d2] => { results := [.lit (.bool true)], args := [d1, d2] }
  | _ => none }
def segCutsRow : OpenClaim := { program := "ytfnjjdacilieaab", sum := "1233af6a00602b6831a65120cd5321ba8411b6baa025066b6d73058359607576", func := "tailrace/tailracelaw.SegCuts", spec := "segCuts", apart := false }
def SegCutsSaid : Prop := segCutsRow.holds Try.pinned (OpenSpec.ofChange segCutsSpec)

/-- ITS FALSE NEIGHBOUR: 'it returns false'. Refute it at one input. -/
def segCutsWrong : ChangeSpec := { name := "segCuts", fn := fun _ => fun
  | [d1, d2] => { results := [.lit (.bool false)], args := [d1, d2] }
  | _ => none }
def SegCutsWrongFalsely : Prop := segCutsRow.holds Try.pinned (OpenSpec.ofChange segCutsWrong)

/-- 'tailracelaw.SegCrashes': WHATEVER THE INPUT: true; the input reads as it did. -/
def segCrashesSpec : ChangeSpec := { name := "segCrashes", fn := fun _ => fun
  | [d1, d2] => { results := [.lit (.bool true)], args := [d1, d2] }
  | _ => none }
def segCrashesRow : OpenClaim := { program := "ytfnjjdacilieaab", sum := "1233af6a00602b6831a65120cd5321ba8411b6baa025066b6d73058359607576", func := "tailrace/tailracelaw.SegCrashes", spec := "segCrashes", apart := false }
def SegCrashesSaid : Prop := segCrashesRow.holds Try.pinned (OpenSpec.ofChange segCrashesSpec)

/-- ITS FALSE NEIGHBOUR: 'it returns false'. Refute it at one input. -/
def segCrashesWrong : ChangeSpec := { name := "segCrashes", fn := fun _ => fun
  | [d1, d2] => { results := [.lit (.bool false)], args := [d1, d2] }
  | _ => none }
def SegCrashesWrongFalsely : Prop := segCrashesRow.holds Try.pinned (OpenSpec.ofChange segCrashesWrong)

/- THE SECOND FORM. 'bulk': how many values and letters a reading holds, each counted each time it is reached (what is shared counts as often as it is met; a slice's spare places count too). A statement '..UptoSaid' is the law's where the arguments, and the package variables that the reading takes, are together of bulk at most 1048576: NARROWER than '..Said'. Prove '..Said' where nothing that the law and all that it calls make is longer than what came in: it says more and counts as full. Else prove '..UptoSaid'. A law counts once. -/
mutual
def uptoBulk {H : Type} : DataW H → Nat
  | .lit (.string bytes) => bytes.length + 1
  | .lit _ => 1
  | .nil => 1
  | .ptr d => uptoBulk d + 1
  | .slice elems spare => uptoBulkAll elems + uptoBulkAll spare + 1
  | .agg parts => uptoBulkAll parts + 1
  | .iface _ d => uptoBulk d + 1
  | .map entries => uptoBulkEntries entries + 1
  | .held _ => 1
def uptoBulkAll {H : Type} : List (DataW H) → Nat
  | [] => 0
  | d :: r => uptoBulk d + uptoBulkAll r
def uptoBulkEntries {H : Type} : List (Lit × DataW H) → Nat
  | [] => 0
  | x :: r => uptoBulkEntry x + uptoBulkEntries r
def uptoBulkEntry {H : Type} : Lit × DataW H → Nat
  | (.string bytes, d) => bytes.length + uptoBulk d + 1
  | (_, d) => uptoBulk d + 1
 end
def uptoSmall : (H : Type) → List (DataW H) → Bool := fun _ ds => decide (uptoBulkAll ds ≤ 1048576)
def OpenSpec.upto (s : _root_.Go.ChangeSpec) : _root_.Go.OpenSpec := { _root_.Go.OpenSpec.ofChange s with cond := some uptoSmall }

/-- 'tailracelaw.SegChecks', WHERE WHAT IT READS IS OF BULK AT MOST 1048576: true; the input reads as it did. -/
def segChecksUptoRow : OpenClaim := { program := "ytfnjjdacilieaab", sum := "1233af6a00602b6831a65120cd5321ba8411b6baa025066b6d73058359607576", func := "tailrace/tailracelaw.SegChecks", spec := "segChecks", apart := false, narrowed := true }
def SegChecksUptoSaid : Prop := segChecksUptoRow.holds Try.pinned (OpenSpec.upto segChecksSpec)

/-- 'tailracelaw.SegEntries', WHERE WHAT IT READS IS OF BULK AT MOST 1048576: true; the input reads as it did. -/
def segEntriesUptoRow : OpenClaim := { program := "ytfnjjdacilieaab", sum := "1233af6a00602b6831a65120cd5321ba8411b6baa025066b6d73058359607576", func := "tailrace/tailracelaw.SegEntries", spec := "segEntries", apart := false, narrowed := true }
def SegEntriesUptoSaid : Prop := segEntriesUptoRow.holds Try.pinned (OpenSpec.upto segEntriesSpec)

/-- 'tailracelaw.SegAppends', WHERE WHAT IT READS IS OF BULK AT MOST 1048576: true; the input reads as it did. -/
def segAppendsUptoRow : OpenClaim := { program := "ytfnjjdacilieaab", sum := "1233af6a00602b6831a65120cd5321ba8411b6baa025066b6d73058359607576", func := "tailrace/tailracelaw.SegAppends", spec := "segAppends", recurses := true, apart := false, narrowed := true }
def SegAppendsUptoSaid : Prop := segAppendsUptoRow.holds Try.pinned (OpenSpec.upto segAppendsSpec)

/-- 'tailracelaw.SegSyncs', WHERE WHAT IT READS IS OF BULK AT MOST 1048576: true; the input reads as it did. -/
def segSyncsUptoRow : OpenClaim := { program := "ytfnjjdacilieaab", sum := "1233af6a00602b6831a65120cd5321ba8411b6baa025066b6d73058359607576", func := "tailrace/tailracelaw.SegSyncs", spec := "segSyncs", apart := false, narrowed := true }
def SegSyncsUptoSaid : Prop := segSyncsUptoRow.holds Try.pinned (OpenSpec.upto segSyncsSpec)

/-- 'tailracelaw.SegCuts', WHERE WHAT IT READS IS OF BULK AT MOST 1048576: true; the input reads as it did. -/
def segCutsUptoRow : OpenClaim := { program := "ytfnjjdacilieaab", sum := "1233af6a00602b6831a65120cd5321ba8411b6baa025066b6d73058359607576", func := "tailrace/tailracelaw.SegCuts", spec := "segCuts", apart := false, narrowed := true }
def SegCutsUptoSaid : Prop := segCutsUptoRow.holds Try.pinned (OpenSpec.upto segCutsSpec)

/-- 'tailracelaw.SegCrashes', WHERE WHAT IT READS IS OF BULK AT MOST 1048576: true; the input reads as it did. -/
def segCrashesUptoRow : OpenClaim := { program := "ytfnjjdacilieaab", sum := "1233af6a00602b6831a65120cd5321ba8411b6baa025066b6d73058359607576", func := "tailrace/tailracelaw.SegCrashes", spec := "segCrashes", apart := false, narrowed := true }
def SegCrashesUptoSaid : Prop := segCrashesUptoRow.holds Try.pinned (OpenSpec.upto segCrashesSpec)

end Rows
end Go.Proofs.Ytfnjjdacilieaab
