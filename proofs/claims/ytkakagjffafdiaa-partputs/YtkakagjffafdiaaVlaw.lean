/-
  The walks of the laws ViewStable, ViewChecks and ViewReads, given what package view answers.
-/
import Derived.Test.YtkakagjffafdiaaVplain
import Derived.Test.YtkakagjffafdiaaVread3
import Derived.Test.YtkakagjffafdiaaLsameE
import Derived.Test.YtkakagjffafdiaaVapp
namespace Go.Proofs.Ytkakagjffafdiaa
open Go.RowKit
set_option linter.unusedVariables false
set_option linter.unusedSimpArgs false

/-- view.Stable answers what P3.4 says. -/
def StableC : Prop := ∀ (es : List Ent) (v : Value) (h : Int) (w : World), (es.length : Int) ≤ 2199023255552 → Plain es → RdX w v es →
    Calls Try.prog 122 #[v, .int .i64 h] w fun e w' => e = .returned (.tuple #[.int .i64 (stf es h).1, .int .i64 (stf es h).2]) ∧ Below w.heap.size w w'

/-- view.Check answers what P3.3 says. -/
def CheckC : Prop := ∀ (es : List Ent) (v : Value) (x : Ent) (w : World), (es.length : Int) ≤ 2199023255552 → Plain es → Plain [x] → RdX w v es →
    Calls Try.prog 76 #[v, .agg #[.int .i64 x.a, .int .i64 x.b, .int .i64 x.c, .int .i64 x.d, .int .i64 x.k, .bool x.t, .string x.s]] w fun e w' => e = .returned (.tuple #[.int .i64 (chk es x).1, .int .i64 (chk es x).2]) ∧ Below w.heap.size w w'

/-- view.Read answers what P3.5 says, where nobody's entries are of no transaction. -/
def ReadC : Prop := ∀ (es : List Ent) (v : Value) (h fr ms : Int) (w : World), (es.length : Int) ≤ 2199023255552 → Plain es → NoTx es → RdX w v es →
    Calls Try.prog 96 #[v, .int .i64 h, .int .i64 fr, .int .i64 ms] w fun e w' => ∃ u, e = .returned (.tuple #[u, .int .i64 (rdA es h fr ms).2.1, .int .i64 (rdA es h fr ms).2.2]) ∧ OwnS w.heap.size u (rdA es h fr ms).1 w' ∧ Below w.heap.size w w'

theorem rdF_len (es : List Ent) (h fin f i m : Nat) : (rdF es h fin f i m).1.length ≤ m := by
  induction f generalizing i m with
  | zero => simp [rdF]
  | succ f ih =>
    simp only [rdF]
    split
    · simp
    · split
      · have := ih (i + 1) (m - 1)
        simp only [List.length_cons]
        omega
      · exact ih (i + 1) m
theorem rdA_len (es : List Ent) (h fr ms : Int) : (rdA es h fr ms).1.length ≤ 20 := by
  unfold rdA
  split
  · simp
  · split
    · simp
    · have := rdF_len es h.toNat (stb es h.toNat) es.length fr.toNat ms.toNat
      simp only
      omega

end Go.Proofs.Ytkakagjffafdiaa
