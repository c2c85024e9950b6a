/-
  The walks of the laws ViewStable, ViewChecks and ViewReads, given what package view answers.
-/
import Derived.Test.YtimnfgfomlegpadVplain
import Derived.Test.YtimnfgfomlegpadVread3
import Derived.Test.YtimnfgfomlegpadLsameE
import Derived.Test.YtimnfgfomlegpadVapp
namespace Go.Proofs.Ytimnfgfomlegpad
open Go.RowKit
set_option linter.unusedVariables false
set_option linter.unusedSimpArgs false

/-- view.Stable answers what P3.4 says. -/
def StableC : Prop := ∀ (es : List Ent) (v : Value) (h : Int) (w : World), (es.length : Int) ≤ 2199023255552 → Plain es → RdX w v es →
    Calls Try.prog 10 #[v, .int .i64 h] w fun e w' => e = .returned (.tuple #[.int .i64 (stf es h).1, .int .i64 (stf es h).2]) ∧ Below w.heap.size w w'

/-- view.Check answers what P3.3 says. -/
def CheckC : Prop := ∀ (es : List Ent) (v : Value) (x : Ent) (w : World), (es.length : Int) ≤ 2199023255552 → Plain es → Plain [x] → RdX w v es →
    Calls Try.prog 19 #[v, .agg #[.int .i64 x.a, .int .i64 x.b, .int .i64 x.c, .int .i64 x.d, .int .i64 x.k, .bool x.t, .string x.s]] w fun e w' => e = .returned (.tuple #[.int .i64 (chk es x).1, .int .i64 (chk es x).2]) ∧ Below w.heap.size w w'

/-- view.Read answers what P3.5 says, where nobody's entries are of no transaction. -/
def ReadC : Prop := ∀ (es : List Ent) (v : Value) (h fr ms : Int) (w : World), (es.length : Int) ≤ 2199023255552 → Plain es → NoTx es → RdX w v es →
    Calls Try.prog 13 #[v, .int .i64 h, .int .i64 fr, .int .i64 ms] w fun e w' => ∃ u, e = .returned (.tuple #[u, .int .i64 (rdA es h fr ms).2.1, .int .i64 (rdA es h fr ms).2.2]) ∧ OwnS w.heap.size u (rdA es h fr ms).1 w' ∧ Below w.heap.size w w'

set_option maxHeartbeats 1000000 in
theorem viewStable_core (HV : StableC) (es : List Ent) (v : Value) (h : Int) (w : World) (hl : (es.length : Int) ≤ 2199023255552) (hr : RdX w v es) :
    Calls Try.prog 3 #[v, .int .i64 h] w fun e w' => e = .returned (.bool true) ∧ Below w.heap.size w w' := by
  have HR : Hid (RdX w v es) := hr
  have HVV : Hid StableC := HV
  clear hr HV
  go_enter Try.func3, Try.ntmps3
  go_wp2_with fail
  refine (plain_any es _ _ hl HR.out).mono ?_
  rintro e w1 ⟨⟨hp, rfl⟩ | ⟨hp, rfl⟩, rfl⟩
  · have HPL : Hid (Plain es) := hp
    clear hp
    go_wp2_with fail
    refine (entriesCopy_any es _ _ (by omega) HR.out).mono ?_
    rintro e w2 ⟨u, rfl, hu, hb2⟩
    go_wp2_with fail
    refine (HVV.out es _ h _ hl HPL.out hu.rdX).mono ?_
    rintro e w3 ⟨rfl, hb3⟩
    have B3 := bstep hb2 hb3
    have hR3 := RdX.below HR.out (Nat.le_refl _) B3
    clear hb2 hb3 hu HVV
    go_wp2_with fail
    refine (stableOf_any es _ h _ hl hR3).mono ?_
    rintro e w4 ⟨rfl, hb4⟩
    have B4 := bstep B3 hb4
    have e1 : ((stf es h).1 == (stf es h).1) = true := by simp
    have e2 : ((stf es h).2 == (stf es h).2) = true := by simp
    clear hb4 B3 hR3 HR
    go_wp2
    go_ret
    exact ⟨rfl, B4⟩
  · go_wp2
    go_ret
    exact ⟨rfl, Below.refl _ _⟩

theorem rdF_len (es : List Ent) (h fin f i m : Nat) : (rdF es h fin f i m).1.length ≤ m := by
  induction f generalizing i m with
  | zero => simp [rdF]
  | succ f ih =>
    simp only [rdF]
    split
    · simp
    · split
      · have := ih (i + 1) (m - 1)
        simp only [List.length_cons]
        omega
      · exact ih (i + 1) m
theorem rdA_len (es : List Ent) (h fr ms : Int) : (rdA es h fr ms).1.length ≤ 20 := by
  unfold rdA
  split
  · simp
  · split
    · simp
    · have := rdF_len es h.toNat (stb es h.toNat) es.length fr.toNat ms.toNat
      simp only
      omega

end Go.Proofs.Ytimnfgfomlegpad
