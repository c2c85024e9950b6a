/-
  The document's ReadOf where it refuses; the helpers of the view laws: plain, entries, sameTexts.
-/
import Derived.Test.YtkakagjffafdiaaVread2
import Derived.Test.YtkakagjffafdiaaVsame
namespace Go.Proofs.Ytkakagjffafdiaa
open Go.RowKit
set_option linter.unusedVariables false
set_option linter.unusedSimpArgs false

set_option maxRecDepth 100000 in
set_option maxHeartbeats 2000000 in
theorem readOf_high (es : List Ent) (ao : Option Addr) (cap : Nat) (h fr ms : Int) (w : World) (hl : (es.length : Int) ≤ 2199023255552) (hr : RdX w (.slice ao es.length cap) es) (hh : h < 0 ∨ (es.length : Int) < h) :
    Calls Try.prog 97 #[.slice ao es.length cap, .int .i64 h, .int .i64 fr, .int .i64 ms] w fun e w' => e = .returned (.tuple #[.slice none 0 0, .int .i64 0, .int .i64 2]) ∧ Below w.heap.size w w' := by
  have HR : Hid (RdX w (.slice ao es.length cap) es) := hr
  have hsf : stf es h = (0, 2) := by unfold stf; rw [if_pos hh]
  clear hr hh
  go_enter Try.func97, Try.ntmps97
  go_wp2_with fail
  refine (stableOf_any es _ h _ hl HR.out).mono ?_
  rintro e w1 ⟨rfl, hb1⟩
  rw [hsf]
  clear hsf HR
  go_wp2
  go_ret3
  exact ⟨rfl, hb1⟩

set_option maxRecDepth 100000 in
set_option maxHeartbeats 2000000 in
theorem readOf_range (es : List Ent) (ao : Option Addr) (cap : Nat) (h fr ms : Int) (w : World) (hl : (es.length : Int) ≤ 2199023255552) (hr : RdX w (.slice ao es.length cap) es) (hh : ¬ (h < 0 ∨ (es.length : Int) < h)) (hb : fr < 0 ∨ (es.length : Int) < fr ∨ ms < 1 ∨ 20 < ms) :
    Calls Try.prog 97 #[.slice ao es.length cap, .int .i64 h, .int .i64 fr, .int .i64 ms] w fun e w' => e = .returned (.tuple #[.slice none 0 0, .int .i64 0, .int .i64 2]) ∧ Below w.heap.size w w' := by
  have HR : Hid (RdX w (.slice ao es.length cap) es) := hr
  have hsf : stf es h = ((stb es h.toNat : Int), 0) := by unfold stf; rw [if_neg hh]
  clear hr hh
  go_enter Try.func97, Try.ntmps97
  go_wp2_with fail
  refine (stableOf_any es _ h _ hl HR.out).mono ?_
  rintro e w1 ⟨rfl, hb1⟩
  rw [hsf]
  clear hsf HR
  by_cases hf : fr < 0 ∨ (es.length : Int) < fr
  · have i1 : inR fr 0 es.length = false := by unfold inR; simp; omega
    clear hb hf
    go_wp2_with fail
    refine (In_any _ _ _ _).mono ?_
    rintro e w' ⟨rfl, rfl⟩
    rw [i1]
    go_wp2
    go_ret3
    exact ⟨rfl, hb1⟩
  · have i1 : inR fr 0 es.length = true := by unfold inR; simp; omega
    have i2 : inR ms 1 20 = false := by unfold inR; simp; omega
    clear hb hf
    go_wp2_with fail
    refine (In_any _ _ _ _).mono ?_
    rintro e w' ⟨rfl, rfl⟩
    rw [i1]
    go_wp2_with fail
    refine (In_any _ _ _ _).mono ?_
    rintro e w' ⟨rfl, rfl⟩
    rw [i2]
    go_wp2
    go_ret3
    exact ⟨rfl, hb1⟩

end Go.Proofs.Ytkakagjffafdiaa
