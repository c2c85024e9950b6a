/-
  The document's PartMay.
-/
import Derived.Test.YtkolelpdedmkeaaPlog
import Derived.Test.YtkolelpdedmkeaaAplain
import Derived.Deep.RegionHeld3
import Derived.Deep.DeepCutAuto
namespace Go.Proofs.Ytkolelpdedmkeaa
open Go.RowKit
set_option linter.unusedVariables false
set_option linter.unusedSimpArgs false

set_option maxRecDepth 100000 in
set_option maxHeartbeats 2000000 in
theorem partMay_form (p : Prt) (vi vk vr : Value) (us : Nat → Value) (w : World) (h : RdP w p vi vk vr us) (hf : p.formB = false) :
    Calls Try.prog 28 #[.agg #[.int .i64 p.ep, .int .i64 p.ld, vi, vk, vr, .int .i64 p.fw, .int .i64 p.bs]] w fun e w' => e = .returned (.bool false) ∧ Below w.heap.size w w' := by
  obtain ⟨ai, ci, ak, ck, ar, cr, rfl, rfl, rfl, l1, l2, l3⟩ := h.lens
  have hB := bbox w (.cells #[.int .i64 p.ep, .int .i64 p.ld, .slice ai p.isr.length ci, .slice ak p.kn.length ck, .slice ar p.rs.length cr, .int .i64 p.fw, .int .i64 p.bs] 26)
  have HB : Hid _ := hB
  unfold Prt.formB at hf
  clear h hB
  cases c0 : (inR p.rs.length 1 5)
  · clear hf
    go_enter Try.func28, Try.ntmps28
    go_wp2_with (go_at_call 59; refine (In_any _ _ _ _).mono ?_; rintro e w' ⟨rfl, rfl⟩)
    go_ret
    exact ⟨rfl, HB.out⟩
  cases c1 : (p.isr.length == p.rs.length)
  · have d1 : ((p.isr.length : Int) != (p.rs.length : Int)) = true := by
      have := c1
      simp at this ⊢
      omega
    clear hf c1
    go_enter Try.func28, Try.ntmps28
    go_wp2_with (go_at_call 59; refine (In_any _ _ _ _).mono ?_; rintro e w' ⟨rfl, rfl⟩)
    go_ret
    exact ⟨rfl, HB.out⟩
  have d1 : ((p.isr.length : Int) != (p.rs.length : Int)) = false := by
    have := c1
    simp at this ⊢
    omega
  cases c2 : (p.kn.length == p.rs.length)
  · have d2 : ((p.kn.length : Int) != (p.rs.length : Int)) = true := by
      have := c2
      simp at this ⊢
      omega
    clear hf c2
    go_enter Try.func28, Try.ntmps28
    go_wp2_with (go_at_call 59; refine (In_any _ _ _ _).mono ?_; rintro e w' ⟨rfl, rfl⟩)
    go_ret
    exact ⟨rfl, HB.out⟩
  have d2 : ((p.kn.length : Int) != (p.rs.length : Int)) = false := by
    have := c2
    simp at this ⊢
    omega
  cases c3 : (inR p.fw 1 p.rs.length)
  · clear hf
    go_enter Try.func28, Try.ntmps28
    go_wp2_with (go_at_call 59; refine (In_any _ _ _ _).mono ?_; rintro e w' ⟨rfl, rfl⟩)
    go_ret
    exact ⟨rfl, HB.out⟩
  cases c4 : (inR p.ep 0 1073741824)
  · clear hf
    go_enter Try.func28, Try.ntmps28
    go_wp2_with (go_at_call 59; refine (In_any _ _ _ _).mono ?_; rintro e w' ⟨rfl, rfl⟩)
    go_ret
    exact ⟨rfl, HB.out⟩
  cases c5 : (inR p.ld (-1) ((p.rs.length : Int) - 1))
  · clear hf
    go_enter Try.func28, Try.ntmps28
    go_wp2_with (go_at_call 59; refine (In_any _ _ _ _).mono ?_; rintro e w' ⟨rfl, rfl⟩)
    go_ret
    exact ⟨rfl, HB.out⟩
  cases c6 : (inR p.bs 0 400)
  · clear hf
    go_enter Try.func28, Try.ntmps28
    go_wp2_with (go_at_call 59; refine (In_any _ _ _ _).mono ?_; rintro e w' ⟨rfl, rfl⟩)
    go_ret
    exact ⟨rfl, HB.out⟩
  rw [c0, c1, c2, c3, c4, c5, c6] at hf
  cases hf

end Go.Proofs.Ytkolelpdedmkeaa
