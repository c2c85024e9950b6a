/-
  group.Copy answers the same group (P6.3), at every group; nothing is assumed.
-/
import Derived.Test.YtmkbbhdmfpjfdaaOpenGr
import Derived.Test.YtmkbbhdmfpjfdaaGlaw1
namespace Go.Proofs.Ytmkbbhdmfpjfdaa
open Go.ChangeShapes Go.WideShapes Go.ChangeAt Go.RowKit
open Go.ChangeMaps (open_string shut_string)
set_option maxRecDepth 100000
set_option linter.unusedVariables false

theorem groupCopies_walk {w : World} (g : Grp) (vm vo : Value) (us : Nat → Value) (h : RdG w g vm vo us) (hf : g.fits) :
    Calls Try.prog 6 #[.agg #[.int .i64 g.ck, .int .i64 g.wt, .int .i64 g.gn, vm, vo]] w fun e w' => e = .returned (.bool true) ∧ Below w.heap.size w w' := groupCopies_core g vm vo us w h hf


set_option maxRecDepth 100000 in
theorem groupCopies_lifted (os : Os) (started : os.Started) (H : Type) (enc : TypeId × Value → H) :
    ReturnsInHanded {} Try.checked os 6 .any (Rows.groupCopiesSpec.pre6 enc Try.prog Try.f6 Rows.groupCopiesRow.domain false) (Rows.groupCopiesSpec.post enc Try.prog Try.f6 false true false false) := by
  refine returnsInHanded_of_change_sized (C := Try.checked) own started (by kernel_rfl) Try.func6
    (ChangeSpec.witness6 (enc := enc) (C := Try.checked) false ⟨#[], #[.agg #[.int .i64 0, .int .i64 0, .int .i64 0, .slice none 0 0, .slice none 0 0]], []⟩ 8 (by kernel_rfl) (by kernel_rfl) (by kernel_rfl) (by kernel_rfl)) ?_
  intro W base args ds gs before hval0 hW hcnd hsz0 _
  have hval : ∀ (j : Nat) t v, Try.f6.params[j]? = some t → args[j]? = some v → Value.okWide Try.prog W .any base t v := hval0
  have hsz : (DataW.weightsEach Try.prog (Try.f6.params.toList ++ Rows.groupCopiesSpec.plain.varTypes Try.prog) (ds ++ gs)).all (· ≤ reachBytes) = true := hsz0
  have hW' := hW
  obtain ⟨p, q, hA0, hV, rfl, hfz, hnd⟩ := hW
  have hA : DataW.TrodAll enc Try.prog W 0 (fun _ => true) true Try.f6.params.toList args.toList ds p := hA0
  rw [Try.params6] at hA hval hsz
  obtain ⟨v0, vs0, d0, ds0, p0, q0, hargs, rfl, rfl, h0, r0⟩ := trodAll_cons hA
  obtain ⟨rfl, rfl, rfl⟩ := trodAll_nil r0
  obtain rfl : args = #[v0] := by cases args; simp_all
  obtain ⟨rfl, rfl⟩ := trodVars_none hV
  have k0 := h0
  have lt0 : ∀ x ∈ p0, x.block < W.heap.size := by obtain ⟨m, hm⟩ := k0; exact DataW.trod_lt m _ _ _ hm
  obtain ⟨G0, vm0, vo0, us0, rfl, hr0, hs0, hw0, hd0⟩ := open_group (hval 0 25 v0 rfl rfl) h0
  have hl0 : G0.fits := group_fits hd0 (group_reach hsz (j := 0) rfl rfl) hs0
  clear hA0 hval0 hsz0 hsz
  refine (groupCopies_walk G0 vm0 vo0 us0 hr0 hl0).mono fun e W' ⟨he, bel⟩ => ?_
  subst he
  exact ⟨_, rfl, _, _, _, [], _, [], hW', trodAll_mk1 (shut_bool Try.underlying4 _), (trodAll_cons_mk (Below.trod laidOut (by kernel_rfl) (of_decide_eq_true (by kernel_rfl)) k0 bel lt0) trodAll_mk0), rfl, bel.frame _, fun h => by cases h⟩

theorem groupCopies_over : Rows.groupCopiesRow.holds Try.pinned (OpenSpec.ofChange Rows.groupCopiesSpec) :=
  OpenClaim.holds_of_wide 6 Try.f6 rfl rfl rfl rfl rfl rfl rfl ⟨rfl, rfl, rfl, rfl, rfl⟩ rfl rfl rfl rfl rfl (by kernel_rfl) Try.func6 (by kernel_rfl)
    (of_decide_eq_true (by kernel_rfl)) (by unfold Func.isWrapper; first | (rw [if_pos (by decide +kernel)]; kernel_rfl) | (rw [if_neg (by decide +kernel)]; exact ⟨rfl, rfl⟩))
    (fun os started H enc _ => groupCopies_lifted os started H enc)

theorem groupCopies_holds : Rows.GroupCopiesSaid := groupCopies_over
#print axioms groupCopies_holds

end Go.Proofs.Ytmkbbhdmfpjfdaa
