/-
  part.Fetch answers what the document's FetchedOf answers, at every part and place; nothing is assumed.
-/
import Derived.Test.YtkolelpdedmkeaaOpenP
import Derived.Test.YtkolelpdedmkeaaJointA
import Derived.Test.YtkolelpdedmkeaaJointB
import Derived.Test.YtkolelpdedmkeaaJointC
import Derived.Test.YtkolelpdedmkeaaLawFetches
namespace Go.Proofs.Ytkolelpdedmkeaa
open Go.ChangeShapes Go.WideShapes Go.ChangeAt Go.RowKit
open Go.ChangeMaps (open_string shut_string)
set_option maxRecDepth 100000
set_option linter.unusedVariables false

theorem partFetches_walk {w : World} (p : Prt) (vi vk vr : Value) (us : Nat → Value) (h : RdP w p vi vk vr us) (hf : p.fits) (r : Int) (_ : (Lit.int .i64 r).wf = true) :
    Calls Try.prog 8 #[.agg #[.int .i64 p.ep, .int .i64 p.ld, vi, vk, vr, .int .i64 p.fw, .int .i64 p.bs], .int .i64 r] w fun e w' => e = .returned (.bool true) ∧ Below w.heap.size w w' :=
  partFetches_core p r vi vk vr us w h hf

set_option maxRecDepth 100000 in
theorem partFetches_lifted (os : Os) (started : os.Started) (H : Type) (enc : TypeId × Value → H) :
    ReturnsInHanded {} Try.checked os 8 .any (Rows.partFetchesSpec.pre6 enc Try.prog Try.f8 Rows.partFetchesRow.domain false) (Rows.partFetchesSpec.post enc Try.prog Try.f8 false true false false) := by
  refine returnsInHanded_of_change_sized (C := Try.checked) own started (by kernel_rfl) Try.func8
    (ChangeSpec.witness6 (enc := enc) (C := Try.checked) false ⟨#[], #[.agg #[.int .i64 0, .int .i64 0, .slice none 0 0, .slice none 0 0, .slice none 0 0, .int .i64 0, .int .i64 0], .int .i64 0], []⟩ 8 (by kernel_rfl) (by kernel_rfl) (by kernel_rfl) (by kernel_rfl)) ?_
  intro W base args ds gs before hval0 hW hcnd hsz0 _
  have hval : ∀ (j : Nat) t v, Try.f8.params[j]? = some t → args[j]? = some v → Value.okWide Try.prog W .any base t v := hval0
  have hsz : (DataW.weightsEach Try.prog (Try.f8.params.toList ++ Rows.partFetchesSpec.plain.varTypes Try.prog) (ds ++ gs)).all (· ≤ reachBytes) = true := hsz0
  have hW' := hW
  obtain ⟨p, q, hA0, hV, rfl, hfz, hnd⟩ := hW
  have hA : DataW.TrodAll enc Try.prog W 0 (fun _ => true) true Try.f8.params.toList args.toList ds p := hA0
  rw [Try.params8] at hA hval hsz
  obtain ⟨v0, vs0, d0, ds0, p0, q0, hargs, rfl, rfl, h0, r0⟩ := trodAll_cons hA
  obtain ⟨v1, vs1, d1, ds1, p1, q1, rfl, rfl, rfl, h1, r1⟩ := trodAll_cons r0
  obtain ⟨rfl, rfl, rfl⟩ := trodAll_nil r1
  obtain rfl : args = #[v0, v1] := by cases args; simp_all
  obtain ⟨rfl, rfl⟩ := trodVars_none hV
  have k0 := h0
  have lt0 : ∀ x ∈ p0, x.block < W.heap.size := by obtain ⟨m, hm⟩ := k0; exact DataW.trod_lt m _ _ _ hm
  obtain ⟨P0, vi0, vk0, vr0, us0, rfl, hr0, hd0⟩ := open_part (hval 0 26 v0 rfl rfl) h0
  have hl0 : P0.fits := part_fits hd0 (part_reach hsz (j := 0) rfl rfl)
  have k1 := h1
  have lt1 : ∀ x ∈ p1, x.block < W.heap.size := by obtain ⟨m, hm⟩ := k1; exact DataW.trod_lt m _ _ _ hm
  obtain ⟨n1, rfl, rfl, rfl, wn1⟩ := open_int Try.underlying3 (hval 1 3 v1 rfl rfl) h1
  clear hA0 hval0 hsz0 hsz
  refine (partFetches_walk P0 vi0 vk0 vr0 us0 hr0 hl0 n1 wn1).mono fun e W' ⟨he, bel⟩ => ?_
  subst he
  exact ⟨_, rfl, _, _, _, [], _, [], hW', trodAll_mk1 (shut_bool Try.underlying4 _), (trodAll_cons_mk (Below.trod laidOut (by kernel_rfl) (of_decide_eq_true (by kernel_rfl)) k0 bel lt0) (trodAll_cons_mk (Below.trod laidOut (by kernel_rfl) (of_decide_eq_true (by kernel_rfl)) k1 bel lt1) trodAll_mk0)), rfl, bel.frame _, fun h => by cases h⟩

theorem partFetches_joined : joinedFacts Try.prog 8 Try.f8 Rows.partFetchesSpec Rows.partFetchesRow = true := by
  unfold joinedFacts
  simp only [Bool.and_eq_true]
  and_intros
  all_goals first | with_reducible exact joint_enter | ((with_reducible show (Rows.partFetchesRow.lifted == Try.prog.liftsFinal) = true); exact joint_lift) | ((with_reducible show (Try.prog.make == some Rows.partFetchesRow.make) = true); exact joint_make) | kernel_rfl

theorem partFetches_over : Rows.partFetchesRow.holds Try.pinned (OpenSpec.ofChange Rows.partFetchesSpec) :=
  OpenClaim.holds_of_wide 8 Try.f8 rfl rfl rfl rfl rfl rfl rfl ⟨rfl, rfl, rfl, rfl, rfl⟩ rfl rfl rfl rfl rfl (by kernel_rfl) Try.func8 partFetches_joined
    (of_decide_eq_true (by kernel_rfl)) (by unfold Func.isWrapper; first | (rw [if_pos (by decide +kernel)]; kernel_rfl) | (rw [if_neg (by decide +kernel)]; exact ⟨rfl, rfl⟩))
    (fun os started H enc _ => partFetches_lifted os started H enc)

theorem partFetches_holds : Rows.PartFetchesSaid := partFetches_over
#print axioms partFetches_holds

end Go.Proofs.Ytkolelpdedmkeaa
