/-
  wire.Encode answers what the document's EntryBytes answers, at every entry: the same bytes and the same number; nothing is assumed.
-/
import Derived.Test.YtknipikmbfdcnaaOpen
import Derived.Test.YtknipikmbfdcnaaAwire
namespace Go.Proofs.Ytknipikmbfdcnaa
open Go.ChangeShapes Go.WideShapes Go.ChangeAt Go.RowKit
open Go.ChangeMaps (open_string shut_string)
set_option linter.unusedVariables false

set_option maxRecDepth 100000 in
set_option maxHeartbeats 1000000 in
theorem wireEncodes_bad (a b c d k : Int) (t : Bool) (s : ByteArray) (w : World) (r : Int) (hr : flt a b c d k t s.size = r) (h0 : (r != 0) = true) :
    Calls Try.prog 4 #[.agg #[.int .i64 a, .int .i64 b, .int .i64 c, .int .i64 d, .int .i64 k, .bool t, .string s]] w fun e w' => e = .returned (.bool true) ∧ Below w.heap.size w w' := by
  have H1 : Hid (∀ w, _) := fun w => encode_bad a b c d k t s w r hr h0
  have H2 : Hid (∀ w, _) := fun w => bytes_bad a b c d k t s w r hr h0
  have c1 := fun w => conv_str (w := w) (v := .slice none 0 0) (l := []) (own_nil 0 w (Nat.zero_le _)).rd
  clear hr h0
  go_enter Try.func4, Try.ntmps4
  go_wp2_with fail
  refine (H1.out _).mono ?_
  rintro e w1 ⟨rfl, hb1⟩
  have hcell1 := box_cells (by simpa using hb1)
  have hb1' := bstep (bbox _ _) hb1
  clear hb1 H1
  go_wp2_with fail
  refine (H2.out _).mono ?_
  rintro e w2 ⟨rfl, hb2⟩
  have hb2' := bstep hb1' hb2
  clear hb2 H2 hb1' hcell1
  go_wp2_with fail
  go_ret
  exact ⟨rfl, hb2'⟩

set_option maxRecDepth 100000 in
set_option maxHeartbeats 1000000 in
theorem wireEncodes_ok (a b c d k : Int) (t : Bool) (s : ByteArray) (w : World) (hr : flt a b c d k t s.size = 0) :
    Calls Try.prog 4 #[.agg #[.int .i64 a, .int .i64 b, .int .i64 c, .int .i64 d, .int .i64 k, .bool t, .string s]] w fun e w' => e = .returned (.bool true) ∧ Below w.heap.size w w' := by
  have H1 : Hid (∀ w, _) := fun w => encode_ok a b c d k t s w hr
  have H2 : Hid (∀ w, _) := fun w => bytes_ok a b c d k t s w hr
  clear hr
  generalize encL a b c d k t s = L at *
  go_enter Try.func4, Try.ntmps4
  go_wp2_with fail
  refine (H1.out _).mono ?_
  rintro e w1 ⟨v1, rfl, hv1, hb1⟩
  have hcell1 := box_cells (by simpa using hb1)
  have hb1' := bstep (bbox _ _) hb1
  clear hb1 H1
  go_wp2_with fail
  refine (H2.out _).mono ?_
  rintro e w2 ⟨v2, rfl, hv2, hb2⟩
  have hb2' := bstep hb1' hb2
  have c1 := conv_str (hv1.rd.below (Nat.le_refl _) hb2)
  have c2 := conv_str hv2.rd
  clear hb2 H2 hb1' hcell1 hv1 hv2
  go_wp2_with fail
  go_ret
  exact ⟨rfl, hb2'⟩

theorem wireEncodes_walk (a b c d k : Int) (t : Bool) (s : ByteArray) (w : World) :
    Calls Try.prog 4 #[.agg #[.int .i64 a, .int .i64 b, .int .i64 c, .int .i64 d, .int .i64 k, .bool t, .string s]] w fun e w' => e = .returned (.bool true) ∧ Below w.heap.size w w' := by
  by_cases h : flt a b c d k t s.size = 0
  · exact wireEncodes_ok a b c d k t s w h
  · exact wireEncodes_bad a b c d k t s w _ rfl (by simp [h])

set_option maxRecDepth 100000 in
theorem wireEncodes_lifted (os : Os) (started : os.Started) (H : Type) (enc : TypeId × Value → H) :
    ReturnsInHanded {} Try.checked os 4 .any (Rows.wireEncodesSpec.pre6 enc Try.prog Try.f4 Rows.wireEncodesRow.domain false) (Rows.wireEncodesSpec.post enc Try.prog Try.f4 false true false false) := by
  refine returnsInHanded_of_change (C := Try.checked) own started (by kernel_rfl) Try.func4
    (ChangeSpec.witness6 (enc := enc) (C := Try.checked) false ⟨#[], #[.agg #[.int .i64 0, .int .i64 0, .int .i64 0, .int .i64 0, .int .i64 0, .bool false, .string ByteArray.empty]], []⟩ 8 (by kernel_rfl) (by kernel_rfl) (by kernel_rfl) (by kernel_rfl)) ?_
  intro W base args ds gs before hval0 hW hcnd _
  have hval : ∀ (j : Nat) t v, Try.f4.params[j]? = some t → args[j]? = some v → Value.okWide Try.prog W .any base t v := hval0
  have hW' := hW
  obtain ⟨p, q, hA0, hV, rfl, hfz, hnd⟩ := hW
  have hA : DataW.TrodAll enc Try.prog W 0 (fun _ => true) true Try.f4.params.toList args.toList ds p := hA0
  rw [Try.params4] at hA hval
  obtain ⟨v0, vs0, d0, ds0, p0, q0, hargs, rfl, rfl, h0, r0⟩ := trodAll_cons hA
  obtain ⟨rfl, rfl, rfl⟩ := trodAll_nil r0
  obtain rfl : args = #[v0] := by cases args; simp_all
  obtain ⟨rfl, rfl⟩ := trodVars_none hV
  have k0 := h0
  have lt0 : ∀ x ∈ p0, x.block < W.heap.size := by obtain ⟨m, hm⟩ := k0; exact DataW.trod_lt m _ _ _ hm
  obtain ⟨a0, b0, c0, d0, k0k, t0, s0, rfl, _⟩ := open_entry (hval 0 23 v0 rfl rfl) h0
  clear hA0 hval0
  refine (wireEncodes_walk a0 b0 c0 d0 k0k t0 s0 W).mono fun e W' ⟨he, bel⟩ => ?_
  subst he
  exact ⟨_, rfl, _, _, _, [], _, [], hW', trodAll_mk1 (shut_bool Try.underlying4 _), (trodAll_cons_mk (Below.trod laidOut (by kernel_rfl) (of_decide_eq_true (by kernel_rfl)) k0 bel lt0) trodAll_mk0), rfl, bel.frame _, fun h => by cases h⟩

theorem wireEncodes_over : Rows.wireEncodesRow.holds Try.pinned (OpenSpec.ofChange Rows.wireEncodesSpec) :=
  OpenClaim.holds_of_wide 4 Try.f4 rfl rfl rfl rfl rfl rfl rfl ⟨rfl, rfl, rfl, rfl, rfl⟩ rfl rfl rfl rfl rfl (by kernel_rfl) Try.func4 (by kernel_rfl)
    (of_decide_eq_true (by kernel_rfl)) (by unfold Func.isWrapper; first | (rw [if_pos (by decide +kernel)]; kernel_rfl) | (rw [if_neg (by decide +kernel)]; exact ⟨rfl, rfl⟩))
    (fun os started H enc _ => wireEncodes_lifted os started H enc)

theorem wireEncodes_holds : Rows.WireEncodesSaid := wireEncodes_over
#print axioms wireEncodes_holds

end Go.Proofs.Ytknipikmbfdcnaa
