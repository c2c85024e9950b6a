/-
  coord.Next answers what the document says (P5.6), at every argument; nothing is assumed.
-/
import Derived.Test.YtjhpfnogdjpbmaaOpenC
import Derived.Test.YtjhpfnogdjpbmaaChold
import Derived.Test.YtjhpfnogdjpbmaaCnextd
namespace Go.Proofs.Ytjhpfnogdjpbmaa
open Go.ChangeShapes Go.WideShapes Go.ChangeAt Go.RowKit
open Go.ChangeMaps (open_string shut_string)
set_option maxRecDepth 100000
set_option linter.unusedVariables false

set_option maxRecDepth 100000 in
set_option maxHeartbeats 2000000 in
theorem coordNext_walk {w : World} (c : Crd) (vt : Value) (us : Nat → Value) (h : RdC w c vt us) (hf : c.fits) (n : Int) (wn : (Lit.int .i64 n).wf = true) :
    Calls Try.prog 9 #[.agg #[.int .i64 c.ck, .int .i64 c.nx, .int .i64 c.wt, vt], .int .i64 n] w fun e w' => e = .returned (.bool true) ∧ Below w.heap.size w w' := by
  obtain ⟨av, cv, rfl, _, _⟩ := h.shape
  have HR : Hid (∀ W, Below w.heap.size w W → RdC W c (.slice av c.ts.length cv) us) := fun W hW => h.below (Nat.le_refl _) hW
  have HF : Hid c.fits := hf
  have HC0 : Hid (Hold (w.alloc (.cells #[.int .i64 c.ck, .int .i64 c.nx, .int .i64 c.wt, .slice av c.ts.length cv] 24)) w.heap.size c (.slice av c.ts.length cv) us) := hold_new h
  have HB0 : Hid (Below w.heap.size w (w.alloc (.cells #[.int .i64 c.ck, .int .i64 c.nx, .int .i64 c.wt, .slice av c.ts.length cv] 24))) := bbox w _
  clear h hf
  go_enter Try.func9, Try.ntmps9
  go_wp2_with fail
  refine (next_any c n _ us _ (HR.out _ HB0.out) HF.out.n).mono ?_
  rintro e w1 ⟨rfl, hb1⟩
  obtain ⟨⟨nm, p, pid, ver, kd, tx, er⟩, hX⟩ : ∃ x, c.nextP n = x := ⟨_, rfl⟩
  have HXX : Hid (c.nextP n = (nm, p, pid, ver, kd, tx, er)) := hX
  rw [hX]
  unfold nextV entV
  simp only
  have HB1 : Hid (Below w.heap.size w (w1.alloc (.cells #[.int .i64 0, .int .i64 pid, .int .i64 ver, .int .i64 0, .int .i64 kd, .bool tx, .string ⟨#[]⟩] 41))) := bstep (bstep HB0.out hb1) (bbox _ _)
  have HC1 : Hid (Hold (w1.alloc (.cells #[.int .i64 0, .int .i64 pid, .int .i64 ver, .int .i64 0, .int .i64 kd, .bool tx, .string ⟨#[]⟩] 41)) w.heap.size c _ us) := HC0.out.below (bstep hb1 (bbox _ _))
  have HE1 : Hid (EB (w1.alloc (.cells #[.int .i64 0, .int .i64 pid, .int .i64 ver, .int .i64 0, .int .i64 kd, .bool tx, .string ⟨#[]⟩] 41)) w1.heap.size pid ver kd tx) := eb_new w1 _ _ _ _ _ rfl
  obtain ⟨s1, ⟨a0, a1, a2, a3⟩, f1⟩ := (HC0.out.below hb1).1
  clear hb1 hX
  go_wp2_with fail
  generalize (w1.alloc (.cells #[.int .i64 0, .int .i64 pid, .int .i64 ver, .int .i64 0, .int .i64 kd, .bool tx, .string ⟨#[]⟩] 41)) = W1 at *
  generalize w1.heap.size = x1 at *
  refine (nextOf_any c n _ us _ (HR.out _ HB1.out) HF.out.n).mono ?_
  rintro e w2 ⟨rfl, hb2⟩
  rw [HXX.out]
  unfold nextV entV
  simp only
  have HB2 : Hid (Below w.heap.size w (w2.alloc (.cells #[.int .i64 0, .int .i64 pid, .int .i64 ver, .int .i64 0, .int .i64 kd, .bool tx, .string ⟨#[]⟩] 41))) := bstep (bstep HB1.out hb2) (bbox _ _)
  have he2 := (HE1.out.below hb2)
  obtain ⟨z1, ⟨e0, e1, e2, e3, e4, e5, e6⟩, g1⟩ := he2
  have t1 : (p == p) = true := by simp
  have t2 : (er == er) = true := by simp
  have t3 : (pid == pid) = true := by simp
  have t4 : (ver == ver) = true := by simp
  have t5 : (kd == kd) = true := by simp
  have t6 : (tx == tx) = true := by simp
  clear hb2 s1 a0 a1 a2 a3 f1
  go_wp2
  go_ret
  exact ⟨rfl, HB2.out⟩


set_option maxRecDepth 100000 in
theorem coordNext_lifted (os : Os) (started : os.Started) (H : Type) (enc : TypeId × Value → H) :
    ReturnsInHanded {} Try.checked os 9 .any (Rows.coordNextSpec.pre6 enc Try.prog Try.f9 Rows.coordNextRow.domain false) (Rows.coordNextSpec.post enc Try.prog Try.f9 false true false false) := by
  refine returnsInHanded_of_change_sized (C := Try.checked) own started (by kernel_rfl) Try.func9
    (ChangeSpec.witness6 (enc := enc) (C := Try.checked) false ⟨#[], #[.agg #[.int .i64 0, .int .i64 0, .int .i64 0, .slice none 0 0], .int .i64 0], []⟩ 8 (by kernel_rfl) (by kernel_rfl) (by kernel_rfl) (by kernel_rfl)) ?_
  intro W base args ds gs before hval0 hW hcnd hsz0 _
  have hval : ∀ (j : Nat) t v, Try.f9.params[j]? = some t → args[j]? = some v → Value.okWide Try.prog W .any base t v := hval0
  have hsz : (DataW.weightsEach Try.prog (Try.f9.params.toList ++ Rows.coordNextSpec.plain.varTypes Try.prog) (ds ++ gs)).all (· ≤ reachBytes) = true := hsz0
  have hW' := hW
  obtain ⟨p, q, hA0, hV, rfl, hfz, hnd⟩ := hW
  have hA : DataW.TrodAll enc Try.prog W 0 (fun _ => true) true Try.f9.params.toList args.toList ds p := hA0
  rw [Try.params9] at hA hval hsz
  obtain ⟨v0, vs0, d0, ds0, p0, q0, hargs, rfl, rfl, h0, r0⟩ := trodAll_cons hA
  obtain ⟨v1, vs1, d1, ds1, p1, q1, rfl, rfl, rfl, h1, r1⟩ := trodAll_cons r0
  obtain ⟨rfl, rfl, rfl⟩ := trodAll_nil r1
  obtain rfl : args = #[v0, v1] := by cases args; simp_all
  obtain ⟨rfl, rfl⟩ := trodVars_none hV
  have k0 := h0
  have lt0 : ∀ x ∈ p0, x.block < W.heap.size := by obtain ⟨m, hm⟩ := k0; exact DataW.trod_lt m _ _ _ hm
  obtain ⟨C0, vt0, us0, rfl, hr0, hs0, hw0, hd0⟩ := open_coord (hval 0 24 v0 rfl rfl) h0
  have hl0 : C0.fits := coord_fits hd0 (coord_reach hsz (j := 0) rfl rfl) hs0
  have k1 := h1
  have lt1 : ∀ x ∈ p1, x.block < W.heap.size := by obtain ⟨m, hm⟩ := k1; exact DataW.trod_lt m _ _ _ hm
  obtain ⟨n1, rfl, rfl, rfl, wn1⟩ := open_int Try.underlying3 (hval 1 3 v1 rfl rfl) h1
  clear hA0 hval0 hsz0 hsz
  refine (coordNext_walk C0 vt0 us0 hr0 hl0 n1 wn1).mono fun e W' ⟨he, bel⟩ => ?_
  subst he
  exact ⟨_, rfl, _, _, _, [], _, [], hW', trodAll_mk1 (shut_bool Try.underlying4 _), (trodAll_cons_mk (Below.trod laidOut (by kernel_rfl) (of_decide_eq_true (by kernel_rfl)) k0 bel lt0) (trodAll_cons_mk (Below.trod laidOut (by kernel_rfl) (of_decide_eq_true (by kernel_rfl)) k1 bel lt1) trodAll_mk0)), rfl, bel.frame _, fun h => by cases h⟩

theorem coordNext_over : Rows.coordNextRow.holds Try.pinned (OpenSpec.ofChange Rows.coordNextSpec) :=
  OpenClaim.holds_of_wide 9 Try.f9 rfl rfl rfl rfl rfl rfl rfl ⟨rfl, rfl, rfl, rfl, rfl⟩ rfl rfl rfl rfl rfl (by kernel_rfl) Try.func9 (by kernel_rfl)
    (of_decide_eq_true (by kernel_rfl)) (by unfold Func.isWrapper; first | (rw [if_pos (by decide +kernel)]; kernel_rfl) | (rw [if_neg (by decide +kernel)]; exact ⟨rfl, rfl⟩))
    (fun os started H enc _ => coordNext_lifted os started H enc)

theorem coordNext_holds : Rows.CoordNextSaid := coordNext_over
#print axioms coordNext_holds

end Go.Proofs.Ytjhpfnogdjpbmaa
