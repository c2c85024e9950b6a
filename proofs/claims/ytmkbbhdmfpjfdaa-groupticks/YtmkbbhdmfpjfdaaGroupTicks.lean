/-
  group.Tick answers what the document says (P6.7), at every argument; nothing is assumed.
-/
import Derived.Test.YtmkbbhdmfpjfdaaOpenGr
import Derived.Test.YtmkbbhdmfpjfdaaGtick2
namespace Go.Proofs.Ytmkbbhdmfpjfdaa
open Go.ChangeShapes Go.WideShapes Go.ChangeAt Go.RowKit
open Go.ChangeMaps (open_string shut_string)
set_option maxRecDepth 100000
set_option linter.unusedVariables false

set_option maxRecDepth 100000 in
set_option maxHeartbeats 2000000 in
theorem groupTicks_walk {w : World} (g : Grp) (vm vo : Value) (us : Nat → Value) (h : RdG w g vm vo us) (hf : g.fits) (n : Int) (wn : (Lit.int .i64 n).wf = true) (p : Int) (wp : (Lit.int .i64 p).wf = true) :
    Calls Try.prog 12 #[.agg #[.int .i64 g.ck, .int .i64 g.wt, .int .i64 g.gn, vm, vo], .int .i64 n, .int .i64 p] w fun e w' => e = .returned (.bool true) ∧ Below w.heap.size w w' := by
  obtain ⟨av, cv, rfl, _, _⟩ := h.m.shape
  obtain ⟨ao, co, rfl, _, _⟩ := h.o.shape
  have HR : Hid (∀ W, Below w.heap.size w W → RdG W g (.slice av g.ms.length cv) (.slice ao g.os.length co) us) := fun W hW => h.below (Nat.le_refl _) hW
  have HF : Hid g.fits := hf
  have HC0 : Hid (HoldG (w.alloc (.cells #[.int .i64 g.ck, .int .i64 g.wt, .int .i64 g.gn, .slice av g.ms.length cv, .slice ao g.os.length co] 25)) w.heap.size g (.slice av g.ms.length cv) (.slice ao g.os.length co) us) := holdg_new h
  have HB0 : Hid (Below w.heap.size w (w.alloc (.cells #[.int .i64 g.ck, .int .i64 g.wt, .int .i64 g.gn, .slice av g.ms.length cv, .slice ao g.os.length co] 25))) := bbox w _
  clear h hf
  go_enter Try.func12, Try.ntmps12
  go_wp2_with fail
  refine (groupCopy_any g _ _ us _ (HR.out _ HB0.out) HF.out).mono ?_
  rintro e w1 ⟨v1, o1, us1, rfl, hf1, hb1⟩
  obtain ⟨k1, kc, rfl⟩ := hf1.m.o.shape
  obtain ⟨l1, lc, rfl⟩ := hf1.o.o.shape
  have t1 := bstep hb1 (bbox w1 (.cells #[.int .i64 g.ck, .int .i64 g.wt, .int .i64 g.gn, .slice k1 g.ms.length kc, .slice l1 g.os.length lc] 25))
  have HB1 : Hid (Below w.heap.size w _) := bstep HB0.out t1
  have HC1 : Hid (HoldG _ w.heap.size g _ _ us) := HC0.out.below t1
  have HK1 : Hid (HoldG _ w1.heap.size g _ _ us1) := holdg_new hf1.rd
  obtain ⟨s1, ⟨a0, a1, a2, a3, a4⟩, f1⟩ := (HC0.out.below hb1).1
  clear hb1 hf1 t1
  go_wp2_with fail
  refine (gtick_any g n p _ _ us1 _ HK1.out.2 HF.out).mono ?_
  rintro e w2 ⟨v2, o2, us2, rfl, hf2, hb2⟩
  obtain ⟨⟨d, er⟩, hX⟩ : ∃ x, g.tick n p = x := ⟨_, rfl⟩
  have HXX : Hid (g.tick n p = (d, er)) := hX
  rw [hX] at hf2 ⊢
  obtain ⟨k2, c2, rfl⟩ := hf2.m.o.shape
  obtain ⟨l2, lc2, rfl⟩ := hf2.o.o.shape
  generalize (w1.alloc (.cells #[.int .i64 g.ck, .int .i64 g.wt, .int .i64 g.gn, .slice k1 g.ms.length kc, .slice l1 g.os.length lc] 25)) = W1 at *
  generalize w1.heap.size = x1 at *
  have t2 := bstep hb2 (bbox w2 (.cells #[.int .i64 d.ck, .int .i64 d.wt, .int .i64 d.gn, .slice k2 d.ms.length c2, .slice l2 d.os.length lc2] 25))
  have HB2 : Hid (Below w.heap.size w _) := bstep HB1.out t2
  have HC2 : Hid (HoldG _ w.heap.size g _ _ us) := HC1.out.below t2
  have HK2 : Hid (HoldG _ x1 g _ _ us1) := HK1.out.below t2
  have HA2 : Hid (HoldG _ w2.heap.size d _ _ us2) := holdg_new hf2.rd
  clear s1 a0 a1 a2 a3 a4 f1
  obtain ⟨s1, ⟨a0, a1, a2, a3, a4⟩, f1⟩ := (HC1.out.below hb2).1
  clear hb2 hf2 hX t2
  go_wp2_with fail
  refine (groupTick_any g n p _ _ us _ HC2.out.2 HF.out).mono ?_
  rintro e w3 ⟨v3, o3, us3, rfl, hf3, hb3⟩
  rw [HXX.out] at hf3 ⊢
  obtain ⟨k3, c3, rfl⟩ := hf3.m.o.shape
  obtain ⟨l3, lc3, rfl⟩ := hf3.o.o.shape
  generalize (w2.alloc (.cells #[.int .i64 d.ck, .int .i64 d.wt, .int .i64 d.gn, .slice k2 d.ms.length c2, .slice l2 d.os.length lc2] 25)) = W2 at *
  generalize w2.heap.size = x2 at *
  have t3 := bstep hb3 (bbox w3 (.cells #[.int .i64 d.ck, .int .i64 d.wt, .int .i64 d.gn, .slice k3 d.ms.length c3, .slice l3 d.os.length lc3] 25))
  have HB3 : Hid (Below w.heap.size w _) := bstep HB2.out t3
  have HC3 : Hid (HoldG _ w.heap.size g _ _ us) := HC2.out.below t3
  have HK3 : Hid (HoldG _ x1 g _ _ us1) := HK2.out.below t3
  have HA3 : Hid (HoldG _ x2 d _ _ us2) := HA2.out.below t3
  have HD3 : Hid (HoldG _ w3.heap.size d _ _ us3) := holdg_new hf3.rd
  clear s1 a0 a1 a2 a3 a4 f1
  obtain ⟨s1, ⟨a0, a1, a2, a3, a4⟩, f1⟩ := (HA2.out.below hb3).1
  have hee : (er == er) = true := by simp
  clear hb3 hf3 t3
  go_wp2_with fail
  refine (sameGroup_same d _ _ _ _ us2 us3 _ HA3.out.2 HD3.out.2).mono ?_
  rintro e w4 ⟨rfl, hb4⟩
  have HB4 : Hid (Below w.heap.size w w4) := bstep HB3.out hb4
  have HC4 : Hid (HoldG w4 w.heap.size g _ _ us) := HC3.out.below hb4
  have HK4 : Hid (HoldG w4 x1 g _ _ us1) := HK3.out.below hb4
  clear s1 a0 a1 a2 a3 a4 f1
  obtain ⟨s1, ⟨a0, a1, a2, a3, a4⟩, f1⟩ := HC4.out.1
  obtain ⟨z1, ⟨e0, e1, e2, e3, e4⟩, g1⟩ := HK4.out.1
  clear hb4
  go_wp2_with fail
  refine (sameGroup_same g _ _ _ _ us1 us _ HK4.out.2 HC4.out.2).mono ?_
  rintro e w5 ⟨rfl, hb5⟩
  have HB5 : Hid (Below w.heap.size w w5) := bstep HB4.out hb5
  clear hb5 s1 a0 a1 a2 a3 a4 f1 z1 e0 e1 e2 e3 e4 g1
  go_wp2
  go_ret
  exact ⟨rfl, HB5.out⟩


set_option maxRecDepth 100000 in
theorem groupTicks_lifted (os : Os) (started : os.Started) (H : Type) (enc : TypeId × Value → H) :
    ReturnsInHanded {} Try.checked os 12 .any (Rows.groupTicksSpec.pre6 enc Try.prog Try.f12 Rows.groupTicksRow.domain false) (Rows.groupTicksSpec.post enc Try.prog Try.f12 false true false false) := by
  refine returnsInHanded_of_change_sized (C := Try.checked) own started (by kernel_rfl) Try.func12
    (ChangeSpec.witness6 (enc := enc) (C := Try.checked) false ⟨#[], #[.agg #[.int .i64 0, .int .i64 0, .int .i64 0, .slice none 0 0, .slice none 0 0], .int .i64 0, .int .i64 0], []⟩ 8 (by kernel_rfl) (by kernel_rfl) (by kernel_rfl) (by kernel_rfl)) ?_
  intro W base args ds gs before hval0 hW hcnd hsz0 _
  have hval : ∀ (j : Nat) t v, Try.f12.params[j]? = some t → args[j]? = some v → Value.okWide Try.prog W .any base t v := hval0
  have hsz : (DataW.weightsEach Try.prog (Try.f12.params.toList ++ Rows.groupTicksSpec.plain.varTypes Try.prog) (ds ++ gs)).all (· ≤ reachBytes) = true := hsz0
  have hW' := hW
  obtain ⟨p, q, hA0, hV, rfl, hfz, hnd⟩ := hW
  have hA : DataW.TrodAll enc Try.prog W 0 (fun _ => true) true Try.f12.params.toList args.toList ds p := hA0
  rw [Try.params12] at hA hval hsz
  obtain ⟨v0, vs0, d0, ds0, p0, q0, hargs, rfl, rfl, h0, r0⟩ := trodAll_cons hA
  obtain ⟨v1, vs1, d1, ds1, p1, q1, rfl, rfl, rfl, h1, r1⟩ := trodAll_cons r0
  obtain ⟨v2, vs2, d2, ds2, p2, q2, rfl, rfl, rfl, h2, r2⟩ := trodAll_cons r1
  obtain ⟨rfl, rfl, rfl⟩ := trodAll_nil r2
  obtain rfl : args = #[v0, v1, v2] := by cases args; simp_all
  obtain ⟨rfl, rfl⟩ := trodVars_none hV
  have k0 := h0
  have lt0 : ∀ x ∈ p0, x.block < W.heap.size := by obtain ⟨m, hm⟩ := k0; exact DataW.trod_lt m _ _ _ hm
  obtain ⟨G0, vm0, vo0, us0, rfl, hr0, hs0, hw0, hd0⟩ := open_group (hval 0 25 v0 rfl rfl) h0
  have hl0 : G0.fits := group_fits hd0 (group_reach hsz (j := 0) rfl rfl) hs0
  have k1 := h1
  have lt1 : ∀ x ∈ p1, x.block < W.heap.size := by obtain ⟨m, hm⟩ := k1; exact DataW.trod_lt m _ _ _ hm
  obtain ⟨n1, rfl, rfl, rfl, wn1⟩ := open_int Try.underlying3 (hval 1 3 v1 rfl rfl) h1
  have k2 := h2
  have lt2 : ∀ x ∈ p2, x.block < W.heap.size := by obtain ⟨m, hm⟩ := k2; exact DataW.trod_lt m _ _ _ hm
  obtain ⟨n2, rfl, rfl, rfl, wn2⟩ := open_int Try.underlying3 (hval 2 3 v2 rfl rfl) h2
  clear hA0 hval0 hsz0 hsz
  refine (groupTicks_walk G0 vm0 vo0 us0 hr0 hl0 n1 wn1 n2 wn2).mono fun e W' ⟨he, bel⟩ => ?_
  subst he
  exact ⟨_, rfl, _, _, _, [], _, [], hW', trodAll_mk1 (shut_bool Try.underlying4 _), (trodAll_cons_mk (Below.trod laidOut (by kernel_rfl) (of_decide_eq_true (by kernel_rfl)) k0 bel lt0) (trodAll_cons_mk (Below.trod laidOut (by kernel_rfl) (of_decide_eq_true (by kernel_rfl)) k1 bel lt1) (trodAll_cons_mk (Below.trod laidOut (by kernel_rfl) (of_decide_eq_true (by kernel_rfl)) k2 bel lt2) trodAll_mk0))), rfl, bel.frame _, fun h => by cases h⟩

theorem groupTicks_over : Rows.groupTicksRow.holds Try.pinned (OpenSpec.ofChange Rows.groupTicksSpec) :=
  OpenClaim.holds_of_wide 12 Try.f12 rfl rfl rfl rfl rfl rfl rfl ⟨rfl, rfl, rfl, rfl, rfl⟩ rfl rfl rfl rfl rfl (by kernel_rfl) Try.func12 (by kernel_rfl)
    (of_decide_eq_true (by kernel_rfl)) (by unfold Func.isWrapper; first | (rw [if_pos (by decide +kernel)]; kernel_rfl) | (rw [if_neg (by decide +kernel)]; exact ⟨rfl, rfl⟩))
    (fun os started H enc _ => groupTicks_lifted os started H enc)

theorem groupTicks_holds : Rows.GroupTicksSaid := groupTicks_over
#print axioms groupTicks_holds

end Go.Proofs.Ytmkbbhdmfpjfdaa
