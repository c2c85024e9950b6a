/-
  Whatever is done a coordinator stays one that may be: the walk.
-/
import Derived.Test.YtjhpfnogdjpbmaaCplayw
import Derived.Test.YtjhpfnogdjpbmaaChold
namespace Go.Proofs.Ytjhpfnogdjpbmaa
open Go.RowKit
set_option linter.unusedVariables false
set_option linter.unusedSimpArgs false

theorem rdC_nil0 (w : World) : RdC w Crd.zero (.slice none 0 0) (fun _ => .slice none 0 0) :=
  FreshC.rd (freshC_nil' _ rfl (Nat.le_refl _))
theorem small_nilC : Crd.zero.small := by
  intro t ht
  simp [Crd.zero] at ht

set_option maxRecDepth 100000 in
set_option maxHeartbeats 2000000 in
theorem coordGood_core (rs : List Raw4) (v : Value) (w : World) (hl : (rs.length : Int) ≤ 9223372036854775807) (h : RdR w v rs) :
    Calls Try.prog 12 #[v] w fun e w' => e = .returned (.bool true) ∧ Below w.heap.size w w' := by
  go_enter Try.func12, Try.ntmps12
  go_wp2_with fail
  refine (coordinated_any rs 60 v _ h hl (by omega)).mono ?_
  rintro e w1 ⟨c, vt, us, rfl, hC, hr1, hb1⟩
  obtain ⟨k1, q1, rfl⟩ : ∃ k q, vt = .slice k c.ts.length q := by obtain ⟨k, q, e, _⟩ := hr1.shape; exact ⟨k, q, e⟩
  have HM : Hid (MayC c) := hC.m
  have HF : Hid c.fits := mayC_fits hC.m
  have HB2 : Hid (Below w.heap.size w (w1.alloc (.cells #[.int .i64 c.ck, .int .i64 c.nx, .int .i64 c.wt, .slice k1 c.ts.length q1] 24))) := bstep hb1 (bbox _ _)
  have HC2 : Hid (Hold (w1.alloc (.cells #[.int .i64 c.ck, .int .i64 c.nx, .int .i64 c.wt, .slice k1 c.ts.length q1] 24)) w1.heap.size c (.slice k1 c.ts.length q1) us) := hold_new hr1
  clear hC hr1 hb1
  go_upto_region 2 with fail
  generalize w1.alloc (.cells #[.int .i64 c.ck, .int .i64 c.nx, .int .i64 c.wt, .slice k1 c.ts.length q1] 24) = W2 at *
  generalize w1.heap.size = b at *
  obtain ⟨s1, ⟨a0, a1, a2, a3⟩, f1⟩ := HC2.out.1
  go_wp2_with fail
  refine (ccheck_any c _ us _ HC2.out.2 HF.out.n).mono ?_
  rintro e w3 ⟨rfl, hb3⟩
  rw [ccfl_yes (mayC_iff.2 HM.out)]
  have HB3 : Hid (Below w.heap.size w w3) := bstep HB2.out hb3
  have HC3 : Hid (Hold w3 b c _ us) := HC2.out.below hb3
  clear s1 a0 a1 a2 a3 f1 hb3
  obtain ⟨s1, ⟨a0, a1, a2, a3⟩, f1⟩ := HC3.out.1
  go_wp2_with fail
  refine (ccopy_any c _ us _ HC3.out.2 HF.out).mono ?_
  rintro e w4 ⟨v4, us4, rfl, hf4, hb4⟩
  have HB4 : Hid (Below w.heap.size w w4) := bstep HB3.out hb4
  have HR4 : Hid (RdC w4 c v4 us4) := hf4.rd
  clear s1 a0 a1 a2 a3 f1 hb4 hf4
  go_wp2_with fail
  refine (ccheck_any c _ us4 _ HR4.out HF.out.n).mono ?_
  rintro e w5 ⟨rfl, hb5⟩
  rw [ccfl_yes (mayC_iff.2 HM.out)]
  have HB5 : Hid (Below w.heap.size w w5) := bstep HB4.out hb5
  clear hb5
  go_wp2_with fail
  refine (ccheck_any Crd.zero _ _ _ (rdC_nil0 _) small_nilC).mono ?_
  rintro e w6 ⟨rfl, hb6⟩
  rw [show Crd.zero.cfl = 12 from rfl]
  have HB6 : Hid (Below w.heap.size w w6) := bstep HB5.out hb6
  clear hb6
  go_wp2
  go_ret
  exact ⟨rfl, HB6.out⟩

end Go.Proofs.Ytjhpfnogdjpbmaa
