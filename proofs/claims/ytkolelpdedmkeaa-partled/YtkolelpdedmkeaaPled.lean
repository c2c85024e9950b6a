/-
  Without a leader nothing is put, read or fetched; who does not keep up does not lead: the walk.
-/
import Derived.Test.YtkolelpdedmkeaaPfew
import Derived.Test.YtkolelpdedmkeaaPopF
import Derived.Test.YtkolelpdedmkeaaPopS
import Derived.Test.YtkolelpdedmkeaaPopD
namespace Go.Proofs.Ytkolelpdedmkeaa
open Go.RowKit
set_option linter.unusedVariables false
set_option linter.unusedSimpArgs false

def ledP (k : Nat) : Prt := (newP k 1).1
def ledE (k : Nat) : Prt := ((ledP k).electP 0).1
def ledQ (k i : Nat) : Prt := ((ledE k).shrinkP i).1
def ledS (k : Nat) : Prt := ((ledE k).crashP 0 0).1
def ledT (k i : Nat) : Prt := ((ledS k).electP i).1
theorem led_one : ∀ k : Fin 6, ∀ i : Fin 5, 2 ≤ k.val → 1 ≤ i.val → i.val < k.val →
    (newP k.val 1).2 = 0 ∧ ((ledP k.val).putP eD).2.2 = 8 ∧ ((ledP k.val).fetchP i.val).2.2 = 8 ∧ ((ledP k.val).readP 0 1).2.2 = 8 ∧ ((ledP k.val).electP 0).2 = 0 ∧ ((ledE k.val).shrinkP i.val).2 = 0 ∧ ((ledQ k.val i.val).electP i.val).2 = 13 ∧ ((ledE k.val).electP 0).2 = 6 ∧ ((ledE k.val).electP k.val).2 = 5 ∧ ((ledE k.val).crashP 0 0).2 = 0 ∧ ((ledS k.val).electP 0).2 = 7 ∧ ((ledS k.val).electP i.val).2 = 0 ∧ (ledS k.val).ld = -1 ∧ (ledT k.val i.val).ld = i.val ∧ (ledT k.val i.val).ep = 2 := by
  decide +kernel
theorem pair2 {α β : Type} {x : α × β} {b : β} (h : x.2 = b) : ∃ a, x = (a, b) ∧ x.1 = a := ⟨x.1, Prod.ext rfl h, rfl⟩
theorem pair3 {α β γ : Type} {x : α × β × γ} {c : γ} (h : x.2.2 = c) : ∃ a b, x = (a, b, c) := ⟨x.1, x.2.1, Prod.ext rfl (Prod.ext rfl h)⟩

set_option maxRecDepth 100000 in
set_option maxHeartbeats 4000000 in
theorem partLed_core (n r : Int) (w : World) (hn : -9223372036854775808 ≤ n ∧ n ≤ 9223372036854775807) (hf : -9223372036854775808 ≤ r ∧ r ≤ 9223372036854775807) :
    Calls Try.prog 22 #[.int .i64 n, .int .i64 r] w fun e w' => e = .returned (.bool true) ∧ Below w.heap.size w w' := by
  have hpn := pick_bd n 4 (by omega)
  obtain ⟨k, hk⟩ := Int.eq_ofNat_of_zero_le (show 0 ≤ 2 + pick n 4 by omega)
  have hk2 : 2 ≤ k := by omega
  have hk5 : k ≤ 5 := by omega
  have hpf := pick_bd r ((k : Int) - 1) (by omega)
  obtain ⟨i, hi⟩ := Int.eq_ofNat_of_zero_le (show 0 ≤ 1 + pick r ((k : Int) - 1) by omega)
  have hi1 : 1 ≤ i := by omega
  have hik : i < k := by omega
  have HK : Hid (2 + pick n 4 = (k : Int)) := hk
  have HI : Hid (1 + pick r ((k : Int) - 1) = (i : Int)) := hi
  obtain ⟨h1, h2, h3, h4, h5, h6, h7, h8, h9, h10, h11, h12, h13, h14, h15⟩ := led_one ⟨k, by omega⟩ ⟨i, by omega⟩ hk2 hi1 hik
  have k0 := (kept_new (n := k) (few := 1) (by omega) (by omega) (by omega) (by omega)).2
  have l0 : (newP k 1).1.rs.length = k := (new_elect (n := k) (few := 1) (by omega) (by omega) (by omega) (by omega)).2.2.1
  obtain ⟨C1, -, k1⟩ := k0.elect (r := 0) (by have : (newP (k : Int) ((1 : Nat) : Int)).1.rs.length = k := l0; omega) h5
  have l1 : (ledE k).rs.length = k := (elect_rs h5).trans l0
  obtain ⟨C2, -, k2⟩ := Kept.shrink (p := ledE k) (r := i) k1 (by omega) h6
  obtain ⟨C3, -, k3⟩ := Kept.crash (p := ledE k) (r := 0) k1 (by omega) 0 (by omega) h10
  have HM0 : Hid (May (ledP k)) := may_iff.1 k0.may
  have HM1 : Hid (May (ledE k)) := may_iff.1 k1.may
  have HM2 : Hid (May (ledQ k i)) := may_iff.1 k2.may
  have HM3 : Hid (May (ledS k)) := may_iff.1 k3.may
  have HSL : Hid ((ledS k).ld = -1) := h13
  have HTL : Hid ((ledT k i).ld = i ∧ (ledT k i).ep = 2) := ⟨h14, h15⟩
  have HE1 : Hid (newP k 1 = (ledP k, 0)) := Prod.ext rfl h1
  obtain ⟨z2, y2, g2⟩ := pair3 h2
  have HE2 : Hid ((ledP k).putP eD = (z2, y2, 8)) := g2
  obtain ⟨z3, y3, g3⟩ := pair3 h3
  have HE3 : Hid ((ledP k).fetchP i = (z3, y3, 8)) := g3
  obtain ⟨zr, yr, gr⟩ := pair3 h4
  have HER : Hid ((ledP k).readP 0 1 = (zr, yr, 8)) := gr
  have HE4 : Hid ((ledP k).electP 0 = (ledE k, 0)) := Prod.ext rfl h5
  have HE5 : Hid ((ledE k).shrinkP i = (ledQ k i, 0)) := Prod.ext rfl h6
  obtain ⟨z6, g6, -⟩ := pair2 h7
  have HE6 : Hid ((ledQ k i).electP i = (z6, 13)) := g6
  obtain ⟨z7, g7, -⟩ := pair2 h8
  have HE7 : Hid ((ledE k).electP 0 = (z7, 6)) := g7
  obtain ⟨z8, g8, -⟩ := pair2 h9
  have HE8 : Hid ((ledE k).electP k = (z8, 5)) := g8
  have HE9 : Hid ((ledE k).crashP 0 0 = (ledS k, 0)) := Prod.ext rfl h10
  obtain ⟨z10, g10, -⟩ := pair2 h11
  have HE10 : Hid ((ledS k).electP 0 = (z10, 7)) := g10
  have HE11 : Hid ((ledS k).electP i = (ledT k i, 0)) := Prod.ext rfl h12
  have HB0 : Hid (Below w.heap.size w w) := Below.refl _ _
  clear hk hi h1 h2 h3 h4 h5 h6 h7 h8 h9 h10 h11 h12 h13 h14 h15 k0 l0 k1 l1 k2 k3 g2 g3 gr g6 g7 g8 g10
  generalize ledT k i = t at *
  generalize ledS k = s at *
  generalize ledQ k i = q at *
  generalize ledE k = p1 at *
  generalize ledP k = p0 at *
  go_enter Try.func22, Try.ntmps22
  go_wp2_with fail
  refine (picked_any n 4 _ hn ⟨by omega, by omega⟩).mono ?_
  rintro e w0 ⟨rfl, hw0⟩
  rw [hw0]
  clear hw0
  go_wp2_with fail
  rw [HK.out]
  refine (picked_any r ((k : Int) - 1) _ hf ⟨by omega, by omega⟩).mono ?_
  rintro e w0 ⟨rfl, hw0⟩
  rw [hw0]
  clear hw0
  go_upto_region 3 with fail
  rw [HI.out]
  go_wp2_with fail
  refine (new_any k 1 _).mono ?_
  rintro e w1 ⟨vi1, vk1, vr1, us1, rfl, hr1, hb1⟩
  rw [HE1.out] at hr1 ⊢
  obtain ⟨ai1, ci1, ak1, ck1, ar1, cr1, rfl, rfl, rfl, -, -, -⟩ := hr1.lens
  have t1 := bstep hb1 (bbox w1 (.cells #[.int .i64 p0.ep, .int .i64 p0.ld, .slice ai1 p0.isr.length ci1, .slice ak1 p0.kn.length ck1, .slice ar1 p0.rs.length cr1, .int .i64 p0.fw, .int .i64 p0.bs] 26))
  have HB1 : Hid (Below w.heap.size w (w1.alloc (.cells #[.int .i64 p0.ep, .int .i64 p0.ld, .slice ai1 p0.isr.length ci1, .slice ak1 p0.kn.length ck1, .slice ar1 p0.rs.length cr1, .int .i64 p0.fw, .int .i64 p0.bs] 26))) := bstep HB0.out t1
  have HN1 : Hid (PB (w1.alloc (.cells #[.int .i64 p0.ep, .int .i64 p0.ld, .slice ai1 p0.isr.length ci1, .slice ak1 p0.kn.length ck1, .slice ar1 p0.rs.length cr1, .int .i64 p0.fw, .int .i64 p0.bs] 26)) w1.heap.size p0 (.slice ai1 p0.isr.length ci1) (.slice ak1 p0.kn.length ck1) (.slice ar1 p0.rs.length cr1) ∧ RdP (w1.alloc (.cells #[.int .i64 p0.ep, .int .i64 p0.ld, .slice ai1 p0.isr.length ci1, .slice ak1 p0.kn.length ck1, .slice ar1 p0.rs.length cr1, .int .i64 p0.fw, .int .i64 p0.bs] 26)) p0 (.slice ai1 p0.isr.length ci1) (.slice ak1 p0.kn.length ck1) (.slice ar1 p0.rs.length cr1) us1) := ⟨pb_new w1 p0 _ _ _ 26 w1.heap.size rfl, RdP.below hr1 (Nat.le_refl _) (bbox _ _)⟩
  have HLO1 : w.heap.size ≤ w1.heap.size := (bstep HB0.out hb1).size
  clear hb1 hr1 t1
  go_upto_region 4 with fail
  generalize w1.alloc (.cells #[.int .i64 p0.ep, .int .i64 p0.ld, .slice ai1 p0.isr.length ci1, .slice ak1 p0.kn.length ck1, .slice ar1 p0.rs.length cr1, .int .i64 p0.fw, .int .i64 p0.bs] 26) = W1 at *
  generalize w1.heap.size = b1 at *
  obtain ⟨s1, ⟨a0, a1, a2, a3, a4, a5, a6⟩, f1⟩ := HN1.out.1
  go_wp2_with fail
  refine (put_anyF p0 eD _ _ _ us1 _ HN1.out.2 (may_smallP HM0.out)).mono ?_
  rintro e w2 ⟨vi2, vk2, vr2, us2, rfl, hr2, hb2, hn2⟩
  rw [HE2.out] at hr2 hn2 ⊢
  obtain ⟨ai2, ci2, ak2, ck2, ar2, cr2, rfl, rfl, rfl, -, -, -⟩ := hr2.lens
  have t2 := bstep hb2 (bbox w2 (.cells #[.int .i64 z2.ep, .int .i64 z2.ld, .slice ai2 z2.isr.length ci2, .slice ak2 z2.kn.length ck2, .slice ar2 z2.rs.length cr2, .int .i64 z2.fw, .int .i64 z2.bs] 26))
  have HB2 : Hid (Below w.heap.size w (w2.alloc (.cells #[.int .i64 z2.ep, .int .i64 z2.ld, .slice ai2 z2.isr.length ci2, .slice ak2 z2.kn.length ck2, .slice ar2 z2.rs.length cr2, .int .i64 z2.fw, .int .i64 z2.bs] 26))) := bstep HB1.out t2
  have HN1_2 : Hid (PB (w2.alloc (.cells #[.int .i64 z2.ep, .int .i64 z2.ld, .slice ai2 z2.isr.length ci2, .slice ak2 z2.kn.length ck2, .slice ar2 z2.rs.length cr2, .int .i64 z2.fw, .int .i64 z2.bs] 26)) b1 p0 (.slice ai1 p0.isr.length ci1) (.slice ak1 p0.kn.length ck1) (.slice ar1 p0.rs.length cr1) ∧ RdP (w2.alloc (.cells #[.int .i64 z2.ep, .int .i64 z2.ld, .slice ai2 z2.isr.length ci2, .slice ak2 z2.kn.length ck2, .slice ar2 z2.rs.length cr2, .int .i64 z2.fw, .int .i64 z2.bs] 26)) p0 (.slice ai1 p0.isr.length ci1) (.slice ak1 p0.kn.length ck1) (.slice ar1 p0.rs.length cr1) us1) := ⟨HN1.out.1.below HN1.out.1.1 t2, RdP.below HN1.out.2 (Nat.le_refl _) t2⟩
  clear s1 a0 a1 a2 a3 a4 a5 a6 f1
  obtain ⟨s1, ⟨a0, a1, a2, a3, a4, a5, a6⟩, f1⟩ := HN1.out.1.below HN1.out.1.1 hb2
  clear hb2 hr2 t2 hn2
  go_upto_region 5 with fail
  generalize w2.alloc (.cells #[.int .i64 z2.ep, .int .i64 z2.ld, .slice ai2 z2.isr.length ci2, .slice ak2 z2.kn.length ck2, .slice ar2 z2.rs.length cr2, .int .i64 z2.fw, .int .i64 z2.bs] 26) = W2 at *
  generalize w2.heap.size = b2 at *
  clear s1 a0 a1 a2 a3 a4 a5 a6 f1
  obtain ⟨s1, ⟨a0, a1, a2, a3, a4, a5, a6⟩, f1⟩ := HN1_2.out.1
  go_wp2_with fail
  refine (fetch_anyF p0 i _ _ _ us1 _ HN1_2.out.2 (may_smallP HM0.out)).mono ?_
  rintro e w3 ⟨vi3, vk3, vr3, us3, rfl, hr3, hb3, hn3⟩
  rw [HE3.out] at hr3 hn3 ⊢
  obtain ⟨ai3, ci3, ak3, ck3, ar3, cr3, rfl, rfl, rfl, -, -, -⟩ := hr3.lens
  have t3 := bstep hb3 (bbox w3 (.cells #[.int .i64 z3.ep, .int .i64 z3.ld, .slice ai3 z3.isr.length ci3, .slice ak3 z3.kn.length ck3, .slice ar3 z3.rs.length cr3, .int .i64 z3.fw, .int .i64 z3.bs] 26))
  have HB3 : Hid (Below w.heap.size w (w3.alloc (.cells #[.int .i64 z3.ep, .int .i64 z3.ld, .slice ai3 z3.isr.length ci3, .slice ak3 z3.kn.length ck3, .slice ar3 z3.rs.length cr3, .int .i64 z3.fw, .int .i64 z3.bs] 26))) := bstep HB2.out t3
  have HN1_2_3 : Hid (PB (w3.alloc (.cells #[.int .i64 z3.ep, .int .i64 z3.ld, .slice ai3 z3.isr.length ci3, .slice ak3 z3.kn.length ck3, .slice ar3 z3.rs.length cr3, .int .i64 z3.fw, .int .i64 z3.bs] 26)) b1 p0 (.slice ai1 p0.isr.length ci1) (.slice ak1 p0.kn.length ck1) (.slice ar1 p0.rs.length cr1) ∧ RdP (w3.alloc (.cells #[.int .i64 z3.ep, .int .i64 z3.ld, .slice ai3 z3.isr.length ci3, .slice ak3 z3.kn.length ck3, .slice ar3 z3.rs.length cr3, .int .i64 z3.fw, .int .i64 z3.bs] 26)) p0 (.slice ai1 p0.isr.length ci1) (.slice ak1 p0.kn.length ck1) (.slice ar1 p0.rs.length cr1) us1) := ⟨HN1_2.out.1.below HN1_2.out.1.1 t3, RdP.below HN1_2.out.2 (Nat.le_refl _) t3⟩
  clear s1 a0 a1 a2 a3 a4 a5 a6 f1
  obtain ⟨s1, ⟨a0, a1, a2, a3, a4, a5, a6⟩, f1⟩ := HN1_2.out.1.below HN1_2.out.1.1 hb3
  clear hb3 hr3 t3 hn3
  go_upto_region 6 with fail
  generalize w3.alloc (.cells #[.int .i64 z3.ep, .int .i64 z3.ld, .slice ai3 z3.isr.length ci3, .slice ak3 z3.kn.length ck3, .slice ar3 z3.rs.length cr3, .int .i64 z3.fw, .int .i64 z3.bs] 26) = W3 at *
  generalize w3.heap.size = b3 at *
  clear s1 a0 a1 a2 a3 a4 a5 a6 f1
  obtain ⟨s1, ⟨a0, a1, a2, a3, a4, a5, a6⟩, f1⟩ := HN1_2_3.out.1
  go_wp2_with fail
  refine (partRead_any p0 0 1 _ _ _ us1 _ HN1_2_3.out.2 (may_smallP HM0.out)).mono ?_
  rintro e wr ⟨u, rfl, _, hbr⟩
  rw [HER.out]
  have HBr : Hid (Below w.heap.size w wr) := bstep HB3.out hbr
  have HPr : Hid (PB wr b1 p0 (.slice ai1 p0.isr.length ci1) (.slice ak1 p0.kn.length ck1) (.slice ar1 p0.rs.length cr1) ∧ RdP wr p0 (.slice ai1 p0.isr.length ci1) (.slice ak1 p0.kn.length ck1) (.slice ar1 p0.rs.length cr1) us1) := ⟨HN1_2_3.out.1.below HN1_2_3.out.1.1 hbr, RdP.below HN1_2_3.out.2 (Nat.le_refl _) hbr⟩
  clear hbr
  clear s1 a0 a1 a2 a3 a4 a5 a6 f1
  obtain ⟨s1, ⟨a0, a1, a2, a3, a4, a5, a6⟩, f1⟩ := HPr.out.1
  go_upto_region 7 with fail
  clear s1 a0 a1 a2 a3 a4 a5 a6 f1
  obtain ⟨s1, ⟨a0, a1, a2, a3, a4, a5, a6⟩, f1⟩ := HPr.out.1
  go_wp2_with fail
  refine (elect_anyF p0 0 _ _ _ us1 _ HPr.out.2 (may_smallP HM0.out)).mono ?_
  rintro e w4 ⟨vi4, vk4, vr4, us4, rfl, hr4, hb4, hn4⟩
  rw [HE4.out] at hr4 hn4 ⊢
  obtain ⟨ai4, ci4, ak4, ck4, ar4, cr4, rfl, rfl, rfl, -, -, -⟩ := hr4.lens
  have hc4 := HPr.out.1.below HPr.out.1.1 hb4
  have HB4 : Hid (Below w.heap.size w (put7 w4 b1 p1 (.slice ai4 p1.isr.length ci4) (.slice ak4 p1.kn.length ck4) (.slice ar4 p1.rs.length cr4))) := below_put (bstep HBr.out hb4) HLO1 _ _ _ _
  have HN4 : Hid (PB (put7 w4 b1 p1 (.slice ai4 p1.isr.length ci4) (.slice ak4 p1.kn.length ck4) (.slice ar4 p1.rs.length cr4)) b1 p1 (.slice ai4 p1.isr.length ci4) (.slice ak4 p1.kn.length ck4) (.slice ar4 p1.rs.length cr4) ∧ RdP (put7 w4 b1 p1 (.slice ai4 p1.isr.length ci4) (.slice ak4 p1.kn.length ck4) (.slice ar4 p1.rs.length cr4)) p1 (.slice ai4 p1.isr.length ci4) (.slice ak4 p1.kn.length ck4) (.slice ar4 p1.rs.length cr4) us4) := ⟨hc4.put _ _ _ _, hr4.put rfl (hn4.off HPr.out.1.1) _ _ _ _⟩
  clear s1 a0 a1 a2 a3 a4 a5 a6 f1
  obtain ⟨s1, ⟨a0, a1, a2, a3, a4, a5, a6⟩, f1⟩ := hc4
  unfold put7 at HB4 HN4
  clear hb4 hr4 hn4
  go_upto_region 8 with fail
  clear s1 a0 a1 a2 a3 a4 a5 a6 f1
  obtain ⟨s1, ⟨a0, a1, a2, a3, a4, a5, a6⟩, f1⟩ := HN4.out.1
  go_wp2_with fail
  refine (shrink_anyF p1 i _ _ _ us4 _ HN4.out.2 (may_smallP HM1.out)).mono ?_
  rintro e w5 ⟨vi5, vk5, vr5, us5, rfl, hr5, hb5, hn5⟩
  rw [HE5.out] at hr5 hn5 ⊢
  obtain ⟨ai5, ci5, ak5, ck5, ar5, cr5, rfl, rfl, rfl, -, -, -⟩ := hr5.lens
  have t5 := bstep hb5 (bbox w5 (.cells #[.int .i64 q.ep, .int .i64 q.ld, .slice ai5 q.isr.length ci5, .slice ak5 q.kn.length ck5, .slice ar5 q.rs.length cr5, .int .i64 q.fw, .int .i64 q.bs] 26))
  have HB5 : Hid (Below w.heap.size w (w5.alloc (.cells #[.int .i64 q.ep, .int .i64 q.ld, .slice ai5 q.isr.length ci5, .slice ak5 q.kn.length ck5, .slice ar5 q.rs.length cr5, .int .i64 q.fw, .int .i64 q.bs] 26))) := bstep HB4.out t5
  have HN4_5 : Hid (PB (w5.alloc (.cells #[.int .i64 q.ep, .int .i64 q.ld, .slice ai5 q.isr.length ci5, .slice ak5 q.kn.length ck5, .slice ar5 q.rs.length cr5, .int .i64 q.fw, .int .i64 q.bs] 26)) b1 p1 (.slice ai4 p1.isr.length ci4) (.slice ak4 p1.kn.length ck4) (.slice ar4 p1.rs.length cr4) ∧ RdP (w5.alloc (.cells #[.int .i64 q.ep, .int .i64 q.ld, .slice ai5 q.isr.length ci5, .slice ak5 q.kn.length ck5, .slice ar5 q.rs.length cr5, .int .i64 q.fw, .int .i64 q.bs] 26)) p1 (.slice ai4 p1.isr.length ci4) (.slice ak4 p1.kn.length ck4) (.slice ar4 p1.rs.length cr4) us4) := ⟨HN4.out.1.below HN4.out.1.1 t5, RdP.below HN4.out.2 (Nat.le_refl _) t5⟩
  clear s1 a0 a1 a2 a3 a4 a5 a6 f1
  obtain ⟨s1, ⟨a0, a1, a2, a3, a4, a5, a6⟩, f1⟩ := HN4.out.1.below HN4.out.1.1 hb5
  have HN5 : Hid (PB (w5.alloc (.cells #[.int .i64 q.ep, .int .i64 q.ld, .slice ai5 q.isr.length ci5, .slice ak5 q.kn.length ck5, .slice ar5 q.rs.length cr5, .int .i64 q.fw, .int .i64 q.bs] 26)) w5.heap.size q (.slice ai5 q.isr.length ci5) (.slice ak5 q.kn.length ck5) (.slice ar5 q.rs.length cr5) ∧ RdP (w5.alloc (.cells #[.int .i64 q.ep, .int .i64 q.ld, .slice ai5 q.isr.length ci5, .slice ak5 q.kn.length ck5, .slice ar5 q.rs.length cr5, .int .i64 q.fw, .int .i64 q.bs] 26)) q (.slice ai5 q.isr.length ci5) (.slice ak5 q.kn.length ck5) (.slice ar5 q.rs.length cr5) us5) := ⟨pb_new w5 q _ _ _ 26 w5.heap.size rfl, RdP.below hr5 (Nat.le_refl _) (bbox _ _)⟩
  have HLO5 : w.heap.size ≤ w5.heap.size := (bstep HB4.out hb5).size
  clear hb5 hr5 t5 hn5
  go_upto_region 9 with fail
  generalize w5.alloc (.cells #[.int .i64 q.ep, .int .i64 q.ld, .slice ai5 q.isr.length ci5, .slice ak5 q.kn.length ck5, .slice ar5 q.rs.length cr5, .int .i64 q.fw, .int .i64 q.bs] 26) = W5 at *
  generalize w5.heap.size = b5 at *
  clear s1 a0 a1 a2 a3 a4 a5 a6 f1
  obtain ⟨s1, ⟨a0, a1, a2, a3, a4, a5, a6⟩, f1⟩ := HN5.out.1
  go_wp2_with fail
  refine (elect_anyF q i _ _ _ us5 _ HN5.out.2 (may_smallP HM2.out)).mono ?_
  rintro e w6 ⟨vi6, vk6, vr6, us6, rfl, hr6, hb6, hn6⟩
  rw [HE6.out] at hr6 hn6 ⊢
  obtain ⟨ai6, ci6, ak6, ck6, ar6, cr6, rfl, rfl, rfl, -, -, -⟩ := hr6.lens
  have t6 := bstep hb6 (bbox w6 (.cells #[.int .i64 z6.ep, .int .i64 z6.ld, .slice ai6 z6.isr.length ci6, .slice ak6 z6.kn.length ck6, .slice ar6 z6.rs.length cr6, .int .i64 z6.fw, .int .i64 z6.bs] 26))
  have HB6 : Hid (Below w.heap.size w (w6.alloc (.cells #[.int .i64 z6.ep, .int .i64 z6.ld, .slice ai6 z6.isr.length ci6, .slice ak6 z6.kn.length ck6, .slice ar6 z6.rs.length cr6, .int .i64 z6.fw, .int .i64 z6.bs] 26))) := bstep HB5.out t6
  have HN4_5_6 : Hid (PB (w6.alloc (.cells #[.int .i64 z6.ep, .int .i64 z6.ld, .slice ai6 z6.isr.length ci6, .slice ak6 z6.kn.length ck6, .slice ar6 z6.rs.length cr6, .int .i64 z6.fw, .int .i64 z6.bs] 26)) b1 p1 (.slice ai4 p1.isr.length ci4) (.slice ak4 p1.kn.length ck4) (.slice ar4 p1.rs.length cr4) ∧ RdP (w6.alloc (.cells #[.int .i64 z6.ep, .int .i64 z6.ld, .slice ai6 z6.isr.length ci6, .slice ak6 z6.kn.length ck6, .slice ar6 z6.rs.length cr6, .int .i64 z6.fw, .int .i64 z6.bs] 26)) p1 (.slice ai4 p1.isr.length ci4) (.slice ak4 p1.kn.length ck4) (.slice ar4 p1.rs.length cr4) us4) := ⟨HN4_5.out.1.below HN4_5.out.1.1 t6, RdP.below HN4_5.out.2 (Nat.le_refl _) t6⟩
  have HN5_6 : Hid (PB (w6.alloc (.cells #[.int .i64 z6.ep, .int .i64 z6.ld, .slice ai6 z6.isr.length ci6, .slice ak6 z6.kn.length ck6, .slice ar6 z6.rs.length cr6, .int .i64 z6.fw, .int .i64 z6.bs] 26)) b5 q (.slice ai5 q.isr.length ci5) (.slice ak5 q.kn.length ck5) (.slice ar5 q.rs.length cr5) ∧ RdP (w6.alloc (.cells #[.int .i64 z6.ep, .int .i64 z6.ld, .slice ai6 z6.isr.length ci6, .slice ak6 z6.kn.length ck6, .slice ar6 z6.rs.length cr6, .int .i64 z6.fw, .int .i64 z6.bs] 26)) q (.slice ai5 q.isr.length ci5) (.slice ak5 q.kn.length ck5) (.slice ar5 q.rs.length cr5) us5) := ⟨HN5.out.1.below HN5.out.1.1 t6, RdP.below HN5.out.2 (Nat.le_refl _) t6⟩
  clear s1 a0 a1 a2 a3 a4 a5 a6 f1
  obtain ⟨s1, ⟨a0, a1, a2, a3, a4, a5, a6⟩, f1⟩ := HN5.out.1.below HN5.out.1.1 hb6
  clear hb6 hr6 t6 hn6
  go_upto_region 10 with fail
  generalize w6.alloc (.cells #[.int .i64 z6.ep, .int .i64 z6.ld, .slice ai6 z6.isr.length ci6, .slice ak6 z6.kn.length ck6, .slice ar6 z6.rs.length cr6, .int .i64 z6.fw, .int .i64 z6.bs] 26) = W6 at *
  generalize w6.heap.size = b6 at *
  clear s1 a0 a1 a2 a3 a4 a5 a6 f1
  obtain ⟨s1, ⟨a0, a1, a2, a3, a4, a5, a6⟩, f1⟩ := HN4_5_6.out.1
  go_wp2_with fail
  refine (elect_anyF p1 0 _ _ _ us4 _ HN4_5_6.out.2 (may_smallP HM1.out)).mono ?_
  rintro e w7 ⟨vi7, vk7, vr7, us7, rfl, hr7, hb7, hn7⟩
  rw [HE7.out] at hr7 hn7 ⊢
  obtain ⟨ai7, ci7, ak7, ck7, ar7, cr7, rfl, rfl, rfl, -, -, -⟩ := hr7.lens
  have t7 := bstep hb7 (bbox w7 (.cells #[.int .i64 z7.ep, .int .i64 z7.ld, .slice ai7 z7.isr.length ci7, .slice ak7 z7.kn.length ck7, .slice ar7 z7.rs.length cr7, .int .i64 z7.fw, .int .i64 z7.bs] 26))
  have HB7 : Hid (Below w.heap.size w (w7.alloc (.cells #[.int .i64 z7.ep, .int .i64 z7.ld, .slice ai7 z7.isr.length ci7, .slice ak7 z7.kn.length ck7, .slice ar7 z7.rs.length cr7, .int .i64 z7.fw, .int .i64 z7.bs] 26))) := bstep HB6.out t7
  have HN4_5_6_7 : Hid (PB (w7.alloc (.cells #[.int .i64 z7.ep, .int .i64 z7.ld, .slice ai7 z7.isr.length ci7, .slice ak7 z7.kn.length ck7, .slice ar7 z7.rs.length cr7, .int .i64 z7.fw, .int .i64 z7.bs] 26)) b1 p1 (.slice ai4 p1.isr.length ci4) (.slice ak4 p1.kn.length ck4) (.slice ar4 p1.rs.length cr4) ∧ RdP (w7.alloc (.cells #[.int .i64 z7.ep, .int .i64 z7.ld, .slice ai7 z7.isr.length ci7, .slice ak7 z7.kn.length ck7, .slice ar7 z7.rs.length cr7, .int .i64 z7.fw, .int .i64 z7.bs] 26)) p1 (.slice ai4 p1.isr.length ci4) (.slice ak4 p1.kn.length ck4) (.slice ar4 p1.rs.length cr4) us4) := ⟨HN4_5_6.out.1.below HN4_5_6.out.1.1 t7, RdP.below HN4_5_6.out.2 (Nat.le_refl _) t7⟩
  have HN5_6_7 : Hid (PB (w7.alloc (.cells #[.int .i64 z7.ep, .int .i64 z7.ld, .slice ai7 z7.isr.length ci7, .slice ak7 z7.kn.length ck7, .slice ar7 z7.rs.length cr7, .int .i64 z7.fw, .int .i64 z7.bs] 26)) b5 q (.slice ai5 q.isr.length ci5) (.slice ak5 q.kn.length ck5) (.slice ar5 q.rs.length cr5) ∧ RdP (w7.alloc (.cells #[.int .i64 z7.ep, .int .i64 z7.ld, .slice ai7 z7.isr.length ci7, .slice ak7 z7.kn.length ck7, .slice ar7 z7.rs.length cr7, .int .i64 z7.fw, .int .i64 z7.bs] 26)) q (.slice ai5 q.isr.length ci5) (.slice ak5 q.kn.length ck5) (.slice ar5 q.rs.length cr5) us5) := ⟨HN5_6.out.1.below HN5_6.out.1.1 t7, RdP.below HN5_6.out.2 (Nat.le_refl _) t7⟩
  clear s1 a0 a1 a2 a3 a4 a5 a6 f1
  obtain ⟨s1, ⟨a0, a1, a2, a3, a4, a5, a6⟩, f1⟩ := HN4_5_6.out.1.below HN4_5_6.out.1.1 hb7
  clear hb7 hr7 t7 hn7
  go_upto_region 11 with fail
  generalize w7.alloc (.cells #[.int .i64 z7.ep, .int .i64 z7.ld, .slice ai7 z7.isr.length ci7, .slice ak7 z7.kn.length ck7, .slice ar7 z7.rs.length cr7, .int .i64 z7.fw, .int .i64 z7.bs] 26) = W7 at *
  generalize w7.heap.size = b7 at *
  clear s1 a0 a1 a2 a3 a4 a5 a6 f1
  obtain ⟨s1, ⟨a0, a1, a2, a3, a4, a5, a6⟩, f1⟩ := HN4_5_6_7.out.1
  go_wp2_with fail
  refine (elect_anyF p1 k _ _ _ us4 _ HN4_5_6_7.out.2 (may_smallP HM1.out)).mono ?_
  rintro e w8 ⟨vi8, vk8, vr8, us8, rfl, hr8, hb8, hn8⟩
  rw [HE8.out] at hr8 hn8 ⊢
  obtain ⟨ai8, ci8, ak8, ck8, ar8, cr8, rfl, rfl, rfl, -, -, -⟩ := hr8.lens
  have t8 := bstep hb8 (bbox w8 (.cells #[.int .i64 z8.ep, .int .i64 z8.ld, .slice ai8 z8.isr.length ci8, .slice ak8 z8.kn.length ck8, .slice ar8 z8.rs.length cr8, .int .i64 z8.fw, .int .i64 z8.bs] 26))
  have HB8 : Hid (Below w.heap.size w (w8.alloc (.cells #[.int .i64 z8.ep, .int .i64 z8.ld, .slice ai8 z8.isr.length ci8, .slice ak8 z8.kn.length ck8, .slice ar8 z8.rs.length cr8, .int .i64 z8.fw, .int .i64 z8.bs] 26))) := bstep HB7.out t8
  have HN4_5_6_7_8 : Hid (PB (w8.alloc (.cells #[.int .i64 z8.ep, .int .i64 z8.ld, .slice ai8 z8.isr.length ci8, .slice ak8 z8.kn.length ck8, .slice ar8 z8.rs.length cr8, .int .i64 z8.fw, .int .i64 z8.bs] 26)) b1 p1 (.slice ai4 p1.isr.length ci4) (.slice ak4 p1.kn.length ck4) (.slice ar4 p1.rs.length cr4) ∧ RdP (w8.alloc (.cells #[.int .i64 z8.ep, .int .i64 z8.ld, .slice ai8 z8.isr.length ci8, .slice ak8 z8.kn.length ck8, .slice ar8 z8.rs.length cr8, .int .i64 z8.fw, .int .i64 z8.bs] 26)) p1 (.slice ai4 p1.isr.length ci4) (.slice ak4 p1.kn.length ck4) (.slice ar4 p1.rs.length cr4) us4) := ⟨HN4_5_6_7.out.1.below HN4_5_6_7.out.1.1 t8, RdP.below HN4_5_6_7.out.2 (Nat.le_refl _) t8⟩
  have HN5_6_7_8 : Hid (PB (w8.alloc (.cells #[.int .i64 z8.ep, .int .i64 z8.ld, .slice ai8 z8.isr.length ci8, .slice ak8 z8.kn.length ck8, .slice ar8 z8.rs.length cr8, .int .i64 z8.fw, .int .i64 z8.bs] 26)) b5 q (.slice ai5 q.isr.length ci5) (.slice ak5 q.kn.length ck5) (.slice ar5 q.rs.length cr5) ∧ RdP (w8.alloc (.cells #[.int .i64 z8.ep, .int .i64 z8.ld, .slice ai8 z8.isr.length ci8, .slice ak8 z8.kn.length ck8, .slice ar8 z8.rs.length cr8, .int .i64 z8.fw, .int .i64 z8.bs] 26)) q (.slice ai5 q.isr.length ci5) (.slice ak5 q.kn.length ck5) (.slice ar5 q.rs.length cr5) us5) := ⟨HN5_6_7.out.1.below HN5_6_7.out.1.1 t8, RdP.below HN5_6_7.out.2 (Nat.le_refl _) t8⟩
  clear s1 a0 a1 a2 a3 a4 a5 a6 f1
  obtain ⟨s1, ⟨a0, a1, a2, a3, a4, a5, a6⟩, f1⟩ := HN4_5_6_7.out.1.below HN4_5_6_7.out.1.1 hb8
  clear hb8 hr8 t8 hn8
  go_upto_region 12 with fail
  generalize w8.alloc (.cells #[.int .i64 z8.ep, .int .i64 z8.ld, .slice ai8 z8.isr.length ci8, .slice ak8 z8.kn.length ck8, .slice ar8 z8.rs.length cr8, .int .i64 z8.fw, .int .i64 z8.bs] 26) = W8 at *
  generalize w8.heap.size = b8 at *
  clear s1 a0 a1 a2 a3 a4 a5 a6 f1
  obtain ⟨s1, ⟨a0, a1, a2, a3, a4, a5, a6⟩, f1⟩ := HN4_5_6_7_8.out.1
  go_wp2_with fail
  refine (crash_anyF p1 0 0 _ _ _ us4 _ HN4_5_6_7_8.out.2 (may_smallP HM1.out)).mono ?_
  rintro e w9 ⟨vi9, vk9, vr9, us9, rfl, hr9, hb9, hn9⟩
  rw [HE9.out] at hr9 hn9 ⊢
  obtain ⟨ai9, ci9, ak9, ck9, ar9, cr9, rfl, rfl, rfl, -, -, -⟩ := hr9.lens
  have t9 := bstep hb9 (bbox w9 (.cells #[.int .i64 s.ep, .int .i64 s.ld, .slice ai9 s.isr.length ci9, .slice ak9 s.kn.length ck9, .slice ar9 s.rs.length cr9, .int .i64 s.fw, .int .i64 s.bs] 26))
  have HB9 : Hid (Below w.heap.size w (w9.alloc (.cells #[.int .i64 s.ep, .int .i64 s.ld, .slice ai9 s.isr.length ci9, .slice ak9 s.kn.length ck9, .slice ar9 s.rs.length cr9, .int .i64 s.fw, .int .i64 s.bs] 26))) := bstep HB8.out t9
  have HN4_5_6_7_8_9 : Hid (PB (w9.alloc (.cells #[.int .i64 s.ep, .int .i64 s.ld, .slice ai9 s.isr.length ci9, .slice ak9 s.kn.length ck9, .slice ar9 s.rs.length cr9, .int .i64 s.fw, .int .i64 s.bs] 26)) b1 p1 (.slice ai4 p1.isr.length ci4) (.slice ak4 p1.kn.length ck4) (.slice ar4 p1.rs.length cr4) ∧ RdP (w9.alloc (.cells #[.int .i64 s.ep, .int .i64 s.ld, .slice ai9 s.isr.length ci9, .slice ak9 s.kn.length ck9, .slice ar9 s.rs.length cr9, .int .i64 s.fw, .int .i64 s.bs] 26)) p1 (.slice ai4 p1.isr.length ci4) (.slice ak4 p1.kn.length ck4) (.slice ar4 p1.rs.length cr4) us4) := ⟨HN4_5_6_7_8.out.1.below HN4_5_6_7_8.out.1.1 t9, RdP.below HN4_5_6_7_8.out.2 (Nat.le_refl _) t9⟩
  have HN5_6_7_8_9 : Hid (PB (w9.alloc (.cells #[.int .i64 s.ep, .int .i64 s.ld, .slice ai9 s.isr.length ci9, .slice ak9 s.kn.length ck9, .slice ar9 s.rs.length cr9, .int .i64 s.fw, .int .i64 s.bs] 26)) b5 q (.slice ai5 q.isr.length ci5) (.slice ak5 q.kn.length ck5) (.slice ar5 q.rs.length cr5) ∧ RdP (w9.alloc (.cells #[.int .i64 s.ep, .int .i64 s.ld, .slice ai9 s.isr.length ci9, .slice ak9 s.kn.length ck9, .slice ar9 s.rs.length cr9, .int .i64 s.fw, .int .i64 s.bs] 26)) q (.slice ai5 q.isr.length ci5) (.slice ak5 q.kn.length ck5) (.slice ar5 q.rs.length cr5) us5) := ⟨HN5_6_7_8.out.1.below HN5_6_7_8.out.1.1 t9, RdP.below HN5_6_7_8.out.2 (Nat.le_refl _) t9⟩
  clear s1 a0 a1 a2 a3 a4 a5 a6 f1
  obtain ⟨s1, ⟨a0, a1, a2, a3, a4, a5, a6⟩, f1⟩ := HN4_5_6_7_8.out.1.below HN4_5_6_7_8.out.1.1 hb9
  have HN9 : Hid (PB (w9.alloc (.cells #[.int .i64 s.ep, .int .i64 s.ld, .slice ai9 s.isr.length ci9, .slice ak9 s.kn.length ck9, .slice ar9 s.rs.length cr9, .int .i64 s.fw, .int .i64 s.bs] 26)) w9.heap.size s (.slice ai9 s.isr.length ci9) (.slice ak9 s.kn.length ck9) (.slice ar9 s.rs.length cr9) ∧ RdP (w9.alloc (.cells #[.int .i64 s.ep, .int .i64 s.ld, .slice ai9 s.isr.length ci9, .slice ak9 s.kn.length ck9, .slice ar9 s.rs.length cr9, .int .i64 s.fw, .int .i64 s.bs] 26)) s (.slice ai9 s.isr.length ci9) (.slice ak9 s.kn.length ck9) (.slice ar9 s.rs.length cr9) us9) := ⟨pb_new w9 s _ _ _ 26 w9.heap.size rfl, RdP.below hr9 (Nat.le_refl _) (bbox _ _)⟩
  have HLO9 : w.heap.size ≤ w9.heap.size := (bstep HB8.out hb9).size
  clear hb9 hr9 t9 hn9
  go_upto_region 13 with fail
  generalize w9.alloc (.cells #[.int .i64 s.ep, .int .i64 s.ld, .slice ai9 s.isr.length ci9, .slice ak9 s.kn.length ck9, .slice ar9 s.rs.length cr9, .int .i64 s.fw, .int .i64 s.bs] 26) = W9 at *
  generalize w9.heap.size = b9 at *
  clear s1 a0 a1 a2 a3 a4 a5 a6 f1
  obtain ⟨s1, ⟨a0, a1, a2, a3, a4, a5, a6⟩, f1⟩ := HN9.out.1
  go_wp2_with fail
  refine (elect_anyF s 0 _ _ _ us9 _ HN9.out.2 (may_smallP HM3.out)).mono ?_
  rintro e w10 ⟨vi10, vk10, vr10, us10, rfl, hr10, hb10, hn10⟩
  rw [HE10.out] at hr10 hn10 ⊢
  obtain ⟨ai10, ci10, ak10, ck10, ar10, cr10, rfl, rfl, rfl, -, -, -⟩ := hr10.lens
  have t10 := bstep hb10 (bbox w10 (.cells #[.int .i64 z10.ep, .int .i64 z10.ld, .slice ai10 z10.isr.length ci10, .slice ak10 z10.kn.length ck10, .slice ar10 z10.rs.length cr10, .int .i64 z10.fw, .int .i64 z10.bs] 26))
  have HB10 : Hid (Below w.heap.size w (w10.alloc (.cells #[.int .i64 z10.ep, .int .i64 z10.ld, .slice ai10 z10.isr.length ci10, .slice ak10 z10.kn.length ck10, .slice ar10 z10.rs.length cr10, .int .i64 z10.fw, .int .i64 z10.bs] 26))) := bstep HB9.out t10
  have HN4_5_6_7_8_9_10 : Hid (PB (w10.alloc (.cells #[.int .i64 z10.ep, .int .i64 z10.ld, .slice ai10 z10.isr.length ci10, .slice ak10 z10.kn.length ck10, .slice ar10 z10.rs.length cr10, .int .i64 z10.fw, .int .i64 z10.bs] 26)) b1 p1 (.slice ai4 p1.isr.length ci4) (.slice ak4 p1.kn.length ck4) (.slice ar4 p1.rs.length cr4) ∧ RdP (w10.alloc (.cells #[.int .i64 z10.ep, .int .i64 z10.ld, .slice ai10 z10.isr.length ci10, .slice ak10 z10.kn.length ck10, .slice ar10 z10.rs.length cr10, .int .i64 z10.fw, .int .i64 z10.bs] 26)) p1 (.slice ai4 p1.isr.length ci4) (.slice ak4 p1.kn.length ck4) (.slice ar4 p1.rs.length cr4) us4) := ⟨HN4_5_6_7_8_9.out.1.below HN4_5_6_7_8_9.out.1.1 t10, RdP.below HN4_5_6_7_8_9.out.2 (Nat.le_refl _) t10⟩
  have HN5_6_7_8_9_10 : Hid (PB (w10.alloc (.cells #[.int .i64 z10.ep, .int .i64 z10.ld, .slice ai10 z10.isr.length ci10, .slice ak10 z10.kn.length ck10, .slice ar10 z10.rs.length cr10, .int .i64 z10.fw, .int .i64 z10.bs] 26)) b5 q (.slice ai5 q.isr.length ci5) (.slice ak5 q.kn.length ck5) (.slice ar5 q.rs.length cr5) ∧ RdP (w10.alloc (.cells #[.int .i64 z10.ep, .int .i64 z10.ld, .slice ai10 z10.isr.length ci10, .slice ak10 z10.kn.length ck10, .slice ar10 z10.rs.length cr10, .int .i64 z10.fw, .int .i64 z10.bs] 26)) q (.slice ai5 q.isr.length ci5) (.slice ak5 q.kn.length ck5) (.slice ar5 q.rs.length cr5) us5) := ⟨HN5_6_7_8_9.out.1.below HN5_6_7_8_9.out.1.1 t10, RdP.below HN5_6_7_8_9.out.2 (Nat.le_refl _) t10⟩
  have HN9_10 : Hid (PB (w10.alloc (.cells #[.int .i64 z10.ep, .int .i64 z10.ld, .slice ai10 z10.isr.length ci10, .slice ak10 z10.kn.length ck10, .slice ar10 z10.rs.length cr10, .int .i64 z10.fw, .int .i64 z10.bs] 26)) b9 s (.slice ai9 s.isr.length ci9) (.slice ak9 s.kn.length ck9) (.slice ar9 s.rs.length cr9) ∧ RdP (w10.alloc (.cells #[.int .i64 z10.ep, .int .i64 z10.ld, .slice ai10 z10.isr.length ci10, .slice ak10 z10.kn.length ck10, .slice ar10 z10.rs.length cr10, .int .i64 z10.fw, .int .i64 z10.bs] 26)) s (.slice ai9 s.isr.length ci9) (.slice ak9 s.kn.length ck9) (.slice ar9 s.rs.length cr9) us9) := ⟨HN9.out.1.below HN9.out.1.1 t10, RdP.below HN9.out.2 (Nat.le_refl _) t10⟩
  clear s1 a0 a1 a2 a3 a4 a5 a6 f1
  obtain ⟨s1, ⟨a0, a1, a2, a3, a4, a5, a6⟩, f1⟩ := HN9.out.1.below HN9.out.1.1 hb10
  clear hb10 hr10 t10 hn10
  go_upto_region 14 with fail
  generalize w10.alloc (.cells #[.int .i64 z10.ep, .int .i64 z10.ld, .slice ai10 z10.isr.length ci10, .slice ak10 z10.kn.length ck10, .slice ar10 z10.rs.length cr10, .int .i64 z10.fw, .int .i64 z10.bs] 26) = W10 at *
  generalize w10.heap.size = b10 at *
  clear s1 a0 a1 a2 a3 a4 a5 a6 f1
  obtain ⟨s1, ⟨a0, a1, a2, a3, a4, a5, a6⟩, f1⟩ := HN9_10.out.1
  go_wp2_with fail
  refine (elect_anyF s i _ _ _ us9 _ HN9_10.out.2 (may_smallP HM3.out)).mono ?_
  rintro e w11 ⟨vi11, vk11, vr11, us11, rfl, hr11, hb11, hn11⟩
  rw [HE11.out] at hr11 hn11 ⊢
  obtain ⟨ai11, ci11, ak11, ck11, ar11, cr11, rfl, rfl, rfl, -, -, -⟩ := hr11.lens
  have t11 := bstep hb11 (bbox w11 (.cells #[.int .i64 t.ep, .int .i64 t.ld, .slice ai11 t.isr.length ci11, .slice ak11 t.kn.length ck11, .slice ar11 t.rs.length cr11, .int .i64 t.fw, .int .i64 t.bs] 26))
  have HB11 : Hid (Below w.heap.size w (w11.alloc (.cells #[.int .i64 t.ep, .int .i64 t.ld, .slice ai11 t.isr.length ci11, .slice ak11 t.kn.length ck11, .slice ar11 t.rs.length cr11, .int .i64 t.fw, .int .i64 t.bs] 26))) := bstep HB10.out t11
  have HN4_5_6_7_8_9_10_11 : Hid (PB (w11.alloc (.cells #[.int .i64 t.ep, .int .i64 t.ld, .slice ai11 t.isr.length ci11, .slice ak11 t.kn.length ck11, .slice ar11 t.rs.length cr11, .int .i64 t.fw, .int .i64 t.bs] 26)) b1 p1 (.slice ai4 p1.isr.length ci4) (.slice ak4 p1.kn.length ck4) (.slice ar4 p1.rs.length cr4) ∧ RdP (w11.alloc (.cells #[.int .i64 t.ep, .int .i64 t.ld, .slice ai11 t.isr.length ci11, .slice ak11 t.kn.length ck11, .slice ar11 t.rs.length cr11, .int .i64 t.fw, .int .i64 t.bs] 26)) p1 (.slice ai4 p1.isr.length ci4) (.slice ak4 p1.kn.length ck4) (.slice ar4 p1.rs.length cr4) us4) := ⟨HN4_5_6_7_8_9_10.out.1.below HN4_5_6_7_8_9_10.out.1.1 t11, RdP.below HN4_5_6_7_8_9_10.out.2 (Nat.le_refl _) t11⟩
  have HN5_6_7_8_9_10_11 : Hid (PB (w11.alloc (.cells #[.int .i64 t.ep, .int .i64 t.ld, .slice ai11 t.isr.length ci11, .slice ak11 t.kn.length ck11, .slice ar11 t.rs.length cr11, .int .i64 t.fw, .int .i64 t.bs] 26)) b5 q (.slice ai5 q.isr.length ci5) (.slice ak5 q.kn.length ck5) (.slice ar5 q.rs.length cr5) ∧ RdP (w11.alloc (.cells #[.int .i64 t.ep, .int .i64 t.ld, .slice ai11 t.isr.length ci11, .slice ak11 t.kn.length ck11, .slice ar11 t.rs.length cr11, .int .i64 t.fw, .int .i64 t.bs] 26)) q (.slice ai5 q.isr.length ci5) (.slice ak5 q.kn.length ck5) (.slice ar5 q.rs.length cr5) us5) := ⟨HN5_6_7_8_9_10.out.1.below HN5_6_7_8_9_10.out.1.1 t11, RdP.below HN5_6_7_8_9_10.out.2 (Nat.le_refl _) t11⟩
  have HN9_10_11 : Hid (PB (w11.alloc (.cells #[.int .i64 t.ep, .int .i64 t.ld, .slice ai11 t.isr.length ci11, .slice ak11 t.kn.length ck11, .slice ar11 t.rs.length cr11, .int .i64 t.fw, .int .i64 t.bs] 26)) b9 s (.slice ai9 s.isr.length ci9) (.slice ak9 s.kn.length ck9) (.slice ar9 s.rs.length cr9) ∧ RdP (w11.alloc (.cells #[.int .i64 t.ep, .int .i64 t.ld, .slice ai11 t.isr.length ci11, .slice ak11 t.kn.length ck11, .slice ar11 t.rs.length cr11, .int .i64 t.fw, .int .i64 t.bs] 26)) s (.slice ai9 s.isr.length ci9) (.slice ak9 s.kn.length ck9) (.slice ar9 s.rs.length cr9) us9) := ⟨HN9_10.out.1.below HN9_10.out.1.1 t11, RdP.below HN9_10.out.2 (Nat.le_refl _) t11⟩
  clear s1 a0 a1 a2 a3 a4 a5 a6 f1
  obtain ⟨s1, ⟨a0, a1, a2, a3, a4, a5, a6⟩, f1⟩ := HN9_10.out.1.below HN9_10.out.1.1 hb11
  have HN11 : Hid (PB (w11.alloc (.cells #[.int .i64 t.ep, .int .i64 t.ld, .slice ai11 t.isr.length ci11, .slice ak11 t.kn.length ck11, .slice ar11 t.rs.length cr11, .int .i64 t.fw, .int .i64 t.bs] 26)) w11.heap.size t (.slice ai11 t.isr.length ci11) (.slice ak11 t.kn.length ck11) (.slice ar11 t.rs.length cr11) ∧ RdP (w11.alloc (.cells #[.int .i64 t.ep, .int .i64 t.ld, .slice ai11 t.isr.length ci11, .slice ak11 t.kn.length ck11, .slice ar11 t.rs.length cr11, .int .i64 t.fw, .int .i64 t.bs] 26)) t (.slice ai11 t.isr.length ci11) (.slice ak11 t.kn.length ck11) (.slice ar11 t.rs.length cr11) us11) := ⟨pb_new w11 t _ _ _ 26 w11.heap.size rfl, RdP.below hr11 (Nat.le_refl _) (bbox _ _)⟩
  have HLO11 : w.heap.size ≤ w11.heap.size := (bstep HB10.out hb11).size
  clear hb11 hr11 t11 hn11
  go_upto_region 15 with fail
  generalize w11.alloc (.cells #[.int .i64 t.ep, .int .i64 t.ld, .slice ai11 t.isr.length ci11, .slice ak11 t.kn.length ck11, .slice ar11 t.rs.length cr11, .int .i64 t.fw, .int .i64 t.bs] 26) = W11 at *
  generalize w11.heap.size = b11 at *
  clear s1 a0 a1 a2 a3 a4 a5 a6 f1
  obtain ⟨s1, ⟨a0, a1, a2, a3, a4, a5, a6⟩, f1⟩ := HN9_10_11.out.1
  obtain ⟨t1, ⟨e0, e1, e2, e3, e4, e5, e6⟩, g1⟩ := HN11.out.1
  rw [HSL.out] at a1
  rw [HTL.out.1] at e1
  rw [HTL.out.2] at e0
  go_wp2
  go_ret
  exact ⟨rfl, HB11.out⟩

end Go.Proofs.Ytkolelpdedmkeaa
