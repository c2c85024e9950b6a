/-
  Whatever replicas do a part stays one that may be: the walk.
-/
import Derived.Test.YtkolelpdedmkeaaPplay
import Derived.Test.YtkolelpdedmkeaaPcheck
import Derived.Deep.RegionWith
namespace Go.Proofs.Ytkolelpdedmkeaa
open Go.RowKit
set_option linter.unusedVariables false
set_option linter.unusedSimpArgs false

theorem rdP_zero (w : World) : RdP w Prt.zero (.slice none 0 0) (.slice none 0 0) (.slice none 0 0) (fun _ => .slice none 0 0) :=
  ⟨⟨none, 0, rfl, Nat.le_refl _, by simp [maxLen], fun _ => rfl, fun h => by simp [Prt.zero] at h⟩, ⟨none, 0, rfl, Nat.le_refl _, by simp [maxLen], fun _ => rfl, fun h => by simp [Prt.zero] at h⟩, ⟨none, 0, rfl, Nat.le_refl _, by simp [maxLen], fun _ => rfl, fun h => by simp [Prt.zero] at h⟩⟩
theorem small_zero : Prt.zero.small := by
  intro r hr
  simp [Prt.zero] at hr
theorem nat_pick (n m : Int) (hm : 0 < m) : ∃ k : Nat, 1 + pick n m = (k : Int) ∧ 1 ≤ k ∧ (k : Int) ≤ m := by
  obtain ⟨h0, h1⟩ := pick_bd n m hm
  exact ⟨(1 + pick n m).toNat, by omega, by omega, by omega⟩

set_option maxRecDepth 100000 in
set_option maxHeartbeats 2000000 in
theorem partGood_core (rs : List Raw4) (v : Value) (n few : Int) (w : World) (hl : (rs.length : Int) ≤ 9223372036854775807) (hn : -9223372036854775808 ≤ n ∧ n ≤ 9223372036854775807) (hf : -9223372036854775808 ≤ few ∧ few ≤ 9223372036854775807) (h : RdR w v rs) :
    Calls Try.prog 16 #[v, .int .i64 n, .int .i64 few] w fun e w' => e = .returned (.bool true) ∧ Below w.heap.size w w' := by
  obtain ⟨k, hk, hk1, hk4⟩ := nat_pick n 4 (by omega)
  obtain ⟨f, hfe, hf1, hfk⟩ := nat_pick few k (by omega)
  have HK : Hid (1 + pick n 4 = (k : Int)) := hk
  have HF : Hid (1 + pick few k = (f : Int)) := hfe
  have HR : Hid (RdR w v rs) := h
  obtain ⟨C, hC⟩ := plL_ok (n := k) (few := f) true (rs.take 60) hk1 (by omega) hf1 (by omega)
  have HMY : Hid (May (plL k f true (rs.take 60)).p) := pl_may hC
  have hpk := pick_bd n 4 (by omega)
  have hpf := pick_bd few k (by omega)
  clear hk hfe h hC
  go_enter Try.func16, Try.ntmps16
  go_wp2_with fail
  refine (picked_any n 4 _ hn ⟨by omega, by omega⟩).mono ?_
  rintro e w1 ⟨rfl, hw1⟩
  rw [hw1]
  clear hw1
  go_wp2_with fail
  rw [HK.out]
  refine (picked_any few k _ hf ⟨by omega, by omega⟩).mono ?_
  rintro e w1 ⟨rfl, hw1⟩
  rw [hw1]
  clear hw1
  go_wp2_with fail
  rw [HF.out]
  refine (played_any rs k f 60 true v _ HR.out hk1 (by omega) hf1 (by omega) (by omega) hl).mono ?_
  rintro e w2 ⟨vi, vk, vr, us, vh, rfl, hr2, hh2, hb2⟩
  obtain ⟨p, hp⟩ : ∃ p, (plL k f true (rs.take 60)).p = p := ⟨_, rfl⟩
  rw [hp] at hr2 HMY ⊢
  obtain ⟨ai, ci, ak, ck, ar, cr, rfl, rfl, rfl, l1, l2, l3⟩ := hr2.lens
  have HB3 : Hid (Below w.heap.size w (w2.alloc (.cells #[.int .i64 p.ep, .int .i64 p.ld, .slice ai p.isr.length ci, .slice ak p.kn.length ck, .slice ar p.rs.length cr, .int .i64 p.fw, .int .i64 p.bs] 26))) := bstep hb2 (bbox _ _)
  have HP3 : Hid (PB (w2.alloc (.cells #[.int .i64 p.ep, .int .i64 p.ld, .slice ai p.isr.length ci, .slice ak p.kn.length ck, .slice ar p.rs.length cr, .int .i64 p.fw, .int .i64 p.bs] 26)) w2.heap.size p (.slice ai p.isr.length ci) (.slice ak p.kn.length ck) (.slice ar p.rs.length cr)) := pb_new w2 p _ _ _ 26 w2.heap.size rfl
  have HR3 : Hid (RdP (w2.alloc (.cells #[.int .i64 p.ep, .int .i64 p.ld, .slice ai p.isr.length ci, .slice ak p.kn.length ck, .slice ar p.rs.length cr, .int .i64 p.fw, .int .i64 p.bs] 26)) p (.slice ai p.isr.length ci) (.slice ak p.kn.length ck) (.slice ar p.rs.length cr) us) := RdP.below hr2 (Nat.le_refl _) (bbox _ _)
  clear hr2 hh2 hb2 hp
  go_upto_region 3 with fail
  generalize w2.alloc (.cells #[.int .i64 p.ep, .int .i64 p.ld, .slice ai p.isr.length ci, .slice ak p.kn.length ck, .slice ar p.rs.length cr, .int .i64 p.fw, .int .i64 p.bs] 26) = W3 at *
  generalize w2.heap.size = b at *
  obtain ⟨s1, ⟨a0, a1, a2, a3, a4, a5, a6⟩, f1⟩ := HP3.out
  go_wp2_with fail
  refine (partCheck_any p _ _ _ us _ HR3.out (may_small HMY.out)).mono ?_
  rintro e w4 ⟨rfl, hb4⟩
  rw [cfl_yes (may_iff.2 HMY.out)]
  have HB4 : Hid (Below w.heap.size w w4) := bstep HB3.out hb4
  have HP4 : Hid (PB w4 b p (.slice ai p.isr.length ci) (.slice ak p.kn.length ck) (.slice ar p.rs.length cr)) := HP3.out.below HP3.out.1 hb4
  have HR4 : Hid (RdP w4 p (.slice ai p.isr.length ci) (.slice ak p.kn.length ck) (.slice ar p.rs.length cr) us) := RdP.below HR3.out (Nat.le_refl _) hb4
  clear s1 a0 a1 a2 a3 a4 a5 a6 f1 hb4
  obtain ⟨s1, ⟨a0, a1, a2, a3, a4, a5, a6⟩, f1⟩ := HP4.out
  go_wp2_with fail
  refine (copy_any p _ _ _ us _ HR4.out (may_fits HMY.out)).mono ?_
  rintro e w5 ⟨vi5, vk5, vr5, us5, rfl, hf5, hb5⟩
  have HB5 : Hid (Below w.heap.size w w5) := bstep HB4.out hb5
  have HR5 : Hid (RdP w5 p vi5 vk5 vr5 us5) := hf5.rdp
  clear s1 a0 a1 a2 a3 a4 a5 a6 f1 hb5 hf5
  go_wp2_with fail
  refine (partCheck_any p _ _ _ us5 _ HR5.out (may_small HMY.out)).mono ?_
  rintro e w6 ⟨rfl, hb6⟩
  rw [cfl_yes (may_iff.2 HMY.out)]
  have HB6 : Hid (Below w.heap.size w w6) := bstep HB5.out hb6
  clear hb6
  go_wp2_with fail
  refine (partCheck_any Prt.zero _ _ _ _ _ (rdP_zero _) small_zero).mono ?_
  rintro e w7 ⟨rfl, hb7⟩
  rw [show Prt.zero.cfl = 12 from rfl]
  have HB7 : Hid (Below w.heap.size w w7) := bstep HB6.out hb7
  clear hb7
  go_wp2
  go_ret
  exact ⟨rfl, HB7.out⟩

end Go.Proofs.Ytkolelpdedmkeaa
