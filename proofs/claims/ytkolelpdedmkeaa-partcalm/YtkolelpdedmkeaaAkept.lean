/-
  Whatever replicas do a part stays one that may be: the walk.
  What was once kept by all is in the log of who leads: the walk.
-/
import Derived.Test.YtkolelpdedmkeaaPplay
import Derived.Test.YtkolelpdedmkeaaApch
import Derived.Deep.RegionWith
namespace Go.Proofs.Ytkolelpdedmkeaa

section
open Go.RowKit
set_option linter.unusedVariables false
set_option linter.unusedSimpArgs false

theorem rdP_zero (w : World) : RdP w Prt.zero (.slice none 0 0) (.slice none 0 0) (.slice none 0 0) (fun _ => .slice none 0 0) :=
  ⟨⟨none, 0, rfl, Nat.le_refl _, by simp [maxLen], fun _ => rfl, fun h => by simp [Prt.zero] at h⟩, ⟨none, 0, rfl, Nat.le_refl _, by simp [maxLen], fun _ => rfl, fun h => by simp [Prt.zero] at h⟩, ⟨none, 0, rfl, Nat.le_refl _, by simp [maxLen], fun _ => rfl, fun h => by simp [Prt.zero] at h⟩⟩
theorem small_zero : Prt.zero.small := by
  intro r hr
  simp [Prt.zero] at hr
theorem nat_pick (n m : Int) (hm : 0 < m) : ∃ k : Nat, 1 + pick n m = (k : Int) ∧ 1 ≤ k ∧ (k : Int) ≤ m := by
  obtain ⟨h0, h1⟩ := pick_bd n m hm
  exact ⟨(1 + pick n m).toNat, by omega, by omega, by omega⟩

set_option maxRecDepth 100000 in
set_option maxHeartbeats 2000000 in
theorem partGood_core (rs : List Raw4) (v : Value) (n few : Int) (w : World) (hl : (rs.length : Int) ≤ 9223372036854775807) (hn : -9223372036854775808 ≤ n ∧ n ≤ 9223372036854775807) (hf : -9223372036854775808 ≤ few ∧ few ≤ 9223372036854775807) (h : RdR w v rs) :
    Calls Try.prog 16 #[v, .int .i64 n, .int .i64 few] w fun e w' => e = .returned (.bool true) ∧ Below w.heap.size w w' := by
  obtain ⟨k, hk, hk1, hk4⟩ := nat_pick n 4 (by omega)
  obtain ⟨f, hfe, hf1, hfk⟩ := nat_pick few k (by omega)
  have HK : Hid (1 + pick n 4 = (k : Int)) := hk
  have HF : Hid (1 + pick few k = (f : Int)) := hfe
  have HR : Hid (RdR w v rs) := h
  obtain ⟨C, hC⟩ := plL_ok (n := k) (few := f) true (rs.take 60) hk1 (by omega) hf1 (by omega)
  have HMY : Hid (May (plL k f true (rs.take 60)).p) := pl_may hC
  have hpk := pick_bd n 4 (by omega)
  have hpf := pick_bd few k (by omega)
  clear hk hfe h hC
  go_enter Try.func16, Try.ntmps16
  go_wp2_with fail
  refine (picked_any n 4 _ hn ⟨by omega, by omega⟩).mono ?_
  rintro e w1 ⟨rfl, hw1⟩
  rw [hw1]
  clear hw1
  go_wp2_with fail
  rw [HK.out]
  refine (picked_any few k _ hf ⟨by omega, by omega⟩).mono ?_
  rintro e w1 ⟨rfl, hw1⟩
  rw [hw1]
  clear hw1
  go_wp2_with fail
  rw [HF.out]
  refine (played_any rs k f 60 true v _ HR.out hk1 (by omega) hf1 (by omega) (by omega) hl).mono ?_
  rintro e w2 ⟨vi, vk, vr, us, vh, rfl, hr2, hh2, hb2⟩
  obtain ⟨p, hp⟩ : ∃ p, (plL k f true (rs.take 60)).p = p := ⟨_, rfl⟩
  rw [hp] at hr2 HMY ⊢
  obtain ⟨ai, ci, ak, ck, ar, cr, rfl, rfl, rfl, l1, l2, l3⟩ := hr2.lens
  have HB3 : Hid (Below w.heap.size w (w2.alloc (.cells #[.int .i64 p.ep, .int .i64 p.ld, .slice ai p.isr.length ci, .slice ak p.kn.length ck, .slice ar p.rs.length cr, .int .i64 p.fw, .int .i64 p.bs] 26))) := bstep hb2 (bbox _ _)
  have HP3 : Hid (PB (w2.alloc (.cells #[.int .i64 p.ep, .int .i64 p.ld, .slice ai p.isr.length ci, .slice ak p.kn.length ck, .slice ar p.rs.length cr, .int .i64 p.fw, .int .i64 p.bs] 26)) w2.heap.size p (.slice ai p.isr.length ci) (.slice ak p.kn.length ck) (.slice ar p.rs.length cr)) := pb_new w2 p _ _ _ 26 w2.heap.size rfl
  have HR3 : Hid (RdP (w2.alloc (.cells #[.int .i64 p.ep, .int .i64 p.ld, .slice ai p.isr.length ci, .slice ak p.kn.length ck, .slice ar p.rs.length cr, .int .i64 p.fw, .int .i64 p.bs] 26)) p (.slice ai p.isr.length ci) (.slice ak p.kn.length ck) (.slice ar p.rs.length cr) us) := RdP.below hr2 (Nat.le_refl _) (bbox _ _)
  clear hr2 hh2 hb2 hp
  go_upto_region 3 with fail
  generalize w2.alloc (.cells #[.int .i64 p.ep, .int .i64 p.ld, .slice ai p.isr.length ci, .slice ak p.kn.length ck, .slice ar p.rs.length cr, .int .i64 p.fw, .int .i64 p.bs] 26) = W3 at *
  generalize w2.heap.size = b at *
  obtain ⟨s1, ⟨a0, a1, a2, a3, a4, a5, a6⟩, f1⟩ := HP3.out
  go_wp2_with fail
  refine (partCheck_any p _ _ _ us _ HR3.out (may_small HMY.out)).mono ?_
  rintro e w4 ⟨rfl, hb4⟩
  rw [cfl_yes (may_iff.2 HMY.out)]
  have HB4 : Hid (Below w.heap.size w w4) := bstep HB3.out hb4
  have HP4 : Hid (PB w4 b p (.slice ai p.isr.length ci) (.slice ak p.kn.length ck) (.slice ar p.rs.length cr)) := HP3.out.below HP3.out.1 hb4
  have HR4 : Hid (RdP w4 p (.slice ai p.isr.length ci) (.slice ak p.kn.length ck) (.slice ar p.rs.length cr) us) := RdP.below HR3.out (Nat.le_refl _) hb4
  clear s1 a0 a1 a2 a3 a4 a5 a6 f1 hb4
  obtain ⟨s1, ⟨a0, a1, a2, a3, a4, a5, a6⟩, f1⟩ := HP4.out
  go_wp2_with fail
  refine (copy_any p _ _ _ us _ HR4.out (may_fits HMY.out)).mono ?_
  rintro e w5 ⟨vi5, vk5, vr5, us5, rfl, hf5, hb5⟩
  have HB5 : Hid (Below w.heap.size w w5) := bstep HB4.out hb5
  have HR5 : Hid (RdP w5 p vi5 vk5 vr5 us5) := hf5.rdp
  clear s1 a0 a1 a2 a3 a4 a5 a6 f1 hb5 hf5
  go_wp2_with fail
  refine (partCheck_any p _ _ _ us5 _ HR5.out (may_small HMY.out)).mono ?_
  rintro e w6 ⟨rfl, hb6⟩
  rw [cfl_yes (may_iff.2 HMY.out)]
  have HB6 : Hid (Below w.heap.size w w6) := bstep HB5.out hb6
  clear hb6
  go_wp2_with fail
  refine (partCheck_any Prt.zero _ _ _ _ _ (rdP_zero _) small_zero).mono ?_
  rintro e w7 ⟨rfl, hb7⟩
  rw [show Prt.zero.cfl = 12 from rfl]
  have HB7 : Hid (Below w.heap.size w w7) := bstep HB6.out hb7
  clear hb7
  go_wp2
  go_ret
  exact ⟨rfl, HB7.out⟩
end

section
open Go.RowKit
set_option linter.unusedVariables false
set_option linter.unusedSimpArgs false

set_option maxRecDepth 100000 in
set_option maxHeartbeats 1000000 in
theorem eqX_some (es : List Ent) (g1 o1 c1 g2 o2 c2 : Nat) (w : World) (hl : (es.length : Int) ≤ 1099511627776)
    (h1 : ∀ i, (h : i < es.length) → ∀ j, j < 7 → w.cell? ⟨g1, o1 + i * 7 + j, none⟩ = (es[i]'h).cells[j]?) (h2 : ∀ i, (h : i < es.length) → ∀ j, j < 7 → w.cell? ⟨g2, o2 + i * 7 + j, none⟩ = (es[i]'h).cells[j]?) :
    Calls Try.prog 56 #[.slice (some ⟨g1, o1, none⟩) es.length c1, .slice (some ⟨g2, o2, none⟩) es.length c2] w fun e w' => e = .returned (.bool true) ∧ Below w.heap.size w w' := by
  have hne : ((es.length : Int) != es.length) = false := by simp
  go_enter Try.func56, Try.ntmps56
  go_wp2
  go_loopw [13] (fun i wr => ∃ k : Nat, k ≤ es.length ∧ i = .int .i64 k ∧ ∃ q, wr = w.drewN q) (fun i _ => es.length - (intOf i).toNat)
  case atStart => exact ⟨0, by omega, rfl, 0, rfl⟩
  case round =>
    obtain ⟨k, hk, rfl, q, rfl⟩ := hrel
    by_cases hlt : k < es.length
    · have a0 := h1 k hlt 0 (by omega)
      have a1 := h1 k hlt 1 (by omega)
      have a2 := h1 k hlt 2 (by omega)
      have a3 := h1 k hlt 3 (by omega)
      have a4 := h1 k hlt 4 (by omega)
      have a5 := h1 k hlt 5 (by omega)
      have a6 := h1 k hlt 6 (by omega)
      have b0 := h2 k hlt 0 (by omega)
      have b1 := h2 k hlt 1 (by omega)
      have b2 := h2 k hlt 2 (by omega)
      have b3 := h2 k hlt 3 (by omega)
      have b4 := h2 k hlt 4 (by omega)
      have b5 := h2 k hlt 5 (by omega)
      have b6 := h2 k hlt 6 (by omega)
      clear h1 h2
      generalize es[k] = e at *
      simp [Ent.cells] at a0 a1 a2 a3 a4 a5 a6 b0 b1 b2 b3 b4 b5 b6
      go_wp2
      go_quiet (fail)
      go_wp2
      go_roundw
      case rel => exact ⟨k + 1, by omega, by go_num, q + nq, rfl⟩
      case measure => simp [intOf]; omega
    · clear h1 h2
      go_wp2
      go_ret
      exact ⟨rfl, below_drewN (Below.refl _ _) _⟩

set_option maxRecDepth 100000 in
set_option maxHeartbeats 400000 in
theorem eqX_none (a1 a2 : Option Addr) (c1 c2 : Nat) (w : World) :
    Calls Try.prog 56 #[.slice a1 0 c1, .slice a2 0 c2] w fun e w' => e = .returned (.bool true) ∧ Below w.heap.size w w' := by
  go_enter Try.func56, Try.ntmps56
  go_wp2
  refine wp_loop_rounds 1 ?_
  rw [rounds_succ]
  go_wp2
  go_ret
  exact ⟨rfl, Below.refl _ _⟩

theorem eqX_any (es : List Ent) (v u : Value) (w : World) (hl : (es.length : Int) ≤ 1099511627776) (h1 : RdX w v es) (h2 : RdX w u es) :
    Calls Try.prog 56 #[v, u] w fun e w' => e = .returned (.bool true) ∧ Below w.heap.size w w' := by
  obtain ⟨a1, c1, rfl, _, _, _, h1⟩ := h1
  obtain ⟨a2, c2, rfl, _, _, _, h2⟩ := h2
  by_cases h0 : 0 < es.length
  · obtain ⟨g1, o1, rfl, h1'⟩ := h1 h0
    obtain ⟨g2, o2, rfl, h2'⟩ := h2 h0
    exact eqX_some es g1 o1 c1 g2 o2 c2 w hl h1' h2'
  · have hl : es = [] := List.eq_nil_of_length_eq_zero (by omega)
    subst hl
    exact eqX_none a1 a2 c1 c2 w

set_option maxRecDepth 100000 in
set_option maxHeartbeats 1000000 in
theorem partTells_any (w : World) : Calls Try.prog 54 #[] w fun e w' => e = .returned (.bool true) ∧ Below w.heap.size w w' := by
  have HN : Hid ((newP 1 1).2 = 0 ∧ (newP 1 1).1.rs.length = 1) := ⟨by decide, by decide⟩
  go_enter Try.func54, Try.ntmps54
  go_wp2_with fail
  refine (new_any 1 1 _).mono ?_
  rintro e w1 ⟨vi, vk, vr, us, rfl, hr1, hb1⟩
  rw [HN.out.1]
  obtain ⟨ai, ci, ak, ck, ar, cr, rfl, rfl, rfl, l1, l2, l3⟩ := hr1.lens
  rw [HN.out.2]
  generalize (newP 1 1).1 = p at *
  have HB2 : Hid (Below w.heap.size w (w1.alloc (.cells #[.int .i64 p.ep, .int .i64 p.ld, .slice ai p.isr.length ci, .slice ak p.kn.length ck, .slice ar 1 cr, .int .i64 p.fw, .int .i64 p.bs] 26))) := bstep hb1 (bbox _ _)
  clear hr1 hb1 l1 l2 l3
  go_wp2
  go_ret
  exact ⟨rfl, HB2.out⟩
end

end Go.Proofs.Ytkolelpdedmkeaa
