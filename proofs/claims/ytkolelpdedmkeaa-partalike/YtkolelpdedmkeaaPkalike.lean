/-
  No two have kept different things: the walk.
-/
import Derived.Test.YtkolelpdedmkeaaPkept
namespace Go.Proofs.Ytkolelpdedmkeaa
open Go.RowKit
set_option linter.unusedVariables false
set_option linter.unusedSimpArgs false

theorem kept_len {p : Prt} {C : List Ent} (h : Kept p C) : C.length ≤ 400 := by
  obtain ⟨A, rfl, F, I⟩ := h
  obtain ⟨i, hi, his⟩ := F.som
  have h1 := (I.one i hi his).2.len
  have h2 := (F.ent i hi).2
  omega

set_option maxRecDepth 100000 in
set_option maxHeartbeats 4000000 in
theorem partAlike_core (rs : List Raw4) (v : Value) (n : Int) (w : World) (hl : (rs.length : Int) ≤ 9223372036854775807) (hn : -9223372036854775808 ≤ n ∧ n ≤ 9223372036854775807) (h : RdR w v rs) :
    Calls Try.prog 18 #[v, .int .i64 n] w fun e w' => e = .returned (.bool true) ∧ Below w.heap.size w w' := by
  obtain ⟨k, hk, hk1, hk4⟩ := nat_pick n 4 (by omega)
  have HK : Hid (1 + pick n 4 = (k : Int)) := hk
  have HR : Hid (∀ W, Below w.heap.size w W → RdR W v rs) := fun W hW => h.below hW
  obtain ⟨C, hC⟩ := plL_ok (n := k) (few := 1) true (rs.take 60) hk1 (by omega) (by omega) (by omega)
  have HHS : Hid (∀ h ∈ (plL k 1 true (rs.take 60)).hs, Pre h C) := hC.hs
  have HHE : Hid (∀ h ∈ (plL k 1 true (rs.take 60)).hs, h.length ≤ C.length) := fun h hh => (hC.hs h hh).len
  have HCL : Hid (C.length ≤ 400) := show _ ≤ _ from kept_len hC.k
  have HHL : Hid ((plL k 1 true (rs.take 60)).hs.length ≤ 1000) := show _ ≤ _ by
    have h1 := plL_hs (n := k) (few := 1) true (rs.take 60) hk1 (by omega) (by omega) (by omega) (rs.take 60).length (Nat.le_refl _)
    rw [List.take_length, show ((1 : Nat) : Int) = 1 from rfl] at h1
    rw [List.length_take] at h1
    omega
  have hpk := pick_bd n 4 (by omega)
  clear hk h hC
  go_enter Try.func18, Try.ntmps18
  go_wp2_with fail
  refine (partTells_any _).mono ?_
  rintro e w0 ⟨rfl, hb0⟩
  go_wp2_with fail
  refine (picked_any n 4 _ hn ⟨by omega, by omega⟩).mono ?_
  rintro e w1 ⟨rfl, hw1⟩
  rw [hw1]
  clear hw1
  go_wp2_with fail
  rw [HK.out]
  refine (played_any rs k 1 60 true v _ (HR.out _ hb0) hk1 (by omega) (by omega) (by omega) (by omega) hl).mono ?_
  rintro e w2 ⟨vi, vk, vr, us, vh, rfl, hr2, hh2, hb2⟩
  have e1 : ((1 : Nat) : Int) = 1 := rfl
  rw [e1] at hh2 hr2 ⊢
  obtain ⟨p, hp⟩ : ∃ p, (plL k 1 true (rs.take 60)).p = p := ⟨_, rfl⟩
  obtain ⟨hs, hhs⟩ : ∃ hs, (plL k 1 true (rs.take 60)).hs = hs := ⟨_, rfl⟩
  rw [hp] at hr2 ⊢
  rw [hhs] at hh2 HHS HHL HHE
  obtain ⟨ai, ci, ak, ck, ar, cr, rfl, rfl, rfl, l1, l2, l3⟩ := hr2.lens
  obtain ⟨ah, ch, rfl⟩ := hh2.shape
  have HB3 : Hid (Below w.heap.size w (w2.alloc (.cells #[.int .i64 p.ep, .int .i64 p.ld, .slice ai p.isr.length ci, .slice ak p.kn.length ck, .slice ar p.rs.length cr, .int .i64 p.fw, .int .i64 p.bs] 26))) := bstep (bstep hb0 hb2) (bbox _ _)
  have HH3 : Hid (RdH (w2.alloc (.cells #[.int .i64 p.ep, .int .i64 p.ld, .slice ai p.isr.length ci, .slice ak p.kn.length ck, .slice ar p.rs.length cr, .int .i64 p.fw, .int .i64 p.bs] 26)) (.slice ah hs.length ch) hs) := hh2.below (bbox _ _)
  have hhl : (hs.length : Int) ≤ 1000 := by have := HHL.out; omega
  clear hr2 hh2 hb2 hp hhs hb0 e1
  go_upto_region 5 with fail
  generalize w2.alloc (.cells #[.int .i64 p.ep, .int .i64 p.ld, .slice ai p.isr.length ci, .slice ak p.kn.length ck, .slice ar p.rs.length cr, .int .i64 p.fw, .int .i64 p.bs] 26) = W3 at *
  generalize w2.heap.size = b at *
  go_wp2
  go_loopw [9] (fun i wr => ∃ m : Nat, 1 ≤ m ∧ m ≤ hs.length + 1 ∧ i = .int .i64 m ∧ Hid (Below W3.heap.size W3 wr)) (fun i _ => hs.length + 1 - (intOf i).toNat)
  case atStart => exact ⟨1, by omega, by omega, rfl, Below.refl _ _⟩
  case round =>
    obtain ⟨m, hm1, hm, rfl, HB⟩ := hrel
    by_cases hlt : m < hs.length
    · have hmv : (m : Int) < hs.length := by omega
      have hm0 : (0 : Int) ≤ (m : Int) - 1 := by omega
      obtain ⟨j, hj⟩ : ∃ j : Nat, m = j + 1 := ⟨m - 1, by omega⟩
      subst hj
      have hjv : (j : Int) < hs.length := by omega
      have hj1 : ((j + 1 : Nat) : Int) = (j : Int) + 1 := by omega
      obtain ⟨g2, off2, ae, ce, hah, hc, hx, hce⟩ := (HH3.out.below HB.out).at j (by omega)
      obtain ⟨g3, off3, be, de, hah2, hc2, hx2, hde⟩ := (HH3.out.below HB.out).at (j + 1) hlt
      rw [hah] at hah2
      simp only [Option.some.injEq, Addr.mk.injEq, and_true] at hah2
      obtain ⟨rfl, rfl⟩ := hah2
      obtain ⟨x, hxe⟩ : ∃ x, hs[j]'(by omega) = x := ⟨_, rfl⟩
      obtain ⟨y, hye⟩ : ∃ y, hs[j + 1]'hlt = y := ⟨_, rfl⟩
      have HPX : Hid (Pre x C) := HHS.out x (by rw [← hxe]; exact List.getElem_mem _)
      have HPY : Hid (Pre y C) := HHS.out y (by rw [← hye]; exact List.getElem_mem _)
      have hxl := HHE.out x (by rw [← hxe]; exact List.getElem_mem _)
      have hyl := HHE.out y (by rw [← hye]; exact List.getElem_mem _)
      have hcl := HCL.out
      rw [hxe] at hc hx hce
      rw [hye] at hc2 hx2 hde
      subst hah
      have hlen := And.intro hxl hyl
      rcases Nat.lt_or_ge y.length x.length with hyx | hyx
      · have hyx2 : (y.length : Int) < x.length := by omega
        have HXE : Hid (RdX wr (.slice ae y.length ce) (x.take y.length)) := hx.takes y.length (by omega)
        have HYE : Hid (RdX wr (.slice be y.length de) (x.take y.length)) := show RdX _ _ _ by rw [pre_of HPX.out HPY.out y.length (by omega) (by omega)]; exact hx2.takes y.length (by omega)
        have HQL : Hid ((x.take y.length).length ≤ 400) := show _ ≤ _ by rw [List.length_take]; omega
        have hqc : (y.length : Int) ≤ ce := by omega
        have hqd : (y.length : Int) ≤ de := by omega
        have hx4 : (x.length : Int) ≤ 400 := by omega
        have hy4 : (y.length : Int) ≤ 400 := by omega
        clear hx hx2 hxe hye hxl hyl hcl hce hde hlen
        go_upto_region 11 with fail
        go_cut [52] (fun r W => r = .bool false ∧ Below wr.heap.size wr W)
        case first =>
          go_region_with (go_at_call 56; refine (eqX_any (x.take y.length) _ _ _ (by have := HQL.out; omega) (RdX.below HXE.out (Nat.le_refl _) (by repeat (first | exact Below.refl _ _ | refine Below.drew ?_))) (RdX.below HYE.out (Nat.le_refl _) (by repeat (first | exact Below.refl _ _ | refine Below.drew ?_)))).mono ?_; rintro e w5 ⟨rfl, hb5⟩)
          all_goals
            have HX : Below wr.heap.size wr w5 := bstep (by repeat (first | exact Below.refl _ _ | refine Below.drew ?_)) hb5
            go_wp2_with fail
            go_meet
            exact ⟨rfl, HX⟩
        case rest =>
        obtain ⟨hv, hbl⟩ := hcut
        subst hv
        rename World => w6
        have HB6 : Hid (Below W3.heap.size W3 w6) := bstep HB.out hbl
        clear hbl hc hc2
        go_at_K
        go_wp2
        go_roundw
        case rel => exact ⟨j + 2, by omega, by omega, by go_num, HB6⟩
        case measure => simp [intOf]; omega
      · have hyx2 : ¬ (y.length : Int) < x.length := by omega
        have HXE : Hid (RdX wr (.slice ae x.length ce) (x.take x.length)) := hx.takes x.length (by omega)
        have HYE : Hid (RdX wr (.slice be x.length de) (x.take x.length)) := show RdX _ _ _ by rw [pre_of HPX.out HPY.out x.length (by omega) (by omega)]; exact hx2.takes x.length (by omega)
        have HQL : Hid ((x.take x.length).length ≤ 400) := show _ ≤ _ by rw [List.length_take]; omega
        have hqc : (x.length : Int) ≤ ce := by omega
        have hqd : (x.length : Int) ≤ de := by omega
        have hx4 : (x.length : Int) ≤ 400 := by omega
        have hy4 : (y.length : Int) ≤ 400 := by omega
        clear hx hx2 hxe hye hxl hyl hcl hce hde hlen
        go_upto_region 11 with fail
        go_cut [52] (fun r W => r = .bool false ∧ Below wr.heap.size wr W)
        case first =>
          go_region_with (go_at_call 56; refine (eqX_any (x.take x.length) _ _ _ (by have := HQL.out; omega) (RdX.below HXE.out (Nat.le_refl _) (by repeat (first | exact Below.refl _ _ | refine Below.drew ?_))) (RdX.below HYE.out (Nat.le_refl _) (by repeat (first | exact Below.refl _ _ | refine Below.drew ?_)))).mono ?_; rintro e w5 ⟨rfl, hb5⟩)
          all_goals
            have HX : Below wr.heap.size wr w5 := bstep (by repeat (first | exact Below.refl _ _ | refine Below.drew ?_)) hb5
            go_wp2_with fail
            go_meet
            exact ⟨rfl, HX⟩
        case rest =>
        obtain ⟨hv, hbl⟩ := hcut
        subst hv
        rename World => w6
        have HB6 : Hid (Below W3.heap.size W3 w6) := bstep HB.out hbl
        clear hbl hc hc2
        go_at_K
        go_wp2
        go_roundw
        case rel => exact ⟨j + 2, by omega, by omega, by go_num, HB6⟩
        case measure => simp [intOf]; omega
    · have HBF : Hid (Below w.heap.size w wr) := bstep HB3.out HB.out
      have hmn : ¬ (m : Int) < hs.length := by omega
      go_wp2
      go_ret
      exact ⟨rfl, HBF.out⟩

end Go.Proofs.Ytkolelpdedmkeaa
