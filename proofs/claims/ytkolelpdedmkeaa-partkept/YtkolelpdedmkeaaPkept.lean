/-
  What was once kept by all is in the log of who leads: the walk.
-/
import Derived.Test.YtkolelpdedmkeaaAkept
namespace Go.Proofs.Ytkolelpdedmkeaa
open Go.RowKit
set_option linter.unusedVariables false
set_option linter.unusedSimpArgs false

theorem RdH.at {W : World} {ah : Option Addr} {n ch : Nat} {hs : List (List Ent)} (h : RdH W (.slice ah n ch) hs) (m : Nat) (hm : m < hs.length) : ∃ g off ae ce, ah = some ⟨g, off, none⟩ ∧ W.cell? ⟨g, off + m, none⟩ = some (.slice ae (hs[m]'hm).length ce) ∧ RdX W (.slice ae (hs[m]'hm).length ce) (hs[m]'hm) ∧ (hs[m]'hm).length ≤ ce := by
  obtain ⟨xs, hl, hr, hx⟩ := h
  obtain ⟨g, off, e, _, hc⟩ := hr.cellAt m (by omega)
  have h1 := hx m hm (by omega)
  obtain ⟨ae, ce, e2, h2, h3⟩ := h1
  refine ⟨g, off, ae, ce, e, by rw [hc, e2], ?_, h2⟩
  rw [← e2]
  exact ⟨ae, ce, e2, h2, h3⟩
theorem RdH.below {W W' : World} {v : Value} {hs : List (List Ent)} (h : RdH W v hs) (hb : Below W.heap.size W W') : RdH W' v hs := by
  obtain ⟨xs, hl, hr, hx⟩ := h
  exact ⟨xs, hl, hr.below (Nat.le_refl _) hb, fun i hi k => (hx i hi k).below (Nat.le_refl _) hb⟩
theorem RdH.shape {W : World} {v : Value} {hs : List (List Ent)} (h : RdH W v hs) : ∃ ah ch, v = .slice ah hs.length ch := by
  obtain ⟨xs, hl, hr, hx⟩ := h
  obtain ⟨a, c, e⟩ := hr.shape
  exact ⟨a, c, by rw [e, hl]⟩

set_option maxRecDepth 100000 in
set_option maxHeartbeats 4000000 in
theorem partKept_core (rs : List Raw4) (v : Value) (n few : Int) (w : World) (hl : (rs.length : Int) ≤ 9223372036854775807) (hn : -9223372036854775808 ≤ n ∧ n ≤ 9223372036854775807) (hf : -9223372036854775808 ≤ few ∧ few ≤ 9223372036854775807) (h : RdR w v rs) :
    Calls Try.prog 17 #[v, .int .i64 n, .int .i64 few] w fun e w' => e = .returned (.bool true) ∧ Below w.heap.size w w' := by
  obtain ⟨k, hk, hk1, hk4⟩ := nat_pick n 4 (by omega)
  obtain ⟨f, hfe, hf1, hfk⟩ := nat_pick few k (by omega)
  have HK : Hid (1 + pick n 4 = (k : Int)) := hk
  have HF : Hid (1 + pick few k = (f : Int)) := hfe
  have HR : Hid (∀ W, Below w.heap.size w W → RdR W v rs) := fun W hW => h.below hW
  obtain ⟨C, hC⟩ := plL_ok (n := k) (few := f) true (rs.take 60) hk1 (by omega) hf1 (by omega)
  have HMY : Hid (May (plL k f true (rs.take 60)).p) := pl_may hC
  have HLD : Hid (∀ _ : 0 ≤ (plL k f true (rs.take 60)).p.ld, (plL k f true (rs.take 60)).p.ld.toNat < (plL k f true (rs.take 60)).p.rs.length ∧ Pre C ((plL k f true (rs.take 60)).p.at (plL k f true (rs.take 60)).p.ld.toNat).es) := fun h0 => hC.k.lead h0
  have HHS : Hid (∀ h ∈ (plL k f true (rs.take 60)).hs, Pre h C) := hC.hs
  have HHL : Hid ((plL k f true (rs.take 60)).hs.length ≤ 1000) := show _ ≤ _ by
    have h1 := plL_hs (n := k) (few := f) true (rs.take 60) hk1 (by omega) hf1 (by omega) (rs.take 60).length (Nat.le_refl _)
    rw [List.take_length] at h1
    rw [List.length_take] at h1
    omega
  have hpk := pick_bd n 4 (by omega)
  have hpf := pick_bd few k (by omega)
  clear hk hfe h hC
  go_enter Try.func17, Try.ntmps17
  go_wp2_with fail
  refine (partTells_any _).mono ?_
  rintro e w0 ⟨rfl, hb0⟩
  go_wp2_with fail
  refine (picked_any n 4 _ hn ⟨by omega, by omega⟩).mono ?_
  rintro e w1 ⟨rfl, hw1⟩
  rw [hw1]
  clear hw1
  go_wp2_with fail
  rw [HK.out]
  refine (picked_any few k _ hf ⟨by omega, by omega⟩).mono ?_
  rintro e w1 ⟨rfl, hw1⟩
  rw [hw1]
  clear hw1
  go_wp2_with fail
  rw [HF.out]
  refine (played_any rs k f 60 true v _ (HR.out _ hb0) hk1 (by omega) hf1 (by omega) (by omega) hl).mono ?_
  rintro e w2 ⟨vi, vk, vr, us, vh, rfl, hr2, hh2, hb2⟩
  obtain ⟨p, hp⟩ : ∃ p, (plL k f true (rs.take 60)).p = p := ⟨_, rfl⟩
  obtain ⟨hs, hhs⟩ : ∃ hs, (plL k f true (rs.take 60)).hs = hs := ⟨_, rfl⟩
  rw [hp] at hr2 HMY HLD ⊢
  rw [hhs] at hh2 HHS HHL
  obtain ⟨ai, ci, ak, ck, ar, cr, rfl, rfl, rfl, l1, l2, l3⟩ := hr2.lens
  obtain ⟨ah, ch, rfl⟩ := hh2.shape
  have HB3 : Hid (Below w.heap.size w (w2.alloc (.cells #[.int .i64 p.ep, .int .i64 p.ld, .slice ai p.isr.length ci, .slice ak p.kn.length ck, .slice ar p.rs.length cr, .int .i64 p.fw, .int .i64 p.bs] 26))) := bstep (bstep hb0 hb2) (bbox _ _)
  have HP3 : Hid (PB (w2.alloc (.cells #[.int .i64 p.ep, .int .i64 p.ld, .slice ai p.isr.length ci, .slice ak p.kn.length ck, .slice ar p.rs.length cr, .int .i64 p.fw, .int .i64 p.bs] 26)) w2.heap.size p (.slice ai p.isr.length ci) (.slice ak p.kn.length ck) (.slice ar p.rs.length cr)) := pb_new w2 p _ _ _ 26 w2.heap.size rfl
  have HR3 : Hid (RdP (w2.alloc (.cells #[.int .i64 p.ep, .int .i64 p.ld, .slice ai p.isr.length ci, .slice ak p.kn.length ck, .slice ar p.rs.length cr, .int .i64 p.fw, .int .i64 p.bs] 26)) p (.slice ai p.isr.length ci) (.slice ak p.kn.length ck) (.slice ar p.rs.length cr) us) := RdP.below hr2 (Nat.le_refl _) (bbox _ _)
  have HH3 : Hid (RdH (w2.alloc (.cells #[.int .i64 p.ep, .int .i64 p.ld, .slice ai p.isr.length ci, .slice ak p.kn.length ck, .slice ar p.rs.length cr, .int .i64 p.fw, .int .i64 p.bs] 26)) (.slice ah hs.length ch) hs) := hh2.below (bbox _ _)
  have hhl : (hs.length : Int) ≤ 1000 := by have := HHL.out; omega
  clear hr2 hh2 hb2 hp hhs hb0
  go_upto_region 5 with fail
  generalize w2.alloc (.cells #[.int .i64 p.ep, .int .i64 p.ld, .slice ai p.isr.length ci, .slice ak p.kn.length ck, .slice ar p.rs.length cr, .int .i64 p.fw, .int .i64 p.bs] 26) = W3 at *
  generalize w2.heap.size = b at *
  obtain ⟨s1, ⟨a0, a1, a2, a3, a4, a5, a6⟩, f1⟩ := HP3.out
  by_cases hd : p.ld < 0
  · go_wp2
    go_ret
    exact ⟨rfl, HB3.out⟩
  obtain ⟨d, hdd⟩ := Int.eq_ofNat_of_zero_le (show 0 ≤ p.ld by omega)
  have hL := HLD.out (by omega)
  rw [hdd, Int.toNat_natCast] at hL
  have HPC : Hid (Pre C (p.at d).es) := hL.2
  have hdl := hL.1
  have hdl' : (d : Int) < p.rs.length := by omega
  have HLF : Hid (lft (p.at d).l (p.at d).y = 0) := show _ = _ from (HMY.out.ok d hdl).1
  have HLN : Hid ((p.at d).l.length ≤ 140737488351232) := show _ ≤ _ by have := may_len HMY.out hdl; omega
  have HL4 : Hid (((p.at d).es.length : Int) ≤ 400) := show _ ≤ _ from may_es HMY.out hdl
  obtain ⟨g, off, rfl, hus, r0, r1, r2, r3, r4⟩ := HR3.out.2.2.cells d hdl
  have HRL : Hid _ := r0
  rw [hdd] at a1 ⊢
  have hd0 : ¬ (d : Int) < 0 := by omega
  clear hL hdd hd HLD r0 HMY
  obtain ⟨au, cu, eu⟩ : ∃ au cu, us d = .slice au (p.at d).l.length cu := by obtain ⟨_, au, cu, e, _⟩ := HRL.out; exact ⟨au, cu, e⟩
  rw [eu] at HRL r2
  clear eu
  go_wp2_with fail
  refine (segEntries_ok (p.at d).l _ (p.at d).y _ (by have := HLN.out; omega) HRL.out HLF.out).mono ?_
  rintro e w4 ⟨v4, rfl, ho4, hb4⟩
  obtain ⟨es, hes⟩ : ∃ es, (p.at d).es = es := ⟨_, rfl⟩
  have hes2 : (decL (p.at d).l).1 = es := hes
  rw [hes2] at ho4
  rw [hes] at HL4 HPC
  obtain ⟨a4', c4, rfl⟩ := ho4.shape
  have HX4 : Hid (RdX w4 (.slice a4' es.length c4) es) := ho4.rdX
  have hcap : (es.length : Int) ≤ c4 := by
    obtain ⟨_, _, e, h1, _⟩ := ho4.rdX
    simp only [Value.slice.injEq] at e
    omega
  have HB4 : Hid (Below w.heap.size w w4) := bstep HB3.out hb4
  have HH4 : Hid (RdH w4 (.slice ah hs.length ch) hs) := HH3.out.below hb4
  have hes4 := HL4.out
  clear ho4 hb4 hes hes2 s1 a0 a1 a2 a3 a4 a5 a6 f1 r1 r2 r3 r4
  go_wp2
  go_loopw [54] (fun i wr => ∃ m : Nat, m ≤ hs.length ∧ i = .int .i64 m ∧ Hid (Below w4.heap.size w4 wr)) (fun i _ => hs.length - (intOf i).toNat)
  case atStart => exact ⟨0, Nat.zero_le _, rfl, Below.refl _ _⟩
  case round =>
    obtain ⟨m, hm, rfl, HB⟩ := hrel
    by_cases hlt : m < hs.length
    · have hmv : (m : Int) < hs.length := by omega
      obtain ⟨g2, off2, ae, ce, rfl, hc, hx, hce⟩ := (HH4.out.below HB.out).at m hlt
      obtain ⟨x, hxe⟩ : ∃ x, hs[m]'hlt = x := ⟨_, rfl⟩
      have HPX : Hid (Pre x C) := HHS.out x (by rw [← hxe]; exact List.getElem_mem hlt)
      have HPE : Hid (Pre x es) := Pre.trans HPX.out HPC.out
      rw [hxe] at hc hx hce
      have hxl : x.length ≤ es.length := HPE.out.len
      have hxl' : (x.length : Int) ≤ es.length := by omega
      have hxl2 : ¬ (es.length : Int) < x.length := by omega
      have hxc : (x.length : Int) ≤ c4 := by omega
      have HXE : Hid (RdX wr (.slice ae x.length ce) x) := hx
      have HXT : Hid (RdX wr (.slice a4' x.length c4) x) := show RdX _ _ _ by
        have h1 := (RdX.below HX4.out (Nat.le_refl _) HB.out).takes x.length hxl
        have h2 : x = es.take x.length := HPE.out
        rwa [← h2] at h1
      have hx4 : (x.length : Int) ≤ 400 := by omega
      clear hx hxe hce
      go_wp2_with fail
      refine (eqX_any x _ _ _ (by omega) HXE.out HXT.out).mono ?_
      rintro e w5 ⟨rfl, hb5⟩
      have HB5 : Hid (Below w4.heap.size w4 w5) := bstep HB.out hb5
      clear hb5 hc
      go_wp2
      go_roundw
      case rel => exact ⟨m + 1, by omega, by go_num, HB5⟩
      case measure => simp [intOf]; omega
    · have HBF : Hid (Below w.heap.size w wr) := bstep HB4.out HB.out
      go_wp2
      go_ret
      exact ⟨rfl, HBF.out⟩

end Go.Proofs.Ytkolelpdedmkeaa
