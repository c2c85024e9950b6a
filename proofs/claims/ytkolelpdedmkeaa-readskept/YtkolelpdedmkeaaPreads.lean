/-
  What was read once is read again: the walk.
-/
import Derived.Test.YtkolelpdedmkeaaAkept
import Derived.Test.YtkolelpdedmkeaaPreadD
namespace Go.Proofs.Ytkolelpdedmkeaa
open Go.RowKit
set_option linter.unusedVariables false
set_option linter.unusedSimpArgs false

set_option maxRecDepth 100000 in
set_option maxHeartbeats 1000000 in
theorem eqS_some (ts : List ByteArray) (g1 c1 g2 c2 : Nat) (w : World) (hl : (ts.length : Int) ≤ 1099511627776)
    (h1 : ∀ i, (h : i < ts.length) → w.cell? ⟨g1, i, none⟩ = some (.string (ts[i]'h))) (h2 : ∀ i, (h : i < ts.length) → w.cell? ⟨g2, i, none⟩ = some (.string (ts[i]'h))) :
    Calls Try.prog 57 #[.slice (some ⟨g1, 0, none⟩) ts.length c1, .slice (some ⟨g2, 0, none⟩) ts.length c2] w fun e w' => e = .returned (.bool true) ∧ Below w.heap.size w w' := by
  have hne : ((ts.length : Int) != ts.length) = false := by simp
  go_enter Try.func57, Try.ntmps57
  go_wp2
  go_loopw [13] (fun i wr => ∃ k : Nat, k ≤ ts.length ∧ i = .int .i64 k ∧ ∃ q, wr = w.drewN q) (fun i _ => ts.length - (intOf i).toNat)
  case atStart => exact ⟨0, by omega, rfl, 0, rfl⟩
  case round =>
    obtain ⟨k, hk, rfl, q, rfl⟩ := hrel
    by_cases hlt : k < ts.length
    · have A := h1 k hlt
      have B := h2 k hlt
      clear h1 h2
      generalize ts[k] = t at *
      go_wp2
      go_quiet (fail)
      go_wp2
      go_roundw
      case rel => exact ⟨k + 1, by omega, by go_num, q + nq, rfl⟩
      case measure => simp [intOf]; omega
    · clear h1 h2
      go_wp2
      go_ret
      exact ⟨rfl, below_drewN (Below.refl _ _) _⟩

set_option maxRecDepth 100000 in
set_option maxHeartbeats 400000 in
theorem eqS_none (a1 a2 : Option Addr) (c1 c2 : Nat) (w : World) :
    Calls Try.prog 57 #[.slice a1 0 c1, .slice a2 0 c2] w fun e w' => e = .returned (.bool true) ∧ Below w.heap.size w w' := by
  go_enter Try.func57, Try.ntmps57
  go_wp2
  refine wp_loop_rounds 1 ?_
  rw [rounds_succ]
  go_wp2
  go_ret
  exact ⟨rfl, Below.refl _ _⟩

theorem eqS_any (ts : List ByteArray) (v u : Value) (w : World) (hl : (ts.length : Int) ≤ 1099511627776) (h1 : RdS w v ts) (h2 : RdS w u ts) :
    Calls Try.prog 57 #[v, u] w fun e w' => e = .returned (.bool true) ∧ Below w.heap.size w w' := by
  obtain ⟨a1, c1, rfl, h1⟩ := h1
  obtain ⟨a2, c2, rfl, h2⟩ := h2
  by_cases h0 : 0 < ts.length
  · obtain ⟨g1, rfl, h1'⟩ := h1 h0
    obtain ⟨g2, rfl, h2'⟩ := h2 h0
    exact eqS_some ts g1 c1 g2 c2 w hl h1' h2'
  · have hl : ts = [] := List.eq_nil_of_length_eq_zero (by omega)
    subst hl
    exact eqS_none a1 a2 c1 c2 w
theorem RdS.below' {B : Nat} {v : Value} {ts : List ByteArray} {w w' : World} (h : OwnS B v ts w) (hb : Below w.heap.size w w') : RdS w' v ts := (OwnS.below h (Nat.le_refl _) hb).rd
theorem RdS.takes {w : World} {ao : Option Addr} {cap : Nat} {ts : List ByteArray} (h : RdS w (.slice ao ts.length cap) ts) (m : Nat) (hm : m ≤ ts.length) : RdS w (.slice ao m cap) (ts.take m) := by
  obtain ⟨a, c, e, h1⟩ := h
  obtain ⟨rfl, rfl⟩ : ao = a ∧ cap = c := by simpa using e
  refine ⟨ao, cap, by rw [List.length_take, Nat.min_eq_left hm], fun h0 => ?_⟩
  rw [List.length_take, Nat.min_eq_left hm] at h0
  obtain ⟨g, hg, h2⟩ := h1 (by omega)
  refine ⟨g, hg, fun i hi => ?_⟩
  rw [List.length_take] at hi
  rw [h2 i (by omega), List.getElem_take]
theorem RdR.takes {w : World} {ao : Option Addr} {cap : Nat} {rs : List Raw4} (h : RdR w (.slice ao rs.length cap) rs) (m : Nat) (hm : m ≤ rs.length) : RdR w (.slice ao m cap) (rs.take m) := by
  obtain ⟨hok, a, c, e, h1⟩ := h
  obtain ⟨rfl, rfl⟩ : ao = a ∧ cap = c := by simpa using e
  refine ⟨fun r hr => hok r (List.mem_of_mem_take hr), ao, cap, by rw [List.length_take, Nat.min_eq_left hm], fun h0 => ?_⟩
  rw [List.length_take, Nat.min_eq_left hm] at h0
  obtain ⟨b, off, hg, h2⟩ := h1 (by omega)
  refine ⟨b, off, hg, fun i hi => ?_⟩
  rw [List.length_take] at hi
  rw [List.getElem_take]
  exact h2 i (by omega)
/-- What the two readings are. -/
def ReadT (a b : List ByteArray × Int × Int) : Prop :=
  (a.1.length ≤ 20 ∧ b.1.length ≤ 20) ∧ ((a.2.2 = 0 ∧ b.2.2 = 0 ∧ (a.1.length ≤ b.1.length → a.1 = b.1.take a.1.length) ∧ (b.1.length < a.1.length → b.1 = a.1.take b.1.length)) ∨ ((a.2.2 = 8 ∨ b.2.2 = 8) ∧ (a.2.2 = 0 ∨ a.2.2 = 8) ∧ (b.2.2 = 0 ∨ b.2.2 = 8)))
theorem reads_any {p q : Prt} {C D : List Ent} (hp : KeptD p C) (hq : KeptD q D) (hl : Pre C D) : ReadT (p.readP 0 20) (q.readP 0 20) := by
  rcases read_data hp hl with e1 | ⟨i, a1, e1⟩ <;> rcases read_data hq (Pre.refl D) with e2 | ⟨j, a2, e2⟩
  · rw [e1, e2]; exact ⟨⟨by simp, by simp⟩, .inr ⟨.inl rfl, .inr rfl, .inr rfl⟩⟩
  · rw [e1, e2]; exact ⟨⟨by simp, by rw [List.length_take]; omega⟩, .inr ⟨.inl rfl, .inr rfl, .inl rfl⟩⟩
  · rw [e1, e2]; exact ⟨⟨by rw [List.length_take]; omega, by simp⟩, .inr ⟨.inr rfl, .inl rfl, .inr rfl⟩⟩
  · rw [e1, e2]
    refine ⟨⟨by rw [List.length_take]; omega, by rw [List.length_take]; omega⟩, .inl ⟨rfl, rfl, fun h => ?_, fun h => ?_⟩⟩
    · exact read_two (D := D) i j (by have h2 : _ ≤ _ := h; simp only at h2; omega)
    · exact read_two (D := D) j i (by have h2 : _ < _ := h; simp only at h2; omega)

theorem own_cap {B : Nat} {ao : Option Addr} {n cap : Nat} {ts : List ByteArray} {w : World} (h : OwnS B (.slice ao n cap) ts w) : ts.length ≤ cap := by
  rcases h.1.2 with ⟨h1, h2⟩ | ⟨g, c, cur, r1, r2, r3, r4, r5, r6⟩
  · simp only [Value.slice.injEq] at h1; omega
  · simp only [Value.slice.injEq] at r1; omega

set_option maxRecDepth 100000 in
set_option maxHeartbeats 8000000 in
theorem readsKept_core (rs : List Raw4) (v : Value) (n at_ : Int) (w : World) (hl : (rs.length : Int) ≤ 9223372036854775807) (hn : -9223372036854775808 ≤ n ∧ n ≤ 9223372036854775807) (hm : -9223372036854775808 ≤ at_ ∧ at_ ≤ 9223372036854775807) (h : RdR w v rs) (hcp : ∀ a n c, v = .slice a n c → n ≤ c) :
    Calls Try.prog 19 #[v, .int .i64 n, .int .i64 at_] w fun e w' => e = .returned (.bool true) ∧ Below w.heap.size w w' := by
  obtain ⟨k, hk, hk1, hk4⟩ := nat_pick n 4 (by omega)
  have HK : Hid (1 + pick n 4 = (k : Int)) := hk
  have hpk := pick_bd n 4 (by omega)
  have hpj := pick_bd at_ (min (rs.length : Int) 50 + 1) (by omega)
  obtain ⟨j, hj⟩ := Int.eq_ofNat_of_zero_le hpj.1
  have hj50 : j ≤ 50 := by omega
  have hjl : j ≤ rs.length := by omega
  obtain ⟨C, D, hpre, kp, kq⟩ := playD (n := k) (few := 1) true (rs.take j) ((rs.take 50).drop j) hk1 (by omega) (by omega) (by omega)
  have ej : rs.take j = (rs.take j).take 50 := by rw [List.take_take, Nat.min_eq_right hj50]
  have e50 : rs.take j ++ (rs.take 50).drop j = rs.take 50 := by
    have := List.take_append_drop j (rs.take 50)
    rw [List.take_take, Nat.min_eq_left hj50] at this
    exact this
  rw [e50] at kq
  rw [ej] at kp
  obtain ⟨p, hp⟩ : ∃ p, (plL k 1 true ((rs.take j).take 50)).p = p := ⟨_, rfl⟩
  obtain ⟨q, hq⟩ : ∃ q, (plL k 1 true (rs.take 50)).p = q := ⟨_, rfl⟩
  have HEp : Hid ((plL k 1 true ((rs.take j).take 50)).p = p) := hp
  have HEq : Hid ((plL k 1 true (rs.take 50)).p = q) := hq
  have e1 : ((1 : Nat) : Int) = 1 := rfl
  rw [e1, hp] at kp
  rw [e1, hq] at kq
  have hrt := reads_any kp kq hpre
  obtain ⟨⟨ta, pa, ea⟩, hra⟩ : ∃ r, p.readP 0 20 = r := ⟨_, rfl⟩
  obtain ⟨⟨tb, pb, eb⟩, hrb⟩ : ∃ r, q.readP 0 20 = r := ⟨_, rfl⟩
  rw [hra, hrb] at hrt
  have HRp : Hid (p.readP 0 20 = (ta, pa, ea)) := hra
  have HRq : Hid (q.readP 0 20 = (tb, pb, eb)) := hrb
  have hta : ta.length ≤ 20 := hrt.1.1
  have htb : tb.length ≤ 20 := hrt.1.2
  have HRT : Hid ((ea = 0 ∧ eb = 0 ∧ (ta.length ≤ tb.length → ta = tb.take ta.length) ∧ (tb.length < ta.length → tb = ta.take tb.length)) ∨ ((ea = 8 ∨ eb = 8) ∧ (ea = 0 ∨ ea = 8) ∧ (eb = 0 ∨ eb = 8))) := hrt.2
  have HMp : Hid (May p) := may_iff.1 kp.kept.may
  have HMq : Hid (May q) := may_iff.1 kq.kept.may
  obtain ⟨hok, ao, cap, rfl, hc0⟩ := h
  have h : RdR w (.slice ao rs.length cap) rs := ⟨hok, ao, cap, rfl, hc0⟩
  have HR : Hid (∀ W, Below w.heap.size w W → RdR W (.slice ao rs.length cap) rs) := fun W hW => h.below hW
  have HRJ : Hid (∀ W, Below w.heap.size w W → RdR W (.slice ao j cap) (rs.take j)) := fun W hW => (h.takes j hjl).below hW
  have HTL : Hid (((rs.take j).length : Int) ≤ 9223372036854775807) := show _ ≤ _ by rw [List.length_take]; omega
  have hjv : (j : Int) ≤ rs.length := by omega
  have hcl : rs.length ≤ cap := hcp _ _ _ rfl
  have hcv : (rs.length : Int) ≤ cap := by omega
  have hjc : j ≤ cap := by omega
  have hjcv : (j : Int) ≤ cap := by omega
  clear hcp
  clear hk hok hc0 h ej e50 kp kq hpre hp hq hra hrb hrt e1
  go_enter Try.func19, Try.ntmps19
  go_wp2_with fail
  refine (partTells_any _).mono ?_
  rintro e w0 ⟨rfl, hb0⟩
  go_wp2_with fail
  refine (picked_any n 4 _ hn ⟨by omega, by omega⟩).mono ?_
  rintro e w1 ⟨rfl, hw1⟩
  rw [hw1]
  clear hw1
  go_wp2_with fail
  case inl h50 =>
    rw [HK.out]
    rcases Nat.lt_or_ge j rs.length with hjlt | hjge
    · have hjv2 : (j : Int) < rs.length := by omega
      have e51 : min (rs.length : Int) 50 + 1 = 51 := by omega
      have HJ : Hid (pick at_ (51) = (j : Int)) := show _ = _ by rw [← hj, e51]
      clear hj hpj
      go_wp2_with fail
      all_goals try (exfalso; omega)
      refine (picked_any at_ _ _ hm ⟨by omega, by omega⟩).mono ?_
      rintro e w1 ⟨rfl, hw1⟩
      rw [hw1, HJ.out]
      clear hw1
      go_wp2_with fail
      all_goals try (exfalso; omega)
      refine (played_any (rs.take j) k 1 50 true _ _ (HRJ.out _ hb0) hk1 (by omega) (by omega) (by omega) (by omega) HTL.out).mono ?_
      rintro e w2 ⟨vi2, vk2, vr2, us2, vh2, rfl, hr2, hh2, hb2⟩
      have e1 : ((1 : Nat) : Int) = 1 := rfl
      rw [e1] at hr2 ⊢
      rw [HEp.out] at hr2 ⊢
      obtain ⟨ai2, ci2, ak2, ck2, ar2, cr2, rfl, rfl, rfl, -, -, -⟩ := hr2.lens
      have t2 := bstep hb2 (bbox w2 (.cells #[.int .i64 p.ep, .int .i64 p.ld, .slice ai2 p.isr.length ci2, .slice ak2 p.kn.length ck2, .slice ar2 p.rs.length cr2, .int .i64 p.fw, .int .i64 p.bs] 26))
      have HB2 : Hid (Below w.heap.size w (w2.alloc (.cells #[.int .i64 p.ep, .int .i64 p.ld, .slice ai2 p.isr.length ci2, .slice ak2 p.kn.length ck2, .slice ar2 p.rs.length cr2, .int .i64 p.fw, .int .i64 p.bs] 26))) := bstep hb0 t2
      have HN2 : Hid (PB (w2.alloc (.cells #[.int .i64 p.ep, .int .i64 p.ld, .slice ai2 p.isr.length ci2, .slice ak2 p.kn.length ck2, .slice ar2 p.rs.length cr2, .int .i64 p.fw, .int .i64 p.bs] 26)) w2.heap.size p (.slice ai2 p.isr.length ci2) (.slice ak2 p.kn.length ck2) (.slice ar2 p.rs.length cr2) ∧ RdP (w2.alloc (.cells #[.int .i64 p.ep, .int .i64 p.ld, .slice ai2 p.isr.length ci2, .slice ak2 p.kn.length ck2, .slice ar2 p.rs.length cr2, .int .i64 p.fw, .int .i64 p.bs] 26)) p (.slice ai2 p.isr.length ci2) (.slice ak2 p.kn.length ck2) (.slice ar2 p.rs.length cr2) us2) := ⟨pb_new w2 p _ _ _ 26 w2.heap.size rfl, RdP.below hr2 (Nat.le_refl _) (bbox _ _)⟩
      clear hb2 hr2 hh2 t2 e1
      go_upto_region 6 with fail
      generalize w2.alloc (.cells #[.int .i64 p.ep, .int .i64 p.ld, .slice ai2 p.isr.length ci2, .slice ak2 p.kn.length ck2, .slice ar2 p.rs.length cr2, .int .i64 p.fw, .int .i64 p.bs] 26) = W2 at *
      generalize w2.heap.size = b2 at *
      go_wp2_with fail
      refine (played_any rs k 1 50 true _ _ (HR.out _ HB2.out) hk1 (by omega) (by omega) (by omega) (by omega) hl).mono ?_
      rintro e w3 ⟨vi3, vk3, vr3, us3, vh3, rfl, hr3, hh3, hb3⟩
      have e1 : ((1 : Nat) : Int) = 1 := rfl
      rw [e1] at hr3 ⊢
      rw [HEq.out] at hr3 ⊢
      obtain ⟨ai3, ci3, ak3, ck3, ar3, cr3, rfl, rfl, rfl, -, -, -⟩ := hr3.lens
      have t3 := bstep hb3 (bbox w3 (.cells #[.int .i64 q.ep, .int .i64 q.ld, .slice ai3 q.isr.length ci3, .slice ak3 q.kn.length ck3, .slice ar3 q.rs.length cr3, .int .i64 q.fw, .int .i64 q.bs] 26))
      have HB3 : Hid (Below w.heap.size w (w3.alloc (.cells #[.int .i64 q.ep, .int .i64 q.ld, .slice ai3 q.isr.length ci3, .slice ak3 q.kn.length ck3, .slice ar3 q.rs.length cr3, .int .i64 q.fw, .int .i64 q.bs] 26))) := bstep HB2.out t3
      have HN2_3 : Hid (PB (w3.alloc (.cells #[.int .i64 q.ep, .int .i64 q.ld, .slice ai3 q.isr.length ci3, .slice ak3 q.kn.length ck3, .slice ar3 q.rs.length cr3, .int .i64 q.fw, .int .i64 q.bs] 26)) b2 p (.slice ai2 p.isr.length ci2) (.slice ak2 p.kn.length ck2) (.slice ar2 p.rs.length cr2) ∧ RdP (w3.alloc (.cells #[.int .i64 q.ep, .int .i64 q.ld, .slice ai3 q.isr.length ci3, .slice ak3 q.kn.length ck3, .slice ar3 q.rs.length cr3, .int .i64 q.fw, .int .i64 q.bs] 26)) p (.slice ai2 p.isr.length ci2) (.slice ak2 p.kn.length ck2) (.slice ar2 p.rs.length cr2) us2) := ⟨HN2.out.1.below HN2.out.1.1 t3, RdP.below HN2.out.2 (Nat.le_refl _) t3⟩
      have HN3 : Hid (PB (w3.alloc (.cells #[.int .i64 q.ep, .int .i64 q.ld, .slice ai3 q.isr.length ci3, .slice ak3 q.kn.length ck3, .slice ar3 q.rs.length cr3, .int .i64 q.fw, .int .i64 q.bs] 26)) w3.heap.size q (.slice ai3 q.isr.length ci3) (.slice ak3 q.kn.length ck3) (.slice ar3 q.rs.length cr3) ∧ RdP (w3.alloc (.cells #[.int .i64 q.ep, .int .i64 q.ld, .slice ai3 q.isr.length ci3, .slice ak3 q.kn.length ck3, .slice ar3 q.rs.length cr3, .int .i64 q.fw, .int .i64 q.bs] 26)) q (.slice ai3 q.isr.length ci3) (.slice ak3 q.kn.length ck3) (.slice ar3 q.rs.length cr3) us3) := ⟨pb_new w3 q _ _ _ 26 w3.heap.size rfl, RdP.below hr3 (Nat.le_refl _) (bbox _ _)⟩
      clear hb3 hr3 hh3 t3 e1
      go_upto_region 7 with fail
      generalize w3.alloc (.cells #[.int .i64 q.ep, .int .i64 q.ld, .slice ai3 q.isr.length ci3, .slice ak3 q.kn.length ck3, .slice ar3 q.rs.length cr3, .int .i64 q.fw, .int .i64 q.bs] 26) = W3 at *
      generalize w3.heap.size = b3 at *
      obtain ⟨s1, ⟨a0, a1, a2, a3, a4, a5, a6⟩, f1⟩ := HN2_3.out.1
      go_wp2_with fail
      refine (partRead_any p 0 20 _ _ _ us2 _ HN2_3.out.2 (may_small HMp.out)).mono ?_
      rintro e w4 ⟨u4, rfl, ho4, hb4⟩
      rw [HRp.out] at ho4 ⊢
      obtain ⟨au4, cu4, rfl⟩ := ho4.shape
      have HO4 : Hid (OwnS W3.heap.size (.slice au4 ta.length cu4) ta w4) := ho4
      have HB4 : Hid (Below w.heap.size w w4) := bstep HB3.out hb4
      have HN3_4 : Hid (PB w4 b3 q (.slice ai3 q.isr.length ci3) (.slice ak3 q.kn.length ck3) (.slice ar3 q.rs.length cr3) ∧ RdP w4 q (.slice ai3 q.isr.length ci3) (.slice ak3 q.kn.length ck3) (.slice ar3 q.rs.length cr3) us3) := ⟨HN3.out.1.below HN3.out.1.1 hb4, RdP.below HN3.out.2 (Nat.le_refl _) hb4⟩
      clear ho4 hb4 s1 a0 a1 a2 a3 a4 a5 a6 f1
      obtain ⟨s1, ⟨a0, a1, a2, a3, a4, a5, a6⟩, f1⟩ := HN3_4.out.1
      go_wp2_with fail
      refine (partRead_any q 0 20 _ _ _ us3 _ HN3_4.out.2 (may_small HMq.out)).mono ?_
      rintro e w5 ⟨u5, rfl, ho5, hb5⟩
      rw [HRq.out] at ho5 ⊢
      obtain ⟨au5, cu5, rfl⟩ := ho5.shape
      have HB5 : Hid (Below w.heap.size w w5) := bstep HB4.out hb5
      have HA5 : Hid (RdS w5 (.slice au4 ta.length cu4) ta) := RdS.below' HO4.out hb5
      have HC5 : Hid (RdS w5 (.slice au5 tb.length cu5) tb) := ho5.rd
      have hca := own_cap HO4.out
      have hcb := own_cap ho5
      clear ho5 hb5 s1 a0 a1 a2 a3 a4 a5 a6 f1
      rcases HRT.out with ⟨h1, h2, h3, h4⟩ | ⟨h1, h2, h3⟩
      · subst h1 h2
        have HEQ : Hid ((ta.length ≤ tb.length → ta = tb.take ta.length) ∧ (tb.length < ta.length → tb = ta.take tb.length)) := ⟨h3, h4⟩
        clear h3 h4
        by_cases hlt : tb.length < ta.length
        · have hv : (tb.length : Int) < ta.length := by omega
          go_wp2_with fail
          refine (eqS_any tb _ _ _ (by omega) HC5.out (by have h2 := HEQ.out.2 hlt; have g := HA5.out.takes tb.length (by omega); rw [← h2] at g; exact g)).mono ?_
          rintro e w6 ⟨rfl, hb6⟩
          have HB6 : Hid (Below w.heap.size w w6) := bstep HB5.out hb6
          clear hb6
          go_wp2
          go_ret
          exact ⟨rfl, HB6.out⟩
        · have hv : ¬ (tb.length : Int) < ta.length := by omega
          go_wp2_with fail
          refine (eqS_any ta _ _ _ (by omega) HA5.out (by have h2 := HEQ.out.1 (by omega); have g := HC5.out.takes ta.length (by omega); rw [← h2] at g; exact g)).mono ?_
          rintro e w6 ⟨rfl, hb6⟩
          have HB6 : Hid (Below w.heap.size w w6) := bstep HB5.out hb6
          clear hb6
          go_wp2
          go_ret
          exact ⟨rfl, HB6.out⟩
      · rcases h2 with rfl | rfl <;> rcases h3 with rfl | rfl
        · omega
        all_goals
          go_wp2
          go_ret
          exact ⟨rfl, HB5.out⟩
    · exfalso; omega
  case inr h50 =>
    rw [HK.out]
    rcases Nat.lt_or_ge j rs.length with hjlt | hjge
    · have hjv2 : (j : Int) < rs.length := by omega
      have hle : (rs.length : Int) ≤ 50 := by omega
      have hde : decide (50 < (rs.length : Int)) = false := by simp; omega
      have e51 : min (rs.length : Int) 50 + 1 = rs.length + 1 := by omega
      have HJ : Hid (pick at_ ((rs.length : Int) + 1) = (j : Int)) := show _ = _ by rw [← hj, e51]
      clear hj hpj
      go_wp2_with fail
      all_goals try (exfalso; omega)
      refine (picked_any at_ _ _ hm ⟨by omega, by omega⟩).mono ?_
      rintro e w1 ⟨rfl, hw1⟩
      rw [hw1, HJ.out]
      clear hw1
      go_wp2_with fail
      all_goals try (exfalso; omega)
      refine (played_any (rs.take j) k 1 50 true _ _ (HRJ.out _ hb0) hk1 (by omega) (by omega) (by omega) (by omega) HTL.out).mono ?_
      rintro e w2 ⟨vi2, vk2, vr2, us2, vh2, rfl, hr2, hh2, hb2⟩
      have e1 : ((1 : Nat) : Int) = 1 := rfl
      rw [e1] at hr2 ⊢
      rw [HEp.out] at hr2 ⊢
      obtain ⟨ai2, ci2, ak2, ck2, ar2, cr2, rfl, rfl, rfl, -, -, -⟩ := hr2.lens
      have t2 := bstep hb2 (bbox w2 (.cells #[.int .i64 p.ep, .int .i64 p.ld, .slice ai2 p.isr.length ci2, .slice ak2 p.kn.length ck2, .slice ar2 p.rs.length cr2, .int .i64 p.fw, .int .i64 p.bs] 26))
      have HB2 : Hid (Below w.heap.size w (w2.alloc (.cells #[.int .i64 p.ep, .int .i64 p.ld, .slice ai2 p.isr.length ci2, .slice ak2 p.kn.length ck2, .slice ar2 p.rs.length cr2, .int .i64 p.fw, .int .i64 p.bs] 26))) := bstep hb0 t2
      have HN2 : Hid (PB (w2.alloc (.cells #[.int .i64 p.ep, .int .i64 p.ld, .slice ai2 p.isr.length ci2, .slice ak2 p.kn.length ck2, .slice ar2 p.rs.length cr2, .int .i64 p.fw, .int .i64 p.bs] 26)) w2.heap.size p (.slice ai2 p.isr.length ci2) (.slice ak2 p.kn.length ck2) (.slice ar2 p.rs.length cr2) ∧ RdP (w2.alloc (.cells #[.int .i64 p.ep, .int .i64 p.ld, .slice ai2 p.isr.length ci2, .slice ak2 p.kn.length ck2, .slice ar2 p.rs.length cr2, .int .i64 p.fw, .int .i64 p.bs] 26)) p (.slice ai2 p.isr.length ci2) (.slice ak2 p.kn.length ck2) (.slice ar2 p.rs.length cr2) us2) := ⟨pb_new w2 p _ _ _ 26 w2.heap.size rfl, RdP.below hr2 (Nat.le_refl _) (bbox _ _)⟩
      clear hb2 hr2 hh2 t2 e1
      go_upto_region 6 with fail
      generalize w2.alloc (.cells #[.int .i64 p.ep, .int .i64 p.ld, .slice ai2 p.isr.length ci2, .slice ak2 p.kn.length ck2, .slice ar2 p.rs.length cr2, .int .i64 p.fw, .int .i64 p.bs] 26) = W2 at *
      generalize w2.heap.size = b2 at *
      go_wp2_with fail
      refine (played_any rs k 1 50 true _ _ (HR.out _ HB2.out) hk1 (by omega) (by omega) (by omega) (by omega) hl).mono ?_
      rintro e w3 ⟨vi3, vk3, vr3, us3, vh3, rfl, hr3, hh3, hb3⟩
      have e1 : ((1 : Nat) : Int) = 1 := rfl
      rw [e1] at hr3 ⊢
      rw [HEq.out] at hr3 ⊢
      obtain ⟨ai3, ci3, ak3, ck3, ar3, cr3, rfl, rfl, rfl, -, -, -⟩ := hr3.lens
      have t3 := bstep hb3 (bbox w3 (.cells #[.int .i64 q.ep, .int .i64 q.ld, .slice ai3 q.isr.length ci3, .slice ak3 q.kn.length ck3, .slice ar3 q.rs.length cr3, .int .i64 q.fw, .int .i64 q.bs] 26))
      have HB3 : Hid (Below w.heap.size w (w3.alloc (.cells #[.int .i64 q.ep, .int .i64 q.ld, .slice ai3 q.isr.length ci3, .slice ak3 q.kn.length ck3, .slice ar3 q.rs.length cr3, .int .i64 q.fw, .int .i64 q.bs] 26))) := bstep HB2.out t3
      have HN2_3 : Hid (PB (w3.alloc (.cells #[.int .i64 q.ep, .int .i64 q.ld, .slice ai3 q.isr.length ci3, .slice ak3 q.kn.length ck3, .slice ar3 q.rs.length cr3, .int .i64 q.fw, .int .i64 q.bs] 26)) b2 p (.slice ai2 p.isr.length ci2) (.slice ak2 p.kn.length ck2) (.slice ar2 p.rs.length cr2) ∧ RdP (w3.alloc (.cells #[.int .i64 q.ep, .int .i64 q.ld, .slice ai3 q.isr.length ci3, .slice ak3 q.kn.length ck3, .slice ar3 q.rs.length cr3, .int .i64 q.fw, .int .i64 q.bs] 26)) p (.slice ai2 p.isr.length ci2) (.slice ak2 p.kn.length ck2) (.slice ar2 p.rs.length cr2) us2) := ⟨HN2.out.1.below HN2.out.1.1 t3, RdP.below HN2.out.2 (Nat.le_refl _) t3⟩
      have HN3 : Hid (PB (w3.alloc (.cells #[.int .i64 q.ep, .int .i64 q.ld, .slice ai3 q.isr.length ci3, .slice ak3 q.kn.length ck3, .slice ar3 q.rs.length cr3, .int .i64 q.fw, .int .i64 q.bs] 26)) w3.heap.size q (.slice ai3 q.isr.length ci3) (.slice ak3 q.kn.length ck3) (.slice ar3 q.rs.length cr3) ∧ RdP (w3.alloc (.cells #[.int .i64 q.ep, .int .i64 q.ld, .slice ai3 q.isr.length ci3, .slice ak3 q.kn.length ck3, .slice ar3 q.rs.length cr3, .int .i64 q.fw, .int .i64 q.bs] 26)) q (.slice ai3 q.isr.length ci3) (.slice ak3 q.kn.length ck3) (.slice ar3 q.rs.length cr3) us3) := ⟨pb_new w3 q _ _ _ 26 w3.heap.size rfl, RdP.below hr3 (Nat.le_refl _) (bbox _ _)⟩
      clear hb3 hr3 hh3 t3 e1
      go_upto_region 7 with fail
      generalize w3.alloc (.cells #[.int .i64 q.ep, .int .i64 q.ld, .slice ai3 q.isr.length ci3, .slice ak3 q.kn.length ck3, .slice ar3 q.rs.length cr3, .int .i64 q.fw, .int .i64 q.bs] 26) = W3 at *
      generalize w3.heap.size = b3 at *
      obtain ⟨s1, ⟨a0, a1, a2, a3, a4, a5, a6⟩, f1⟩ := HN2_3.out.1
      go_wp2_with fail
      refine (partRead_any p 0 20 _ _ _ us2 _ HN2_3.out.2 (may_small HMp.out)).mono ?_
      rintro e w4 ⟨u4, rfl, ho4, hb4⟩
      rw [HRp.out] at ho4 ⊢
      obtain ⟨au4, cu4, rfl⟩ := ho4.shape
      have HO4 : Hid (OwnS W3.heap.size (.slice au4 ta.length cu4) ta w4) := ho4
      have HB4 : Hid (Below w.heap.size w w4) := bstep HB3.out hb4
      have HN3_4 : Hid (PB w4 b3 q (.slice ai3 q.isr.length ci3) (.slice ak3 q.kn.length ck3) (.slice ar3 q.rs.length cr3) ∧ RdP w4 q (.slice ai3 q.isr.length ci3) (.slice ak3 q.kn.length ck3) (.slice ar3 q.rs.length cr3) us3) := ⟨HN3.out.1.below HN3.out.1.1 hb4, RdP.below HN3.out.2 (Nat.le_refl _) hb4⟩
      clear ho4 hb4 s1 a0 a1 a2 a3 a4 a5 a6 f1
      obtain ⟨s1, ⟨a0, a1, a2, a3, a4, a5, a6⟩, f1⟩ := HN3_4.out.1
      go_wp2_with fail
      refine (partRead_any q 0 20 _ _ _ us3 _ HN3_4.out.2 (may_small HMq.out)).mono ?_
      rintro e w5 ⟨u5, rfl, ho5, hb5⟩
      rw [HRq.out] at ho5 ⊢
      obtain ⟨au5, cu5, rfl⟩ := ho5.shape
      have HB5 : Hid (Below w.heap.size w w5) := bstep HB4.out hb5
      have HA5 : Hid (RdS w5 (.slice au4 ta.length cu4) ta) := RdS.below' HO4.out hb5
      have HC5 : Hid (RdS w5 (.slice au5 tb.length cu5) tb) := ho5.rd
      have hca := own_cap HO4.out
      have hcb := own_cap ho5
      clear ho5 hb5 s1 a0 a1 a2 a3 a4 a5 a6 f1
      rcases HRT.out with ⟨h1, h2, h3, h4⟩ | ⟨h1, h2, h3⟩
      · subst h1 h2
        have HEQ : Hid ((ta.length ≤ tb.length → ta = tb.take ta.length) ∧ (tb.length < ta.length → tb = ta.take tb.length)) := ⟨h3, h4⟩
        clear h3 h4
        by_cases hlt : tb.length < ta.length
        · have hv : (tb.length : Int) < ta.length := by omega
          go_wp2_with fail
          refine (eqS_any tb _ _ _ (by omega) HC5.out (by have h2 := HEQ.out.2 hlt; have g := HA5.out.takes tb.length (by omega); rw [← h2] at g; exact g)).mono ?_
          rintro e w6 ⟨rfl, hb6⟩
          have HB6 : Hid (Below w.heap.size w w6) := bstep HB5.out hb6
          clear hb6
          go_wp2
          go_ret
          exact ⟨rfl, HB6.out⟩
        · have hv : ¬ (tb.length : Int) < ta.length := by omega
          go_wp2_with fail
          refine (eqS_any ta _ _ _ (by omega) HA5.out (by have h2 := HEQ.out.1 (by omega); have g := HC5.out.takes ta.length (by omega); rw [← h2] at g; exact g)).mono ?_
          rintro e w6 ⟨rfl, hb6⟩
          have HB6 : Hid (Below w.heap.size w w6) := bstep HB5.out hb6
          clear hb6
          go_wp2
          go_ret
          exact ⟨rfl, HB6.out⟩
      · rcases h2 with rfl | rfl <;> rcases h3 with rfl | rfl
        · omega
        all_goals
          go_wp2
          go_ret
          exact ⟨rfl, HB5.out⟩
    · have hjeq : j = rs.length := by omega
      have hjv2 : (rs.length : Int) ≤ j := by omega
      have HRJ : Hid (∀ W, Below w.heap.size w W → RdR W (.slice ao rs.length cap) (rs.take j)) := fun W hW => by have := HR.out W hW; rw [hjeq, List.take_length]; exact this
      have hle : (rs.length : Int) ≤ 50 := by omega
      have hde : decide (50 < (rs.length : Int)) = false := by simp; omega
      have e51 : min (rs.length : Int) 50 + 1 = rs.length + 1 := by omega
      have HJ : Hid (pick at_ ((rs.length : Int) + 1) = (j : Int)) := show _ = _ by rw [← hj, e51]
      clear hj hpj
      go_wp2_with fail
      all_goals try (exfalso; omega)
      refine (picked_any at_ _ _ hm ⟨by omega, by omega⟩).mono ?_
      rintro e w1 ⟨rfl, hw1⟩
      rw [hw1, HJ.out]
      clear hw1
      go_wp2_with fail
      all_goals try (exfalso; omega)
      refine (played_any (rs.take j) k 1 50 true _ _ (HRJ.out _ hb0) hk1 (by omega) (by omega) (by omega) (by omega) HTL.out).mono ?_
      rintro e w2 ⟨vi2, vk2, vr2, us2, vh2, rfl, hr2, hh2, hb2⟩
      have e1 : ((1 : Nat) : Int) = 1 := rfl
      rw [e1] at hr2 ⊢
      rw [HEp.out] at hr2 ⊢
      obtain ⟨ai2, ci2, ak2, ck2, ar2, cr2, rfl, rfl, rfl, -, -, -⟩ := hr2.lens
      have t2 := bstep hb2 (bbox w2 (.cells #[.int .i64 p.ep, .int .i64 p.ld, .slice ai2 p.isr.length ci2, .slice ak2 p.kn.length ck2, .slice ar2 p.rs.length cr2, .int .i64 p.fw, .int .i64 p.bs] 26))
      have HB2 : Hid (Below w.heap.size w (w2.alloc (.cells #[.int .i64 p.ep, .int .i64 p.ld, .slice ai2 p.isr.length ci2, .slice ak2 p.kn.length ck2, .slice ar2 p.rs.length cr2, .int .i64 p.fw, .int .i64 p.bs] 26))) := bstep hb0 t2
      have HN2 : Hid (PB (w2.alloc (.cells #[.int .i64 p.ep, .int .i64 p.ld, .slice ai2 p.isr.length ci2, .slice ak2 p.kn.length ck2, .slice ar2 p.rs.length cr2, .int .i64 p.fw, .int .i64 p.bs] 26)) w2.heap.size p (.slice ai2 p.isr.length ci2) (.slice ak2 p.kn.length ck2) (.slice ar2 p.rs.length cr2) ∧ RdP (w2.alloc (.cells #[.int .i64 p.ep, .int .i64 p.ld, .slice ai2 p.isr.length ci2, .slice ak2 p.kn.length ck2, .slice ar2 p.rs.length cr2, .int .i64 p.fw, .int .i64 p.bs] 26)) p (.slice ai2 p.isr.length ci2) (.slice ak2 p.kn.length ck2) (.slice ar2 p.rs.length cr2) us2) := ⟨pb_new w2 p _ _ _ 26 w2.heap.size rfl, RdP.below hr2 (Nat.le_refl _) (bbox _ _)⟩
      clear hb2 hr2 hh2 t2 e1
      go_upto_region 6 with fail
      generalize w2.alloc (.cells #[.int .i64 p.ep, .int .i64 p.ld, .slice ai2 p.isr.length ci2, .slice ak2 p.kn.length ck2, .slice ar2 p.rs.length cr2, .int .i64 p.fw, .int .i64 p.bs] 26) = W2 at *
      generalize w2.heap.size = b2 at *
      go_wp2_with fail
      refine (played_any rs k 1 50 true _ _ (HR.out _ HB2.out) hk1 (by omega) (by omega) (by omega) (by omega) hl).mono ?_
      rintro e w3 ⟨vi3, vk3, vr3, us3, vh3, rfl, hr3, hh3, hb3⟩
      have e1 : ((1 : Nat) : Int) = 1 := rfl
      rw [e1] at hr3 ⊢
      rw [HEq.out] at hr3 ⊢
      obtain ⟨ai3, ci3, ak3, ck3, ar3, cr3, rfl, rfl, rfl, -, -, -⟩ := hr3.lens
      have t3 := bstep hb3 (bbox w3 (.cells #[.int .i64 q.ep, .int .i64 q.ld, .slice ai3 q.isr.length ci3, .slice ak3 q.kn.length ck3, .slice ar3 q.rs.length cr3, .int .i64 q.fw, .int .i64 q.bs] 26))
      have HB3 : Hid (Below w.heap.size w (w3.alloc (.cells #[.int .i64 q.ep, .int .i64 q.ld, .slice ai3 q.isr.length ci3, .slice ak3 q.kn.length ck3, .slice ar3 q.rs.length cr3, .int .i64 q.fw, .int .i64 q.bs] 26))) := bstep HB2.out t3
      have HN2_3 : Hid (PB (w3.alloc (.cells #[.int .i64 q.ep, .int .i64 q.ld, .slice ai3 q.isr.length ci3, .slice ak3 q.kn.length ck3, .slice ar3 q.rs.length cr3, .int .i64 q.fw, .int .i64 q.bs] 26)) b2 p (.slice ai2 p.isr.length ci2) (.slice ak2 p.kn.length ck2) (.slice ar2 p.rs.length cr2) ∧ RdP (w3.alloc (.cells #[.int .i64 q.ep, .int .i64 q.ld, .slice ai3 q.isr.length ci3, .slice ak3 q.kn.length ck3, .slice ar3 q.rs.length cr3, .int .i64 q.fw, .int .i64 q.bs] 26)) p (.slice ai2 p.isr.length ci2) (.slice ak2 p.kn.length ck2) (.slice ar2 p.rs.length cr2) us2) := ⟨HN2.out.1.below HN2.out.1.1 t3, RdP.below HN2.out.2 (Nat.le_refl _) t3⟩
      have HN3 : Hid (PB (w3.alloc (.cells #[.int .i64 q.ep, .int .i64 q.ld, .slice ai3 q.isr.length ci3, .slice ak3 q.kn.length ck3, .slice ar3 q.rs.length cr3, .int .i64 q.fw, .int .i64 q.bs] 26)) w3.heap.size q (.slice ai3 q.isr.length ci3) (.slice ak3 q.kn.length ck3) (.slice ar3 q.rs.length cr3) ∧ RdP (w3.alloc (.cells #[.int .i64 q.ep, .int .i64 q.ld, .slice ai3 q.isr.length ci3, .slice ak3 q.kn.length ck3, .slice ar3 q.rs.length cr3, .int .i64 q.fw, .int .i64 q.bs] 26)) q (.slice ai3 q.isr.length ci3) (.slice ak3 q.kn.length ck3) (.slice ar3 q.rs.length cr3) us3) := ⟨pb_new w3 q _ _ _ 26 w3.heap.size rfl, RdP.below hr3 (Nat.le_refl _) (bbox _ _)⟩
      clear hb3 hr3 hh3 t3 e1
      go_upto_region 7 with fail
      generalize w3.alloc (.cells #[.int .i64 q.ep, .int .i64 q.ld, .slice ai3 q.isr.length ci3, .slice ak3 q.kn.length ck3, .slice ar3 q.rs.length cr3, .int .i64 q.fw, .int .i64 q.bs] 26) = W3 at *
      generalize w3.heap.size = b3 at *
      obtain ⟨s1, ⟨a0, a1, a2, a3, a4, a5, a6⟩, f1⟩ := HN2_3.out.1
      go_wp2_with fail
      refine (partRead_any p 0 20 _ _ _ us2 _ HN2_3.out.2 (may_small HMp.out)).mono ?_
      rintro e w4 ⟨u4, rfl, ho4, hb4⟩
      rw [HRp.out] at ho4 ⊢
      obtain ⟨au4, cu4, rfl⟩ := ho4.shape
      have HO4 : Hid (OwnS W3.heap.size (.slice au4 ta.length cu4) ta w4) := ho4
      have HB4 : Hid (Below w.heap.size w w4) := bstep HB3.out hb4
      have HN3_4 : Hid (PB w4 b3 q (.slice ai3 q.isr.length ci3) (.slice ak3 q.kn.length ck3) (.slice ar3 q.rs.length cr3) ∧ RdP w4 q (.slice ai3 q.isr.length ci3) (.slice ak3 q.kn.length ck3) (.slice ar3 q.rs.length cr3) us3) := ⟨HN3.out.1.below HN3.out.1.1 hb4, RdP.below HN3.out.2 (Nat.le_refl _) hb4⟩
      clear ho4 hb4 s1 a0 a1 a2 a3 a4 a5 a6 f1
      obtain ⟨s1, ⟨a0, a1, a2, a3, a4, a5, a6⟩, f1⟩ := HN3_4.out.1
      go_wp2_with fail
      refine (partRead_any q 0 20 _ _ _ us3 _ HN3_4.out.2 (may_small HMq.out)).mono ?_
      rintro e w5 ⟨u5, rfl, ho5, hb5⟩
      rw [HRq.out] at ho5 ⊢
      obtain ⟨au5, cu5, rfl⟩ := ho5.shape
      have HB5 : Hid (Below w.heap.size w w5) := bstep HB4.out hb5
      have HA5 : Hid (RdS w5 (.slice au4 ta.length cu4) ta) := RdS.below' HO4.out hb5
      have HC5 : Hid (RdS w5 (.slice au5 tb.length cu5) tb) := ho5.rd
      have hca := own_cap HO4.out
      have hcb := own_cap ho5
      clear ho5 hb5 s1 a0 a1 a2 a3 a4 a5 a6 f1
      rcases HRT.out with ⟨h1, h2, h3, h4⟩ | ⟨h1, h2, h3⟩
      · subst h1 h2
        have HEQ : Hid ((ta.length ≤ tb.length → ta = tb.take ta.length) ∧ (tb.length < ta.length → tb = ta.take tb.length)) := ⟨h3, h4⟩
        clear h3 h4
        by_cases hlt : tb.length < ta.length
        · have hv : (tb.length : Int) < ta.length := by omega
          go_wp2_with fail
          refine (eqS_any tb _ _ _ (by omega) HC5.out (by have h2 := HEQ.out.2 hlt; have g := HA5.out.takes tb.length (by omega); rw [← h2] at g; exact g)).mono ?_
          rintro e w6 ⟨rfl, hb6⟩
          have HB6 : Hid (Below w.heap.size w w6) := bstep HB5.out hb6
          clear hb6
          go_wp2
          go_ret
          exact ⟨rfl, HB6.out⟩
        · have hv : ¬ (tb.length : Int) < ta.length := by omega
          go_wp2_with fail
          refine (eqS_any ta _ _ _ (by omega) HA5.out (by have h2 := HEQ.out.1 (by omega); have g := HC5.out.takes ta.length (by omega); rw [← h2] at g; exact g)).mono ?_
          rintro e w6 ⟨rfl, hb6⟩
          have HB6 : Hid (Below w.heap.size w w6) := bstep HB5.out hb6
          clear hb6
          go_wp2
          go_ret
          exact ⟨rfl, HB6.out⟩
      · rcases h2 with rfl | rfl <;> rcases h3 with rfl | rfl
        · omega
        all_goals
          go_wp2
          go_ret
          exact ⟨rfl, HB5.out⟩

end Go.Proofs.Ytkolelpdedmkeaa
