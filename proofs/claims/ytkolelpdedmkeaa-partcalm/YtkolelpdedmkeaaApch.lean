/-
  The walks of part's checks: what may be.
  The walk of part.Check.
-/
import Derived.Test.YtkolelpdedmkeaaAplain
import Derived.Test.YtkolelpdedmkeaaAseg
namespace Go.Proofs.Ytkolelpdedmkeaa

section
open Go.RowKit
set_option linter.unusedVariables false
set_option linter.unusedSimpArgs false

set_option maxRecDepth 100000 in
set_option maxHeartbeats 400000 in
theorem within_any (n l h : Int) (w : World) :
    Calls Try.prog 100 #[.int .i64 n, .int .i64 l, .int .i64 h] w fun e w' => e = .returned (.bool (inR n l h)) ∧ w' = w := by
  by_cases h0 : l ≤ n
  · by_cases h1 : n ≤ h
    · have hr : inR n l h = true := by simp [inR]; omega
      rw [hr]
      go_enter Try.func100, Try.ntmps100
      go_wp2
      go_ret
      exact ⟨rfl, rfl⟩
    · have hr : inR n l h = false := by simp [inR]; omega
      rw [hr]
      go_enter Try.func100, Try.ntmps100
      go_wp2
      go_ret
      exact ⟨rfl, rfl⟩
  · have hr : inR n l h = false := by simp [inR]; omega
    rw [hr]
    go_enter Try.func100, Try.ntmps100
    go_wp2
    go_ret
    exact ⟨rfl, rfl⟩

set_option maxRecDepth 100000 in
set_option maxHeartbeats 1000000 in
theorem has_any (p : Prt) (r : Int) (vi vk vr : Value) (us : Nat → Value) (w : World) (h : RdP w p vi vk vr us) :
    Calls Try.prog 99 #[.agg #[.int .i64 p.ep, .int .i64 p.ld, vi, vk, vr, .int .i64 p.fw, .int .i64 p.bs], .int .i64 r] w fun e w' => e = .returned (.bool (inR r 0 ((p.rs.length : Int) - 1))) ∧ Below w.heap.size w w' := by
  obtain ⟨ai, ci, ak, ck, ar, cr, rfl, rfl, rfl, l1, l2, l3⟩ := h.lens
  have hB := bbox w (.cells #[.int .i64 p.ep, .int .i64 p.ld, .slice ai p.isr.length ci, .slice ak p.kn.length ck, .slice ar p.rs.length cr, .int .i64 p.fw, .int .i64 p.bs] 26)
  have HB : Hid (Below w.heap.size w _) := hB
  have HP : Hid (PBox _ w.heap.size p _ _ _) := pbox_new w p (.slice ai p.isr.length ci) (.slice ak p.kn.length ck) (.slice ar p.rs.length cr) 26
  have HR : Hid (RdP _ p _ _ _ us) := h.below (Nat.le_refl _) hB
  have HSZ : Hid (w.heap.size < _) := show w.heap.size < (w.alloc (.cells #[.int .i64 p.ep, .int .i64 p.ld, .slice ai p.isr.length ci, .slice ak p.kn.length ck, .slice ar p.rs.length cr, .int .i64 p.fw, .int .i64 p.bs] 26)).heap.size by simp
  have hlo : (0 : Int) ≤ (p.rs.length : Int) := by omega
  clear h hB HR HP HSZ
  go_enter Try.func99, Try.ntmps99
  go_wp2_with fail
  refine (within_any _ _ _ _).mono ?_
  rintro e w' ⟨rfl, rfl⟩
  go_wp2
  go_ret
  exact ⟨rfl, HB.out⟩

set_option maxRecDepth 100000 in
set_option maxHeartbeats 1000000 in
theorem fitsSizes_any (p : Prt) (vi vk vr : Value) (us : Nat → Value) (w : World) (h : RdP w p vi vk vr us) :
    Calls Try.prog 62 #[.agg #[.int .i64 p.ep, .int .i64 p.ld, vi, vk, vr, .int .i64 p.fw, .int .i64 p.bs]] w fun e w' => e = .returned (.bool p.sizesB) ∧ Below w.heap.size w w' := by
  obtain ⟨ai, ci, ak, ck, ar, cr, rfl, rfl, rfl, l1, l2, l3⟩ := h.lens
  have hB := bbox w (.cells #[.int .i64 p.ep, .int .i64 p.ld, .slice ai p.isr.length ci, .slice ak p.kn.length ck, .slice ar p.rs.length cr, .int .i64 p.fw, .int .i64 p.bs] 26)
  have HB : Hid (Below w.heap.size w _) := hB
  have HP : Hid (PBox _ w.heap.size p _ _ _) := pbox_new w p (.slice ai p.isr.length ci) (.slice ak p.kn.length ck) (.slice ar p.rs.length cr) 26
  have HR : Hid (RdP _ p _ _ _ us) := h.below (Nat.le_refl _) hB
  have HSZ : Hid (w.heap.size < _) := show w.heap.size < (w.alloc (.cells #[.int .i64 p.ep, .int .i64 p.ld, .slice ai p.isr.length ci, .slice ak p.kn.length ck, .slice ar p.rs.length cr, .int .i64 p.fw, .int .i64 p.bs] 26)).heap.size by simp
  clear h hB HR HP HSZ
  by_cases a1 : (1 : Int) ≤ p.rs.length
  · by_cases a2 : (p.rs.length : Int) ≤ 5
    · cases a3 : ((p.isr.length : Int) == (p.rs.length : Int)) with
      | true =>
        cases a4 : ((p.kn.length : Int) == (p.rs.length : Int)) with
        | true =>
          have E : Hid (p.sizesB = true) := show _ = _ by simp at a3 a4; unfold Prt.sizesB; simp; omega
          go_enter Try.func62, Try.ntmps62
          go_wp2
          go_ret
          exact ⟨by rw [E.out]; rfl, HB.out⟩
        | false =>
          have E : Hid (p.sizesB = false) := show _ = _ by simp at a3 a4; unfold Prt.sizesB; simp; omega
          go_enter Try.func62, Try.ntmps62
          go_wp2
          go_ret
          exact ⟨by rw [E.out]; rfl, HB.out⟩
      | false =>
        have E : Hid (p.sizesB = false) := show _ = _ by simp at a3; unfold Prt.sizesB; simp; omega
        go_enter Try.func62, Try.ntmps62
        go_wp2
        go_ret
        exact ⟨by rw [E.out]; rfl, HB.out⟩
    · have E : Hid (p.sizesB = false) := show _ = _ by unfold Prt.sizesB; simp; omega
      go_enter Try.func62, Try.ntmps62
      go_wp2
      go_ret
      exact ⟨by rw [E.out]; rfl, HB.out⟩
  · have E : Hid (p.sizesB = false) := show _ = _ by unfold Prt.sizesB; simp; omega
    go_enter Try.func62, Try.ntmps62
    go_wp2
    go_ret
    exact ⟨by rw [E.out]; rfl, HB.out⟩

set_option maxRecDepth 100000 in
set_option maxHeartbeats 1000000 in
theorem fitsReplica_any (r : Rep) (u : Value) (w : World) (hl : r.l.length ≤ 140737488355328) (h : Rd w u r.l) :
    Calls Try.prog 66 #[.agg #[.bool r.up, u, .int .i64 r.y, .int .i64 r.h]] w fun e w' => e = .returned (.bool r.fitB) ∧ Below w.heap.size w w' := by
  have H : Hid (Rd w u r.l) := h
  have E : Hid (r.fitB = (lft r.l r.y == 0 && inR r.h 0 (decL r.l).1.length)) := show _ = _ from rfl
  obtain ⟨au, cu, rfl⟩ : ∃ au cu, u = .slice au r.l.length cu := by obtain ⟨_, au, cu, e, _⟩ := h; exact ⟨au, cu, e⟩
  clear h
  by_cases h0 : lft r.l r.y = 0
  · go_enter Try.func66, Try.ntmps66
    go_wp2_with fail
    refine (segEntries_ok r.l _ r.y _ hl (H.out.below (Nat.le_refl _) (bbox _ _)) h0).mono ?_
    rintro e w1 ⟨v, rfl, hv, hb1⟩
    have B1 := bstep (bbox _ _) hb1
    have c3 := (hb1.cell (p := ⟨w.heap.size, 3, none⟩) (by simp))
    simp at c3
    obtain ⟨ae, ce, rfl⟩ := hv.shape
    have HE : Hid _ := h0
    clear h0 hv hb1 H
    go_wp2_with fail
    refine (within_any _ _ _ _).mono ?_
    rintro e w' ⟨rfl, rfl⟩
    go_wp2
    go_ret
    exact ⟨by rw [E.out, HE.out]; simp, B1⟩
  · have h0' : (lft r.l r.y == 0) = false := by simp [h0]
    go_enter Try.func66, Try.ntmps66
    go_wp2_with fail
    refine (segEntries_bad r.l _ r.y _ hl (H.out.below (Nat.le_refl _) (bbox _ _)) h0).mono ?_
    rintro e w1 ⟨rfl, hb1⟩
    have B1 := bstep (bbox _ _) hb1
    clear h0 hb1 H
    go_wp2
    go_ret
    exact ⟨by rw [E.out, h0']; simp, B1⟩

set_option maxRecDepth 100000 in
set_option maxHeartbeats 2000000 in
theorem fitsLeader_any (p : Prt) (vi vk vr : Value) (us : Nat → Value) (w : World) (h : RdP w p vi vk vr us) (hz : p.isr.length = p.rs.length) :
    Calls Try.prog 63 #[.agg #[.int .i64 p.ep, .int .i64 p.ld, vi, vk, vr, .int .i64 p.fw, .int .i64 p.bs]] w fun e w' => e = .returned (.bool p.leadB) ∧ Below w.heap.size w w' := by
  obtain ⟨ai, ci, ak, ck, ar, cr, rfl, rfl, rfl, l1, l2, l3⟩ := h.lens
  have hB := bbox w (.cells #[.int .i64 p.ep, .int .i64 p.ld, .slice ai p.isr.length ci, .slice ak p.kn.length ck, .slice ar p.rs.length cr, .int .i64 p.fw, .int .i64 p.bs] 26)
  have HB : Hid (Below w.heap.size w _) := hB
  have HP : Hid (PBox _ w.heap.size p _ _ _) := pbox_new w p (.slice ai p.isr.length ci) (.slice ak p.kn.length ck) (.slice ar p.rs.length cr) 26
  have HR : Hid (RdP _ p _ _ _ us) := h.below (Nat.le_refl _) hB
  have HSZ : Hid (w.heap.size < _) := show w.heap.size < (w.alloc (.cells #[.int .i64 p.ep, .int .i64 p.ld, .slice ai p.isr.length ci, .slice ak p.kn.length ck, .slice ar p.rs.length cr, .int .i64 p.fw, .int .i64 p.bs] 26)).heap.size by simp
  have HE : Hid (p.leadB = (p.ld == -1 || (inR p.ld 0 ((p.rs.length : Int) - 1) && (p.at p.ld.toNat).up && p.isr.getD p.ld.toNat false))) := show _ = _ from rfl
  have HZ : Hid (p.isr.length = p.rs.length) := hz
  clear h hB hz
  cases a0 : (p.ld == -1) with
  | true =>
    rw [a0] at HE
    go_enter Try.func63, Try.ntmps63
    go_wp2
    go_ret
    exact ⟨by rw [HE.out]; simp, bbox _ _⟩
  | false =>
    rw [a0] at HE
    cases a1 : inR p.ld 0 ((p.rs.length : Int) - 1) with
    | false =>
      rw [a1] at HE
      go_enter Try.func63, Try.ntmps63
      go_wp2_with fail
      refine (has_any p p.ld _ _ _ us _ HR.out).mono ?_
      rintro e w1 ⟨rfl, hb⟩
      have HB1 : Hid (Below w.heap.size w w1) := HB.out.trans (hb.mono HB.out.size)
      rw [a1]
      clear hb
      go_wp2
      go_ret
      exact ⟨by rw [HE.out]; simp, HB1.out⟩
    | true =>
      rw [a1] at HE
      obtain ⟨b1, b2⟩ := inR_iff.1 a1
      obtain ⟨d, hd⟩ := Int.eq_ofNat_of_zero_le b1
      have HD : Hid (p.ld = d) := hd
      rw [HD.out, Int.toNat_natCast] at HE
      have hdr : d < p.rs.length := by omega
      have hdi : d < p.isr.length := by rw [HZ.out]; exact hdr
      have hdr' : (d : Int) < p.rs.length := by omega
      have hdi' : (d : Int) < p.isr.length := by omega
      clear hd b1 b2
      go_enter Try.func63, Try.ntmps63
      go_wp2_with fail
      refine (has_any p p.ld _ _ _ us _ HR.out).mono ?_
      rintro e w1 ⟨rfl, hb⟩
      have HB1 : Hid (Below w.heap.size w w1) := HB.out.trans (hb.mono HB.out.size)
      have hR1 := RdP.below HR.out (Nat.le_refl _) hb
      obtain ⟨c0, c1, c2, c3, c4, c5, c6⟩ := PBox.below HP.out HSZ.out hb
      obtain ⟨g, off, rfl, _, r0, r1, r2, r3, r4⟩ := hR1.2.2.cells d hdr
      obtain ⟨gi, oi, rfl, m0⟩ := RdP.isrAt hR1.1 d hdi
      rw [a1]
      rw [HD.out] at c1
      clear hb hR1 r0 r2 r3 r4 a0 a1
      generalize p.isr.getD d false = bi at *
      generalize (p.at d).up = bu at *
      cases bu with
      | false =>
        go_wp2
        go_ret
        exact ⟨by rw [HE.out]; simp, HB1.out⟩
      | true =>
        go_wp2
        go_ret
        exact ⟨by rw [HE.out]; simp, HB1.out⟩

set_option maxRecDepth 100000 in
set_option maxHeartbeats 2000000 in
theorem fitsNumbers_any (p : Prt) (vi vk vr : Value) (us : Nat → Value) (w : World) (h : RdP w p vi vk vr us) :
    Calls Try.prog 64 #[.agg #[.int .i64 p.ep, .int .i64 p.ld, vi, vk, vr, .int .i64 p.fw, .int .i64 p.bs]] w fun e w' => e = .returned (.bool p.numB) ∧ Below w.heap.size w w' := by
  obtain ⟨ai, ci, ak, ck, ar, cr, rfl, rfl, rfl, l1, l2, l3⟩ := h.lens
  have hB := bbox w (.cells #[.int .i64 p.ep, .int .i64 p.ld, .slice ai p.isr.length ci, .slice ak p.kn.length ck, .slice ar p.rs.length cr, .int .i64 p.fw, .int .i64 p.bs] 26)
  have HB : Hid (Below w.heap.size w _) := hB
  have HP : Hid (PBox _ w.heap.size p _ _ _) := pbox_new w p (.slice ai p.isr.length ci) (.slice ak p.kn.length ck) (.slice ar p.rs.length cr) 26
  have HR : Hid (RdP _ p _ _ _ us) := h.below (Nat.le_refl _) hB
  have HSZ : Hid (w.heap.size < _) := show w.heap.size < (w.alloc (.cells #[.int .i64 p.ep, .int .i64 p.ld, .slice ai p.isr.length ci, .slice ak p.kn.length ck, .slice ar p.rs.length cr, .int .i64 p.fw, .int .i64 p.bs] 26)).heap.size by simp
  have HE : Hid (p.numB = (p.knB && inR p.fw 1 p.rs.length && inR p.ep 0 1073741824 && inR p.bs 0 400)) := show _ = _ from rfl
  obtain ⟨c0, c1, c2, c3, c4, c5, c6⟩ := HP.out
  clear h hB
  go_enter Try.func64, Try.ntmps64
  go_wp2
  generalize w.alloc (.cells #[.int .i64 p.ep, .int .i64 p.ld, .slice ai p.isr.length ci, .slice ak p.kn.length ck, .slice ar p.rs.length cr, .int .i64 p.fw, .int .i64 p.bs] 26) = W0 at *
  go_loop [8] (fun i => ∃ k : Nat, k ≤ p.kn.length ∧ i = .int .i64 k ∧ Hid (∀ j, j < k → 0 ≤ p.kn.getD j 0 ∧ p.kn.getD j 0 ≤ 400)) (fun i => p.kn.length - (intOf i).toNat)
  case atStart => exact ⟨0, by omega, rfl, fun j hj => by omega⟩
  case round =>
    obtain ⟨k, hk, rfl, HN⟩ := hrel
    by_cases hlt : k < p.kn.length
    · obtain ⟨gk, ok, rfl, m0⟩ := RdP.knAt HR.out.2.1 k hlt
      have hlt' : (k : Int) < p.kn.length := by omega
      have HN' : Hid (inR (p.kn.getD k 0) 0 400 = true → ∀ j, j < k + 1 → 0 ≤ p.kn.getD j 0 ∧ p.kn.getD j 0 ≤ 400) := fun hx j hj => by
        by_cases e : j = k
        · subst e; exact inR_iff.1 hx
        · exact HN.out j (by omega)
      have HV' : Hid (inR (p.kn.getD k 0) 0 400 = false → p.numB = false) := fun hx => by
        have : p.knB = false := by
          cases e : p.knB with
          | false => rfl
          | true => have := kn_iff.1 e k hlt; rw [inR_no] at hx; exact absurd this hx
        rw [HE.out, this]; simp
      generalize p.kn.getD k 0 = kk at *
      cases hx : inR kk 0 400 with
      | true =>
        go_wp2_with fail
        refine (within_any _ _ _ _).mono ?_
        rintro e w' ⟨rfl, rfl⟩
        rw [hx]
        go_wp2
        go_round
        case rel => exact ⟨k + 1, by omega, by go_num, HN'.out hx⟩
        case measure => simp [intOf]; omega
      | false =>
        have HV : Hid (p.numB = false) := HV'.out hx
        go_wp2_with fail
        refine (within_any _ _ _ _).mono ?_
        rintro e w' ⟨rfl, rfl⟩
        rw [hx]
        go_wp2
        go_ret
        exact ⟨by rw [HV.out]; rfl, HB.out⟩
    · have HK : Hid (p.knB = true) := kn_iff.2 (fun j hj => HN.out j (by omega))
      rw [HK.out] at HE
      cases e1 : inR p.fw 1 p.rs.length with
      | false =>
        rw [e1] at HE
        go_wp2_with fail
        refine (within_any _ _ _ _).mono ?_
        rintro e w' ⟨rfl, rfl⟩
        rw [e1]
        go_wp2
        go_ret
        exact ⟨by rw [HE.out]; simp, HB.out⟩
      | true =>
        rw [e1] at HE
        cases e2 : inR p.ep 0 1073741824 with
        | false =>
          rw [e2] at HE
          go_wp2_with fail
          refine (within_any _ _ _ _).mono ?_
          rintro e w' ⟨rfl, rfl⟩
          rw [e1]
          go_wp2_with fail
          refine (within_any _ _ _ _).mono ?_
          rintro e w' ⟨rfl, rfl⟩
          rw [e2]
          go_wp2
          go_ret
          exact ⟨by rw [HE.out]; simp, HB.out⟩
        | true =>
          rw [e2] at HE
          go_wp2_with fail
          refine (within_any _ _ _ _).mono ?_
          rintro e w' ⟨rfl, rfl⟩
          rw [e1]
          go_wp2_with fail
          refine (within_any _ _ _ _).mono ?_
          rintro e w' ⟨rfl, rfl⟩
          rw [e2]
          go_wp2_with fail
          refine (within_any _ _ _ _).mono ?_
          rintro e w' ⟨rfl, rfl⟩
          go_wp2
          go_ret
          exact ⟨by rw [HE.out]; simp, HB.out⟩

set_option maxRecDepth 100000 in
set_option maxHeartbeats 1000000 in
theorem indexB_any (bs : List Bool) (v : Value) (w : World) (h : RdV w v (bs.map Value.bool)) :
    Calls Try.prog 101 #[v, .bool true] w fun e w' => ∃ i : Int, e = .returned (.int .i64 i) ∧ (hasB bs = true → 0 ≤ i) ∧ (hasB bs = false → i = -1) ∧ w' = w := by
  obtain ⟨ao, cap, rfl, h1, h2, h4, h3⟩ := h
  have HR : Hid (RdV w (.slice ao (bs.map Value.bool).length cap) (bs.map Value.bool)) := ⟨ao, cap, rfl, h1, h2, h4, h3⟩
  rw [List.length_map] at *
  unfold maxLen at h2
  have hl : (bs.length : Int) ≤ 9223372036854775807 := by omega
  clear h1 h2 h3 h4
  go_enter Try.func101, Try.ntmps101
  go_wp2
  go_loop [8] (fun i => ∃ k : Nat, k ≤ bs.length ∧ i = .int .i64 k ∧ Hid (∀ j, j < k → bs.getD j false = false)) (fun i => bs.length - (intOf i).toNat)
  case atStart => exact ⟨0, by omega, rfl, fun j hj => by omega⟩
  case round =>
    obtain ⟨k, hk, rfl, HN⟩ := hrel
    by_cases hlt : k < bs.length
    · obtain ⟨g, off, e, -, m0⟩ := RdV.cellAt HR.out k (by simpa using hlt)
      subst e
      have e0 : (bs.map Value.bool)[k]'(by simpa using hlt) = .bool (bs.getD k false) := by simp [List.getD, hlt]
      rw [e0] at m0
      have hlt' : (k : Int) < bs.length := by omega
      cases hx : bs.getD k false with
      | true =>
        rw [hx] at m0
        have HV : Hid (hasB bs = true) := contains_iff.2 ⟨k, hlt, hx⟩
        clear hx e0 HN
        go_wp2
        go_ret
        exact ⟨k, rfl, fun _ => by omega, (fun h => by rw [HV.out] at h; cases h), rfl⟩
      | false =>
        rw [hx] at m0
        have HN' : Hid (∀ j, j < k + 1 → bs.getD j false = false) := fun j hj => by
          by_cases e : j = k
          · subst e; exact hx
          · exact HN.out j (by omega)
        clear hx e0
        go_wp2
        go_round
        case rel => exact ⟨k + 1, by omega, by go_num, HN'⟩
        case measure => simp [intOf]; omega
    · have HV : Hid (hasB bs = false) := show _ = _ by
        cases e : hasB bs with
        | false => rfl
        | true =>
          obtain ⟨j, h1, h2⟩ := contains_iff.1 e
          rw [HN.out j (by omega)] at h2
          cases h2
      go_wp2
      go_ret
      exact ⟨-1, rfl, (fun h => by rw [HV.out] at h; cases h), fun _ => rfl, rfl⟩

set_option maxRecDepth 100000 in
set_option maxHeartbeats 1000000 in
theorem containsB_any (bs : List Bool) (v : Value) (w : World) (h : RdV w v (bs.map Value.bool)) :
    Calls Try.prog 65 #[v, .bool true] w fun e w' => e = .returned (.bool (hasB bs)) ∧ w' = w := by
  have H : Hid _ := h
  clear h
  go_enter Try.func65, Try.ntmps65
  go_wp2_with fail
  refine (indexB_any bs _ _ H.out).mono ?_
  rintro e w' ⟨i, rfl, h1, h2, rfl⟩
  cases hc : hasB bs with
  | true =>
    have h3 := h1 hc
    have HC : Hid _ := hc
    clear h1 h2 hc
    go_wp2
    go_ret
    exact ⟨by rw [HC.out]; rfl, rfl⟩
  | false =>
    obtain rfl := h2 hc
    have HC : Hid _ := hc
    clear h1 h2 hc
    go_wp2
    go_ret
    exact ⟨by rw [HC.out]; rfl, rfl⟩
end

section
open Go.RowKit
set_option linter.unusedVariables false
set_option linter.unusedSimpArgs false

set_option maxRecDepth 100000 in
set_option maxHeartbeats 4000000 in
theorem partCheck_any (p : Prt) (vi vk vr : Value) (us : Nat → Value) (w : World) (h : RdP w p vi vk vr us) (hs : p.small) :
    Calls Try.prog 27 #[.agg #[.int .i64 p.ep, .int .i64 p.ld, vi, vk, vr, .int .i64 p.fw, .int .i64 p.bs]] w fun e w' => e = .returned (.int .i64 p.cfl) ∧ Below w.heap.size w w' := by
  obtain ⟨ai, ci, ak, ck, ar, cr, rfl, rfl, rfl, l1, l2, l3⟩ := h.lens
  have hB := bbox w (.cells #[.int .i64 p.ep, .int .i64 p.ld, .slice ai p.isr.length ci, .slice ak p.kn.length ck, .slice ar p.rs.length cr, .int .i64 p.fw, .int .i64 p.bs] 26)
  have HB : Hid (Below w.heap.size w _) := hB
  have HP : Hid (PBox _ w.heap.size p _ _ _) := pbox_new w p (.slice ai p.isr.length ci) (.slice ak p.kn.length ck) (.slice ar p.rs.length cr) 26
  have HR : Hid (RdP _ p _ _ _ us) := h.below (Nat.le_refl _) hB
  have HSZ : Hid (w.heap.size < _) := show w.heap.size < (w.alloc (.cells #[.int .i64 p.ep, .int .i64 p.ld, .slice ai p.isr.length ci, .slice ak p.kn.length ck, .slice ar p.rs.length cr, .int .i64 p.fw, .int .i64 p.bs] 26)).heap.size by simp
  have HS : Hid p.small := hs
  clear h hB hs
  go_enter Try.func27, Try.ntmps27
  cases s1 : p.sizesB with
  | false =>
    have HV : Hid (p.cfl = 12) := cfl_no (may_sizes s1)
    go_wp2_with fail
    refine (fitsSizes_any p _ _ _ us _ HR.out).mono ?_
    rintro e w1 ⟨rfl, hb⟩
    have HB1 : Hid (Below w.heap.size w w1) := HB.out.trans (hb.mono HB.out.size)
    have HR1 : Hid (RdP w1 p _ _ _ us) := RdP.below HR.out (Nat.le_refl _) hb
    have HP1 : Hid (PBox w1 w.heap.size p _ _ _) := PBox.below HP.out HSZ.out hb
    have HSZ1 : Hid (w.heap.size < w1.heap.size) := Nat.lt_of_lt_of_le HSZ.out hb.size
    obtain ⟨c0, c1, c2, c3, c4, c5, c6⟩ := HP1.out
    clear hb
    rw [s1]
    go_wp2
    go_ret
    exact ⟨by rw [HV.out]; rfl, HB1.out⟩
  | true =>
    have HZ : Hid (p.isr.length = p.rs.length) := (sizes_iff.1 s1).2.2.1
    cases s2 : p.leadB with
    | false =>
      have HV : Hid (p.cfl = 12) := cfl_no (may_lead s2)
      go_wp2_with fail
      refine (fitsSizes_any p _ _ _ us _ HR.out).mono ?_
      rintro e w1 ⟨rfl, hb⟩
      have HB1 : Hid (Below w.heap.size w w1) := HB.out.trans (hb.mono HB.out.size)
      have HR1 : Hid (RdP w1 p _ _ _ us) := RdP.below HR.out (Nat.le_refl _) hb
      have HP1 : Hid (PBox w1 w.heap.size p _ _ _) := PBox.below HP.out HSZ.out hb
      have HSZ1 : Hid (w.heap.size < w1.heap.size) := Nat.lt_of_lt_of_le HSZ.out hb.size
      obtain ⟨c0, c1, c2, c3, c4, c5, c6⟩ := HP1.out
      clear hb
      rw [s1]
      go_wp2_with fail
      refine (fitsLeader_any p _ _ _ us _ HR1.out HZ.out).mono ?_
      rintro e w2 ⟨rfl, hb⟩
      have HB2 : Hid (Below w.heap.size w w2) := HB1.out.trans (hb.mono HB1.out.size)
      have HR2 : Hid (RdP w2 p _ _ _ us) := RdP.below HR1.out (Nat.le_refl _) hb
      have HP2 : Hid (PBox w2 w.heap.size p _ _ _) := PBox.below HP1.out HSZ1.out hb
      have HSZ2 : Hid (w.heap.size < w2.heap.size) := Nat.lt_of_lt_of_le HSZ1.out hb.size
      obtain ⟨c0, c1, c2, c3, c4, c5, c6⟩ := HP2.out
      clear hb
      rw [s2]
      go_wp2
      go_ret
      exact ⟨by rw [HV.out]; rfl, HB2.out⟩
    | true =>
      cases s3 : p.numB with
      | false =>
        have HV : Hid (p.cfl = 12) := cfl_no (may_num s3)
        go_wp2_with fail
        refine (fitsSizes_any p _ _ _ us _ HR.out).mono ?_
        rintro e w1 ⟨rfl, hb⟩
        have HB1 : Hid (Below w.heap.size w w1) := HB.out.trans (hb.mono HB.out.size)
        have HR1 : Hid (RdP w1 p _ _ _ us) := RdP.below HR.out (Nat.le_refl _) hb
        have HP1 : Hid (PBox w1 w.heap.size p _ _ _) := PBox.below HP.out HSZ.out hb
        have HSZ1 : Hid (w.heap.size < w1.heap.size) := Nat.lt_of_lt_of_le HSZ.out hb.size
        obtain ⟨c0, c1, c2, c3, c4, c5, c6⟩ := HP1.out
        clear hb
        rw [s1]
        go_wp2_with fail
        refine (fitsLeader_any p _ _ _ us _ HR1.out HZ.out).mono ?_
        rintro e w2 ⟨rfl, hb⟩
        have HB2 : Hid (Below w.heap.size w w2) := HB1.out.trans (hb.mono HB1.out.size)
        have HR2 : Hid (RdP w2 p _ _ _ us) := RdP.below HR1.out (Nat.le_refl _) hb
        have HP2 : Hid (PBox w2 w.heap.size p _ _ _) := PBox.below HP1.out HSZ1.out hb
        have HSZ2 : Hid (w.heap.size < w2.heap.size) := Nat.lt_of_lt_of_le HSZ1.out hb.size
        obtain ⟨c0, c1, c2, c3, c4, c5, c6⟩ := HP2.out
        clear hb
        rw [s2]
        go_wp2_with fail
        refine (fitsNumbers_any p _ _ _ us _ HR2.out).mono ?_
        rintro e w3 ⟨rfl, hb⟩
        have HB3 : Hid (Below w.heap.size w w3) := HB2.out.trans (hb.mono HB2.out.size)
        have HR3 : Hid (RdP w3 p _ _ _ us) := RdP.below HR2.out (Nat.le_refl _) hb
        have HP3 : Hid (PBox w3 w.heap.size p _ _ _) := PBox.below HP2.out HSZ2.out hb
        have HSZ3 : Hid (w.heap.size < w3.heap.size) := Nat.lt_of_lt_of_le HSZ2.out hb.size
        obtain ⟨c0, c1, c2, c3, c4, c5, c6⟩ := HP3.out
        clear hb
        rw [s3]
        go_wp2
        go_ret
        exact ⟨by rw [HV.out]; rfl, HB3.out⟩
      | true =>
        cases s4 : hasB p.isr with
        | false =>
          have HV : Hid (p.cfl = 12) := cfl_no (may_some s4)
          go_wp2_with fail
          refine (fitsSizes_any p _ _ _ us _ HR.out).mono ?_
          rintro e w1 ⟨rfl, hb⟩
          have HB1 : Hid (Below w.heap.size w w1) := HB.out.trans (hb.mono HB.out.size)
          have HR1 : Hid (RdP w1 p _ _ _ us) := RdP.below HR.out (Nat.le_refl _) hb
          have HP1 : Hid (PBox w1 w.heap.size p _ _ _) := PBox.below HP.out HSZ.out hb
          have HSZ1 : Hid (w.heap.size < w1.heap.size) := Nat.lt_of_lt_of_le HSZ.out hb.size
          obtain ⟨c0, c1, c2, c3, c4, c5, c6⟩ := HP1.out
          clear hb
          rw [s1]
          go_wp2_with fail
          refine (fitsLeader_any p _ _ _ us _ HR1.out HZ.out).mono ?_
          rintro e w2 ⟨rfl, hb⟩
          have HB2 : Hid (Below w.heap.size w w2) := HB1.out.trans (hb.mono HB1.out.size)
          have HR2 : Hid (RdP w2 p _ _ _ us) := RdP.below HR1.out (Nat.le_refl _) hb
          have HP2 : Hid (PBox w2 w.heap.size p _ _ _) := PBox.below HP1.out HSZ1.out hb
          have HSZ2 : Hid (w.heap.size < w2.heap.size) := Nat.lt_of_lt_of_le HSZ1.out hb.size
          obtain ⟨c0, c1, c2, c3, c4, c5, c6⟩ := HP2.out
          clear hb
          rw [s2]
          go_wp2_with fail
          refine (fitsNumbers_any p _ _ _ us _ HR2.out).mono ?_
          rintro e w3 ⟨rfl, hb⟩
          have HB3 : Hid (Below w.heap.size w w3) := HB2.out.trans (hb.mono HB2.out.size)
          have HR3 : Hid (RdP w3 p _ _ _ us) := RdP.below HR2.out (Nat.le_refl _) hb
          have HP3 : Hid (PBox w3 w.heap.size p _ _ _) := PBox.below HP2.out HSZ2.out hb
          have HSZ3 : Hid (w.heap.size < w3.heap.size) := Nat.lt_of_lt_of_le HSZ2.out hb.size
          obtain ⟨c0, c1, c2, c3, c4, c5, c6⟩ := HP3.out
          clear hb
          rw [s3]
          go_wp2_with fail
          refine (containsB_any p.isr _ _ HR3.out.1).mono ?_
          rintro e w3 ⟨rfl, rfl⟩
          rw [s4]
          go_wp2
          go_ret
          exact ⟨by rw [HV.out]; rfl, HB3.out⟩
        | true =>
          have HA : Hid ((∀ k, k < p.rs.length → (p.at k).fitB = true) → p.cfl = 0) := fun h5 => cfl_yes (may_all s1 s2 s3 s4 h5)
          go_wp2_with fail
          refine (fitsSizes_any p _ _ _ us _ HR.out).mono ?_
          rintro e w1 ⟨rfl, hb⟩
          have HB1 : Hid (Below w.heap.size w w1) := HB.out.trans (hb.mono HB.out.size)
          have HR1 : Hid (RdP w1 p _ _ _ us) := RdP.below HR.out (Nat.le_refl _) hb
          have HP1 : Hid (PBox w1 w.heap.size p _ _ _) := PBox.below HP.out HSZ.out hb
          have HSZ1 : Hid (w.heap.size < w1.heap.size) := Nat.lt_of_lt_of_le HSZ.out hb.size
          obtain ⟨c0, c1, c2, c3, c4, c5, c6⟩ := HP1.out
          clear hb
          rw [s1]
          go_wp2_with fail
          refine (fitsLeader_any p _ _ _ us _ HR1.out HZ.out).mono ?_
          rintro e w2 ⟨rfl, hb⟩
          have HB2 : Hid (Below w.heap.size w w2) := HB1.out.trans (hb.mono HB1.out.size)
          have HR2 : Hid (RdP w2 p _ _ _ us) := RdP.below HR1.out (Nat.le_refl _) hb
          have HP2 : Hid (PBox w2 w.heap.size p _ _ _) := PBox.below HP1.out HSZ1.out hb
          have HSZ2 : Hid (w.heap.size < w2.heap.size) := Nat.lt_of_lt_of_le HSZ1.out hb.size
          obtain ⟨c0, c1, c2, c3, c4, c5, c6⟩ := HP2.out
          clear hb
          rw [s2]
          go_wp2_with fail
          refine (fitsNumbers_any p _ _ _ us _ HR2.out).mono ?_
          rintro e w3 ⟨rfl, hb⟩
          have HB3 : Hid (Below w.heap.size w w3) := HB2.out.trans (hb.mono HB2.out.size)
          have HR3 : Hid (RdP w3 p _ _ _ us) := RdP.below HR2.out (Nat.le_refl _) hb
          have HP3 : Hid (PBox w3 w.heap.size p _ _ _) := PBox.below HP2.out HSZ2.out hb
          have HSZ3 : Hid (w.heap.size < w3.heap.size) := Nat.lt_of_lt_of_le HSZ2.out hb.size
          obtain ⟨c0, c1, c2, c3, c4, c5, c6⟩ := HP3.out
          clear hb
          rw [s3]
          go_wp2_with fail
          refine (containsB_any p.isr _ _ HR3.out.1).mono ?_
          rintro e w3 ⟨rfl, rfl⟩
          rw [s4]
          clear s1 s2 s3 s4 HZ HR HB HP HSZ HB1 HR1 HP1 HSZ1 HB2 HR2 HP2 HSZ2
          go_wp2
          clear c0 c1 c2 c3 c4 c5 c6
          go_loopw [27] (fun i wr => ∃ k : Nat, k ≤ p.rs.length ∧ i = .int .i64 k ∧ Hid (∀ j, j < k → (p.at j).fitB = true) ∧ Below w3.heap.size w3 wr) (fun i _ => p.rs.length - (intOf i).toNat)
          case atStart => exact ⟨0, by omega, rfl, (fun j hj => by omega), Below.refl _ _⟩
          case round =>
            obtain ⟨k, hk, rfl, HN, hb⟩ := hrel
            have HBr : Hid (Below w.heap.size w wr) := HB3.out.trans (hb.mono HB3.out.size)
            have HWr : Hid (Below w3.heap.size w3 wr) := hb
            by_cases hlt : k < p.rs.length
            · have hlt' : (k : Int) < p.rs.length := by omega
              have hR := RdP.below HR3.out (Nat.le_refl _) hb
              obtain ⟨g, off, rfl, _, r0, r1, r2, r3, r4⟩ := hR.2.2.cells k hlt
              have HR0 : Hid _ := r0
              have HL : Hid _ := HS.out.at k
              have HNO : Hid ((p.at k).fitB = false → p.cfl = 12) := fun h => cfl_no (may_fit k hlt h)
              have HN' : Hid ((p.at k).fitB = true → ∀ j, j < k + 1 → (p.at j).fitB = true) := fun h j hj => by
                by_cases e : j = k
                · subst e; exact h
                · exact HN.out j (by omega)
              clear hb hR r0
              generalize p.at k = R at *
              generalize us k = u at *
              obtain ⟨au, cu, rfl⟩ : ∃ au cu, u = .slice au R.l.length cu := by obtain ⟨_, au, cu, e, _⟩ := HR0.out; exact ⟨au, cu, e⟩
              go_wp2_with fail
              refine (fitsReplica_any R _ _ HL.out (Rd.below HR0.out (Nat.le_refl _) (by repeat (first | exact Below.refl _ _ | refine Below.setCell ?_ (Nat.le_refl _) _ | refine Below.alloc ?_ (Nat.le_refl _) _)))).mono ?_
              rintro e w5 ⟨rfl, hb5⟩
              have HB5 : Hid (Below wr.heap.size wr w5) := (show Below wr.heap.size wr _ by repeat (first | exact Below.refl _ _ | refine Below.setCell ?_ (Nat.le_refl _) _ | refine Below.alloc ?_ (Nat.le_refl _) _)).trans (hb5.mono (by simp))
              clear hb5 r1 r2 r3 r4
              cases hx : R.fitB with
              | false =>
                have HV : Hid _ := HNO.out hx
                go_wp2
                go_ret
                exact ⟨by rw [HV.out]; rfl, HBr.out.trans (HB5.out.mono HBr.out.size)⟩
              | true =>
                have HV : Hid _ := HN'.out hx
                go_wp2
                go_roundw
                case rel => exact ⟨k + 1, by omega, by go_num, HV, HWr.out.trans (HB5.out.mono HWr.out.size)⟩
                case measure => simp [intOf]; omega
            · have HV : Hid (p.cfl = 0) := HA.out (fun k' hk' => HN.out k' (by omega))
              go_wp2
              go_ret
              exact ⟨by rw [HV.out]; rfl, HBr.out⟩
end

end Go.Proofs.Ytkolelpdedmkeaa
