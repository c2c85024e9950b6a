/-
  The document's TickedOf, walked.
-/
import Derived.Test.YtjhpfnogdjpbmaaCtick
import Derived.Test.YtjhpfnogdjpbmaaCdoc
namespace Go.Proofs.Ytjhpfnogdjpbmaa
open Go.RowKit
set_option linter.unusedVariables false
set_option linter.unusedSimpArgs false

theorem sd_as {w : World} {o B : Nat} {c0 : Crd} {v0 : Value} {c d : Crd} {vt : Value} {us : Nat → Value} {W : World} (e : c = d) (h : Sd w o B c0 v0 c vt us W) : Sd w o B c0 v0 d vt us W := e ▸ h

set_option maxRecDepth 100000 in
set_option maxHeartbeats 2400000 in
theorem ticked_any (c : Crd) (n : Int) (vt : Value) (us : Nat → Value) (w : World) (h : RdC w c vt us) (hf : c.fits) (wn : (Lit.int .i64 n).wf = true) :
    Calls Try.prog 35 #[.agg #[.int .i64 c.ck, .int .i64 c.nx, .int .i64 c.wt, vt], .int .i64 n] w fun e w' => ∃ vt' us', e = .returned (.tuple #[.agg #[.int .i64 (c.tickP n).1.ck, .int .i64 (c.tickP n).1.nx, .int .i64 (c.tickP n).1.wt, vt'], .int .i64 (c.tickP n).2]) ∧ FreshC w.heap.size w' (c.tickP n).1 vt' us' ∧ Below w.heap.size w w' := by
  obtain ⟨av, cv, rfl, hl1, hl2⟩ := h.shape
  unfold maxLen at hl2
  have hll : (c.ts.length : Int) ≤ 9223372036854775807 := by omega
  have HR : Hid (∀ W, Below w.heap.size w W → RdC W c (.slice av c.ts.length cv) us) := fun W hW => h.below (Nat.le_refl _) hW
  have HF : Hid c.fits := hf
  have HB0 : Hid (Below w.heap.size w ((w.alloc (.cells #[.int .i64 c.ck, .int .i64 c.nx, .int .i64 c.wt, .slice av c.ts.length cv] 24)).alloc (.cells #[.int .i64 0, .int .i64 0, .int .i64 0, .slice none 0 0] 24))) := bstep (bbox _ _) (bbox _ _)
  have HC0 : Hid (CB ((w.alloc (.cells #[.int .i64 c.ck, .int .i64 c.nx, .int .i64 c.wt, .slice av c.ts.length cv] 24)).alloc (.cells #[.int .i64 0, .int .i64 0, .int .i64 0, .slice none 0 0] 24)) w.heap.size c (.slice av c.ts.length cv)) := (cb_new w c (.slice av c.ts.length cv) 24 w.heap.size rfl).below (C := w.heap.size + 1) (by omega) ((Below.refl _ _).alloc (by simp) _)
  have HZ0 : Hid (CB ((w.alloc (.cells #[.int .i64 c.ck, .int .i64 c.nx, .int .i64 c.wt, .slice av c.ts.length cv] 24)).alloc (.cells #[.int .i64 0, .int .i64 0, .int .i64 0, .slice none 0 0] 24)) (w.heap.size + 1) Crd.zero (.slice none 0 0)) := cb_new _ Crd.zero (.slice none 0 0) 24 (w.heap.size + 1) (by simp)
  have HEE : Hid (c.tickP n = if c.mayB = false then (Crd.zero, 12) else if inR n 0 1000 = false ∨ 1073741824 < c.ck + n then (Crd.zero, 2) else ({ c with ck := c.ck + n, ts := c.ts.map (fun t => t.tick (c.ck + n) c.wt) }, 0)) := show _ = _ from rfl
  clear h hf hl1 hl2
  go_enter Try.func35, Try.ntmps35
  go_upto_region 1 with fail
  generalize (w.alloc (.cells #[.int .i64 c.ck, .int .i64 c.nx, .int .i64 c.wt, .slice av c.ts.length cv] 24)).alloc (.cells #[.int .i64 0, .int .i64 0, .int .i64 0, .slice none 0 0] 24) = W0 at *
  obtain ⟨s1, ⟨a0, a1, a2, a3⟩, f1⟩ := HC0.out
  obtain ⟨z1, ⟨e0, e1, e2, e3⟩, g1⟩ := HZ0.out
  go_wp2_with fail
  refine (coordMay_any c _ us _ (HR.out _ HB0.out) HF.out.n).mono ?_
  rintro e w1 ⟨rfl, hb1⟩
  have HB1 : Hid (Below w.heap.size w w1) := bstep HB0.out hb1
  have HC1 : Hid (CB w1 w.heap.size c _) := HC0.out.below HC0.out.1 hb1
  have HZ1 : Hid (CB w1 (w.heap.size + 1) Crd.zero _) := HZ0.out.below HZ0.out.1 hb1
  clear a0 a1 a2 a3 f1 s1 z1 e0 e1 e2 e3 g1 hb1
  obtain ⟨s1, ⟨a0, a1, a2, a3⟩, f1⟩ := HC1.out
  obtain ⟨z1, ⟨e0, e1, e2, e3⟩, g1⟩ := HZ1.out
  cases hm : c.mayB with
  | false =>
    have HV : Hid (c.tickP n = (Crd.zero, 12)) := show _ = _ by rw [HEE.out, if_pos hm]
    clear hm
    have HDN : Hid (FreshC w.heap.size (put4 w1 (w.heap.size + 1) Crd.zero (.slice none 0 0)) Crd.zero (.slice none 0 0) (fun _ => .slice none 0 0) ∧ Below w.heap.size w (put4 w1 (w.heap.size + 1) Crd.zero (.slice none 0 0))) := ⟨freshC_nil' _ rfl (by rw [put4_size]; exact HB1.out.size), below_put4 HB1.out (by omega) _ _⟩
    go_wp2
    exact bodyPost_ret (v := .tuple #[.agg #[.int .i64 0, .int .i64 0, .int .i64 0, .slice none 0 0], .int .i64 12]) (by simp [results, Try.results35, go_sem, e0, e1, e2, e3]) rfl ⟨.slice none 0 0, fun _ => .slice none 0 0, by simp only [HV.out, Crd.zero], by simp only [HV.out]; exact HDN.out.1, HDN.out.2⟩
  | true =>
  have HMY : Hid (MayC c) := mayC_iff.1 hm
  have HE2 : Hid (c.tickP n = if inR n 0 1000 = false ∨ 1073741824 < c.ck + n then (Crd.zero, 2) else ({ c with ck := c.ck + n, ts := c.ts.map (fun t => t.tick (c.ck + n) c.wt) }, 0)) := show _ = _ by rw [HEE.out, if_neg (by rw [hm]; simp)]
  clear hm HEE
  have hc0 := HMY.out.c0
  have hc1 := HMY.out.c1
  have hw0 := HMY.out.w0
  have hw1 := HMY.out.w1
  go_wp2_with fail
  refine (In_any _ _ _ _).mono ?_
  rintro e wx ⟨rfl, rfl⟩
  cases hin : inR n 0 1000 with
  | false =>
    have HV : Hid (c.tickP n = (Crd.zero, 2)) := show _ = _ by rw [HE2.out, if_pos (.inl hin)]
    have HDN : Hid (FreshC w.heap.size (put4 wx (w.heap.size + 1) Crd.zero (.slice none 0 0)) Crd.zero (.slice none 0 0) (fun _ => .slice none 0 0) ∧ Below w.heap.size w (put4 wx (w.heap.size + 1) Crd.zero (.slice none 0 0))) := ⟨freshC_nil' _ rfl (by rw [put4_size]; exact HB1.out.size), below_put4 HB1.out (by omega) _ _⟩
    clear hin
    go_wp2
    exact bodyPost_ret (v := .tuple #[.agg #[.int .i64 0, .int .i64 0, .int .i64 0, .slice none 0 0], .int .i64 2]) (by simp [results, Try.results35, go_sem, e0, e1, e2, e3]) rfl ⟨.slice none 0 0, fun _ => .slice none 0 0, by simp only [HV.out, Crd.zero], by simp only [HV.out]; exact HDN.out.1, HDN.out.2⟩
  | true =>
  obtain ⟨hn0, hn1⟩ := inR_iff.1 hin
  by_cases hov : 1073741824 < c.ck + n
  · have HV : Hid (c.tickP n = (Crd.zero, 2)) := show _ = _ by rw [HE2.out, if_pos (.inr hov)]
    have HDN : Hid (FreshC w.heap.size (put4 wx (w.heap.size + 1) Crd.zero (.slice none 0 0)) Crd.zero (.slice none 0 0) (fun _ => .slice none 0 0) ∧ Below w.heap.size w (put4 wx (w.heap.size + 1) Crd.zero (.slice none 0 0))) := ⟨freshC_nil' _ rfl (by rw [put4_size]; exact HB1.out.size), below_put4 HB1.out (by omega) _ _⟩
    clear hin
    go_wp2
    exact bodyPost_ret (v := .tuple #[.agg #[.int .i64 0, .int .i64 0, .int .i64 0, .slice none 0 0], .int .i64 2]) (by simp [results, Try.results35, go_sem, e0, e1, e2, e3]) rfl ⟨.slice none 0 0, fun _ => .slice none 0 0, by simp only [HV.out, Crd.zero], by simp only [HV.out]; exact HDN.out.1, HDN.out.2⟩
  have HV : Hid (c.tickP n = ({ c with ck := c.ck + n, ts := c.ts.map (fun t => t.tick (c.ck + n) c.wt) }, 0)) := show _ = _ by rw [HE2.out, if_neg (by rw [hin]; simpa using hov)]
  clear hin HE2
  go_wp2_with fail
  refine (coordCopy_any c _ us _ (HR.out _ HB1.out) HF.out).mono ?_
  rintro e w3 ⟨v3, us3, rfl, hf3, hb3⟩
  obtain ⟨g3o, c3, rfl⟩ := hf3.shapeOf
  have HS : Hid (Sd w w3.heap.size wx.heap.size c (.slice av c.ts.length cv) c (.slice g3o c.ts.length c3) us3 (w3.alloc (.cells #[.int .i64 c.ck, .int .i64 c.nx, .int .i64 c.wt, .slice g3o c.ts.length c3] 24))) := sd_new HB1.out HC1.out HZ1.out hf3 hb3
  clear a0 a1 a2 a3 f1 s1 z1 e0 e1 e2 e3 g1 hf3 hb3
  go_upto_region 6 with fail
  generalize w3.alloc (.cells #[.int .i64 c.ck, .int .i64 c.nx, .int .i64 c.wt, .slice g3o c.ts.length c3] 24) = w4 at *
  generalize w3.heap.size = o at *
  obtain ⟨s1, ⟨a0, a1, a2, a3⟩, f1⟩ := HS.out.src
  obtain ⟨o1, ⟨b0, b1, b2, b3⟩, h1⟩ := HS.out.out
  have hbz : w.heap.size ≠ w.heap.size + 1 := by omega
  have hob : w.heap.size ≠ o := by have := HS.out.no; omega
  have hoz : w.heap.size + 1 ≠ o := by have := HS.out.no; omega
  have HS5 : Hid (Sd w o wx.heap.size c (.slice av c.ts.length cv) (c.tickTo n 0) (.slice g3o c.ts.length c3) us3 _) := sd_as (tickTo_zero c n).symm (HS.out.clock (c.ck + n))
  go_wp2
  clear a0 a1 a2 a3 f1 s1 o1 b0 b1 b2 b3 h1
  go_loopw [7] (fun i W => ∃ k : Nat, k ≤ c.ts.length ∧ i = .int .i64 k ∧ Hid (Sd w o wx.heap.size c (.slice av c.ts.length cv) (c.tickTo n k) (.slice g3o c.ts.length c3) us3 W)) (fun i _ => c.ts.length - (intOf i).toNat)
  case atStart => exact ⟨0, by omega, rfl, HS5.out⟩
  case round =>
    obtain ⟨k, hk, rfl, HSK⟩ := hrel
    have hoo : CB wr o { c with ck := c.ck + n } (.slice g3o c.ts.length c3) := HSK.out.out
    obtain ⟨o1, ⟨b0, b1, b2, b3⟩, h1⟩ := hoo
    obtain ⟨s1, ⟨a0, a1, a2, a3⟩, f1⟩ := HSK.out.src
    obtain ⟨z1, ⟨e0, e1, e2, e3⟩, g1⟩ := HSK.out.zz
    by_cases hlt : k < c.ts.length
    · have hltv : (k : Int) < c.ts.length := by omega
      have hlk : k < (c.tickTo n k).ts.length := by rw [tickTo_len]; exact hlt
      obtain ⟨g3, cc3, eg3⟩ := HSK.out.own.form (by rw [tickTo_len]; omega)
      rw [tickTo_len] at eg3
      simp only [Value.slice.injEq, true_and] at eg3
      obtain ⟨rfl, rfl⟩ := eg3
      obtain ⟨hT3, hfz, hg1, hg2⟩ := FreshC.cells HSK.out.own k hlk
      obtain ⟨au, cu, hu, _⟩ := (HSK.out.own.i k hlk).rdv.intShape
      rw [← at_txn hlk, tickTo_at hlt] at hu
      obtain ⟨t, ht⟩ : ∃ t, c.at k = t := ⟨_, rfl⟩
      have hok := HMY.out.ok k hlt
      rw [tickTo_at hlt, ht] at hT3
      rw [ht] at hu hok
      have hu : us3 k = .slice au t.ps.length cu := hu
      rw [hu] at hT3
      have HNX : Hid ((c.tickTo n k).setT k (t.tick (c.ck + n) c.wt) = c.tickTo n (k + 1)) := show _ = _ by rw [← ht]; exact tickTo_next hlt
      have HAT : Hid ((c.tickTo n k).at k = t) := show _ = _ by rw [tickTo_at hlt, ht]
      have hv0 := hok.v0
      have hv1 := hok.v1
      have hs0 := hok.n0
      have hs1 : t.sn ≤ 1073741824 := by have := hok.n1; omega
      have hgb : w.heap.size ≠ g3 := by have := HSK.out.lo; omega
      have hgz : w.heap.size + 1 ≠ g3 := by have := HSK.out.lo; omega
      have hgo : o ≠ g3 := fun e => HSK.out.na (by rw [e]; rfl)
      clear hok ht hu hg1
      obtain ⟨q0, q1, q2, q3, q4, q5, q6⟩ := hT3
      go_upto_region 11 with fail
      have HS6 : Hid (Sd w o wx.heap.size c (.slice av c.ts.length cv) (c.tickTo n k) (.slice (some ⟨g3, 0, none⟩) c.ts.length c3) us3 (wr.alloc (.cells #[.string t.nm, .int .i64 t.id, .int .i64 t.v, .int .i64 t.st, .slice au t.ps.length cu, .int .i64 t.sn, .int .i64 t.dn] 62))) := HSK.out.below (bbox _ _)
      have HT6 : Hid (TBox (wr.alloc (.cells #[.string t.nm, .int .i64 t.id, .int .i64 t.v, .int .i64 t.st, .slice au t.ps.length cu, .int .i64 t.sn, .int .i64 t.dn] 62)) wr.heap.size 0 t (.slice au t.ps.length cu)) := tbox_new wr t _ _
      have hbg : wr.heap.size ≠ g3 := by omega
      generalize wr.alloc (.cells #[.string t.nm, .int .i64 t.id, .int .i64 t.v, .int .i64 t.st, .slice au t.ps.length cu, .int .i64 t.sn, .int .i64 t.dn] 62) = w6 at *
      generalize wr.heap.size = b6 at *
      clear a0 a1 a2 a3 f1 s1 z1 e0 e1 e2 e3 g1 o1 b0 b1 b2 b3 h1 q0 q1 q2 q3 q4 q5 q6 hfz hg2
      obtain ⟨hT3, hfz, hg1, hg2⟩ := FreshC.cells HS6.out.own k hlk
      rw [HAT.out] at hT3
      clear hg1
      obtain ⟨q0, q1, q2, q3, q4, q5, q6⟩ := hT3
      obtain ⟨s1, ⟨a0, a1, a2, a3⟩, f1⟩ := HS6.out.src
      obtain ⟨p0, p1, p2, p3, p4, p5, p6⟩ := HT6.out
      have hoo : CB w6 o { c with ck := c.ck + n } (.slice (some ⟨g3, 0, none⟩) c.ts.length c3) := HS6.out.out
      obtain ⟨o1, ⟨b0, b1, b2, b3⟩, h1⟩ := hoo
      by_cases hst : t.st = 2
      · have d2 : (t.st == 2) = true := by simp [hst]
        by_cases hle : t.sn + c.wt ≤ c.ck + n
        · by_cases hx : t.v = 1073741824
          · have hvv : ¬ t.v < 1073741824 := by omega
            have HTK : Hid (t.tick (c.ck + n) c.wt = t) := show _ = _ by unfold Txn.tick Txn.lateB; rw [if_neg (by simp [*])]
            have h9 := sd_as (show c.tickTo n k = c.tickTo n (k + 1) by rw [← HNX.out, HTK.out, ← HAT.out]; exact (setT_self hlk).symm) HS6.out
            clear hst hx
            have HS9 : Hid _ := h9
            go_wp2
            go_roundw
            case rel => exact ⟨k + 1, by omega, by go_num, HS9.out⟩
            case measure => simp [intOf]; omega
          have hv2 : t.v < 1073741824 := by omega
          have HTK : Hid (t.tick (c.ck + n) c.wt = { t with v := t.v + 1, st := 4 }) := show _ = _ by unfold Txn.tick Txn.lateB; rw [if_pos (by simp [*])]
          have h8 := HS6.out.set k 3 hlk (by omega) { t with st := 4 } (.int .i64 4) (by rw [HAT.out]; rfl) (by rw [HAT.out])
          have h9 := h8.set k 2 (by rw [setT_len]; exact hlk) (by omega) { t with v := t.v + 1, st := 4 } (.int .i64 (t.v + 1)) (by rw [setT_at hlk]; rfl) (by rw [setT_at hlk])
          rw [setT_setT, ← HTK.out] at h9
          have h9 := sd_as HNX.out h9
          clear hst hx h8
          have HS9 : Hid _ := h9
          go_wp2
          go_roundw
          case rel => exact ⟨k + 1, by omega, by go_num, HS9.out⟩
          case measure => simp [intOf]; omega
        · have hle2 : ¬ c.ck + n ≥ t.sn + c.wt := hle
          have HTK : Hid (t.tick (c.ck + n) c.wt = t) := show _ = _ by unfold Txn.tick Txn.lateB; rw [if_neg (by simp [*])]
          have h9 := sd_as (show c.tickTo n k = c.tickTo n (k + 1) by rw [← HNX.out, HTK.out, ← HAT.out]; exact (setT_self hlk).symm) HS6.out
          clear hst
          have HS9 : Hid _ := h9
          go_wp2
          go_roundw
          case rel => exact ⟨k + 1, by omega, by go_num, HS9.out⟩
          case measure => simp [intOf]; omega
      · have d2 : (t.st == 2) = false := by simp [hst]
        have HTK : Hid (t.tick (c.ck + n) c.wt = t) := show _ = _ by unfold Txn.tick Txn.lateB; rw [if_neg (by simp [*])]
        have h9 := sd_as (show c.tickTo n k = c.tickTo n (k + 1) by rw [← HNX.out, HTK.out, ← HAT.out]; exact (setT_self hlk).symm) HS6.out
        clear hst
        have HS9 : Hid _ := h9
        go_wp2
        go_roundw
        case rel => exact ⟨k + 1, by omega, by go_num, HS9.out⟩
        case measure => simp [intOf]; omega
    · have hke : k = c.ts.length := by omega
      subst hke
      have hfin := HSK.out
      rw [tickTo_all] at hfin
      have HDN : Hid _ := hfin.done { c with ck := c.ck + n }
      unfold put4 at HDN
      clear hfin
      go_wp2
      exact bodyPost_ret (v := .tuple #[.agg #[.int .i64 (c.ck + n), .int .i64 c.nx, .int .i64 c.wt, .slice g3o c.ts.length c3], .int .i64 0]) (by simp [results, Try.results35, go_sem, a0, a1, a2, a3, b0, b1, b2, b3, e0, e1, e2, e3, hbz, hob, hoz]) rfl ⟨.slice g3o c.ts.length c3, by simp only [HV.out], ⟨us3, by simp only [HV.out]; exact HDN.out.1⟩, HDN.out.2⟩

end Go.Proofs.Ytjhpfnogdjpbmaa
