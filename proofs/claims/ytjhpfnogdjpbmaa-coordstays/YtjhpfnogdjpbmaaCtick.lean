/-
  The walk of coord.Tick.
-/
import Derived.Test.YtjhpfnogdjpbmaaCtick0
namespace Go.Proofs.Ytjhpfnogdjpbmaa
open Go.RowKit
set_option linter.unusedVariables false
set_option linter.unusedSimpArgs false

theorem Sc.clock {w : World} {b z B : Nat} {c : Crd} {vt : Value} {us : Nat → Value} {W : World} (h : Sc w b z B c vt us W) (n : Int) : Sc w b z B { c with ck := n } vt us (W.setCell ⟨b, 0, none⟩ (.int .i64 n)) := by
  have h1 := h.bB
  have hbz := h.bz
  obtain ⟨s, ⟨a0, a1, a2, a3⟩, f⟩ := h.bb
  refine ⟨h.bel.setCell (p := ⟨b, 0, none⟩) h.wb _, ⟨by simpa using s, ⟨?_, ?_, ?_, ?_⟩, frozen_set f _ _ _ f⟩, h.zz.far (fun e => hbz e.symm) _ _, FreshC.box (c := { c with ck := n }) h.own h1 _ _, h1, h.zB, hbz, h.wb, h.wz, h.wB⟩
  all_goals simp [go_sem, a0, a1, a2, a3]
theorem sc_as {w : World} {b z B : Nat} {c d : Crd} {vt : Value} {us : Nat → Value} {W : World} (e : c = d) (h : Sc w b z B c vt us W) : Sc w b z B d vt us W := e ▸ h

set_option maxRecDepth 100000 in
set_option maxHeartbeats 2400000 in
theorem tick_any (c : Crd) (n : Int) (vt : Value) (us : Nat → Value) (w : World) (h : RdC w c vt us) (hf : c.fits) (wn : (Lit.int .i64 n).wf = true) :
    Calls Try.prog 34 #[.agg #[.int .i64 c.ck, .int .i64 c.nx, .int .i64 c.wt, vt], .int .i64 n] w fun e w' => ∃ vt' us', e = .returned (.tuple #[.agg #[.int .i64 (c.tickP n).1.ck, .int .i64 (c.tickP n).1.nx, .int .i64 (c.tickP n).1.wt, vt'], .int .i64 (c.tickP n).2]) ∧ FreshC w.heap.size w' (c.tickP n).1 vt' us' ∧ Below w.heap.size w w' := by
  obtain ⟨av, cv, rfl, hl1, hl2⟩ := h.shape
  unfold maxLen at hl2
  have hll : (c.ts.length : Int) ≤ 9223372036854775807 := by omega
  have HR : Hid (∀ W, Below w.heap.size w W → RdC W c (.slice av c.ts.length cv) us) := fun W hW => h.below (Nat.le_refl _) hW
  have HF : Hid c.fits := hf
  have HB0 : Hid (Below w.heap.size w ((w.alloc (.cells #[.int .i64 c.ck, .int .i64 c.nx, .int .i64 c.wt, .slice av c.ts.length cv] 24)).alloc (.cells #[.int .i64 0, .int .i64 0, .int .i64 0, .slice none 0 0] 24))) := bstep (bbox _ _) (bbox _ _)
  have HC0 : Hid (CB ((w.alloc (.cells #[.int .i64 c.ck, .int .i64 c.nx, .int .i64 c.wt, .slice av c.ts.length cv] 24)).alloc (.cells #[.int .i64 0, .int .i64 0, .int .i64 0, .slice none 0 0] 24)) w.heap.size c (.slice av c.ts.length cv)) := (cb_new w c (.slice av c.ts.length cv) 24 w.heap.size rfl).below (C := w.heap.size + 1) (by omega) ((Below.refl _ _).alloc (by simp) _)
  have HZ0 : Hid (CB ((w.alloc (.cells #[.int .i64 c.ck, .int .i64 c.nx, .int .i64 c.wt, .slice av c.ts.length cv] 24)).alloc (.cells #[.int .i64 0, .int .i64 0, .int .i64 0, .slice none 0 0] 24)) (w.heap.size + 1) Crd.zero (.slice none 0 0)) := cb_new _ Crd.zero (.slice none 0 0) 24 (w.heap.size + 1) (by simp)
  have HEE : Hid (c.tickP n = if c.mayB = false then (Crd.zero, 12) else if inR n 0 1000 = false ∨ 1073741824 < c.ck + n then (Crd.zero, 2) else ({ c with ck := c.ck + n, ts := c.ts.map (fun t => t.tick (c.ck + n) c.wt) }, 0)) := show _ = _ from rfl
  clear h hf hl1 hl2
  go_enter Try.func34, Try.ntmps34
  go_upto_region 1 with fail
  generalize (w.alloc (.cells #[.int .i64 c.ck, .int .i64 c.nx, .int .i64 c.wt, .slice av c.ts.length cv] 24)).alloc (.cells #[.int .i64 0, .int .i64 0, .int .i64 0, .slice none 0 0] 24) = W0 at *
  obtain ⟨s1, ⟨a0, a1, a2, a3⟩, f1⟩ := HC0.out
  obtain ⟨z1, ⟨e0, e1, e2, e3⟩, g1⟩ := HZ0.out
  go_wp2_with fail
  refine (ccheck_any c _ us _ (HR.out _ HB0.out) HF.out.n).mono ?_
  rintro e w1 ⟨rfl, hb1⟩
  have HB1 : Hid (Below w.heap.size w w1) := bstep HB0.out hb1
  have HC1 : Hid (CB w1 w.heap.size c _) := HC0.out.below HC0.out.1 hb1
  have HZ1 : Hid (CB w1 (w.heap.size + 1) Crd.zero _) := HZ0.out.below HZ0.out.1 hb1
  clear a0 a1 a2 a3 f1 s1 z1 e0 e1 e2 e3 g1 hb1
  obtain ⟨s1, ⟨a0, a1, a2, a3⟩, f1⟩ := HC1.out
  obtain ⟨z1, ⟨e0, e1, e2, e3⟩, g1⟩ := HZ1.out
  cases hm : c.mayB with
  | false =>
    have HV : Hid (c.tickP n = (Crd.zero, 12)) := show _ = _ by rw [HEE.out, if_pos hm]
    rw [ccfl_no hm]
    clear hm
    have HDN : Hid (FreshC w.heap.size (put4 w1 (w.heap.size + 1) Crd.zero (.slice none 0 0)) Crd.zero (.slice none 0 0) (fun _ => .slice none 0 0) ∧ Below w.heap.size w (put4 w1 (w.heap.size + 1) Crd.zero (.slice none 0 0))) := ⟨freshC_nil' _ rfl (by rw [put4_size]; exact HB1.out.size), below_put4 HB1.out (by omega) _ _⟩
    go_wp2
    exact bodyPost_ret (v := .tuple #[.agg #[.int .i64 0, .int .i64 0, .int .i64 0, .slice none 0 0], .int .i64 12]) (by simp [results, Try.results34, go_sem, e0, e1, e2, e3]) rfl ⟨.slice none 0 0, fun _ => .slice none 0 0, by simp only [HV.out, Crd.zero], by simp only [HV.out]; exact HDN.out.1, HDN.out.2⟩
  | true =>
  have HMY : Hid (MayC c) := mayC_iff.1 hm
  have HE2 : Hid (c.tickP n = if inR n 0 1000 = false ∨ 1073741824 < c.ck + n then (Crd.zero, 2) else ({ c with ck := c.ck + n, ts := c.ts.map (fun t => t.tick (c.ck + n) c.wt) }, 0)) := show _ = _ by rw [HEE.out, if_neg (by rw [hm]; simp)]
  rw [ccfl_yes hm]
  clear hm HEE
  have hc0 := HMY.out.c0
  have hc1 := HMY.out.c1
  have hw0 := HMY.out.w0
  have hw1 := HMY.out.w1
  go_wp2_with fail
  refine (cwithin_any _ _ _ _).mono ?_
  rintro e wx ⟨rfl, rfl⟩
  cases hin : inR n 0 1000 with
  | false =>
    have HV : Hid (c.tickP n = (Crd.zero, 2)) := show _ = _ by rw [HE2.out, if_pos (.inl hin)]
    have HDN : Hid (FreshC w.heap.size (put4 wx (w.heap.size + 1) Crd.zero (.slice none 0 0)) Crd.zero (.slice none 0 0) (fun _ => .slice none 0 0) ∧ Below w.heap.size w (put4 wx (w.heap.size + 1) Crd.zero (.slice none 0 0))) := ⟨freshC_nil' _ rfl (by rw [put4_size]; exact HB1.out.size), below_put4 HB1.out (by omega) _ _⟩
    clear hin
    go_wp2
    exact bodyPost_ret (v := .tuple #[.agg #[.int .i64 0, .int .i64 0, .int .i64 0, .slice none 0 0], .int .i64 2]) (by simp [results, Try.results34, go_sem, e0, e1, e2, e3]) rfl ⟨.slice none 0 0, fun _ => .slice none 0 0, by simp only [HV.out, Crd.zero], by simp only [HV.out]; exact HDN.out.1, HDN.out.2⟩
  | true =>
  obtain ⟨hn0, hn1⟩ := inR_iff.1 hin
  by_cases hov : 1073741824 < c.ck + n
  · have HV : Hid (c.tickP n = (Crd.zero, 2)) := show _ = _ by rw [HE2.out, if_pos (.inr hov)]
    have HDN : Hid (FreshC w.heap.size (put4 wx (w.heap.size + 1) Crd.zero (.slice none 0 0)) Crd.zero (.slice none 0 0) (fun _ => .slice none 0 0) ∧ Below w.heap.size w (put4 wx (w.heap.size + 1) Crd.zero (.slice none 0 0))) := ⟨freshC_nil' _ rfl (by rw [put4_size]; exact HB1.out.size), below_put4 HB1.out (by omega) _ _⟩
    clear hin
    go_wp2
    exact bodyPost_ret (v := .tuple #[.agg #[.int .i64 0, .int .i64 0, .int .i64 0, .slice none 0 0], .int .i64 2]) (by simp [results, Try.results34, go_sem, e0, e1, e2, e3]) rfl ⟨.slice none 0 0, fun _ => .slice none 0 0, by simp only [HV.out, Crd.zero], by simp only [HV.out]; exact HDN.out.1, HDN.out.2⟩
  have HV : Hid (c.tickP n = ({ c with ck := c.ck + n, ts := c.ts.map (fun t => t.tick (c.ck + n) c.wt) }, 0)) := show _ = _ by rw [HE2.out, if_neg (by rw [hin]; simpa using hov)]
  clear hin HE2
  go_wp2_with fail
  refine (ccopy_any c _ us _ (HR.out _ HB1.out) HF.out).mono ?_
  rintro e w3 ⟨v3, us3, rfl, hf3, hb3⟩
  obtain ⟨g3o, c3, rfl⟩ := hf3.shapeOf
  have HS : Hid (Sc w w.heap.size (w.heap.size + 1) wx.heap.size c (.slice g3o c.ts.length c3) us3 (put4 w3 w.heap.size c (.slice g3o c.ts.length c3))) := sc_copy HB1.out HC1.out HZ1.out (by omega) (Nat.le_refl _) (by omega) hf3 hb3
  have hC3 := HC1.out.below HC1.out.1 hb3
  have hZ3 := HZ1.out.below HZ1.out.1 hb3
  have hbz : w.heap.size ≠ w.heap.size + 1 := by omega
  clear a0 a1 a2 a3 f1 s1 z1 e0 e1 e2 e3 g1 hf3 hb3
  obtain ⟨s1, ⟨a0, a1, a2, a3⟩, f1⟩ := hC3
  obtain ⟨z1, ⟨e0, e1, e2, e3⟩, g1⟩ := hZ3
  have HS4 : Hid _ := HS.out.clock (c.ck + n)
  unfold put4 at HS4
  go_wp2_with fail
  refine (overdue_any { c with ck := c.ck + n } _ _).mono ?_
  rintro e w5 ⟨rfl, hcb, hb5⟩
  have HS5 : Hid (Sc w w.heap.size (w.heap.size + 1) wx.heap.size (c.tickTo n 0) (.slice g3o c.ts.length c3) us3 w5) := sc_as (tickTo_zero c n).symm (HS4.out.below hb5)
  have HCB : Hid (CB w5 _ _ _) := hcb
  have hxg : ∀ k, (Value.slice g3o c.ts.length c3).ownBlock = some k → (((((w3.setCell ⟨w.heap.size, 0, none⟩ (.int .i64 c.ck)).setCell ⟨w.heap.size, 1, none⟩ (.int .i64 c.nx)).setCell ⟨w.heap.size, 2, none⟩ (.int .i64 c.wt)).setCell ⟨w.heap.size, 3, none⟩ (.slice g3o c.ts.length c3)).setCell ⟨w.heap.size, 0, none⟩ (.int .i64 (c.ck + n))).heap.size ≠ k := fun k e e2 => by have := (HS4.out.own.o.blk k e).2; omega
  generalize (((((w3.setCell ⟨w.heap.size, 0, none⟩ (.int .i64 c.ck)).setCell ⟨w.heap.size, 1, none⟩ (.int .i64 c.nx)).setCell ⟨w.heap.size, 2, none⟩ (.int .i64 c.wt)).setCell ⟨w.heap.size, 3, none⟩ (.slice g3o c.ts.length c3)).setCell ⟨w.heap.size, 0, none⟩ (.int .i64 (c.ck + n))).heap.size = x at *
  clear a0 a1 a2 a3 f1 s1 z1 e0 e1 e2 e3 g1 hcb hb5 HS HS4
  have hbb5 : CB w5 w.heap.size { c with ck := c.ck + n } (.slice g3o c.ts.length c3) := HS5.out.bb
  have HXK : Hid (∀ k, (Value.slice g3o c.ts.length c3).ownBlock = some k → x ≠ k) := hxg
  clear hxg
  obtain ⟨s1, ⟨a0, a1, a2, a3⟩, f1⟩ := hbb5
  go_wp2
  clear a0 a1 a2 a3 f1 s1
  go_loopw [39] (fun i W => ∃ k : Nat, k ≤ c.ts.length ∧ i = .int .i64 k ∧ Hid (Sc w w.heap.size (w.heap.size + 1) wx.heap.size (c.tickTo n k) (.slice g3o c.ts.length c3) us3 W) ∧ Hid (CB W x { c with ck := c.ck + n } (.slice g3o c.ts.length c3))) (fun i _ => c.ts.length - (intOf i).toNat)
  case atStart => exact ⟨0, by omega, rfl, HS5.out, HCB.out⟩
  case round =>
    obtain ⟨k, hk, rfl, HSK, HCK⟩ := hrel
    have hbb : CB wr w.heap.size { c with ck := c.ck + n } (.slice g3o c.ts.length c3) := HSK.out.bb
    obtain ⟨s1, ⟨a0, a1, a2, a3⟩, f1⟩ := hbb
    obtain ⟨z1, ⟨e0, e1, e2, e3⟩, g1⟩ := HSK.out.zz
    by_cases hlt : k < c.ts.length
    · have hltv : (k : Int) < c.ts.length := by omega
      have hlk : k < (c.tickTo n k).ts.length := by rw [tickTo_len]; exact hlt
      obtain ⟨g3, cc3, eg3⟩ := HSK.out.own.form (by rw [tickTo_len]; omega)
      rw [tickTo_len] at eg3
      simp only [Value.slice.injEq, true_and] at eg3
      obtain ⟨rfl, rfl⟩ := eg3
      obtain ⟨hT3, hfz, hg1, hg2⟩ := FreshC.cells HSK.out.own k hlk
      obtain ⟨au, cu, hu, _⟩ := (HSK.out.own.i k hlk).rdv.intShape
      rw [← at_txn hlk, tickTo_at hlt] at hu
      obtain ⟨t, ht⟩ : ∃ t, c.at k = t := ⟨_, rfl⟩
      have hok := HMY.out.ok k hlt
      rw [tickTo_at hlt, ht] at hT3
      rw [ht] at hu hok
      have hu : us3 k = .slice au t.ps.length cu := hu
      have HU : Hid (us3 k = .slice au t.ps.length cu) := hu
      rw [hu] at hT3
      have HNX : Hid ((c.tickTo n k).setT k (t.tick (c.ck + n) c.wt) = c.tickTo n (k + 1)) := show _ = _ by rw [← ht]; exact tickTo_next hlt
      have HAT : Hid ((c.tickTo n k).at k = t) := show _ = _ by rw [tickTo_at hlt, ht]
      have HXG : Hid (x ≠ g3) := HXK.out g3 rfl
      have HLK : Hid (k < (c.tickTo n k).ts.length) := hlk
      have hv0 := hok.v0
      have hv1 := hok.v1
      have HSN : Hid (0 ≤ t.sn ∧ t.sn ≤ 1073741824) := ⟨hok.n0, by have := hok.n1; omega⟩
      have HCN : Hid (0 ≤ c.ck + n ∧ c.ck + n ≤ 1073741824) := ⟨by omega, by omega⟩
      have hgb : w.heap.size ≠ g3 := by have := HSK.out.bB; omega
      have hgz : w.heap.size + 1 ≠ g3 := by have := HSK.out.zB; omega
      clear hok ht hu hg1
      obtain ⟨q0, q1, q2, q3, q4, q5, q6⟩ := hT3
      go_upto_region 12 with fail
      have HS6 : Hid (Sc w w.heap.size (w.heap.size + 1) wx.heap.size (c.tickTo n k) (.slice (some ⟨g3, 0, none⟩) c.ts.length c3) us3 (wr.alloc (.cells #[.string t.nm, .int .i64 t.id, .int .i64 t.v, .int .i64 t.st, .slice au t.ps.length cu, .int .i64 t.sn, .int .i64 t.dn] 62))) := HSK.out.below (bbox _ _)
      have HC6 : Hid (CB (wr.alloc (.cells #[.string t.nm, .int .i64 t.id, .int .i64 t.v, .int .i64 t.st, .slice au t.ps.length cu, .int .i64 t.sn, .int .i64 t.dn] 62)) x { c with ck := c.ck + n } (.slice (some ⟨g3, 0, none⟩) c.ts.length c3)) := HCK.out.below HCK.out.1 (bbox _ _)
      by_cases hl : t.lateB (c.ck + n) c.wt = true
      · have HL : Hid (t.lateB (c.ck + n) c.wt = true) := hl
        have hx2 : t.v ≠ 1073741824 := by unfold Txn.lateB at hl; simp at hl; exact hl.2
        have hv2 : t.v < 1073741824 := by omega
        have HTK : Hid (t.tick (c.ck + n) c.wt = { t with v := t.v + 1, st := 4 }) := show _ = _ by unfold Txn.tick; rw [if_pos hl]
        clear hl hx2
        go_wp2_with fail
        refine (overdue_fn x { c with ck := c.ck + n } (.slice (some ⟨g3, 0, none⟩) c.ts.length c3) _ HC6.out _ t (.slice au t.ps.length cu) (Below.refl _ _) HSN.out.1 HSN.out.2 HCN.out.1 HCN.out.2).mono ?_
        rintro e w7 ⟨rfl, hb7⟩
        rw [show t.lateB ({ c with ck := c.ck + n } : Crd).ck ({ c with ck := c.ck + n } : Crd).wt = true from HL.out]
        have HS7 := HS6.out.below hb7
        have HC7 : Hid (CB w7 x { c with ck := c.ck + n } (.slice (some ⟨g3, 0, none⟩) c.ts.length c3)) := HC6.out.below HC6.out.1 hb7
        clear a0 a1 a2 a3 f1 s1 z1 e0 e1 e2 e3 g1 q0 q1 q2 q3 q4 q5 q6 hfz hg2 hb7
        have hbb7 : CB w7 w.heap.size { c with ck := c.ck + n } (.slice (some ⟨g3, 0, none⟩) c.ts.length c3) := HS7.bb
        obtain ⟨s1, ⟨a0, a1, a2, a3⟩, f1⟩ := hbb7
        obtain ⟨hT7, hfz, hg1, hg2⟩ := FreshC.cells HS7.own k hlk
        rw [HAT.out] at hT7
        clear hg1
        obtain ⟨q0, q1, q2, q3, q4, q5, q6⟩ := hT7
        have h8 := HS7.set k 3 hlk (by omega) { t with st := 4 } (.int .i64 4) (by rw [HAT.out]; rfl) (by rw [HAT.out])
        have h9 := h8.set k 2 (by rw [setT_len]; exact hlk) (by omega) { t with v := t.v + 1, st := 4 } (.int .i64 (t.v + 1)) (by rw [setT_at hlk]; rfl) (by rw [setT_at hlk])
        rw [setT_setT, ← HTK.out] at h9
        have HS9 : Hid _ := sc_as HNX.out h9
        have h10 := (HC7.out.far (show x ≠ g3 from HXG.out) (k * 7 + 3) (.int .i64 4)).far (show x ≠ g3 from HXG.out) (k * 7 + 2) (.int .i64 (t.v + 1))
        have HC9 : Hid _ := h10
        clear HS7 h8 h9 h10
        go_wp2
        go_roundw
        case rel => exact ⟨k + 1, by omega, by go_num, HS9.out, HC9.out⟩
        case measure => simp [intOf]; omega
      · have HL : Hid (t.lateB (c.ck + n) c.wt = false) := show _ = _ by simpa using hl
        have HTK : Hid (t.tick (c.ck + n) c.wt = t) := show _ = _ by unfold Txn.tick; rw [if_neg hl]
        clear hl
        go_wp2_with fail
        refine (overdue_fn x { c with ck := c.ck + n } (.slice (some ⟨g3, 0, none⟩) c.ts.length c3) _ HC6.out _ t (.slice au t.ps.length cu) (Below.refl _ _) HSN.out.1 HSN.out.2 HCN.out.1 HCN.out.2).mono ?_
        rintro e w7 ⟨rfl, hb7⟩
        rw [show t.lateB ({ c with ck := c.ck + n } : Crd).ck ({ c with ck := c.ck + n } : Crd).wt = false from HL.out]
        have HS7 := HS6.out.below hb7
        have HC7 : Hid (CB w7 x { c with ck := c.ck + n } (.slice (some ⟨g3, 0, none⟩) c.ts.length c3)) := HC6.out.below HC6.out.1 hb7
        clear a0 a1 a2 a3 f1 s1 z1 e0 e1 e2 e3 g1 q0 q1 q2 q3 q4 q5 q6 hfz hg2 hb7
        have hbb7 : CB w7 w.heap.size { c with ck := c.ck + n } (.slice (some ⟨g3, 0, none⟩) c.ts.length c3) := HS7.bb
        obtain ⟨s1, ⟨a0, a1, a2, a3⟩, f1⟩ := hbb7
        obtain ⟨hT7, hfz, hg1, hg2⟩ := FreshC.cells HS7.own k hlk
        rw [HAT.out] at hT7
        clear hg1
        obtain ⟨q0, q1, q2, q3, q4, q5, q6⟩ := hT7
        have h9 := sc_as (show c.tickTo n k = c.tickTo n (k + 1) by rw [← HNX.out, HTK.out, ← HAT.out]; exact (setT_self hlk).symm) HS7
        have HS9 : Hid _ := h9
        clear HS7 h9
        go_wp2
        go_roundw
        case rel => exact ⟨k + 1, by omega, by go_num, HS9.out, HC7.out⟩
        case measure => simp [intOf]; omega
    · have hke : k = c.ts.length := by omega
      subst hke
      have hfin := HSK.out
      rw [tickTo_all] at hfin
      have HDN : Hid _ := hfin.done { c with ck := c.ck + n }
      unfold put4 at HDN
      clear hfin
      go_wp2
      exact bodyPost_ret (v := .tuple #[.agg #[.int .i64 (c.ck + n), .int .i64 c.nx, .int .i64 c.wt, .slice g3o c.ts.length c3], .int .i64 0]) (by simp [results, Try.results34, go_sem, a0, a1, a2, a3, e0, e1, e2, e3, hbz]) rfl ⟨.slice g3o c.ts.length c3, by simp only [HV.out], ⟨us3, by simp only [HV.out]; exact HDN.out.1⟩, HDN.out.2⟩

end Go.Proofs.Ytjhpfnogdjpbmaa
