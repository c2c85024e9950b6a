/-
  The walk of part.Put.
-/
import Derived.Test.YtkolelpdedmkeaaPopP0
import Derived.Test.YtkolelpdedmkeaaPresF
import Derived.Deep.RegionWith
import Derived.Deep.RegionHeld3
import Derived.Deep.DeepCutAuto
namespace Go.Proofs.Ytkolelpdedmkeaa
open Go.RowKit
set_option linter.unusedVariables false
set_option linter.unusedSimpArgs false

set_option maxRecDepth 100000 in
set_option maxHeartbeats 4000000 in
theorem put_anyF (p : Prt) (x : Ent) (vi vk vr : Value) (us : Nat → Value) (w : World) (h : RdP w p vi vk vr us) (hs : p.small) :
    Calls Try.prog 31 #[.agg #[.int .i64 p.ep, .int .i64 p.ld, vi, vk, vr, .int .i64 p.fw, .int .i64 p.bs], .agg #[.int .i64 x.a, .int .i64 x.b, .int .i64 x.c, .int .i64 x.d, .int .i64 x.k, .bool x.t, .string x.s]] w fun e w' => ResF w (p.putP x).1 [.int .i64 (p.putP x).2.1, .int .i64 (p.putP x).2.2] e w' := by
  have HRW : Hid (RdP w p vi vk vr us) := h
  have HS : Hid p.small := hs
  obtain ⟨ai, ci, ak, ck, ar, cr, rfl, rfl, rfl, l1, l2, l3⟩ := h.lens
  clear h hs
  go_enter Try.func31, Try.ntmps31
  go_wp2_with fail
  have q1 : (w.alloc (.cells #[.int .i64 p.ep, .int .i64 p.ld, .slice ai p.isr.length ci, .slice ak p.kn.length ck, .slice ar p.rs.length cr, .int .i64 p.fw, .int .i64 p.bs] 26)).heap.size = w.heap.size + 1 := by simp
  have q2 : ((w.alloc (.cells #[.int .i64 p.ep, .int .i64 p.ld, .slice ai p.isr.length ci, .slice ak p.kn.length ck, .slice ar p.rs.length cr, .int .i64 p.fw, .int .i64 p.bs] 26)).alloc (.cells #[.int .i64 x.a, .int .i64 x.b, .int .i64 x.c, .int .i64 x.d, .int .i64 x.k, .bool x.t, .string x.s] 36)).heap.size = w.heap.size + 1 + 1 := by simp
  have t2 := bbox (w.alloc (.cells #[.int .i64 p.ep, .int .i64 p.ld, .slice ai p.isr.length ci, .slice ak p.kn.length ck, .slice ar p.rs.length cr, .int .i64 p.fw, .int .i64 p.bs] 26)) (.cells #[.int .i64 x.a, .int .i64 x.b, .int .i64 x.c, .int .i64 x.d, .int .i64 x.k, .bool x.t, .string x.s] 36)
  have t3 := bbox ((w.alloc (.cells #[.int .i64 p.ep, .int .i64 p.ld, .slice ai p.isr.length ci, .slice ak p.kn.length ck, .slice ar p.rs.length cr, .int .i64 p.fw, .int .i64 p.bs] 26)).alloc (.cells #[.int .i64 x.a, .int .i64 x.b, .int .i64 x.c, .int .i64 x.d, .int .i64 x.k, .bool x.t, .string x.s] 36)) (.cells #[.int .i64 0, .int .i64 0, .slice none 0 0, .slice none 0 0, .slice none 0 0, .int .i64 0, .int .i64 0] 26)
  have B0 : Below w.heap.size w (((w.alloc (.cells #[.int .i64 p.ep, .int .i64 p.ld, .slice ai p.isr.length ci, .slice ak p.kn.length ck, .slice ar p.rs.length cr, .int .i64 p.fw, .int .i64 p.bs] 26)).alloc (.cells #[.int .i64 x.a, .int .i64 x.b, .int .i64 x.c, .int .i64 x.d, .int .i64 x.k, .bool x.t, .string x.s] 36)).alloc (.cells #[.int .i64 0, .int .i64 0, .slice none 0 0, .slice none 0 0, .slice none 0 0, .int .i64 0, .int .i64 0] 26)) := bstep (bstep (bbox _ _) (bbox _ _)) (bbox _ _)
  have P0 : PB (((w.alloc (.cells #[.int .i64 p.ep, .int .i64 p.ld, .slice ai p.isr.length ci, .slice ak p.kn.length ck, .slice ar p.rs.length cr, .int .i64 p.fw, .int .i64 p.bs] 26)).alloc (.cells #[.int .i64 x.a, .int .i64 x.b, .int .i64 x.c, .int .i64 x.d, .int .i64 x.k, .bool x.t, .string x.s] 36)).alloc (.cells #[.int .i64 0, .int .i64 0, .slice none 0 0, .slice none 0 0, .slice none 0 0, .int .i64 0, .int .i64 0] 26)) w.heap.size p _ _ _ := ((pb_new w p (.slice ai p.isr.length ci) (.slice ak p.kn.length ck) (.slice ar p.rs.length cr) 26 w.heap.size rfl).below (by omega) t2).below (by omega) t3
  have X0 : XB (((w.alloc (.cells #[.int .i64 p.ep, .int .i64 p.ld, .slice ai p.isr.length ci, .slice ak p.kn.length ck, .slice ar p.rs.length cr, .int .i64 p.fw, .int .i64 p.bs] 26)).alloc (.cells #[.int .i64 x.a, .int .i64 x.b, .int .i64 x.c, .int .i64 x.d, .int .i64 x.k, .bool x.t, .string x.s] 36)).alloc (.cells #[.int .i64 0, .int .i64 0, .slice none 0 0, .slice none 0 0, .slice none 0 0, .int .i64 0, .int .i64 0] 26)) (w.heap.size + 1) x := XB.below ⟨ebox_new (w.alloc (.cells #[.int .i64 p.ep, .int .i64 p.ld, .slice ai p.isr.length ci, .slice ak p.kn.length ck, .slice ar p.rs.length cr, .int .i64 p.fw, .int .i64 p.bs] 26)) x 36 _ q1.symm, fun o => by simp [go_sem]⟩ t3
  have Z0 : PB (((w.alloc (.cells #[.int .i64 p.ep, .int .i64 p.ld, .slice ai p.isr.length ci, .slice ak p.kn.length ck, .slice ar p.rs.length cr, .int .i64 p.fw, .int .i64 p.bs] 26)).alloc (.cells #[.int .i64 x.a, .int .i64 x.b, .int .i64 x.c, .int .i64 x.d, .int .i64 x.k, .bool x.t, .string x.s] 36)).alloc (.cells #[.int .i64 0, .int .i64 0, .slice none 0 0, .slice none 0 0, .slice none 0 0, .int .i64 0, .int .i64 0] 26)) (w.heap.size + 1 + 1) Prt.zero nilV nilV nilV := pb_new _ Prt.zero nilV nilV nilV 26 _ q2.symm
  clear q1 q2 t2 t3
  generalize ((w.alloc (.cells #[.int .i64 p.ep, .int .i64 p.ld, .slice ai p.isr.length ci, .slice ak p.kn.length ck, .slice ar p.rs.length cr, .int .i64 p.fw, .int .i64 p.bs] 26)).alloc (.cells #[.int .i64 x.a, .int .i64 x.b, .int .i64 x.c, .int .i64 x.d, .int .i64 x.k, .bool x.t, .string x.s] 36)).alloc (.cells #[.int .i64 0, .int .i64 0, .slice none 0 0, .slice none 0 0, .slice none 0 0, .int .i64 0, .int .i64 0] 26) = W0 at *
  refine (partCheck_any p _ _ _ us _ (RdP.below HRW.out (Nat.le_refl _) B0) HS.out).mono ?_
  rintro e w1 ⟨rfl, hb⟩
  have HB1 : Hid (Below w.heap.size w w1) := B0.trans (hb.mono B0.size)
  have HP1 : Hid (PB w1 w.heap.size p (.slice ai p.isr.length ci) (.slice ak p.kn.length ck) (.slice ar p.rs.length cr)) := P0.below P0.1 hb
  have HX1 : Hid (XB w1 (w.heap.size + 1) x) := X0.below hb
  have HZ1 : Hid (PB w1 (w.heap.size + 1 + 1) Prt.zero nilV nilV nilV) := Z0.below Z0.1 hb
  have HR1 : Hid (RdP w1 p (.slice ai p.isr.length ci) (.slice ak p.kn.length ck) (.slice ar p.rs.length cr) us) := RdP.below HRW.out (Nat.le_refl _) HB1.out
  clear hb B0 P0 X0 Z0
  obtain ⟨s1, ⟨b0, b1, b2, b3, b4, b5, b6⟩, f1⟩ := HP1.out
  obtain ⟨z1, ⟨e0, e1, e2, e3, e4, e5, e6⟩, g1⟩ := HZ1.out
  obtain ⟨⟨h9, x0, x1, x2, x3, x4, x5, x6⟩, x7⟩ := HX1.out
  cases hm : p.mayB with
  | false =>
    have HE : Hid _ := putP_may (x := x) hm
    rw [cfl_no hm]
    clear hm
    go_wp2
    exact bodyPost_ret (v := .tuple #[.agg #[.int .i64 0, .int .i64 0, nilV, nilV, nilV, .int .i64 0, .int .i64 0], .int .i64 0, .int .i64 12]) (by simp [results, Try.results31, go_sem, e0, e1, e2, e3, e4, e5, e6]) rfl (by rw [HE.out]; exact resF_zero rfl HB1.out (by omega))
  | true =>
    have HM : Hid (May p) := may_iff.1 hm
    have HMB : Hid (p.mayB = true) := hm
    rw [cfl_yes hm]
    clear hm
    by_cases h0 : p.ld < 0
    · have HE : Hid _ := putP_lead (x := x) HMB.out h0
      have d0 : (p.ld == -1) = true := by have := HM.out.ld; simp; omega
      clear h0
      go_wp2
      exact bodyPost_ret (v := .tuple #[.agg #[.int .i64 0, .int .i64 0, nilV, nilV, nilV, .int .i64 0, .int .i64 0], .int .i64 0, .int .i64 8]) (by simp [results, Try.results31, go_sem, e0, e1, e2, e3, e4, e5, e6]) rfl (by rw [HE.out]; exact resF_zero rfl HB1.out (by omega))
    · have h0' : 0 ≤ p.ld := by omega
      have d0 : (p.ld == -1) = false := by simp; omega
      have hd : p.ld.toNat < p.rs.length := by have := HM.out.ld; omega
      have hd1 : p.ld < p.rs.length := by omega
      clear h0
      have hne : ¬ w.heap.size = w.heap.size + 1 := by omega
      have hxl : w.heap.size + 1 < w1.heap.size := h9
      have HXS : Hid (XB (w1.setCell ⟨w.heap.size + 1, 0, none⟩ (.int .i64 p.ep)) (w.heap.size + 1) (p.ent x)) := XB.setA HX1.out p.ep
      have HBS : Hid (Below w.heap.size w (w1.setCell ⟨w.heap.size + 1, 0, none⟩ (.int .i64 p.ep))) := HB1.out.setCell (p := ⟨w.heap.size + 1, 0, none⟩) (by show w.heap.size ≤ w.heap.size + 1; omega) _
      have HPS : Hid _ := PB.far HP1.out (g := w.heap.size + 1) (by omega) 0 (.int .i64 p.ep)
      have HZS : Hid _ := PB.far HZ1.out (g := w.heap.size + 1) (by omega) 0 (.int .i64 p.ep)
      have HRS : Hid (RdP (w1.setCell ⟨w.heap.size + 1, 0, none⟩ (.int .i64 p.ep)) p (.slice ai p.isr.length ci) (.slice ak p.kn.length ck) (.slice ar p.rs.length cr) us) := RdP.below HRW.out (Nat.le_refl _) HBS.out
      go_wp2_with fail
      clear z1 e0 e1 e2 e3 e4 e5 e6 g1 s1 b0 b1 b2 b3 b4 b5 b6 f1 h9 x0 x1 x2 x3 x4 x5 x6 x7
      generalize w1.setCell ⟨w.heap.size + 1, 0, none⟩ (.int .i64 p.ep) = w2 at *
      clear HB1 HP1 HX1 HZ1 HR1
      refine (check_any p.ep x.b x.c x.d x.k x.t x.s _).mono ?_
      rintro e w3 ⟨rfl, hb⟩
      have HB3 : Hid (Below w.heap.size w w3) := HBS.out.trans (hb.mono HBS.out.size)
      have HP3 : Hid (PB w3 w.heap.size p (.slice ai p.isr.length ci) (.slice ak p.kn.length ck) (.slice ar p.rs.length cr)) := PB.below HPS.out HPS.out.1 hb
      have HX3 : Hid (XB w3 (w.heap.size + 1) (p.ent x)) := XB.below HXS.out hb
      have HZ3 : Hid (PB w3 (w.heap.size + 1 + 1) Prt.zero nilV nilV nilV) := PB.below HZS.out HZS.out.1 hb
      have HR3 : Hid (RdP w3 p (.slice ai p.isr.length ci) (.slice ak p.kn.length ck) (.slice ar p.rs.length cr) us) := RdP.below HRS.out (Nat.le_refl _) hb
      clear hb HBS HPS HXS HZS HRS
      obtain ⟨s1, ⟨b0, b1, b2, b3, b4, b5, b6⟩, f1⟩ := HP3.out
      obtain ⟨z1, ⟨e0, e1, e2, e3, e4, e5, e6⟩, g1⟩ := HZ3.out
      obtain ⟨⟨h9, x0, x1, x2, x3, x4, x5, x6⟩, x7⟩ := HX3.out
      have HFE : Hid ((p.ent x).flt = flt p.ep x.b x.c x.d x.k x.t x.s.size) := show _ = _ from rfl
      by_cases hf : flt p.ep x.b x.c x.d x.k x.t x.s.size = 0
      rotate_left
      · have HE : Hid (p.putP x = (Prt.zero, 0, flt p.ep x.b x.c x.d x.k x.t x.s.size)) := show _ = _ by rw [putP_wire HMB.out h0' (by rw [HFE.out]; exact hf), HFE.out]
        have d1 : (flt p.ep x.b x.c x.d x.k x.t x.s.size != 0) = true := by simp [hf]
        clear hf
        go_wp2
        exact bodyPost_ret (v := .tuple #[.agg #[.int .i64 0, .int .i64 0, nilV, nilV, nilV, .int .i64 0, .int .i64 0], .int .i64 0, .int .i64 (flt p.ep x.b x.c x.d x.k x.t x.s.size)]) (by simp [results, Try.results31, go_sem, e0, e1, e2, e3, e4, e5, e6]) rfl (by rw [HE.out]; exact resF_zero rfl HB3.out (by omega))
      · have HF0 : Hid ((p.ent x).flt = 0) := show _ = _ by rw [HFE.out]; exact hf
        have HE0 : Hid _ := putP_rest (x := x) HMB.out h0' HF0.out
        rw [hf]
        clear hf HFE
        have HL : Hid (lft (p.at p.ld.toNat).l (p.at p.ld.toNat).y = 0) := show _ = _ from (HM.out.ok _ hd).1
        go_wp2_with fail
        refine (entriesOf_int p p.ld _ _ _ us _ HR3.out h0' hd1 HL.out).mono ?_
        rintro e w4 ⟨v, rfl, hv, hb⟩
        have HV4 : Hid (RdX w4 v (p.at p.ld.toNat).es) := hv.rdX
        obtain ⟨ae, ce, rfl⟩ := hv.shape
        have HB4 : Hid (Below w.heap.size w w4) := HB3.out.trans (hb.mono HB3.out.size)
        have HP4 : Hid (PB w4 w.heap.size p (.slice ai p.isr.length ci) (.slice ak p.kn.length ck) (.slice ar p.rs.length cr)) := PB.below HP3.out HP3.out.1 hb
        have HX4 : Hid (XB w4 (w.heap.size + 1) (p.ent x)) := XB.below HX3.out hb
        have HZ4 : Hid (PB w4 (w.heap.size + 1 + 1) Prt.zero nilV nilV nilV) := PB.below HZ3.out HZ3.out.1 hb
        have HR4 : Hid (RdP w4 p (.slice ai p.isr.length ci) (.slice ak p.kn.length ck) (.slice ar p.rs.length cr) us) := RdP.below HR3.out (Nat.le_refl _) hb
        clear hb hv HB3 HP3 HX3 HZ3 HR3
        clear z1 e0 e1 e2 e3 e4 e5 e6 g1 s1 b0 b1 b2 b3 b4 b5 b6 f1 h9 x0 x1 x2 x3 x4 x5 x6 x7
        obtain ⟨s1, ⟨b0, b1, b2, b3, b4, b5, b6⟩, f1⟩ := HP4.out
        obtain ⟨z1, ⟨e0, e1, e2, e3, e4, e5, e6⟩, g1⟩ := HZ4.out
        obtain ⟨⟨h9, x0, x1, x2, x3, x4, x5, x6⟩, x7⟩ := HX4.out
        go_wp2_with fail
        have HPL : Hid (Plain (p.at p.ld.toNat).es) := show Plain _ from (es_plain (by obtain ⟨g, off, e, -, y0, -⟩ := HR4.out.2.2.cells p.ld.toNat hd; exact y0.1)).1
        refine (check_c (p.at p.ld.toNat).es _ (p.ent x) _ (by have := may_es HM.out hd; omega) HPL.out (fun e he => by simp at he; subst he; exact (flt_plain HF0.out).1) HV4.out).mono ?_
        rintro e w5 ⟨rfl, hb⟩
        have HB5 : Hid (Below w.heap.size w w5) := HB4.out.trans (hb.mono HB4.out.size)
        have HP5 : Hid (PB w5 w.heap.size p (.slice ai p.isr.length ci) (.slice ak p.kn.length ck) (.slice ar p.rs.length cr)) := PB.below HP4.out HP4.out.1 hb
        have HX5 : Hid (XB w5 (w.heap.size + 1) (p.ent x)) := XB.below HX4.out hb
        have HZ5 : Hid (PB w5 (w.heap.size + 1 + 1) Prt.zero nilV nilV nilV) := PB.below HZ4.out HZ4.out.1 hb
        have HR5 : Hid (RdP w5 p (.slice ai p.isr.length ci) (.slice ak p.kn.length ck) (.slice ar p.rs.length cr) us) := RdP.below HR4.out (Nat.le_refl _) hb
        clear hb HB4 HP4 HX4 HZ4 HR4 HV4
        clear z1 e0 e1 e2 e3 e4 e5 e6 g1 s1 b0 b1 b2 b3 b4 b5 b6 f1 h9 x0 x1 x2 x3 x4 x5 x6 x7
        obtain ⟨s1, ⟨b0, b1, b2, b3, b4, b5, b6⟩, f1⟩ := HP5.out
        obtain ⟨z1, ⟨e0, e1, e2, e3, e4, e5, e6⟩, g1⟩ := HZ5.out
        obtain ⟨⟨h9, x0, x1, x2, x3, x4, x5, x6⟩, x7⟩ := HX5.out
        generalize chk (p.at p.ld.toNat).es (p.ent x) = CK at *
        obtain ⟨ca, cer⟩ := CK
        simp only at HE0 ⊢
        by_cases hc : cer = 0
        rotate_left
        · have HE : Hid (p.putP x = (Prt.zero, 0, cer)) := show _ = _ by rw [HE0.out, if_pos hc]
          have d1 : (cer != 0) = true := by simp [hc]
          clear hc
          go_wp2
          exact bodyPost_ret (v := .tuple #[.agg #[.int .i64 0, .int .i64 0, nilV, nilV, nilV, .int .i64 0, .int .i64 0], .int .i64 0, .int .i64 cer]) (by simp [results, Try.results31, go_sem, e0, e1, e2, e3, e4, e5, e6]) rfl (by rw [HE.out]; exact resF_zero rfl HB5.out (by omega))
        · subst hc
          by_cases ha : 0 ≤ ca
          · have HE : Hid (p.putP x = (p, ca, 0)) := show _ = _ by rw [HE0.out, if_neg (by simp), if_pos ha]
            have d2 : decide (ca ≥ 0) = true := by simp [ha]
            go_wp2_with fail
            refine (copy_any p _ _ _ us _ HR5.out (may_fits HM.out)).mono ?_
            rintro e w6 ⟨yi, yk, yr, us', rfl, hfr, hb⟩
            have HZ6 : Hid _ := PB.below HZ5.out HZ5.out.1 hb
            have HNW : Hid (NewAt w.heap.size (put7 w6 (w.heap.size + 1 + 1) p yi yk yr) p.rs.length yi yk yr us') := (hfr.newAt).mono HB5.out.size (by rw [put7_size]; exact Nat.le_refl _)
            have HF6 : Hid _ := (hfr.put (b := w.heap.size + 1 + 1) HZ5.out.1 p yi yk yr).rdp
            have HB6 : Hid _ := below_put (HB5.out.trans (hb.mono HB5.out.size)) (b := w.heap.size + 1 + 1) (by omega) p yi yk yr
            obtain ⟨di, ei, rfl⟩ := hfr.oi.shape
            obtain ⟨dk, ek, rfl⟩ := hfr.ok.shape
            obtain ⟨dr, er, rfl⟩ := hfr.or.shape
            clear hb hfr
            clear z1 e0 e1 e2 e3 e4 e5 e6 g1 s1 b0 b1 b2 b3 b4 b5 b6 f1 h9 x0 x1 x2 x3 x4 x5 x6 x7
            obtain ⟨z1, ⟨e0, e1, e2, e3, e4, e5, e6⟩, g1⟩ := HZ6.out
            go_wp2
            exact bodyPost_ret (v := .tuple #[.agg #[.int .i64 p.ep, .int .i64 p.ld, .slice di p.isr.length ei, .slice dk p.kn.length ek, .slice dr p.rs.length er, .int .i64 p.fw, .int .i64 p.bs], .int .i64 ca, .int .i64 0]) (by simp [results, Try.results31, go_sem, e0, e1, e2, e3, e4, e5, e6]) rfl (by rw [HE.out]; exact ⟨_, _, _, us', rfl, HF6.out, HB6.out, HNW.out⟩)
          · have d2 : decide (ca ≥ 0) = false := by simp; omega
            have HLI : Hid (p.isr.length = p.rs.length) := show _ = _ from HM.out.li
            have HE1 : Hid (p.putP x = if (p.ups p.rs.length : Int) < p.fw then (Prt.zero, 0, 9) else if apf (p.at p.ld.toNat).l (p.at p.ld.toNat).y (p.ent x) ≠ 0 then (Prt.zero, 0, apf (p.at p.ld.toNat).l (p.at p.ld.toNat).y (p.ent x)) else (p.setR p.ld.toNat (fun r => { r with l := r.l ++ (p.ent x).enc }), ((p.at p.ld.toNat).es.length : Int), 0)) := show _ = _ by rw [HE0.out, if_neg (by simp), if_neg ha, HLI.out]; rfl
            have HRP : Hid (∀ W, Below w5.heap.size w5 W → RdP W p (.slice ai p.isr.length ci) (.slice ak p.kn.length ck) (.slice ar p.rs.length cr) us) := fun W hW => RdP.below HR5.out (Nat.le_refl _) hW
            clear ha HE0
            go_wp2
            obtain ⟨bd, hbd⟩ : ∃ bd, decide ((p.ups p.rs.length : Int) < p.fw) = bd := ⟨_, rfl⟩
            have HBD : Hid (decide ((p.ups p.rs.length : Int) < p.fw) = bd) := hbd
            go_cut [59] (fun v W => v = .bool bd ∧ Below w5.heap.size w5 W)
            case first =>
              go_region_with (go_at_call 77; refine (keepers_any p _ _ _ us _ (HRP.out _ (by repeat (first | exact Below.refl _ _ | refine Below.drew ?_))) HLI.out).mono ?_; rintro e w6 ⟨rfl, hb6⟩; have hB6 : Below w5.heap.size w5 w6 := bstep (by repeat (first | exact Below.refl _ _ | refine Below.drew ?_)) hb6; obtain ⟨m1, m2⟩ := bcell hB6)
              all_goals
                have HXB : Hid _ := hB6
                clear m1 m2 hB6 hb6
                go_wp2_with fail
                go_meet
              all_goals
                exact ⟨rfl, HXB.out⟩
            case rest =>
              rename World => w6
              have hv59 := hcut.1
              subst hv59
              have hb := hcut.2
              have HB6 : Hid (Below w.heap.size w w6) := HB5.out.trans (hb.mono HB5.out.size)
              have HP6 : Hid (PB w6 w.heap.size p (.slice ai p.isr.length ci) (.slice ak p.kn.length ck) (.slice ar p.rs.length cr)) := PB.below HP5.out HP5.out.1 hb
              have HX6 : Hid (XB w6 (w.heap.size + 1) (p.ent x)) := XB.below HX5.out hb
              have HZ6 : Hid (PB w6 (w.heap.size + 1 + 1) Prt.zero nilV nilV nilV) := PB.below HZ5.out HZ5.out.1 hb
              have HR6 : Hid (RdP w6 p (.slice ai p.isr.length ci) (.slice ak p.kn.length ck) (.slice ar p.rs.length cr) us) := RdP.below HR5.out (Nat.le_refl _) hb
              clear hb hcut HB5 HP5 HX5 HZ5 HR5 HRP hbd
              clear z1 e0 e1 e2 e3 e4 e5 e6 g1 s1 b0 b1 b2 b3 b4 b5 b6 f1 h9 x0 x1 x2 x3 x4 x5 x6 x7
              obtain ⟨s1, ⟨b0, b1, b2, b3, b4, b5, b6⟩, f1⟩ := HP6.out
              obtain ⟨z1, ⟨e0, e1, e2, e3, e4, e5, e6⟩, g1⟩ := HZ6.out
              obtain ⟨⟨h9, x0, x1, x2, x3, x4, x5, x6⟩, x7⟩ := HX6.out
              cases bd with
              | true =>
                have HE : Hid (p.putP x = (Prt.zero, 0, 9)) := show _ = _ by rw [HE1.out, if_pos (by have := HBD.out; simpa using this)]
                go_at_K
                go_wp2
                exact bodyPost_ret (v := .tuple #[.agg #[.int .i64 0, .int .i64 0, nilV, nilV, nilV, .int .i64 0, .int .i64 0], .int .i64 0, .int .i64 9]) (by simp [results, Try.results31, go_sem, e0, e1, e2, e3, e4, e5, e6]) rfl (by rw [HE.out]; exact resF_zero rfl HB6.out (by omega))
              | false =>
                have HE2 : Hid (p.putP x = if apf (p.at p.ld.toNat).l (p.at p.ld.toNat).y (p.ent x) ≠ 0 then (Prt.zero, 0, apf (p.at p.ld.toNat).l (p.at p.ld.toNat).y (p.ent x)) else (p.setR p.ld.toNat (fun r => { r with l := r.l ++ (p.ent x).enc }), ((p.at p.ld.toNat).es.length : Int), 0)) := show _ = _ by rw [HE1.out, if_neg (by have := HBD.out; simp at this; omega)]
                clear HE1 HBD
                obtain ⟨g, off, rfl, -, y0, y1, y2, y3, y4⟩ := HR6.out.2.2.cells p.ld.toNat hd
                obtain ⟨au, cu, eu⟩ : ∃ au cu, us p.ld.toNat = .slice au (p.at p.ld.toNat).l.length cu := by obtain ⟨_, au, cu, e, _⟩ := y0; exact ⟨au, cu, e⟩
                rw [eu] at y2
                have HU0 : Hid (∀ W, Below w6.heap.size w6 W → Rd W (.slice au (p.at p.ld.toNat).l.length cu) (p.at p.ld.toNat).l) := fun W hW => by rw [← eu]; exact y0.below (Nat.le_refl _) hW
                have hgl : g < w6.heap.size := cell_lt y4
                have HLN : Hid ((p.at p.ld.toNat).l.length ≤ 140737488355328) := show _ ≤ _ by have := may_len HM.out hd; omega
                clear y0 y1 y4 eu
                by_cases hap : apf (p.at p.ld.toNat).l (p.at p.ld.toNat).y (p.ent x) = 0
                rotate_left
                · have HE : Hid (p.putP x = (Prt.zero, 0, apf (p.at p.ld.toNat).l (p.at p.ld.toNat).y (p.ent x))) := show _ = _ by rw [HE2.out, if_pos hap]
                  have HAP : Hid (apf (p.at p.ld.toNat).l (p.at p.ld.toNat).y (p.ent x) ≠ 0) := show _ ≠ _ from hap
                  clear hap HE2
                  generalize hEV : apf (p.at p.ld.toNat).l (p.at p.ld.toNat).y (p.ent x) = ev at *
                  have HEV : Hid (apf (p.at p.ld.toNat).l (p.at p.ld.toNat).y (p.ent x) = ev) := hEV
                  clear hEV
                  go_at_K
                  go_wp2
                  go_cut [12] (fun v W => v = .int .i64 ev ∧ Below w6.heap.size w6 W)
                  case first =>
                    go_region_held3 (fun W => W.cell? ⟨w.heap.size, 1, none⟩ = some (.int .i64 p.ld) ∧ W.cell? ⟨w.heap.size, 4, none⟩ = some (.slice (some ⟨g, off, none⟩) p.rs.length cr) ∧ W.cell? ⟨g, off + p.ld.toNat * 4 + 1, none⟩ = some (.slice au (p.at p.ld.toNat).l.length cu) ∧ W.cell? ⟨g, off + p.ld.toNat * 4 + 2, none⟩ = some (.int .i64 (p.at p.ld.toNat).y) ∧ W.cell? ⟨w.heap.size + 1, 0, none⟩ = some (.int .i64 (p.ent x).a) ∧ W.cell? ⟨w.heap.size + 1, 1, none⟩ = some (.int .i64 (p.ent x).b) ∧ W.cell? ⟨w.heap.size + 1, 2, none⟩ = some (.int .i64 (p.ent x).c) ∧ W.cell? ⟨w.heap.size + 1, 3, none⟩ = some (.int .i64 (p.ent x).d) ∧ W.cell? ⟨w.heap.size + 1, 4, none⟩ = some (.int .i64 (p.ent x).k) ∧ W.cell? ⟨w.heap.size + 1, 5, none⟩ = some (.bool (p.ent x).t) ∧ W.cell? ⟨w.heap.size + 1, 6, none⟩ = some (.string (p.ent x).s)) (first | exact ⟨by assumption, by assumption, by assumption, by assumption, by assumption, by assumption, by assumption, by assumption, by assumption, by assumption, by assumption⟩ | (refine ⟨?_, ?_, ?_, ?_, ?_, ?_, ?_, ?_, ?_, ?_, ?_⟩ <;> (rw [cell_far (by omega), cell_far (by omega)]; assumption)) | go_keep) (first | (go_at_call 78; refine (segAppend_bad (p.at p.ld.toNat).l _ (p.at p.ld.toNat).y (p.ent x) _ HLN.out (HU0.out _ (by repeat (first | exact Below.refl _ _ | refine Below.drew ?_ | refine Below.alloc ?_ (by simp) _))) (by rw [HEV.out]; exact HAP.out)).mono ?_; rintro e w7 ⟨rfl, hb7⟩; have hB7 : Below w6.heap.size w6 w7 := Below.trans (by repeat (first | exact Below.refl _ _ | refine Below.drew ?_ | refine Below.alloc ?_ (by simp) _)) (hb7.mono (by simp)); obtain ⟨-, ⟨c0, c1, c2, c3, c4, c5, c6⟩, -⟩ := PB.below HP6.out HP6.out.1 hB7; obtain ⟨⟨-, v0, v1, v2, v3, v4, v5, v6⟩, -⟩ := XB.below HX6.out hB7; have u2 := (hB7.cell (p := ⟨g, off + p.ld.toNat * 4 + 1, none⟩) hgl).trans y2; have u3 := (hB7.cell (p := ⟨g, off + p.ld.toNat * 4 + 2, none⟩) hgl).trans y3; obtain ⟨hcc, hff⟩ := bcell hb7; have p0 := hcc w6.heap.size 0; have p1 := hcc w6.heap.size 1; have p2 := hff w6.heap.size; (try simp at p0); (try simp at p1); (try simp at p2); clear hcc hff; rw [HEV.out]))
                    all_goals
                      have HXB : Hid (Below w6.heap.size w6 w7) := hB7
                      clear c0 c1 c2 c3 c4 c5 c6 v0 v1 v2 v3 v4 v5 v6 u2 u3 hB7 hb7
                      go_wp2_with fail
                      go_meet
                    all_goals
                      exact ⟨rfl, (by first | exact HXB.out.alloc HXB.out.size _ | exact (HXB.out.setCell (p := ⟨w6.heap.size, 0, none⟩) (Nat.le_refl _) _).setCell (p := ⟨w6.heap.size, 1, none⟩) (Nat.le_refl _) _)⟩
                  case rest =>
                    have hv := hcut.1
                    subst hv
                    have hb := hcut.2
                    have HB7 : Hid (Below w.heap.size w wc) := HB6.out.trans (hb.mono HB6.out.size)
                    have HZ7 : Hid _ := PB.below HZ6.out HZ6.out.1 hb
                    clear z1 e0 e1 e2 e3 e4 e5 e6 g1 s1 b0 b1 b2 b3 b4 b5 b6 f1 h9 x0 x1 x2 x3 x4 x5 x6 x7
                    clear hb hcut HB6 HP6 HX6 HZ6 HR6 y2 y3
                    obtain ⟨z1, ⟨e0, e1, e2, e3, e4, e5, e6⟩, g1⟩ := HZ7.out
                    have d9 : (ev != 0) = true := by have := HAP.out; simpa using this
                    go_at_K
                    go_wp2
                    exact bodyPost_ret (v := .tuple #[.agg #[.int .i64 0, .int .i64 0, nilV, nilV, nilV, .int .i64 0, .int .i64 0], .int .i64 0, .int .i64 ev]) (by simp [results, Try.results31, go_sem, e0, e1, e2, e3, e4, e5, e6]) rfl (by rw [HE.out]; exact resF_zero rfl HB7.out (by omega))
                · have HNLE : Hid (∃ NL, (p.at p.ld.toNat).l ++ (p.ent x).enc = NL) := ⟨_, rfl⟩
                  obtain ⟨NL, hNL⟩ := HNLE.out
                  have HNL : Hid ((p.at p.ld.toNat).l ++ (p.ent x).enc = NL) := hNL
                  have HE : Hid (p.putP x = (p.setR p.ld.toNat (fun r => { r with l := r.l ++ (p.ent x).enc }), ((p.at p.ld.toNat).es.length : Int), 0)) := show _ = _ by rw [HE2.out, if_neg (by simp [hap])]
                  have HAP : Hid (apf (p.at p.ld.toNat).l (p.at p.ld.toNat).y (p.ent x) = 0) := show _ = _ from hap
                  clear hap HE2 hNL HNLE
                  go_at_K
                  go_wp2
                  go_cut [12, 13] (fun v12 v13 W => v12 = .int .i64 0 ∧ ∃ lb av cv, v13 = .pointer (some ⟨lb, 0, none⟩) ∧ LBox W lb (.slice av NL.length cv) (p.at p.ld.toNat).y ∧ Own w6.heap.size (.slice av NL.length cv) NL W ∧ Below w6.heap.size w6 W ∧ w6.heap.size ≤ lb)
                  case first =>
                    go_region_held3 (fun W => W.cell? ⟨w.heap.size, 1, none⟩ = some (.int .i64 p.ld) ∧ W.cell? ⟨w.heap.size, 4, none⟩ = some (.slice (some ⟨g, off, none⟩) p.rs.length cr) ∧ W.cell? ⟨g, off + p.ld.toNat * 4 + 1, none⟩ = some (.slice au (p.at p.ld.toNat).l.length cu) ∧ W.cell? ⟨g, off + p.ld.toNat * 4 + 2, none⟩ = some (.int .i64 (p.at p.ld.toNat).y) ∧ W.cell? ⟨w.heap.size + 1, 0, none⟩ = some (.int .i64 (p.ent x).a) ∧ W.cell? ⟨w.heap.size + 1, 1, none⟩ = some (.int .i64 (p.ent x).b) ∧ W.cell? ⟨w.heap.size + 1, 2, none⟩ = some (.int .i64 (p.ent x).c) ∧ W.cell? ⟨w.heap.size + 1, 3, none⟩ = some (.int .i64 (p.ent x).d) ∧ W.cell? ⟨w.heap.size + 1, 4, none⟩ = some (.int .i64 (p.ent x).k) ∧ W.cell? ⟨w.heap.size + 1, 5, none⟩ = some (.bool (p.ent x).t) ∧ W.cell? ⟨w.heap.size + 1, 6, none⟩ = some (.string (p.ent x).s)) (first | exact ⟨by assumption, by assumption, by assumption, by assumption, by assumption, by assumption, by assumption, by assumption, by assumption, by assumption, by assumption⟩ | (refine ⟨?_, ?_, ?_, ?_, ?_, ?_, ?_, ?_, ?_, ?_, ?_⟩ <;> (rw [cell_far (by omega), cell_far (by omega)]; assumption)) | go_keep) (first | (go_at_call 78; refine (segAppend_ok (p.at p.ld.toNat).l _ (p.at p.ld.toNat).y (p.ent x) _ HLN.out (HU0.out _ (by repeat (first | exact Below.refl _ _ | refine Below.drew ?_ | refine Below.alloc ?_ (by simp) _))) HAP.out).mono ?_; rintro e w7 ⟨av, cv, rfl, hov, hb7⟩; have hB7 : Below w6.heap.size w6 w7 := Below.trans (by repeat (first | exact Below.refl _ _ | refine Below.drew ?_ | refine Below.alloc ?_ (by simp) _)) (hb7.mono (by simp)); obtain ⟨-, ⟨c0, c1, c2, c3, c4, c5, c6⟩, -⟩ := PB.below HP6.out HP6.out.1 hB7; obtain ⟨⟨-, v0, v1, v2, v3, v4, v5, v6⟩, -⟩ := XB.below HX6.out hB7; have u2 := (hB7.cell (p := ⟨g, off + p.ld.toNat * 4 + 1, none⟩) hgl).trans y2; have u3 := (hB7.cell (p := ⟨g, off + p.ld.toNat * 4 + 2, none⟩) hgl).trans y3; obtain ⟨hcc, hff⟩ := bcell hb7; have p0 := hcc w6.heap.size 0; have p1 := hcc w6.heap.size 1; have p2 := hff w6.heap.size; (try simp at p0); (try simp at p1); (try simp at p2); clear hcc hff; rw [HNL.out] at hov ⊢))
                    all_goals
                      have HXB : Hid (Below w6.heap.size w6 w7) := hB7
                      have HOV : Hid _ := hov
                      have hsz7 := hB7.size
                      have hsz8 := hb7.size
                      (try simp only [World.size_alloc] at hsz8)
                      clear c0 c1 c2 c3 c4 c5 c6 v0 v1 v2 v3 v4 v5 v6 u2 u3 hB7 hb7 hov
                      go_wp2_with fail
                      go_meet
                    all_goals
                      first
                      | exact ⟨rfl, w7.heap.size, av, cv, rfl, lbox_new _ _ _ _, Own.alloc (Own.mono HOV.out (C := w6.heap.size) (by simp)) _, HXB.out.alloc HXB.out.size _, hsz7⟩
                      | exact ⟨rfl, w6.heap.size, av, cv, rfl, ⟨by have h1 : w6.heap.size + 1 ≤ w7.heap.size := (by simpa using hsz8); simp; omega, by simp [go_sem, p0, p1], by simp [go_sem, p0, p1], fun o => by simp [go_sem, p2]⟩, ((Own.setCell HOV.out (b := w6.heap.size) (by simp) 0 _).setCell (b := w6.heap.size) (by simp) 1 _).mono (by simp), (HXB.out.setCell (p := ⟨w6.heap.size, 0, none⟩) (Nat.le_refl _) _).setCell (p := ⟨w6.heap.size, 1, none⟩) (Nat.le_refl _) _, Nat.le_refl _⟩
                  case rest =>
                    rename World => w7
                    have hv := hcut.1
                    subst hv
                    obtain ⟨lb, av, cv, hp13, hlb, hov, hb, hge⟩ := hcut.2
                    subst hp13
                    have HB7 : Hid (Below w.heap.size w w7) := HB6.out.trans (hb.mono HB6.out.size)
                    have HP7 : Hid _ := PB.below HP6.out HP6.out.1 hb
                    have HZ7 : Hid _ := PB.below HZ6.out HZ6.out.1 hb
                    have HR7 : Hid (RdP w7 p (.slice ai p.isr.length ci) (.slice ak p.kn.length ck) (.slice (some ⟨g, off, none⟩) p.rs.length cr) us) := RdP.below HR6.out (Nat.le_refl _) hb
                    have HLB : Hid _ := hlb
                    have HOV : Hid _ := hov
                    have HPZ : Hid (w.heap.size < w6.heap.size ∧ w.heap.size + 1 + 1 < w6.heap.size) := ⟨HP6.out.1, HZ6.out.1⟩
                    have HS7 : Hid (w6.heap.size ≤ w7.heap.size) := hb.size
                    clear z1 e0 e1 e2 e3 e4 e5 e6 g1 s1 b0 b1 b2 b3 b4 b5 b6 f1 h9 x0 x1 x2 x3 x4 x5 x6 x7
                    clear hcut hlb hov hb HB6 HP6 HX6 HZ6 HR6 y2 y3 HU0 HAP
                    obtain ⟨s1, ⟨b0, b1, b2, b3, b4, b5, b6⟩, f1⟩ := HP7.out
                    go_at_K
                    go_wp2_with fail
                    refine (copy_any p _ _ _ us _ HR7.out (may_fits HM.out)).mono ?_
                    rintro e w8 ⟨yi, yk, yr, us', rfl, hfr0, hb8⟩
                    have hfr := hfr0.mono (C := w6.heap.size) HS7.out
                    have HLI8 : Hid (0 < p.isr.length ∧ 0 < p.kn.length ∧ 0 < p.rs.length) := show _ ∧ _ ∧ _ by have h1 := HM.out.li; have h2 := HM.out.lk; omega
                    obtain ⟨gi, gk, gr, di, dk, dr, rfl, rfl, rfl, ho⟩ := hfr.own HLI8.out.1 HLI8.out.2.1 HLI8.out.2.2
                    have hG := hfr0.oi.blk gi rfl
                    have hG2 := hfr0.ok.blk gk rfl
                    have hG3 := hfr0.or.blk gr rfl
                    have HP8 : Hid (PB w8 w.heap.size p _ _ _) := PB.below HP7.out HP7.out.1 hb8
                    have HZ8 : Hid (PB w8 (w.heap.size + 1 + 1) Prt.zero nilV nilV nilV) := PB.below HZ7.out HZ7.out.1 hb8
                    have HLB8 : Hid (LBox w8 lb (.slice av NL.length cv) (p.at p.ld.toNat).y) := LBox.below HLB.out hb8
                    have HOV8 : Hid (Own w6.heap.size (.slice av NL.length cv) NL w8) := Own.below HOV.out (Nat.le_refl _) hb8
                    have HB8 : Hid (Below w.heap.size w w8) := HB7.out.trans (hb8.mono HB7.out.size)
                    have HT3 : Hid (St w6.heap.size w.heap.size (w.heap.size + 1 + 1) w (p) gi gk gr di dk dr p.isr.length p.kn.length p.rs.length us' (put7 w8 w.heap.size p (.slice (some ⟨gi, 0, none⟩) p.isr.length di) (.slice (some ⟨gk, 0, none⟩) p.kn.length dk) (.slice (some ⟨gr, 0, none⟩) p.rs.length dr))) := ⟨OwnP.put ho HP8.out.2.2 HPZ.out.1 p _ _ _, PB.put HP8.out _ _ _ _, PB.putFar HZ8.out (by omega) _ _ _ _, below_put HB8.out (Nat.le_refl _) _ _ _ _, by rw [put7_size]; have := hb8.size; have := HS7.out; omega, rfl, rfl, rfl, HPZ.out.1, HPZ.out.2, by omega, Nat.le_refl _, by omega⟩
                    have HKV : Hid (∀ k, (Value.slice av NL.length cv).ownBlock = some k → w6.heap.size ≤ k ∧ k < w8.heap.size ∧ k ≠ gi ∧ k ≠ gk ∧ k ≠ gr) := fun k hk => by
                      have h1 := Own.blk HOV.out k hk
                      have h3 := hb8.size
                      exact ⟨h1.1, by omega, by omega, by omega, by omega⟩
                    have HRV : Hid (Rd (put7 w8 w.heap.size p (.slice (some ⟨gi, 0, none⟩) p.isr.length di) (.slice (some ⟨gk, 0, none⟩) p.kn.length dk) (.slice (some ⟨gr, 0, none⟩) p.rs.length dr)) (.slice av NL.length cv) NL) := show Rd _ _ _ by
                      unfold put7
                      have hne : (Value.slice av NL.length cv).ownBlock ≠ some w.heap.size := fun e => by have h1 := (HKV.out _ e).1; have h2 := HPZ.out.1; omega
                      exact rd_block (rd_block (rd_block (rd_block (rd_block (rd_block (rd_block HOV8.out.rd hne _ _) hne _ _) hne _ _) hne _ _) hne _ _) hne _ _) hne _ _
                    have HT4 : Hid (St w6.heap.size w.heap.size (w.heap.size + 1 + 1) w (_) gi gk gr di dk dr p.isr.length p.kn.length p.rs.length _ (((put7 w8 w.heap.size p (.slice (some ⟨gi, 0, none⟩) p.isr.length di) (.slice (some ⟨gk, 0, none⟩) p.kn.length dk) (.slice (some ⟨gr, 0, none⟩) p.rs.length dr)).setCell ⟨gr, p.ld.toNat * 4 + 1, none⟩ (.slice av NL.length cv)).setCell ⟨gr, p.ld.toNat * 4 + 2, none⟩ (.int .i64 (p.at p.ld.toNat).y))) := (HT3.out.setB p.ld.toNat hd (.slice av NL.length cv) NL HRV.out (fun k hk => by have := HKV.out k hk; simpa [put7_size] using this)).setY p.ld.toNat hd (p.at p.ld.toNat).y
                    have HEQ : Hid ((p.setR p.ld.toNat (fun r => { r with l := NL })).setR p.ld.toNat (fun r => { r with y := (p.at p.ld.toNat).y }) = p.setR p.ld.toNat (fun r => { r with l := r.l ++ (p.ent x).enc })) := show _ = _ by
                      rw [setR_setR]
                      exact setR_congr hd (by rw [← HNL.out])
                    unfold put7 at HT4
                    have hlb7 := HLB.out.1
                    have k1 : w.heap.size ≠ gi := by have := HP7.out.1; omega
                    have k2 : w.heap.size ≠ gk := by have := HP7.out.1; omega
                    have k3 : w.heap.size ≠ gr := by have := HP7.out.1; omega
                    have k6 : w.heap.size + 1 + 1 ≠ gr := by have := HZ7.out.1; omega
                    have k9 : ¬ gr = w.heap.size := fun h => k3 h.symm
                    have j1 : ¬ lb = w.heap.size := by have := HPZ.out.1; omega
                    have j2 : ¬ w.heap.size = lb := fun h => j1 h.symm
                    have j3 : ¬ lb = gr := by omega
                    have j4 : ¬ gr = lb := fun h => j3 h.symm
                    have hsi := ho.2.si
                    have hsr := ho.2.sr
                    obtain ⟨-, i1, i2, i3, i4⟩ := OwnP.cellsAt ho p.ld.toNat hd
                    have i9 := ho.2.fr
                    obtain ⟨-, v4, v5, v6⟩ := HLB8.out
                    clear s1 b0 b1 b2 b3 b4 b5 b6 f1 hb8 hfr hfr0 ho hG hG2 hG3 HT3 HRV
                    obtain ⟨s1, ⟨b0, b1, b2, b3, b4, b5, b6⟩, f1⟩ := HP8.out
                    obtain ⟨z1, ⟨e0, e1, e2, e3, e4, e5, e6⟩, g1⟩ := HZ8.out
                    go_wp2
                    exact bodyPost_ret (v := .tuple #[.agg #[.int .i64 p.ep, .int .i64 p.ld, (.slice (some ⟨gi, 0, none⟩) p.isr.length di), (.slice (some ⟨gk, 0, none⟩) p.kn.length dk), (.slice (some ⟨gr, 0, none⟩) p.rs.length dr), .int .i64 p.fw, .int .i64 p.bs], .int .i64 (p.at p.ld.toNat).es.length, .int .i64 0]) (by simp [results, Try.results31, go_sem, e0, e1, e2, e3, e4, e5, e6]) rfl (by rw [HE.out, ← HEQ.out]; exact St.doneF (q := (p.setR p.ld.toNat (fun r => { r with l := NL })).setR p.ld.toNat (fun r => { r with y := (p.at p.ld.toNat).y })) HT4.out rfl)

theorem put_any (p : Prt) (x : Ent) (vi vk vr : Value) (us : Nat → Value) (w : World) (h : RdP w p vi vk vr us) (hs : p.small) :
    Calls Try.prog 31 #[.agg #[.int .i64 p.ep, .int .i64 p.ld, vi, vk, vr, .int .i64 p.fw, .int .i64 p.bs], .agg #[.int .i64 x.a, .int .i64 x.b, .int .i64 x.c, .int .i64 x.d, .int .i64 x.k, .bool x.t, .string x.s]] w fun e w' => Res w (p.putP x).1 [.int .i64 (p.putP x).2.1, .int .i64 (p.putP x).2.2] e w' :=
  (put_anyF p x vi vk vr us w h hs).mono fun _ _ h => h.res

end Go.Proofs.Ytkolelpdedmkeaa
