/-
  The walk of the document's PutOf.
-/
import Derived.Test.YtkolelpdedmkeaaPopP0
import Derived.Test.YtkolelpdedmkeaaAsd
import Derived.Test.YtkolelpdedmkeaaPrefC
import Derived.Test.YtkolelpdedmkeaaPrefR
import Derived.Test.YtkolelpdedmkeaaPmay2
import Derived.Deep.RegionWith
import Derived.Deep.RegionHeld3
import Derived.Deep.DeepCutAuto
namespace Go.Proofs.Ytkolelpdedmkeaa
open Go.RowKit
set_option linter.unusedVariables false
set_option linter.unusedSimpArgs false

theorem Sd.older {B b z : Nat} {w W : World} {q : Prt} {gi gk gr di dk dr li lk lr : Nat} {us : Nat → Value} (h : Sd B b z w q gi gk gr di dk dr li lk lr us W) (c o : Nat) (x : Value) (hf : ∀ o, W.frozen? ⟨c, o, none⟩ = false) (hc : c < B) (hb : b ≠ c) (hz : z ≠ c) (hw : w.heap.size ≤ c) : Sd B b z w q gi gk gr di dk dr li lk lr us (W.setCell ⟨c, o, none⟩ x) :=
  ⟨h.o.box hf hc o x, h.p.far hb o x, h.r.far hz o x, h.bel.setCell (p := ⟨c, o, none⟩) hw x, by simpa using h.s, h.hli, h.hlk, h.hlr, h.ba, h.bu, h.zB, h.bz, h.wb, h.wz⟩
theorem appendedOf_ok (l : List Int) (u : Value) (y : Int) (x : Ent) (w : World) (hl : l.length ≤ 140737488355328) (h : Rd w u l) (h0 : apf l y x = 0) :
    Calls Try.prog 81 #[.agg #[u, .int .i64 y], .agg #[.int .i64 x.a, .int .i64 x.b, .int .i64 x.c, .int .i64 x.d, .int .i64 x.k, .bool x.t, .string x.s]] w fun e w' => ∃ av cv, e = .returned (.tuple #[.agg #[.slice av (l ++ x.enc).length cv, .int .i64 y], .int .i64 0]) ∧ Own w.heap.size (.slice av (l ++ x.enc).length cv) (l ++ x.enc) w' ∧ Below w.heap.size w w' :=
  (appendedOf_any l u y x w hl h).mono fun e w' ⟨hb, _, h⟩ => by
    obtain ⟨v, h1, h2⟩ := h h0
    obtain ⟨av, cv, rfl⟩ := h2.shape
    exact ⟨av, cv, h1, h2, hb⟩
theorem appendedOf_bad (l : List Int) (u : Value) (y : Int) (x : Ent) (w : World) (hl : l.length ≤ 140737488355328) (h : Rd w u l) (h0 : apf l y x ≠ 0) :
    Calls Try.prog 81 #[.agg #[u, .int .i64 y], .agg #[.int .i64 x.a, .int .i64 x.b, .int .i64 x.c, .int .i64 x.d, .int .i64 x.k, .bool x.t, .string x.s]] w fun e w' => e = .returned (.tuple #[.agg #[.slice none 0 0, .int .i64 0], .int .i64 (apf l y x)]) ∧ Below w.heap.size w w' :=
  (appendedOf_any l u y x w hl h).mono fun e w' ⟨hb, h, _⟩ => ⟨h h0, hb⟩
theorem ups_le (p : Prt) (k : Nat) : p.ups k ≤ k := by
  induction k with
  | zero => simp [Prt.ups]
  | succ k ih => simp only [Prt.ups]; split <;> omega

set_option maxRecDepth 100000 in
set_option maxHeartbeats 4000000 in
theorem putOf_any (p : Prt) (x : Ent) (vi vk vr : Value) (us : Nat → Value) (w : World) (h : RdP w p vi vk vr us) (hs : p.small) :
    Calls Try.prog 32 #[.agg #[.int .i64 p.ep, .int .i64 p.ld, vi, vk, vr, .int .i64 p.fw, .int .i64 p.bs], .agg #[.int .i64 x.a, .int .i64 x.b, .int .i64 x.c, .int .i64 x.d, .int .i64 x.k, .bool x.t, .string x.s]] w fun e w' => Res w (p.putP x).1 [.int .i64 (p.putP x).2.1, .int .i64 (p.putP x).2.2] e w' := by
  have HRW : Hid (RdP w p vi vk vr us) := h
  have HS : Hid p.small := hs
  obtain ⟨ai, ci, ak, ck, ar, cr, rfl, rfl, rfl, l1, l2, l3⟩ := h.lens
  clear h hs
  go_enter Try.func32, Try.ntmps32
  go_wp2_with fail
  have q1 : (w.alloc (.cells #[.int .i64 p.ep, .int .i64 p.ld, .slice ai p.isr.length ci, .slice ak p.kn.length ck, .slice ar p.rs.length cr, .int .i64 p.fw, .int .i64 p.bs] 26)).heap.size = w.heap.size + 1 := by simp
  have q2 : ((w.alloc (.cells #[.int .i64 p.ep, .int .i64 p.ld, .slice ai p.isr.length ci, .slice ak p.kn.length ck, .slice ar p.rs.length cr, .int .i64 p.fw, .int .i64 p.bs] 26)).alloc (.cells #[.int .i64 x.a, .int .i64 x.b, .int .i64 x.c, .int .i64 x.d, .int .i64 x.k, .bool x.t, .string x.s] 36)).heap.size = w.heap.size + 1 + 1 := by simp
  have t2 := bbox (w.alloc (.cells #[.int .i64 p.ep, .int .i64 p.ld, .slice ai p.isr.length ci, .slice ak p.kn.length ck, .slice ar p.rs.length cr, .int .i64 p.fw, .int .i64 p.bs] 26)) (.cells #[.int .i64 x.a, .int .i64 x.b, .int .i64 x.c, .int .i64 x.d, .int .i64 x.k, .bool x.t, .string x.s] 36)
  have t3 := bbox ((w.alloc (.cells #[.int .i64 p.ep, .int .i64 p.ld, .slice ai p.isr.length ci, .slice ak p.kn.length ck, .slice ar p.rs.length cr, .int .i64 p.fw, .int .i64 p.bs] 26)).alloc (.cells #[.int .i64 x.a, .int .i64 x.b, .int .i64 x.c, .int .i64 x.d, .int .i64 x.k, .bool x.t, .string x.s] 36)) (.cells #[.int .i64 0, .int .i64 0, .slice none 0 0, .slice none 0 0, .slice none 0 0, .int .i64 0, .int .i64 0] 26)
  have B0 : Below w.heap.size w (((w.alloc (.cells #[.int .i64 p.ep, .int .i64 p.ld, .slice ai p.isr.length ci, .slice ak p.kn.length ck, .slice ar p.rs.length cr, .int .i64 p.fw, .int .i64 p.bs] 26)).alloc (.cells #[.int .i64 x.a, .int .i64 x.b, .int .i64 x.c, .int .i64 x.d, .int .i64 x.k, .bool x.t, .string x.s] 36)).alloc (.cells #[.int .i64 0, .int .i64 0, .slice none 0 0, .slice none 0 0, .slice none 0 0, .int .i64 0, .int .i64 0] 26)) := bstep (bstep (bbox _ _) (bbox _ _)) (bbox _ _)
  have P0 : PB (((w.alloc (.cells #[.int .i64 p.ep, .int .i64 p.ld, .slice ai p.isr.length ci, .slice ak p.kn.length ck, .slice ar p.rs.length cr, .int .i64 p.fw, .int .i64 p.bs] 26)).alloc (.cells #[.int .i64 x.a, .int .i64 x.b, .int .i64 x.c, .int .i64 x.d, .int .i64 x.k, .bool x.t, .string x.s] 36)).alloc (.cells #[.int .i64 0, .int .i64 0, .slice none 0 0, .slice none 0 0, .slice none 0 0, .int .i64 0, .int .i64 0] 26)) w.heap.size p _ _ _ := ((pb_new w p (.slice ai p.isr.length ci) (.slice ak p.kn.length ck) (.slice ar p.rs.length cr) 26 w.heap.size rfl).below (by omega) t2).below (by omega) t3
  have X0 : XB (((w.alloc (.cells #[.int .i64 p.ep, .int .i64 p.ld, .slice ai p.isr.length ci, .slice ak p.kn.length ck, .slice ar p.rs.length cr, .int .i64 p.fw, .int .i64 p.bs] 26)).alloc (.cells #[.int .i64 x.a, .int .i64 x.b, .int .i64 x.c, .int .i64 x.d, .int .i64 x.k, .bool x.t, .string x.s] 36)).alloc (.cells #[.int .i64 0, .int .i64 0, .slice none 0 0, .slice none 0 0, .slice none 0 0, .int .i64 0, .int .i64 0] 26)) (w.heap.size + 1) x := XB.below ⟨ebox_new (w.alloc (.cells #[.int .i64 p.ep, .int .i64 p.ld, .slice ai p.isr.length ci, .slice ak p.kn.length ck, .slice ar p.rs.length cr, .int .i64 p.fw, .int .i64 p.bs] 26)) x 36 _ q1.symm, fun o => by simp [go_sem]⟩ t3
  have Z0 : PB (((w.alloc (.cells #[.int .i64 p.ep, .int .i64 p.ld, .slice ai p.isr.length ci, .slice ak p.kn.length ck, .slice ar p.rs.length cr, .int .i64 p.fw, .int .i64 p.bs] 26)).alloc (.cells #[.int .i64 x.a, .int .i64 x.b, .int .i64 x.c, .int .i64 x.d, .int .i64 x.k, .bool x.t, .string x.s] 36)).alloc (.cells #[.int .i64 0, .int .i64 0, .slice none 0 0, .slice none 0 0, .slice none 0 0, .int .i64 0, .int .i64 0] 26)) (w.heap.size + 1 + 1) Prt.zero nilV nilV nilV := pb_new _ Prt.zero nilV nilV nilV 26 _ q2.symm
  clear q1 q2 t2 t3
  generalize ((w.alloc (.cells #[.int .i64 p.ep, .int .i64 p.ld, .slice ai p.isr.length ci, .slice ak p.kn.length ck, .slice ar p.rs.length cr, .int .i64 p.fw, .int .i64 p.bs] 26)).alloc (.cells #[.int .i64 x.a, .int .i64 x.b, .int .i64 x.c, .int .i64 x.d, .int .i64 x.k, .bool x.t, .string x.s] 36)).alloc (.cells #[.int .i64 0, .int .i64 0, .slice none 0 0, .slice none 0 0, .slice none 0 0, .int .i64 0, .int .i64 0] 26) = W0 at *
  refine (partMay_any p _ _ _ us _ (RdP.below HRW.out (Nat.le_refl _) B0) HS.out).mono ?_
  rintro e w1 ⟨rfl, hb⟩
  have HB1 : Hid (Below w.heap.size w w1) := B0.trans (hb.mono B0.size)
  have HP1 : Hid (PB w1 w.heap.size p (.slice ai p.isr.length ci) (.slice ak p.kn.length ck) (.slice ar p.rs.length cr)) := P0.below P0.1 hb
  have HX1 : Hid (XB w1 (w.heap.size + 1) x) := X0.below hb
  have HZ1 : Hid (PB w1 (w.heap.size + 1 + 1) Prt.zero nilV nilV nilV) := Z0.below Z0.1 hb
  have HR1 : Hid (RdP w1 p (.slice ai p.isr.length ci) (.slice ak p.kn.length ck) (.slice ar p.rs.length cr) us) := RdP.below HRW.out (Nat.le_refl _) HB1.out
  clear hb B0 P0 X0 Z0
  obtain ⟨s1, ⟨b0, b1, b2, b3, b4, b5, b6⟩, f1⟩ := HP1.out
  obtain ⟨z1, ⟨e0, e1, e2, e3, e4, e5, e6⟩, g1⟩ := HZ1.out
  obtain ⟨⟨h9, x0, x1, x2, x3, x4, x5, x6⟩, x7⟩ := HX1.out
  cases hm : p.mayB with
  | false =>
    have HE : Hid _ := putP_may (x := x) hm
    clear hm
    go_wp2
    exact bodyPost_ret (v := .tuple #[.agg #[.int .i64 0, .int .i64 0, nilV, nilV, nilV, .int .i64 0, .int .i64 0], .int .i64 0, .int .i64 12]) (by simp [results, Try.results32, go_sem, e0, e1, e2, e3, e4, e5, e6]) rfl (by rw [HE.out]; exact res_zero rfl HB1.out (by omega))
  | true =>
    have HM : Hid (May p) := may_iff.1 hm
    have HMB : Hid (p.mayB = true) := hm
    clear hm
    by_cases h0 : p.ld < 0
    · have HE : Hid _ := putP_lead (x := x) HMB.out h0
      have d0 : decide (p.ld < 0) = true := by simp [h0]
      clear h0
      go_wp2
      exact bodyPost_ret (v := .tuple #[.agg #[.int .i64 0, .int .i64 0, nilV, nilV, nilV, .int .i64 0, .int .i64 0], .int .i64 0, .int .i64 8]) (by simp [results, Try.results32, go_sem, e0, e1, e2, e3, e4, e5, e6]) rfl (by rw [HE.out]; exact res_zero rfl HB1.out (by omega))
    · have h0' : 0 ≤ p.ld := by omega
      have d0 : decide (p.ld < 0) = false := by simp; omega
      have hd : p.ld.toNat < p.rs.length := by have := HM.out.ld; omega
      have hd1 : p.ld < p.rs.length := by omega
      clear h0
      have hli : 0 < p.isr.length ∧ 0 < p.kn.length ∧ 0 < p.rs.length := by have h1 := HM.out.li; have h2 := HM.out.lk; omega
      have HLI : Hid (0 < p.isr.length ∧ 0 < p.kn.length ∧ 0 < p.rs.length) := show _ ∧ _ ∧ _ from hli
      clear hli
      go_wp2_with fail
      refine (partCopy_any p _ _ _ us _ HR1.out (may_fits HM.out)).mono ?_
      rintro e w2 ⟨xi, xk, xr, us', rfl, hfr, hb⟩
      obtain ⟨gi, gk, gr, di, dk, dr, rfl, rfl, rfl, hsn⟩ := sn_start HB1.out HZ1.out (by omega) hfr hb HLI.out.1 HLI.out.2.1 HLI.out.2.2
      have HT3 : Hid (Sd w1.heap.size w2.heap.size (w.heap.size + 1 + 1) w p gi gk gr di dk dr p.isr.length p.kn.length p.rs.length us' (w2.alloc (.cells #[.int .i64 p.ep, .int .i64 p.ld, (.slice (some ⟨gi, 0, none⟩) p.isr.length di), (.slice (some ⟨gk, 0, none⟩) p.kn.length dk), (.slice (some ⟨gr, 0, none⟩) p.rs.length dr), .int .i64 p.fw, .int .i64 p.bs] 26))) := hsn.lay 26
      have HBA : Hid (Below w1.heap.size w1 (w2.alloc (.cells #[.int .i64 p.ep, .int .i64 p.ld, (.slice (some ⟨gi, 0, none⟩) p.isr.length di), (.slice (some ⟨gk, 0, none⟩) p.kn.length dk), (.slice (some ⟨gr, 0, none⟩) p.rs.length dr), .int .i64 p.fw, .int .i64 p.bs] 26))) := bstep hb (bbox _ _)
      have hw2 : w.heap.size < w2.heap.size := Nat.lt_of_lt_of_le HP1.out.1 hb.size
      have HP2 : Hid (PB w2 w.heap.size p (.slice ai p.isr.length ci) (.slice ak p.kn.length ck) (.slice ar p.rs.length cr)) := PB.below HP1.out HP1.out.1 hb
      have hw12 : w1.heap.size ≤ w2.heap.size := hb.size
      clear hfr hb hsn
      clear z1 e0 e1 e2 e3 e4 e5 e6 g1 s1 b0 b1 b2 b3 b4 b5 b6 f1 h9 x0 x1 x2 x3 x4 x5 x6 x7
      obtain ⟨s1, ⟨b0, b1, b2, b3, b4, b5, b6⟩, f1⟩ := HP2.out
      go_wp2_with fail
      clear s1 b0 b1 b2 b3 b4 b5 b6 f1
      generalize w2.alloc (.cells #[.int .i64 p.ep, .int .i64 p.ld, (.slice (some ⟨gi, 0, none⟩) p.isr.length di), (.slice (some ⟨gk, 0, none⟩) p.kn.length dk), (.slice (some ⟨gr, 0, none⟩) p.rs.length dr), .int .i64 p.fw, .int .i64 p.bs] 26) = W3 at *
      have HLB : Hid ((p.at p.ld.toNat).l.length ≤ 1099511627775) := show _ ≤ _ by have := may_len HM.out hd; omega
      refine (logOf_int p p.ld _ _ _ us _ (RdP.below HRW.out (Nat.le_refl _) HT3.out.bel) h0' hd1 HLB.out l3).mono ?_
      rintro e w4 ⟨v, rfl, hv, hb4⟩
      have HB4 : Hid (Below w1.heap.size w1 w4) := bstep HBA.out hb4
      have HT4 : Hid (Sd w1.heap.size w2.heap.size (w.heap.size + 1 + 1) w p gi gk gr di dk dr p.isr.length p.kn.length p.rs.length us' w4) := HT3.out.below hb4
      have HP4 : Hid (PB w4 w.heap.size p (.slice ai p.isr.length ci) (.slice ak p.kn.length ck) (.slice ar p.rs.length cr)) := PB.below HP1.out HP1.out.1 HB4.out
      have HX4 : Hid (XB w4 (w.heap.size + 1) x) := XB.below HX1.out HB4.out
      obtain ⟨ae, ce, rfl⟩ := hv.shape
      have hx1 : w.heap.size + 1 < w1.heap.size := HX1.out.1.1
      have hW3 : w1.heap.size ≤ W3.heap.size := HBA.out.size
      have HV5 : Hid (RdX (w4.setCell ⟨w.heap.size + 1, 0, none⟩ (.int .i64 p.ep)) (.slice ae (p.at p.ld.toNat).es.length ce) (p.at p.ld.toNat).es) := show RdX _ _ _ from OwnE.rdX (B := W3.heap.size) (OwnV.far (T := 36) (z := 7) hv (b := w.heap.size + 1) (fun e => by have := (OwnV.blk (T := 36) (z := 7) hv _ e).1; omega) 0 (.int .i64 p.ep))
      have HT5 : Hid (Sd w1.heap.size w2.heap.size (w.heap.size + 1 + 1) w p gi gk gr di dk dr p.isr.length p.kn.length p.rs.length us' (w4.setCell ⟨w.heap.size + 1, 0, none⟩ (.int .i64 p.ep))) := Sd.older HT4.out (w.heap.size + 1) 0 (.int .i64 p.ep) HX4.out.2 hx1 (by omega) (by omega) (by omega)
      have HX5 : Hid (XB (w4.setCell ⟨w.heap.size + 1, 0, none⟩ (.int .i64 p.ep)) (w.heap.size + 1) (p.ent x)) := XB.setA HX4.out p.ep
      have HP5 : Hid (PB (w4.setCell ⟨w.heap.size + 1, 0, none⟩ (.int .i64 p.ep)) w.heap.size p (.slice ai p.isr.length ci) (.slice ak p.kn.length ck) (.slice ar p.rs.length cr)) := PB.far HP4.out (g := w.heap.size + 1) (by omega) 0 (.int .i64 p.ep)
      obtain ⟨s1, ⟨b0, b1, b2, b3, b4, b5, b6⟩, f1⟩ := HP4.out
      obtain ⟨⟨h9, x0, x1, x2, x3, x4, x5, x6⟩, x7⟩ := HX4.out
      have hne : ¬ w.heap.size = w.heap.size + 1 := by omega
      clear hb4 hv
      go_wp2_with fail
      clear s1 b0 b1 b2 b3 b4 b5 b6 f1 h9 x0 x1 x2 x3 x4 x5 x6 x7
      generalize w4.setCell ⟨w.heap.size + 1, 0, none⟩ (.int .i64 p.ep) = w5 at *
      refine (fault_any p.ep x.b x.c x.d x.k x.t x.s _).mono ?_
      rintro e w6 ⟨rfl, hb⟩
      have HT6 : Hid (Sd w1.heap.size w2.heap.size (w.heap.size + 1 + 1) w p gi gk gr di dk dr p.isr.length p.kn.length p.rs.length us' w6) := HT5.out.below hb
      have HP6 : Hid (PB w6 w.heap.size p (.slice ai p.isr.length ci) (.slice ak p.kn.length ck) (.slice ar p.rs.length cr)) := PB.below HP5.out HP5.out.1 hb
      have HX6 : Hid (XB w6 (w.heap.size + 1) (p.ent x)) := XB.below HX5.out hb
      have HV6 : Hid (RdX w6 (.slice ae (p.at p.ld.toNat).es.length ce) (p.at p.ld.toNat).es) := RdX.below HV5.out (Nat.le_refl _) hb
      have HB6 : Hid (Below w.heap.size w w6) := HT6.out.bel
      clear hb HT3 HT4 HT5 HP4 HP5 HX4 HX5 HV5 HB4
      obtain ⟨s1, ⟨b0, b1, b2, b3, b4, b5, b6⟩, f1⟩ := HP6.out
      obtain ⟨⟨h9, x0, x1, x2, x3, x4, x5, x6⟩, x7⟩ := HX6.out
      obtain ⟨z1, ⟨e0, e1, e2, e3, e4, e5, e6⟩, g1⟩ := HT6.out.r
      have HFE : Hid ((p.ent x).flt = flt p.ep x.b x.c x.d x.k x.t x.s.size) := show _ = _ from rfl
      by_cases hf : flt p.ep x.b x.c x.d x.k x.t x.s.size = 0
      rotate_left
      · have HE : Hid (p.putP x = (Prt.zero, 0, flt p.ep x.b x.c x.d x.k x.t x.s.size)) := show _ = _ by rw [putP_wire HMB.out h0' (by rw [HFE.out]; exact hf), HFE.out]
        have d1 : (flt p.ep x.b x.c x.d x.k x.t x.s.size != 0) = true := by simp [hf]
        clear hf
        go_wp2
        exact bodyPost_ret (v := .tuple #[.agg #[.int .i64 0, .int .i64 0, nilV, nilV, nilV, .int .i64 0, .int .i64 0], .int .i64 0, .int .i64 (flt p.ep x.b x.c x.d x.k x.t x.s.size)]) (by simp [results, Try.results32, go_sem, e0, e1, e2, e3, e4, e5, e6]) rfl (by rw [HE.out]; exact res_zero rfl HB6.out (by omega))
      · have HF0 : Hid ((p.ent x).flt = 0) := show _ = _ by rw [HFE.out]; exact hf
        have HE0 : Hid _ := putP_rest (x := x) HMB.out h0' HF0.out
        rw [hf]
        clear hf HFE
        have HPL : Hid (Plain (p.at p.ld.toNat).es) := show Plain _ from (es_plain (by obtain ⟨g, off, e, -, y0, -⟩ := HR1.out.2.2.cells p.ld.toNat hd; exact y0.1)).1
        go_wp2_with fail
        refine (checkedOf_any (p.at p.ld.toNat).es _ (p.ent x) _ (by have := may_es HM.out hd; omega) HPL.out HV6.out).mono ?_
        rintro e w7 ⟨rfl, hb⟩
        have HT7 : Hid (Sd w1.heap.size w2.heap.size (w.heap.size + 1 + 1) w p gi gk gr di dk dr p.isr.length p.kn.length p.rs.length us' w7) := HT6.out.below hb
        have HP7 : Hid (PB w7 w.heap.size p (.slice ai p.isr.length ci) (.slice ak p.kn.length ck) (.slice ar p.rs.length cr)) := PB.below HP6.out HP6.out.1 hb
        have HX7 : Hid (XB w7 (w.heap.size + 1) (p.ent x)) := XB.below HX6.out hb
        have HB7 : Hid (Below w.heap.size w w7) := HT7.out.bel
        clear hb HT6 HP6 HX6 HV6 HB6
        clear z1 e0 e1 e2 e3 e4 e5 e6 g1 s1 b0 b1 b2 b3 b4 b5 b6 f1 h9 x0 x1 x2 x3 x4 x5 x6 x7
        obtain ⟨s1, ⟨b0, b1, b2, b3, b4, b5, b6⟩, f1⟩ := HP7.out
        obtain ⟨⟨h9, x0, x1, x2, x3, x4, x5, x6⟩, x7⟩ := HX7.out
        obtain ⟨z1, ⟨e0, e1, e2, e3, e4, e5, e6⟩, g1⟩ := HT7.out.r
        obtain ⟨o1, ⟨o0, o2, o3, o4, o5, o6, o7⟩, o8⟩ := HT7.out.p
        generalize chk (p.at p.ld.toNat).es (p.ent x) = CK at *
        obtain ⟨ca, cer⟩ := CK
        simp only at HE0 ⊢
        by_cases hc : cer = 0
        rotate_left
        · have HE : Hid (p.putP x = (Prt.zero, 0, cer)) := show _ = _ by rw [HE0.out, if_pos hc]
          have d1 : (cer != 0) = true := by simp [hc]
          clear hc
          go_wp2
          exact bodyPost_ret (v := .tuple #[.agg #[.int .i64 0, .int .i64 0, nilV, nilV, nilV, .int .i64 0, .int .i64 0], .int .i64 0, .int .i64 cer]) (by simp [results, Try.results32, go_sem, e0, e1, e2, e3, e4, e5, e6]) rfl (by rw [HE.out]; exact res_zero rfl HB7.out (by omega))
        · subst hc
          by_cases ha : 0 ≤ ca
          · have HE : Hid (p.putP x = (p, ca, 0)) := show _ = _ by rw [HE0.out, if_neg (by simp), if_pos ha]
            have d2 : decide (ca ≥ 0) = true := by simp [ha]
            go_wp2
            exact bodyPost_ret (v := .tuple #[.agg #[.int .i64 p.ep, .int .i64 p.ld, (.slice (some ⟨gi, 0, none⟩) p.isr.length di), (.slice (some ⟨gk, 0, none⟩) p.kn.length dk), (.slice (some ⟨gr, 0, none⟩) p.rs.length dr), .int .i64 p.fw, .int .i64 p.bs], .int .i64 ca, .int .i64 0]) (by simp [results, Try.results32, go_sem, e0, e1, e2, e3, e4, e5, e6]) rfl (by rw [HE.out]; exact Sd.done (q := p) HT7.out rfl)
          · have d2 : decide (ca ≥ 0) = false := by simp; omega
            have HIR : Hid (p.isr.length = p.rs.length) := show _ = _ from HM.out.li
            have HE1 : Hid (p.putP x = if (p.ups p.isr.length : Int) < p.fw then (Prt.zero, 0, 9) else if apf (p.at p.ld.toNat).l (p.at p.ld.toNat).y (p.ent x) ≠ 0 then (Prt.zero, 0, apf (p.at p.ld.toNat).l (p.at p.ld.toNat).y (p.ent x)) else (p.setR p.ld.toNat (fun r => { r with l := r.l ++ (p.ent x).enc }), ((p.at p.ld.toNat).es.length : Int), 0)) := show _ = _ by rw [HE0.out, if_neg (by simp), if_neg ha]; rfl
            have HR7 : Hid (RdP w7 p (.slice ai p.isr.length ci) (.slice ak p.kn.length ck) (.slice ar p.rs.length cr) us) := RdP.below HRW.out (Nat.le_refl _) HB7.out
            clear ha HE0
            go_wp2
            go_loop [11, 12] (fun nn i => ∃ k : Nat, k ≤ p.isr.length ∧ i = .int .i64 k ∧ nn = .int .i64 (p.ups k : Nat)) (fun _ i => p.isr.length - (intOf i).toNat)
            case atStart => exact ⟨0, by omega, rfl, rfl⟩
            case round =>
              obtain ⟨k, hk, rfl, rfl⟩ := hrel
              by_cases hlt : k < p.isr.length
              · have hlt' : (k : Int) < p.isr.length := by omega
                have hlr : k < p.rs.length := by rw [← HIR.out]; exact hlt
                have hlr' : (k : Int) < p.rs.length := by omega
                have hl5 : (k : Int) ≤ 5 := by have := HM.out.n5; omega
                have hu5 : (p.ups k : Int) ≤ 5 := by have := ups_le p k; omega
                obtain ⟨hgi, hoi, rfl, m0⟩ := RdP.isrAt HR7.out.1 k hlt
                obtain ⟨g, off, rfl, -, y0, y1, y2, y3, y4⟩ := HR7.out.2.2.cells k hlr
                have HU : Hid (p.ups (k + 1) = p.ups k + if p.isr.getD k false = true ∧ (p.at k).up = true then 1 else 0) := show _ = _ from rfl
                clear y0 y2 y3 y4
                generalize p.isr.getD k false = bi at *
                generalize (p.at k).up = bu at *
                generalize p.ups k = uk at *
                cases bi <;> cases bu
                all_goals
                  go_wp2
                  go_round
                  case rel => exact ⟨k + 1, by omega, by go_num, by rw [HU.out]; simp⟩
                  case measure => simp [intOf]; omega
              · have hke : k = p.isr.length := by omega
                subst hke
                cases hfw : decide ((p.ups p.isr.length : Int) < p.fw) with
                | true =>
                  have HE : Hid (p.putP x = (Prt.zero, 0, 9)) := show _ = _ by rw [HE1.out, if_pos (by simpa using hfw)]
                  go_wp2
                  exact bodyPost_ret (v := .tuple #[.agg #[.int .i64 0, .int .i64 0, nilV, nilV, nilV, .int .i64 0, .int .i64 0], .int .i64 0, .int .i64 9]) (by simp [results, Try.results32, go_sem, e0, e1, e2, e3, e4, e5, e6]) rfl (by rw [HE.out]; exact res_zero rfl HB7.out (by omega))
                | false =>
                  have HE2 : Hid (p.putP x = if apf (p.at p.ld.toNat).l (p.at p.ld.toNat).y (p.ent x) ≠ 0 then (Prt.zero, 0, apf (p.at p.ld.toNat).l (p.at p.ld.toNat).y (p.ent x)) else (p.setR p.ld.toNat (fun r => { r with l := r.l ++ (p.ent x).enc }), ((p.at p.ld.toNat).es.length : Int), 0)) := show _ = _ by rw [HE1.out, if_neg (by simp at hfw; omega)]
                  clear HE1
                  obtain ⟨g, off, rfl, -, y0, y1, y2, y3, y4⟩ := HR7.out.2.2.cells p.ld.toNat hd
                  obtain ⟨au, cu, eu⟩ : ∃ au cu, us p.ld.toNat = .slice au (p.at p.ld.toNat).l.length cu := by obtain ⟨_, au, cu, e, _⟩ := y0; exact ⟨au, cu, e⟩
                  rw [eu] at y2
                  have HU0 : Hid (∀ W, Below w7.heap.size w7 W → Rd W (.slice au (p.at p.ld.toNat).l.length cu) (p.at p.ld.toNat).l) := fun W hW => by rw [← eu]; exact y0.below (Nat.le_refl _) hW
                  have hgl : g < w7.heap.size := cell_lt y4
                  have HLN : Hid ((p.at p.ld.toNat).l.length ≤ 140737488355328) := show _ ≤ _ by have := may_len HM.out hd; omega
                  clear y0 y1 y4 eu
                  by_cases hap : apf (p.at p.ld.toNat).l (p.at p.ld.toNat).y (p.ent x) = 0
                  rotate_left
                  · have HE : Hid (p.putP x = (Prt.zero, 0, apf (p.at p.ld.toNat).l (p.at p.ld.toNat).y (p.ent x))) := show _ = _ by rw [HE2.out, if_pos hap]
                    have HAP : Hid (apf (p.at p.ld.toNat).l (p.at p.ld.toNat).y (p.ent x) ≠ 0) := show _ ≠ _ from hap
                    clear hap HE2
                    generalize hEV : apf (p.at p.ld.toNat).l (p.at p.ld.toNat).y (p.ent x) = ev at *
                    have HEV : Hid (apf (p.at p.ld.toNat).l (p.at p.ld.toNat).y (p.ent x) = ev) := hEV
                    clear hEV
                    go_wp2
                    go_cut [9] (fun v W => v = .int .i64 ev ∧ Below w7.heap.size w7 W)
                    case first =>
                      go_region_held3 (fun W => W.cell? ⟨w.heap.size, 1, none⟩ = some (.int .i64 p.ld) ∧ W.cell? ⟨w.heap.size, 4, none⟩ = some (.slice (some ⟨g, off, none⟩) p.rs.length cr) ∧ W.cell? ⟨g, off + p.ld.toNat * 4 + 1, none⟩ = some (.slice au (p.at p.ld.toNat).l.length cu) ∧ W.cell? ⟨g, off + p.ld.toNat * 4 + 2, none⟩ = some (.int .i64 (p.at p.ld.toNat).y) ∧ W.cell? ⟨w.heap.size + 1, 0, none⟩ = some (.int .i64 (p.ent x).a) ∧ W.cell? ⟨w.heap.size + 1, 1, none⟩ = some (.int .i64 (p.ent x).b) ∧ W.cell? ⟨w.heap.size + 1, 2, none⟩ = some (.int .i64 (p.ent x).c) ∧ W.cell? ⟨w.heap.size + 1, 3, none⟩ = some (.int .i64 (p.ent x).d) ∧ W.cell? ⟨w.heap.size + 1, 4, none⟩ = some (.int .i64 (p.ent x).k) ∧ W.cell? ⟨w.heap.size + 1, 5, none⟩ = some (.bool (p.ent x).t) ∧ W.cell? ⟨w.heap.size + 1, 6, none⟩ = some (.string (p.ent x).s)) (first | exact ⟨by assumption, by assumption, by assumption, by assumption, by assumption, by assumption, by assumption, by assumption, by assumption, by assumption, by assumption⟩ | (refine ⟨?_, ?_, ?_, ?_, ?_, ?_, ?_, ?_, ?_, ?_, ?_⟩ <;> (rw [cell_far (by omega), cell_far (by omega)]; assumption)) | go_keep) (first | (go_at_call 81; refine (appendedOf_bad (p.at p.ld.toNat).l _ (p.at p.ld.toNat).y (p.ent x) _ HLN.out (HU0.out _ (by repeat (first | exact Below.refl _ _ | refine Below.drew ?_ | refine Below.alloc ?_ (by simp) _))) (by rw [HEV.out]; exact HAP.out)).mono ?_; rintro e w8 ⟨rfl, hb8⟩; have hB8 : Below w7.heap.size w7 w8 := Below.trans (by repeat (first | exact Below.refl _ _ | refine Below.drew ?_ | refine Below.alloc ?_ (by simp) _)) (hb8.mono (by simp)); obtain ⟨-, ⟨c0, c1, c2, c3, c4, c5, c6⟩, -⟩ := PB.below HP7.out HP7.out.1 hB8; obtain ⟨⟨-, v0, v1, v2, v3, v4, v5, v6⟩, -⟩ := XB.below HX7.out hB8; have u2 := (hB8.cell (p := ⟨g, off + p.ld.toNat * 4 + 1, none⟩) hgl).trans y2; have u3 := (hB8.cell (p := ⟨g, off + p.ld.toNat * 4 + 2, none⟩) hgl).trans y3; obtain ⟨hcc, hff⟩ := bcell hb8; have p0 := hcc w7.heap.size 0; have p1 := hcc w7.heap.size 1; have p2 := hff w7.heap.size; (try simp at p0); (try simp at p1); (try simp at p2); clear hcc hff; rw [HEV.out]))
                      all_goals
                        have HXB : Hid (Below w7.heap.size w7 w8) := hB8
                        clear c0 c1 c2 c3 c4 c5 c6 v0 v1 v2 v3 v4 v5 v6 u2 u3 hB8 hb8
                        go_wp2_with fail
                        go_meet
                      all_goals
                        exact ⟨rfl, (by first | exact HXB.out.alloc HXB.out.size _ | exact (HXB.out.setCell (p := ⟨w7.heap.size, 0, none⟩) (Nat.le_refl _) _).setCell (p := ⟨w7.heap.size, 1, none⟩) (Nat.le_refl _) _)⟩
                    case rest =>
                      have hv := hcut.1
                      subst hv
                      have hb := hcut.2
                      have HB8 : Hid (Below w.heap.size w wc) := HB7.out.trans (hb.mono HB7.out.size)
                      have HZ8 : Hid _ := (HT7.out.below hb).r
                      clear z1 e0 e1 e2 e3 e4 e5 e6 g1 s1 b0 b1 b2 b3 b4 b5 b6 f1 h9 x0 x1 x2 x3 x4 x5 x6 x7 o0 o1 o2 o3 o4 o5 o6 o7 o8
                      clear hb hcut HB7 HP7 HX7 HR7 y2 y3
                      obtain ⟨z1, ⟨e0, e1, e2, e3, e4, e5, e6⟩, g1⟩ := HZ8.out
                      have d9 : (ev != 0) = true := by have := HAP.out; simpa using this
                      go_at_K
                      go_wp2
                      exact bodyPost_ret (v := .tuple #[.agg #[.int .i64 0, .int .i64 0, nilV, nilV, nilV, .int .i64 0, .int .i64 0], .int .i64 0, .int .i64 ev]) (by simp [results, Try.results32, go_sem, e0, e1, e2, e3, e4, e5, e6]) rfl (by rw [HE.out]; exact res_zero rfl HB8.out (by omega))
                  · have HNLE : Hid (∃ NL, (p.at p.ld.toNat).l ++ (p.ent x).enc = NL) := ⟨_, rfl⟩
                    obtain ⟨NL, hNL⟩ := HNLE.out
                    have HNL : Hid ((p.at p.ld.toNat).l ++ (p.ent x).enc = NL) := hNL
                    have HE : Hid (p.putP x = (p.setR p.ld.toNat (fun r => { r with l := r.l ++ (p.ent x).enc }), ((p.at p.ld.toNat).es.length : Int), 0)) := show _ = _ by rw [HE2.out, if_neg (by simp [hap])]
                    have HAP : Hid (apf (p.at p.ld.toNat).l (p.at p.ld.toNat).y (p.ent x) = 0) := show _ = _ from hap
                    clear hap HE2 hNL HNLE
                    go_wp2
                    go_cut [9, 13] (fun v12 v13 W => v12 = .int .i64 0 ∧ ∃ lb av cv, v13 = .pointer (some ⟨lb, 0, none⟩) ∧ LBox W lb (.slice av NL.length cv) (p.at p.ld.toNat).y ∧ Own w7.heap.size (.slice av NL.length cv) NL W ∧ Below w7.heap.size w7 W ∧ w7.heap.size ≤ lb)
                    case first =>
                      go_region_held3 (fun W => W.cell? ⟨w.heap.size, 1, none⟩ = some (.int .i64 p.ld) ∧ W.cell? ⟨w.heap.size, 4, none⟩ = some (.slice (some ⟨g, off, none⟩) p.rs.length cr) ∧ W.cell? ⟨g, off + p.ld.toNat * 4 + 1, none⟩ = some (.slice au (p.at p.ld.toNat).l.length cu) ∧ W.cell? ⟨g, off + p.ld.toNat * 4 + 2, none⟩ = some (.int .i64 (p.at p.ld.toNat).y) ∧ W.cell? ⟨w.heap.size + 1, 0, none⟩ = some (.int .i64 (p.ent x).a) ∧ W.cell? ⟨w.heap.size + 1, 1, none⟩ = some (.int .i64 (p.ent x).b) ∧ W.cell? ⟨w.heap.size + 1, 2, none⟩ = some (.int .i64 (p.ent x).c) ∧ W.cell? ⟨w.heap.size + 1, 3, none⟩ = some (.int .i64 (p.ent x).d) ∧ W.cell? ⟨w.heap.size + 1, 4, none⟩ = some (.int .i64 (p.ent x).k) ∧ W.cell? ⟨w.heap.size + 1, 5, none⟩ = some (.bool (p.ent x).t) ∧ W.cell? ⟨w.heap.size + 1, 6, none⟩ = some (.string (p.ent x).s)) (first | exact ⟨by assumption, by assumption, by assumption, by assumption, by assumption, by assumption, by assumption, by assumption, by assumption, by assumption, by assumption⟩ | (refine ⟨?_, ?_, ?_, ?_, ?_, ?_, ?_, ?_, ?_, ?_, ?_⟩ <;> (rw [cell_far (by omega), cell_far (by omega)]; assumption)) | go_keep) (first | (go_at_call 81; refine (appendedOf_ok (p.at p.ld.toNat).l _ (p.at p.ld.toNat).y (p.ent x) _ HLN.out (HU0.out _ (by repeat (first | exact Below.refl _ _ | refine Below.drew ?_ | refine Below.alloc ?_ (by simp) _))) HAP.out).mono ?_; rintro e w8 ⟨av, cv, rfl, hov, hb8⟩; have hB8 : Below w7.heap.size w7 w8 := Below.trans (by repeat (first | exact Below.refl _ _ | refine Below.drew ?_ | refine Below.alloc ?_ (by simp) _)) (hb8.mono (by simp)); obtain ⟨-, ⟨c0, c1, c2, c3, c4, c5, c6⟩, -⟩ := PB.below HP7.out HP7.out.1 hB8; obtain ⟨⟨-, v0, v1, v2, v3, v4, v5, v6⟩, -⟩ := XB.below HX7.out hB8; have u2 := (hB8.cell (p := ⟨g, off + p.ld.toNat * 4 + 1, none⟩) hgl).trans y2; have u3 := (hB8.cell (p := ⟨g, off + p.ld.toNat * 4 + 2, none⟩) hgl).trans y3; obtain ⟨hcc, hff⟩ := bcell hb8; have p0 := hcc w7.heap.size 0; have p1 := hcc w7.heap.size 1; have p2 := hff w7.heap.size; (try simp at p0); (try simp at p1); (try simp at p2); clear hcc hff; rw [HNL.out] at hov ⊢))
                      all_goals
                        have HXB : Hid (Below w7.heap.size w7 w8) := hB8
                        have HOV : Hid _ := hov
                        have hsz7 := hB8.size
                        have hsz8 := hb8.size
                        (try simp only [World.size_alloc] at hsz8)
                        clear c0 c1 c2 c3 c4 c5 c6 v0 v1 v2 v3 v4 v5 v6 u2 u3 hB8 hb8 hov
                        go_wp2_with fail
                        go_meet
                      all_goals
                        first
                        | exact ⟨rfl, w8.heap.size, av, cv, rfl, lbox_new _ _ _ _, Own.alloc (Own.mono HOV.out (C := w7.heap.size) (by simp)) _, HXB.out.alloc HXB.out.size _, hsz7⟩
                        | exact ⟨rfl, w7.heap.size, av, cv, rfl, ⟨by have h1 : w7.heap.size + 1 ≤ w8.heap.size := (by simpa using hsz8); simp; omega, by simp [go_sem, p0, p1], by simp [go_sem, p0, p1], fun o => by simp [go_sem, p2]⟩, ((Own.setCell HOV.out (b := w7.heap.size) (by simp) 0 _).setCell (b := w7.heap.size) (by simp) 1 _).mono (by simp), (HXB.out.setCell (p := ⟨w7.heap.size, 0, none⟩) (Nat.le_refl _) _).setCell (p := ⟨w7.heap.size, 1, none⟩) (Nat.le_refl _) _, Nat.le_refl _⟩
                    case rest =>
                      rename World => w8
                      have hv := hcut.1
                      subst hv
                      obtain ⟨lb, av, cv, hp13, hlb, hov, hb, hge⟩ := hcut.2
                      subst hp13
                      have HT8 : Hid (Sd w1.heap.size w2.heap.size (w.heap.size + 1 + 1) w p gi gk gr di dk dr p.isr.length p.kn.length p.rs.length us' w8) := HT7.out.below hb
                      have HP8 : Hid _ := PB.below HP7.out HP7.out.1 hb
                      have HT9 : Hid _ := (HT8.out.setB p.ld.toNat hd (.slice av NL.length cv) NL hov.rd (HT7.out.fresh hov)).setY p.ld.toNat hd (p.at p.ld.toNat).y
                      have HEQ : Hid ((p.setR p.ld.toNat (fun r => { r with l := NL })).setR p.ld.toNat (fun r => { r with y := (p.at p.ld.toNat).y }) = p.setR p.ld.toNat (fun r => { r with l := r.l ++ (p.ent x).enc })) := show _ = _ by
                        rw [setR_setR]
                        exact setR_congr hd (by rw [← HNL.out])
                      have n1 := HT7.out.o.2.sr
                      have n2 := HT7.out.o.2.br
                      have n3 := HT7.out.p.1
                      clear z1 e0 e1 e2 e3 e4 e5 e6 g1 s1 b0 b1 b2 b3 b4 b5 b6 f1 h9 x0 x1 x2 x3 x4 x5 x6 x7 o0 o1 o2 o3 o4 o5 o6 o7 o8
                      clear y2 y3 HU0 HAP HB7
                      obtain ⟨s1, ⟨b0, b1, b2, b3, b4, b5, b6⟩, f1⟩ := HP8.out
                      obtain ⟨z1, ⟨e0, e1, e2, e3, e4, e5, e6⟩, g1⟩ := HT8.out.r
                      obtain ⟨o1, ⟨o0, o2, o3, o4, o5, o6, o7⟩, o8⟩ := HT8.out.p
                      obtain ⟨-, i1, i2, i3, i4, i9⟩ := HT8.out.cells p.ld.toNat hd
                      obtain ⟨k1, k2, k3, k4, k5, k6, -, -, -⟩ := HT8.out.apart
                      have k9 : ¬ gr = w2.heap.size := fun h => k3 h.symm
                      have j1 : w.heap.size ≠ gr := by omega
                      have j2 : ¬ gr = w.heap.size := fun h => j1 h.symm
                      have j3 : ¬ lb = gr := by omega
                      have j4 : ¬ gr = lb := fun h => j3 h.symm
                      obtain ⟨-, v4, v5, v6⟩ := hlb
                      have HR8 : Hid True := trivial
                      clear hov hb hcut n1 n2 n3
                      go_at_K
                      go_wp2
                      exact bodyPost_ret (v := .tuple #[.agg #[.int .i64 p.ep, .int .i64 p.ld, (.slice (some ⟨gi, 0, none⟩) p.isr.length di), (.slice (some ⟨gk, 0, none⟩) p.kn.length dk), (.slice (some ⟨gr, 0, none⟩) p.rs.length dr), .int .i64 p.fw, .int .i64 p.bs], .int .i64 (p.at p.ld.toNat).es.length, .int .i64 0]) (by simp [results, Try.results32, go_sem, e0, e1, e2, e3, e4, e5, e6]) rfl (by rw [HE.out, ← HEQ.out]; exact Sd.done (q := (p.setR p.ld.toNat (fun r => { r with l := NL })).setR p.ld.toNat (fun r => { r with y := (p.at p.ld.toNat).y })) HT9.out rfl)

end Go.Proofs.Ytkolelpdedmkeaa
