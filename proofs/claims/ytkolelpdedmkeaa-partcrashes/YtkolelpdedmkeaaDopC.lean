/-
  The walk of the document's CrashOf.
-/
import Derived.Test.YtkolelpdedmkeaaAsd
import Derived.Test.YtkolelpdedmkeaaPrefC
import Derived.Test.YtkolelpdedmkeaaPrefR
import Derived.Test.YtkolelpdedmkeaaPothers
import Derived.Test.YtkolelpdedmkeaaApopC
import Derived.Deep.RegionWith
import Derived.Deep.DeepCutAuto
namespace Go.Proofs.Ytkolelpdedmkeaa
open Go.RowKit
set_option linter.unusedVariables false
set_option linter.unusedSimpArgs false

theorem crashedOf_bad (l : List Int) (u : Value) (y k : Int) (w : World) (hl : l.length ≤ 140737488355328) (h : Rd w u l) (h0 : crf l y k ≠ 0) :
    Calls Try.prog 94 #[.agg #[u, .int .i64 y], .int .i64 k] w fun e w' => e = .returned (.tuple #[.agg #[.slice none 0 0, .int .i64 0], .int .i64 (crf l y k)]) ∧ Below w.heap.size w w' :=
  (crashedOf_any l u y k w hl h).mono fun e w' ⟨hb, h, _⟩ => ⟨h h0, hb⟩
theorem crashedOf_ok (l : List Int) (u : Value) (y k : Int) (w : World) (hl : l.length ≤ 140737488355328) (h : Rd w u l) (h0 : crf l y k = 0) (s : Nat) (NL : List Int) (hs : stayOf l y k = s) (hN : l.take s = NL) :
    Calls Try.prog 94 #[.agg #[u, .int .i64 y], .int .i64 k] w fun e w' => ∃ av cv, e = .returned (.tuple #[.agg #[.slice av NL.length cv, .int .i64 s], .int .i64 0]) ∧ Own w.heap.size (.slice av NL.length cv) NL w' ∧ Below w.heap.size w w' :=
  (crashedOf_any l u y k w hl h).mono fun e w' ⟨hb, _, h⟩ => by
    obtain ⟨v, h1, h2⟩ := h h0
    have e1 : (decL (List.take (leftOf l y k) l)).2 = s := hs
    rw [e1] at h1 h2
    rw [hN] at h2
    obtain ⟨av, cv, rfl⟩ := h2.shape
    exact ⟨av, cv, h1, h2, hb⟩

set_option maxRecDepth 100000 in
set_option maxHeartbeats 4000000 in
theorem crashOf_any (p : Prt) (r : Int) (k : Int) (vi vk vr : Value) (us : Nat → Value) (w : World) (h : RdP w p vi vk vr us) (hs : p.small) :
    Calls Try.prog 38 #[.agg #[.int .i64 p.ep, .int .i64 p.ld, vi, vk, vr, .int .i64 p.fw, .int .i64 p.bs], .int .i64 r, .int .i64 k] w fun e w' => Res w (p.crashP r k).1 [.int .i64 (p.crashP r k).2] e w' := by
  have HRW : Hid (RdP w p vi vk vr us) := h
  have HS : Hid p.small := hs
  obtain ⟨ai, ci, ak, ck, ar, cr, rfl, rfl, rfl, l1, l2, l3⟩ := h.lens
  clear h hs
  go_enter Try.func38, Try.ntmps38
  go_wp2_with fail
  have B0 : Below w.heap.size w ((w.alloc (.cells #[.int .i64 p.ep, .int .i64 p.ld, .slice ai p.isr.length ci, .slice ak p.kn.length ck, .slice ar p.rs.length cr, .int .i64 p.fw, .int .i64 p.bs] 26)).alloc (.cells #[.int .i64 0, .int .i64 0, .slice none 0 0, .slice none 0 0, .slice none 0 0, .int .i64 0, .int .i64 0] 26)) := bstep (bbox _ _) (bbox _ _)
  have P0 : PB ((w.alloc (.cells #[.int .i64 p.ep, .int .i64 p.ld, .slice ai p.isr.length ci, .slice ak p.kn.length ck, .slice ar p.rs.length cr, .int .i64 p.fw, .int .i64 p.bs] 26)).alloc (.cells #[.int .i64 0, .int .i64 0, .slice none 0 0, .slice none 0 0, .slice none 0 0, .int .i64 0, .int .i64 0] 26)) w.heap.size p _ _ _ := (pb_new w p (.slice ai p.isr.length ci) (.slice ak p.kn.length ck) (.slice ar p.rs.length cr) 26 w.heap.size rfl).below (C := w.heap.size + 1) (by omega) ((Below.refl _ _).alloc (by simp) (.cells #[.int .i64 0, .int .i64 0, .slice none 0 0, .slice none 0 0, .slice none 0 0, .int .i64 0, .int .i64 0] 26))
  have Z0 : PB ((w.alloc (.cells #[.int .i64 p.ep, .int .i64 p.ld, .slice ai p.isr.length ci, .slice ak p.kn.length ck, .slice ar p.rs.length cr, .int .i64 p.fw, .int .i64 p.bs] 26)).alloc (.cells #[.int .i64 0, .int .i64 0, .slice none 0 0, .slice none 0 0, .slice none 0 0, .int .i64 0, .int .i64 0] 26)) (w.heap.size + 1) Prt.zero nilV nilV nilV := pb_new _ Prt.zero nilV nilV nilV 26 (w.heap.size + 1) (by simp)
  generalize (w.alloc (.cells #[.int .i64 p.ep, .int .i64 p.ld, .slice ai p.isr.length ci, .slice ak p.kn.length ck, .slice ar p.rs.length cr, .int .i64 p.fw, .int .i64 p.bs] 26)).alloc (.cells #[.int .i64 0, .int .i64 0, .slice none 0 0, .slice none 0 0, .slice none 0 0, .int .i64 0, .int .i64 0] 26) = W0 at *
  refine (partFault_any p r _ _ _ us _ (RdP.below HRW.out (Nat.le_refl _) B0) HS.out).mono ?_
  rintro e w1 ⟨rfl, hb⟩
  have HB1 : Hid (Below w.heap.size w w1) := B0.trans (hb.mono B0.size)
  have HP1 : Hid (PB w1 w.heap.size p (.slice ai p.isr.length ci) (.slice ak p.kn.length ck) (.slice ar p.rs.length cr)) := P0.below P0.1 hb
  have HZ1 : Hid (PB w1 (w.heap.size + 1) Prt.zero nilV nilV nilV) := Z0.below Z0.1 hb
  have HR1 : Hid (RdP w1 p (.slice ai p.isr.length ci) (.slice ak p.kn.length ck) (.slice ar p.rs.length cr) us) := RdP.below HRW.out (Nat.le_refl _) HB1.out
  clear hb B0 P0 Z0
  obtain ⟨s1, ⟨b0, b1, b2, b3, b4, b5, b6⟩, f1⟩ := HP1.out
  obtain ⟨z1, ⟨e0, e1, e2, e3, e4, e5, e6⟩, g1⟩ := HZ1.out
  by_cases c0 : p.flt r = 0
  rotate_left
  · have d0 : (p.flt r != 0) = true := by simp [c0]
    have d1 : (p.flt r == 0) = false := by simp [c0]
    have HE : Hid (p.crashP r k = (Prt.zero, p.flt r)) := show _ = _ by unfold Prt.crashP; rw [if_pos c0]
    clear c0
    go_wp2
    exact bodyPost_ret (v := .tuple #[.agg #[.int .i64 0, .int .i64 0, nilV, nilV, nilV, .int .i64 0, .int .i64 0], .int .i64 (p.flt r)]) (by simp [results, Try.results38, go_sem, e0, e1, e2, e3, e4, e5, e6]) rfl (by rw [HE.out]; exact res_zero rfl HB1.out (by omega))
  obtain ⟨m, r0, r1⟩ := flt_zero c0
  rw [c0]
  have H0 : Hid (p.flt r = 0) := c0
  clear c0
  obtain ⟨n, rfl⟩ := Int.eq_ofNat_of_zero_le r0
  have hn : n < p.rs.length := by omega
  have HM : Hid (May p) := m
  have hni : n < p.isr.length := by rw [m.li]; exact hn
  have hnk : n < p.kn.length := by rw [m.lk]; exact hn
  have hn' : (n : Int) < p.rs.length := by omega
  have hni' : (n : Int) < p.isr.length := by omega
  have hnk' : (n : Int) < p.kn.length := by omega
  obtain ⟨g, off, rfl, -, q0, q1, q2, q3, q4⟩ := HR1.out.2.2.cells n hn
  obtain ⟨hgi, hoi, rfl, m0⟩ := RdP.isrAt HR1.out.1 n hni
  obtain ⟨hgk, hok, rfl, m1⟩ := RdP.knAt HR1.out.2.1 n hnk
  have HQ0 : Hid _ := q0
  clear q0 m r0 r1
  have HL0 : Hid (lft (p.at n).l (p.at n).y = 0) := show _ = _ from (HM.out.ok n hn).1
  have HLN : Hid ((p.at n).l.length ≤ 140737488355328) := show _ ≤ _ by have := may_len HM.out hn; omega
  have HL4 : Hid ((p.at n).l.length ≤ 40000) := show _ ≤ _ from may_len HM.out hn
  have HBY : Hid (Bytes (p.at n).l) := HQ0.out.1
  obtain ⟨au, cu, eu⟩ : ∃ au cu, us n = .slice au (p.at n).l.length cu := by obtain ⟨_, au, cu, e, _⟩ := HQ0.out; exact ⟨au, cu, e⟩
  rw [eu] at q2
  have HU0 : Hid (Rd w1 (.slice au (p.at n).l.length cu) (p.at n).l) := show Rd _ _ _ by rw [← eu]; exact HQ0.out
  clear eu HQ0
  have HE0 : Hid (p.crashP n k = if (p.at n).up = false then (Prt.zero, 7) else if crf (p.at n).l (p.at n).y k ≠ 0 then (Prt.zero, crf (p.at n).l (p.at n).y k) else ({ p.setR n (fun x => ⟨false, x.l.take (stayOf x.l x.y k), stayOf x.l x.y k, min x.h (decL (x.l.take (stayOf x.l x.y k))).1.length⟩) with kn := p.kn.set n 0, ld := if p.ld = n then -1 else p.ld }, 0)) := show _ = _ by unfold Prt.crashP; rw [if_neg (by simp [H0.out]), Int.toNat_natCast]; rfl
  generalize hbu : (p.at n).up = bu at *
  clear hbu
  cases bu with
  | false =>
    have HE : Hid (p.crashP n k = (Prt.zero, 7)) := show _ = _ by rw [HE0.out]; simp
    go_wp2
    exact bodyPost_ret (v := .tuple #[.agg #[.int .i64 0, .int .i64 0, nilV, nilV, nilV, .int .i64 0, .int .i64 0], .int .i64 7]) (by simp [results, Try.results38, go_sem, e0, e1, e2, e3, e4, e5, e6]) rfl (by rw [HE.out]; exact res_zero rfl HB1.out (by omega))
  | true =>
    by_cases hcr : crf (p.at n).l (p.at n).y k = 0
    rotate_left
    · have HE : Hid (p.crashP n k = (Prt.zero, crf (p.at n).l (p.at n).y k)) := show _ = _ by rw [HE0.out]; simp [hcr]
      have d0 : (crf (p.at n).l (p.at n).y k != 0) = true := by simp [hcr]
      go_wp2_with fail
      refine (crashedOf_bad (p.at n).l _ (p.at n).y k _ HLN.out HU0.out hcr).mono ?_
      rintro e wb ⟨rfl, hb⟩
      have HBz : Hid (Below w.heap.size w ((put7 wb (w.heap.size + 1) Prt.zero nilV nilV nilV).alloc (.cells #[.slice none 0 0, .int .i64 0] 61))) := (below_put (HB1.out.trans (hb.mono HB1.out.size)) (by omega) _ _ _ _).alloc (by rw [put7_size]; have h1 := HB1.out.size; have h2 := hb.size; omega) _
      have HZb : Hid _ := PB.below HZ1.out HZ1.out.1 hb
      clear s1 b0 b1 b2 b3 b4 b5 b6 f1 z1 e0 e1 e2 e3 e4 e5 e6 g1 hcr hb
      obtain ⟨z1, ⟨e0, e1, e2, e3, e4, e5, e6⟩, g1⟩ := HZb.out
      go_wp2
      exact bodyPost_ret (v := .tuple #[.agg #[.int .i64 0, .int .i64 0, nilV, nilV, nilV, .int .i64 0, .int .i64 0], .int .i64 (crf (p.at n).l (p.at n).y k)]) (by simp [results, Try.results38, go_sem, e0, e1, e2, e3, e4, e5, e6, z1]) rfl (by rw [HE.out]; exact ⟨nilV, nilV, nilV, fun _ => nilV, rfl, nil_rdp _, HBz.out⟩)
    · have hk0 : 0 ≤ k := crf_zero hcr HL0.out
      have HEK : Hid (p.crashP n k = ({ p.setR n (fun x => ⟨false, x.l.take (stayOf x.l x.y k), stayOf x.l x.y k, min x.h (decL (x.l.take (stayOf x.l x.y k))).1.length⟩) with kn := p.kn.set n 0, ld := if p.ld = n then -1 else p.ld }, 0)) := show _ = _ by rw [HE0.out]; simp [hcr]
      obtain ⟨s, hs⟩ : ∃ s, stayOf (p.at n).l (p.at n).y k = s := ⟨_, rfl⟩
      obtain ⟨NL, hNL⟩ : ∃ NL, (p.at n).l.take s = NL := ⟨_, rfl⟩
      have HNL4 : Hid (NL.length ≤ 1099511627775) := show _ ≤ _ by have := HL4.out; rw [← hNL, List.length_take]; omega
      have HQF0 : Hid (p.setR n (fun x => ⟨false, x.l.take (stayOf x.l x.y k), stayOf x.l x.y k, min x.h (decL (x.l.take (stayOf x.l x.y k))).1.length⟩) = p.setR n (fun x => ⟨false, NL, s, min x.h (decL NL).1.length⟩)) := setR_congr hn (by rw [hs, hNL])
      have HCC : Hid (∀ W, Rd W (.slice au (p.at n).l.length cu) (p.at n).l → Calls Try.prog 94 #[.agg #[.slice au (p.at n).l.length cu, .int .i64 (p.at n).y], .int .i64 k] W fun e w' => ∃ av cv, e = .returned (.tuple #[.agg #[.slice av NL.length cv, .int .i64 s], .int .i64 0]) ∧ Own W.heap.size (.slice av NL.length cv) NL w' ∧ Below W.heap.size W w') := fun W hW => crashedOf_ok (p.at n).l _ (p.at n).y k _ HLN.out hW hcr s NL hs hNL
      clear hs hNL hcr HE0
      go_wp2_with fail
      refine (HCC.out _ HU0.out).mono ?_
      rintro e wb ⟨av, cv, rfl, hov, hb⟩
      have HOV : Hid (Own w1.heap.size (.slice av NL.length cv) NL wb) := hov
      have HBb : Hid (Below w1.heap.size w1 wb) := hb
      have HBc : Hid (Below wb.heap.size wb (wb.alloc (.cells #[.slice av NL.length cv, .int .i64 s] 61))) := (by repeat (first | exact Below.refl _ _ | refine Below.setCell ?_ (Nat.le_refl _) _ | refine Below.drew ?_ | refine Below.alloc ?_ (Nat.le_refl _) _))
      have HLG : Hid (LBox (wb.alloc (.cells #[.slice av NL.length cv, .int .i64 s] 61)) wb.heap.size (.slice av NL.length cv) s) := lbox_new wb _ s _
      clear hov hb HCC HU0 q1 q2 q3 q4 m0 m1
      clear s1 b0 b1 b2 b3 b4 b5 b6 f1 z1 e0 e1 e2 e3 e4 e5 e6 g1
      obtain ⟨s1, ⟨b0, b1, b2, b3, b4, b5, b6⟩, f1⟩ := PB.below HP1.out HP1.out.1 HBb.out
      have hwb : w.heap.size < wb.heap.size := s1
      go_wp2_with fail
      clear s1 b0 b1 b2 b3 b4 b5 b6 f1
      have HBB : Hid (Below w1.heap.size w1 _) := bstep HBb.out HBc.out
      have HLW : Hid (w1.heap.size ≤ wb.heap.size) := HBb.out.size
      generalize wb.alloc (.cells #[.slice av NL.length cv, .int .i64 s] 61) = w1c at *
      refine (partCopy_any p _ _ _ us _ (RdP.below HR1.out (Nat.le_refl _) HBB.out) (may_fits HM.out)).mono ?_
      rintro e w2 ⟨xi, xk, xr, us', rfl, hfr0, hb2⟩
      have HOV2 : Hid (Own w1.heap.size (.slice av NL.length cv) NL w2) := (Own.below (Own.below HOV.out (Nat.le_refl _) HBc.out) (Nat.le_refl _) hb2)
      have HBW2 : Hid (Below w1.heap.size w1 w2) := bstep HBB.out hb2
      obtain ⟨gi, gk, gr, di, dk, dr, rfl, rfl, rfl, hsn⟩ := sn_start HB1.out HZ1.out (by omega) (hfr0.mono (C := w1.heap.size) HBB.out.size) HBW2.out (by omega) (by omega) (by omega)
      have HT2 : Hid (Sn w1.heap.size (w.heap.size + 1) w (p) gi gk gr di dk dr p.isr.length p.kn.length p.rs.length us' w2) := hsn
      have hG := hfr0.oi.blk gi rfl
      have hG2 := hfr0.ok.blk gk rfl
      have hG3 := hfr0.or.blk gr rfl
      have hLB := HLG.out.1
      have HLG2 : Hid (LBox w2 wb.heap.size (.slice av NL.length cv) s) := LBox.below HLG.out hb2
      have HKV : Hid (∀ k, (Value.slice av NL.length cv).ownBlock = some k → w1.heap.size ≤ k ∧ k < w2.heap.size ∧ k ≠ gi ∧ k ≠ gk ∧ k ≠ gr) := fun k hk => by
        have h1 := (HOV.out.blk k hk)
        have h2 := HBc.out.size
        have h3 := hb2.size
        exact ⟨h1.1, by omega, by omega, by omega, by omega⟩
      have HQE : Hid (∃ q4 us4, Sd w1.heap.size w2.heap.size (w.heap.size + 1) w (q4) gi gk gr di dk dr p.isr.length p.kn.length p.rs.length us4 ((((w2.setCell ⟨gr, n * 4 + 1, none⟩ (.slice av NL.length cv)).setCell ⟨gr, n * 4 + 2, none⟩ (.int .i64 s)).setCell ⟨gr, n * 4, none⟩ (.bool false)).alloc (.cells #[.int .i64 p.ep, .int .i64 p.ld, (.slice (some ⟨gi, 0, none⟩) p.isr.length di), (.slice (some ⟨gk, 0, none⟩) p.kn.length dk), (.slice (some ⟨gr, 0, none⟩) p.rs.length dr), .int .i64 p.fw, .int .i64 p.bs] 26)) ∧ q4 = p.setR n (fun x => ⟨false, NL, s, x.h⟩)) := ⟨_, _, (((HT2.out.setB n hn (.slice av NL.length cv) NL HOV2.out.rd HKV.out).setY n hn s).setUp n hn false).layAt 26 w2.heap.size (by simp), show _ = _ by rw [setR_setR, setR_setR]⟩
      have HBW4 : Hid (Below w1.heap.size w1 ((((w2.setCell ⟨gr, n * 4 + 1, none⟩ (.slice av NL.length cv)).setCell ⟨gr, n * 4 + 2, none⟩ (.int .i64 s)).setCell ⟨gr, n * 4, none⟩ (.bool false)).alloc (.cells #[.int .i64 p.ep, .int .i64 p.ld, (.slice (some ⟨gi, 0, none⟩) p.isr.length di), (.slice (some ⟨gk, 0, none⟩) p.kn.length dk), (.slice (some ⟨gr, 0, none⟩) p.rs.length dr), .int .i64 p.fw, .int .i64 p.bs] 26))) := (((HBW2.out.setCell (p := ⟨gr, n * 4 + 1, none⟩) HT2.out.o.2.br _).setCell (p := ⟨gr, n * 4 + 2, none⟩) HT2.out.o.2.br _).setCell (p := ⟨gr, n * 4, none⟩) HT2.out.o.2.br _).alloc (by have := HBW2.out.size; simpa using this) _
      have v1 : ¬ wb.heap.size = gr := by omega
      have v2 : ¬ gr = wb.heap.size := by omega
      have v7 : wb.heap.size < w2.heap.size := by have := hb2.size; omega
      obtain ⟨-, v4, v5, v6⟩ := HLG2.out
      obtain ⟨s1, ⟨b0, b1, b2, b3, b4, b5, b6⟩, f1⟩ := PB.below HP1.out HP1.out.1 HBW2.out
      obtain ⟨-, i1, i2, i3, i4, i9⟩ := HT2.out.cells n hn
      obtain ⟨i6, i8⟩ := HT2.out.kn n hnk
      obtain ⟨i5, i7⟩ := HT2.out.isr n hni
      obtain ⟨k4, k5, k6, y1, y2, y3⟩ := HT2.out.apart
      have x1 := HT2.out.o.2.si
      have x2 := HT2.out.o.2.sk
      have x3 := HT2.out.o.2.sr
      have t1 : gi ≠ gk := HT2.out.o.2.ik
      have t2 : gi ≠ gr := HT2.out.o.2.ir
      have t3 : gk ≠ gr := HT2.out.o.2.kr
      obtain ⟨z1, ⟨e0, e1, e2, e3, e4, e5, e6⟩, g1⟩ := HT2.out.r
      clear hb2 hfr0 hsn hG hG2 hG3
      go_wp2
      clear t1 t2 t3 i1 i2 i3 i4 i5 i6 i7 i8 i9 k4 k5 k6 y1 y2 y3 x1 x2 x3 z1 e0 e1 e2 e3 e4 e5 e6 g1 s1 b0 b1 b2 b3 b4 b5 b6 f1
      clear v1 v2 v4 v5 v6 v7
      generalize (((w2.setCell ⟨gr, n * 4 + 1, none⟩ (.slice av NL.length cv)).setCell ⟨gr, n * 4 + 2, none⟩ (.int .i64 s)).setCell ⟨gr, n * 4, none⟩ (.bool false)).alloc (.cells #[.int .i64 p.ep, .int .i64 p.ld, (.slice (some ⟨gi, 0, none⟩) p.isr.length di), (.slice (some ⟨gk, 0, none⟩) p.kn.length dk), (.slice (some ⟨gr, 0, none⟩) p.rs.length dr), .int .i64 p.fw, .int .i64 p.bs] 26) = W4 at *
      obtain ⟨q4, us4, ht4, hq4⟩ := HQE.out
      have HT4 : Hid (Sd w1.heap.size w2.heap.size (w.heap.size + 1) w (q4) gi gk gr di dk dr p.isr.length p.kn.length p.rs.length us4 W4) := ht4
      have HQ4 : Hid (q4 = p.setR n (fun x => ⟨false, NL, s, x.h⟩)) := hq4
      have HA4 : Hid (q4.at n = ⟨false, NL, s, (p.at n).h⟩) := show _ = _ by rw [hq4, setR_at _ _ _ hn]
      have HI4 : Hid (q4.ep = p.ep ∧ q4.ld = p.ld ∧ q4.fw = p.fw ∧ q4.bs = p.bs ∧ q4.kn = p.kn) := show _ ∧ _ ∧ _ ∧ _ ∧ _ by rw [hq4]; exact ⟨rfl, rfl, rfl, rfl, rfl⟩
      have HES : Hid ((q4.at n).es.length = (decL NL).1.length) := show _ = _ by rw [HA4.out]; rfl
      have HLQ : Hid ((q4.at n).l.length ≤ 1099511627775) := show _ ≤ _ by rw [HA4.out]; exact HNL4.out
      have hnq : n < q4.rs.length := by rw [HT4.out.hlr]; exact hn
      have HL3 : Hid ((q4.rs.length : Int) ≤ 9223372036854775807) := show _ ≤ _ by rw [HT4.out.hlr]; exact l3
      clear ht4 hq4 HQE HT2
      obtain ⟨-, i1, i2, i3, i4, i9⟩ := HT4.out.cells n hn
      obtain ⟨i6, i8⟩ := HT4.out.kn n hnk
      obtain ⟨i5, i7⟩ := HT4.out.isr n hni
      obtain ⟨k1, k2, k3, k4, k5, k6, -, -, -⟩ := HT4.out.apart
      have k7 : ¬ gi = w2.heap.size := fun h => k1 h.symm
      have k8 : ¬ gk = w2.heap.size := fun h => k2 h.symm
      have k9 : ¬ gr = w2.heap.size := fun h => k3 h.symm
      have t1 : gi ≠ gk := HT4.out.o.2.ik
      have t2 : gi ≠ gr := HT4.out.o.2.ir
      have t3 : gk ≠ gr := HT4.out.o.2.kr
      have x1 := HT4.out.o.2.si
      have x2 := HT4.out.o.2.sk
      have x3 := HT4.out.o.2.sr
      have kb : w2.heap.size ≠ w.heap.size + 1 := HT4.out.bz
      obtain ⟨o1, ⟨o0, o2, o3, o4, o5, o6, o7⟩, o8⟩ := HT4.out.p
      obtain ⟨z1, ⟨e0, e1, e2, e3, e4, e5, e6⟩, g1⟩ := HT4.out.r
      rw [HA4.out] at i4
      simp only at i4
      have HRQ : Hid (∀ W, Below W4.heap.size W4 W → RdP W q4 (.slice (some ⟨gi, 0, none⟩) p.isr.length di) (.slice (some ⟨gk, 0, none⟩) p.kn.length dk) (.slice (some ⟨gr, 0, none⟩) p.rs.length dr) us4) := fun W hW => (HT4.out.o.rd' HT4.out.hli HT4.out.hlk HT4.out.hlr).below (Nat.le_refl _) hW
      generalize hLn : (decL NL).1.length = Ln at *
      clear hLn
      by_cases hmin : (Ln : Int) < (p.at n).h
      · have hd : decide ((p.at n).h > (Ln : Int)) = true := by simpa using hmin
        go_cut [67] (fun v W => v = .bool true ∧ Sd w1.heap.size w2.heap.size (w.heap.size + 1) w (q4) gi gk gr di dk dr p.isr.length p.kn.length p.rs.length us4 W ∧ Below w1.heap.size w1 W)
        case first =>
          go_region_with (go_at_call 68; refine (logOf_any q4 _ _ _ us4 n _ (HRQ.out _ (by repeat (first | exact Below.refl _ _ | refine Below.drew ?_))) HLQ.out hnq HL3.out).mono ?_; rintro e w6 ⟨v6, rfl, ho6, hb6⟩; have hB6 : Below W4.heap.size W4 w6 := bstep (by repeat (first | exact Below.refl _ _ | refine Below.drew ?_)) hb6; obtain ⟨m1, m2⟩ := bcell hB6; obtain ⟨av6, cv6, rfl⟩ := ho6.shape; rw [HES.out])
          all_goals
            have HX : Hid _ := HT4.out.below hB6
            have HXB : Hid _ := bstep HBW4.out hB6
            clear m1 m2 hB6 hb6 ho6
            go_wp2_with fail
            go_meet
          all_goals
            exact ⟨rfl, HX.out, HXB.out⟩
        case rest =>
          rename World => W5
          have HT6 : Hid (Sd w1.heap.size w2.heap.size (w.heap.size + 1) w (q4) gi gk gr di dk dr p.isr.length p.kn.length p.rs.length us4 W5) := hcut.2.1
          have HBW6 : Hid (Below w1.heap.size w1 W5) := hcut.2.2
          have hv67 := hcut.1
          subst hv67
          clear i1 i2 i3 i4 i5 i6 i7 i8 i9 k1 k2 k3 k4 k5 k6 k7 k8 k9 t1 t2 t3 x1 x2 x3 kb o0 o1 o2 o3 o4 o5 o6 o7 o8 z1 e0 e1 e2 e3 e4 e5 e6 g1
          clear hcut HT4 HBW4 HRQ hd
          obtain ⟨-, i1, i2, i3, i4, i9⟩ := HT6.out.cells n hn
          obtain ⟨i6, i8⟩ := HT6.out.kn n hnk
          obtain ⟨i5, i7⟩ := HT6.out.isr n hni
          obtain ⟨k1, k2, k3, k4, k5, k6, -, -, -⟩ := HT6.out.apart
          have k7 : ¬ gi = w2.heap.size := fun h => k1 h.symm
          have k8 : ¬ gk = w2.heap.size := fun h => k2 h.symm
          have k9 : ¬ gr = w2.heap.size := fun h => k3 h.symm
          have t1 : gi ≠ gk := HT6.out.o.2.ik
          have t2 : gi ≠ gr := HT6.out.o.2.ir
          have t3 : gk ≠ gr := HT6.out.o.2.kr
          have x1 := HT6.out.o.2.si
          have x2 := HT6.out.o.2.sk
          have x3 := HT6.out.o.2.sr
          have kb : w2.heap.size ≠ w.heap.size + 1 := HT6.out.bz
          obtain ⟨o1, ⟨o0, o2, o3, o4, o5, o6, o7⟩, o8⟩ := HT6.out.p
          obtain ⟨z1, ⟨e0, e1, e2, e3, e4, e5, e6⟩, g1⟩ := HT6.out.r
          rw [HA4.out] at i4
          simp only at i4
          have HRQ : Hid (∀ W, Below W5.heap.size W5 W → RdP W q4 (.slice (some ⟨gi, 0, none⟩) p.isr.length di) (.slice (some ⟨gk, 0, none⟩) p.kn.length dk) (.slice (some ⟨gr, 0, none⟩) p.rs.length dr) us4) := fun W hW => (HT6.out.o.rd' HT6.out.hli HT6.out.hlk HT6.out.hlr).below (Nat.le_refl _) hW
          go_at_K
          go_wp2
          go_cut [] (fun W => Sd w1.heap.size w2.heap.size (w.heap.size + 1) w (q4.setR n (fun r => { r with h := Ln })) gi gk gr di dk dr p.isr.length p.kn.length p.rs.length us4 W ∧ Below w1.heap.size w1 W)
          case first =>
            go_region_with (go_at_call 68; refine (logOf_any q4 _ _ _ us4 n _ (HRQ.out _ (by repeat (first | exact Below.refl _ _ | refine Below.drew ?_))) HLQ.out hnq HL3.out).mono ?_; rintro e w6 ⟨v6, rfl, ho6, hb6⟩; have hB6 : Below W5.heap.size W5 w6 := bstep (by repeat (first | exact Below.refl _ _ | refine Below.drew ?_)) hb6; obtain ⟨m1, m2⟩ := bcell hB6; obtain ⟨av6, cv6, rfl⟩ := ho6.shape; rw [HES.out])
            all_goals
              have HX : Hid _ := (HT6.out.below hB6).setH n hn Ln
              have HXB : Hid _ := (bstep HBW6.out hB6).setCell (p := ⟨gr, n * 4 + 3, none⟩) HT6.out.o.2.br (.int .i64 Ln)
              clear m1 m2 hB6 hb6 ho6
              go_wp2_with fail
              go_meet
            all_goals
              exact ⟨HX.out, HXB.out⟩
          case rest =>
            have HT7 : Hid (Sd w1.heap.size w2.heap.size (w.heap.size + 1) w (q4.setR n (fun r => { r with h := Ln })) gi gk gr di dk dr p.isr.length p.kn.length p.rs.length us4 wc) := hcut.1
            have HBW7 : Hid (Below w1.heap.size w1 wc) := hcut.2
            clear i1 i2 i3 i4 i5 i6 i7 i8 i9 k1 k2 k3 k4 k5 k6 k7 k8 k9 t1 t2 t3 x1 x2 x3 kb o0 o1 o2 o3 o4 o5 o6 o7 o8 z1 e0 e1 e2 e3 e4 e5 e6 g1
            clear hcut HT6 HBW6 HRQ
            obtain ⟨q5, hq5⟩ : ∃ q5, q5 = q4.setR n (fun r => { r with h := Ln }) := ⟨_, rfl⟩
            rw [← hq5] at HT7
            have HQF : Hid (p.crashP n k = ({ q5 with kn := q5.kn.set n 0, ld := if (p.ld == (n : Int)) = true then -1 else q5.ld }, 0)) := show _ = _ by
              have e1 : p.setR n (fun x => ⟨false, NL, s, min x.h Ln⟩) = q5 := by
                rw [hq5, HQ4.out, setR_setR]
                exact setR_congr hn (by simp only [Rep.mk.injEq, true_and]; omega)
              have e2 : q5.kn = p.kn := by rw [hq5]; exact HI4.out.2.2.2.2
              have e3 : q5.ld = p.ld := by rw [hq5]; exact HI4.out.2.1
              rw [HEK.out, HQF0.out, e1, e2, e3]
              simp only [beq_iff_eq]
            clear hq5
            go_at_K
            have HT8 : Hid (Sd w1.heap.size w2.heap.size (w.heap.size + 1) w ({ q5 with kn := q5.kn.set n 0 }) gi gk gr di dk dr p.isr.length p.kn.length p.rs.length us4 (wc.setCell ⟨gk, n, none⟩ (.int .i64 0))) := HT7.out.setKn n hnk 0
            have HT9 : Hid (Sd w1.heap.size w2.heap.size (w.heap.size + 1) w ({ q5 with kn := q5.kn.set n 0, ld := -1 }) gi gk gr di dk dr p.isr.length p.kn.length p.rs.length us4 ((wc.setCell ⟨gk, n, none⟩ (.int .i64 0)).setCell ⟨w2.heap.size, 1, none⟩ (.int .i64 (-1)))) := HT8.out.setInt { q5 with kn := q5.kn.set n 0, ld := -1 } 1 (-1) (by simp) rfl rfl rfl (by simp) (by simp) (by simp) (by simp)
            obtain ⟨be, hbe⟩ : ∃ be, (p.ld == (n : Int)) = be := ⟨_, rfl⟩
            have HEQ : Hid (p.crashP n k = ({ q5 with kn := q5.kn.set n 0, ld := if be = true then -1 else q5.ld }, 0)) := show _ = _ by
              rw [HQF.out, ← hbe]
            have u1 : w.heap.size ≠ gk := by have h1 := HT7.out.o.2.bk; have h2 := HP1.out.1; omega
            have u2 : ¬ gk = w.heap.size := fun h => u1 h.symm
            obtain ⟨-, i1, i2, i3, i4, i9⟩ := HT7.out.cells n hn
            obtain ⟨i6, i8⟩ := HT7.out.kn n hnk
            obtain ⟨i5, i7⟩ := HT7.out.isr n hni
            obtain ⟨k1, k2, k3, k4, k5, k6, -, -, -⟩ := HT7.out.apart
            have k7 : ¬ gi = w2.heap.size := fun h => k1 h.symm
            have k8 : ¬ gk = w2.heap.size := fun h => k2 h.symm
            have k9 : ¬ gr = w2.heap.size := fun h => k3 h.symm
            have t1 : gi ≠ gk := HT7.out.o.2.ik
            have t2 : gi ≠ gr := HT7.out.o.2.ir
            have t3 : gk ≠ gr := HT7.out.o.2.kr
            have x1 := HT7.out.o.2.si
            have x2 := HT7.out.o.2.sk
            have x3 := HT7.out.o.2.sr
            have kb : w2.heap.size ≠ w.heap.size + 1 := HT7.out.bz
            obtain ⟨o1, ⟨o0, o2, o3, o4, o5, o6, o7⟩, o8⟩ := HT7.out.p
            obtain ⟨z1, ⟨e0, e1, e2, e3, e4, e5, e6⟩, g1⟩ := HT7.out.r
            obtain ⟨s1, ⟨b0, b1, b2, b3, b4, b5, b6⟩, f1⟩ := PB.below HP1.out HP1.out.1 HBW7.out
            go_wp2
            · have hbt : be = true := by assumption
              have HE : Hid (p.crashP n k = ({ q5 with kn := q5.kn.set n 0, ld := -1 }, 0)) := show _ = _ by rw [HEQ.out, if_pos hbt]
              exact bodyPost_ret (v := .tuple #[.agg #[.int .i64 q5.ep, .int .i64 (-1), (.slice (some ⟨gi, 0, none⟩) p.isr.length di), (.slice (some ⟨gk, 0, none⟩) p.kn.length dk), (.slice (some ⟨gr, 0, none⟩) p.rs.length dr), .int .i64 q5.fw, .int .i64 q5.bs], .int .i64 0]) (by simp [results, Try.results38, go_sem, e0, e1, e2, e3, e4, e5, e6]) rfl (by rw [HE.out]; exact Sd.done (q := { q5 with kn := q5.kn.set n 0, ld := -1 }) HT9.out rfl)
            · have hbt : be = false := by assumption
              have HE : Hid (p.crashP n k = ({ q5 with kn := q5.kn.set n 0 }, 0)) := show _ = _ by rw [HEQ.out, hbt]; rfl
              exact bodyPost_ret (v := .tuple #[.agg #[.int .i64 q5.ep, .int .i64 q5.ld, (.slice (some ⟨gi, 0, none⟩) p.isr.length di), (.slice (some ⟨gk, 0, none⟩) p.kn.length dk), (.slice (some ⟨gr, 0, none⟩) p.rs.length dr), .int .i64 q5.fw, .int .i64 q5.bs], .int .i64 0]) (by simp [results, Try.results38, go_sem, e0, e1, e2, e3, e4, e5, e6]) rfl (by rw [HE.out]; exact Sd.done (q := { q5 with kn := q5.kn.set n 0 }) HT8.out rfl)
      · have hd : decide ((p.at n).h > (Ln : Int)) = false := by simp; omega
        go_cut [67] (fun v W => v = .bool false ∧ Sd w1.heap.size w2.heap.size (w.heap.size + 1) w (q4) gi gk gr di dk dr p.isr.length p.kn.length p.rs.length us4 W ∧ Below w1.heap.size w1 W)
        case first =>
          go_region_with (go_at_call 68; refine (logOf_any q4 _ _ _ us4 n _ (HRQ.out _ (by repeat (first | exact Below.refl _ _ | refine Below.drew ?_))) HLQ.out hnq HL3.out).mono ?_; rintro e w6 ⟨v6, rfl, ho6, hb6⟩; have hB6 : Below W4.heap.size W4 w6 := bstep (by repeat (first | exact Below.refl _ _ | refine Below.drew ?_)) hb6; obtain ⟨m1, m2⟩ := bcell hB6; obtain ⟨av6, cv6, rfl⟩ := ho6.shape; rw [HES.out])
          all_goals
            have HX : Hid _ := HT4.out.below hB6
            have HXB : Hid _ := bstep HBW4.out hB6
            clear m1 m2 hB6 hb6 ho6
            go_wp2_with fail
            go_meet
          all_goals
            exact ⟨rfl, HX.out, HXB.out⟩
        case rest =>
          have HT6 : Hid (Sd w1.heap.size w2.heap.size (w.heap.size + 1) w (q4) gi gk gr di dk dr p.isr.length p.kn.length p.rs.length us4 wc) := hcut.2.1
          have HBW6 : Hid (Below w1.heap.size w1 wc) := hcut.2.2
          have hv67 := hcut.1
          subst hv67
          clear i1 i2 i3 i4 i5 i6 i7 i8 i9 k1 k2 k3 k4 k5 k6 k7 k8 k9 t1 t2 t3 x1 x2 x3 kb o0 o1 o2 o3 o4 o5 o6 o7 o8 z1 e0 e1 e2 e3 e4 e5 e6 g1
          clear hcut HT4 HBW4 HRQ hd
          have HQF : Hid (p.crashP n k = ({ q4 with kn := q4.kn.set n 0, ld := if (p.ld == (n : Int)) = true then -1 else q4.ld }, 0)) := show _ = _ by
            have e1 : p.setR n (fun x => ⟨false, NL, s, min x.h Ln⟩) = q4 := by
              rw [HQ4.out]
              exact setR_congr hn (by simp only [Rep.mk.injEq, true_and]; omega)
            rw [HEK.out, HQF0.out, e1, HI4.out.2.2.2.2, HI4.out.2.1]
            simp only [beq_iff_eq]
          go_at_K
          have HT8 : Hid (Sd w1.heap.size w2.heap.size (w.heap.size + 1) w ({ q4 with kn := q4.kn.set n 0 }) gi gk gr di dk dr p.isr.length p.kn.length p.rs.length us4 (wc.setCell ⟨gk, n, none⟩ (.int .i64 0))) := HT6.out.setKn n hnk 0
          have HT9 : Hid (Sd w1.heap.size w2.heap.size (w.heap.size + 1) w ({ q4 with kn := q4.kn.set n 0, ld := -1 }) gi gk gr di dk dr p.isr.length p.kn.length p.rs.length us4 ((wc.setCell ⟨gk, n, none⟩ (.int .i64 0)).setCell ⟨w2.heap.size, 1, none⟩ (.int .i64 (-1)))) := HT8.out.setInt { q4 with kn := q4.kn.set n 0, ld := -1 } 1 (-1) (by simp) rfl rfl rfl (by simp) (by simp) (by simp) (by simp)
          obtain ⟨be, hbe⟩ : ∃ be, (p.ld == (n : Int)) = be := ⟨_, rfl⟩
          have HEQ : Hid (p.crashP n k = ({ q4 with kn := q4.kn.set n 0, ld := if be = true then -1 else q4.ld }, 0)) := show _ = _ by
            rw [HQF.out, ← hbe]
          have u1 : w.heap.size ≠ gk := by have h1 := HT6.out.o.2.bk; have h2 := HP1.out.1; omega
          have u2 : ¬ gk = w.heap.size := fun h => u1 h.symm
          obtain ⟨-, i1, i2, i3, i4, i9⟩ := HT6.out.cells n hn
          obtain ⟨i6, i8⟩ := HT6.out.kn n hnk
          obtain ⟨i5, i7⟩ := HT6.out.isr n hni
          obtain ⟨k1, k2, k3, k4, k5, k6, -, -, -⟩ := HT6.out.apart
          have k7 : ¬ gi = w2.heap.size := fun h => k1 h.symm
          have k8 : ¬ gk = w2.heap.size := fun h => k2 h.symm
          have k9 : ¬ gr = w2.heap.size := fun h => k3 h.symm
          have t1 : gi ≠ gk := HT6.out.o.2.ik
          have t2 : gi ≠ gr := HT6.out.o.2.ir
          have t3 : gk ≠ gr := HT6.out.o.2.kr
          have x1 := HT6.out.o.2.si
          have x2 := HT6.out.o.2.sk
          have x3 := HT6.out.o.2.sr
          have kb : w2.heap.size ≠ w.heap.size + 1 := HT6.out.bz
          obtain ⟨o1, ⟨o0, o2, o3, o4, o5, o6, o7⟩, o8⟩ := HT6.out.p
          obtain ⟨z1, ⟨e0, e1, e2, e3, e4, e5, e6⟩, g1⟩ := HT6.out.r
          obtain ⟨s1, ⟨b0, b1, b2, b3, b4, b5, b6⟩, f1⟩ := PB.below HP1.out HP1.out.1 HBW6.out
          go_wp2
          · have hbt : be = true := by assumption
            have HE : Hid (p.crashP n k = ({ q4 with kn := q4.kn.set n 0, ld := -1 }, 0)) := show _ = _ by rw [HEQ.out, if_pos hbt]
            exact bodyPost_ret (v := .tuple #[.agg #[.int .i64 q4.ep, .int .i64 (-1), (.slice (some ⟨gi, 0, none⟩) p.isr.length di), (.slice (some ⟨gk, 0, none⟩) p.kn.length dk), (.slice (some ⟨gr, 0, none⟩) p.rs.length dr), .int .i64 q4.fw, .int .i64 q4.bs], .int .i64 0]) (by simp [results, Try.results38, go_sem, e0, e1, e2, e3, e4, e5, e6]) rfl (by rw [HE.out]; exact Sd.done (q := { q4 with kn := q4.kn.set n 0, ld := -1 }) HT9.out rfl)
          · have hbt : be = false := by assumption
            have HE : Hid (p.crashP n k = ({ q4 with kn := q4.kn.set n 0 }, 0)) := show _ = _ by rw [HEQ.out, hbt]; rfl
            exact bodyPost_ret (v := .tuple #[.agg #[.int .i64 q4.ep, .int .i64 q4.ld, (.slice (some ⟨gi, 0, none⟩) p.isr.length di), (.slice (some ⟨gk, 0, none⟩) p.kn.length dk), (.slice (some ⟨gr, 0, none⟩) p.rs.length dr), .int .i64 q4.fw, .int .i64 q4.bs], .int .i64 0]) (by simp [results, Try.results38, go_sem, e0, e1, e2, e3, e4, e5, e6]) rfl (by rw [HE.out]; exact Sd.done (q := { q4 with kn := q4.kn.set n 0 }) HT8.out rfl)

end Go.Proofs.Ytkolelpdedmkeaa
