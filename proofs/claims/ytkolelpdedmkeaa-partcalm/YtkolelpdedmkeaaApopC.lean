/-
  What part.Crash leaves of a log.
  The walk of part.Crash.
-/
import Derived.Test.YtkolelpdedmkeaaPst
import Derived.Test.YtkolelpdedmkeaaAseg
import Derived.Deep.RegionWith
import Derived.Deep.DeepCutAuto
import Derived.Test.YtkolelpdedmkeaaPresF
namespace Go.Proofs.Ytkolelpdedmkeaa

section
open Go.RowKit
set_option linter.unusedVariables false
set_option linter.unusedSimpArgs false

theorem crash_dec {l : List Int} {y : Int} (hb : Bytes l) (h : lft l y = 0) (k : Int) (hk : 0 ≤ k) : decL (l.take (stayOf l y k)) = ((decL (l.take (leftOf l y k))).1, stayOf l y k) ∧ stayOf l y k ≤ l.length ∧ (decL (l.take (leftOf l y k))).1.length ≤ 400 := by
  obtain ⟨h1, h2, h3, h4, h5, h6⟩ := lft_ok h
  have hle : leftOf l y k ≤ l.length := by unfold leftOf; split <;> omega
  obtain ⟨j, hj, e1, e2, e3⟩ := dec_cut l hb h2 (leftOf l y k) hle
  have es : stayOf l y k = (decL (l.take (leftOf l y k))).2 := rfl
  rw [es, e1]
  have hbk := dec_back l hb
  rw [h2, List.take_length] at hbk
  have e4 : l.take (endOf (decL l).1 j) = ((decL l).1.take j).flatMap Ent.enc := by
    have := endOf_take (decL l).1 j
    rwa [hbk.1] at this
  have e5 := dec_encs ((decL l).1.take j) (fun e he => hbk.2.2 e (List.mem_of_mem_take he))
  refine ⟨?_, ?_, ?_⟩
  · show decL (l.take (endOf (decL l).1 j)) = _
    rw [e4, e5]
    rfl
  · have := endOf_le (decL l).1 j
    rw [hbk.1] at this
    exact this
  · show ((decL l).1.take j).length ≤ 400
    rw [List.length_take]
    omega
theorem crash_may {l : List Int} {y : Int} (hb : Bytes l) (h : lft l y = 0) (k : Int) (hk : 0 ≤ k) : lft (l.take (stayOf l y k)) (stayOf l y k) = 0 := by
  obtain ⟨h1, h2, h3⟩ := crash_dec hb h k hk
  have h4 := (lft_ok h).1
  have hl : (l.take (stayOf l y k)).length = stayOf l y k := by rw [List.length_take]; omega
  unfold lft
  rw [hl, h1, if_neg (by omega), if_neg (by simp; omega), if_neg (by omega), Int.toNat_natCast, List.take_of_length_le (by omega), h1, if_neg (by simp)]

theorem crf_zero {l : List Int} {y k : Int} (h : crf l y k = 0) (h0 : lft l y = 0) : 0 ≤ k := by
  unfold crf at h
  rw [if_neg (by rw [h0]; simp)] at h
  by_cases hk : k < 0
  · rw [if_pos hk] at h; cases h
  · omega
theorem entriesOf_at (q : Prt) (r : Nat) (ep ld fw bs : Int) (vi vk vr : Value) (us : Nat → Value) (w : World) (h : RdP w q vi vk vr us) (hr : r < q.rs.length) (h0 : lft (q.at r).l (q.at r).y = 0) (e1 : q.ep = ep) (e2 : q.ld = ld) (e3 : q.fw = fw) (e4 : q.bs = bs) :
    Calls Try.prog 75 #[.agg #[.int .i64 ep, .int .i64 ld, vi, vk, vr, .int .i64 fw, .int .i64 bs], .int .i64 r] w fun e w' => ∃ v, e = .returned (.tuple #[v, .int .i64 (q.at r).safe]) ∧ OwnE w.heap.size v (q.at r).es w' ∧ Below w.heap.size w w' := by
  subst e1 e2 e3 e4
  exact entriesOf_may q r vi vk vr us w h hr h0
theorem segCrash_bad (l : List Int) (u : Value) (y k : Int) (w : World) (hl : l.length ≤ 140737488355328) (h : Rd w u l) (h0 : crf l y k ≠ 0) :
    Calls Try.prog 93 #[.agg #[u, .int .i64 y], .int .i64 k] w fun e w' => e = .returned (.tuple #[.agg #[.slice none 0 0, .int .i64 0], .int .i64 (crf l y k)]) ∧ Below w.heap.size w w' :=
  (segCrash_any l u y k w hl h).mono fun e w' ⟨hb, h, _⟩ => ⟨h h0, hb⟩
theorem segCrash_ok (l : List Int) (u : Value) (y k : Int) (w : World) (hl : l.length ≤ 140737488355328) (h : Rd w u l) (h0 : crf l y k = 0) (s : Nat) (NL : List Int) (hs : stayOf l y k = s) (hN : l.take s = NL) :
    Calls Try.prog 93 #[.agg #[u, .int .i64 y], .int .i64 k] w fun e w' => ∃ av cv, e = .returned (.tuple #[.agg #[.slice av NL.length cv, .int .i64 s], .int .i64 0]) ∧ Own w.heap.size (.slice av NL.length cv) NL w' ∧ Below w.heap.size w w' :=
  (segCrash_any l u y k w hl h).mono fun e w' ⟨hb, _, h⟩ => by
    obtain ⟨v, h1, h2⟩ := h h0
    have e1 : (decL (List.take (leftOf l y k) l)).2 = s := hs
    rw [e1] at h1 h2
    rw [hN] at h2
    obtain ⟨av, cv, rfl⟩ := h2.shape
    exact ⟨av, cv, h1, h2, hb⟩
end

section
open Go.RowKit
set_option linter.unusedVariables false
set_option linter.unusedSimpArgs false

set_option maxRecDepth 100000 in
set_option maxHeartbeats 4000000 in
theorem crash_anyF (p : Prt) (r : Int) (k : Int) (vi vk vr : Value) (us : Nat → Value) (w : World) (h : RdP w p vi vk vr us) (hs : p.small) :
    Calls Try.prog 37 #[.agg #[.int .i64 p.ep, .int .i64 p.ld, vi, vk, vr, .int .i64 p.fw, .int .i64 p.bs], .int .i64 r, .int .i64 k] w fun e w' => ResF w (p.crashP r k).1 [.int .i64 (p.crashP r k).2] e w' := by
  have HRW : Hid (RdP w p vi vk vr us) := h
  have HS : Hid p.small := hs
  obtain ⟨ai, ci, ak, ck, ar, cr, rfl, rfl, rfl, l1, l2, l3⟩ := h.lens
  clear h hs
  go_enter Try.func37, Try.ntmps37
  go_wp2_with fail
  have B0 : Below w.heap.size w ((w.alloc (.cells #[.int .i64 p.ep, .int .i64 p.ld, .slice ai p.isr.length ci, .slice ak p.kn.length ck, .slice ar p.rs.length cr, .int .i64 p.fw, .int .i64 p.bs] 26)).alloc (.cells #[.int .i64 0, .int .i64 0, .slice none 0 0, .slice none 0 0, .slice none 0 0, .int .i64 0, .int .i64 0] 26)) := bstep (bbox _ _) (bbox _ _)
  have P0 : PB ((w.alloc (.cells #[.int .i64 p.ep, .int .i64 p.ld, .slice ai p.isr.length ci, .slice ak p.kn.length ck, .slice ar p.rs.length cr, .int .i64 p.fw, .int .i64 p.bs] 26)).alloc (.cells #[.int .i64 0, .int .i64 0, .slice none 0 0, .slice none 0 0, .slice none 0 0, .int .i64 0, .int .i64 0] 26)) w.heap.size p _ _ _ := (pb_new w p (.slice ai p.isr.length ci) (.slice ak p.kn.length ck) (.slice ar p.rs.length cr) 26 w.heap.size rfl).below (C := w.heap.size + 1) (by omega) ((Below.refl _ _).alloc (by simp) (.cells #[.int .i64 0, .int .i64 0, .slice none 0 0, .slice none 0 0, .slice none 0 0, .int .i64 0, .int .i64 0] 26))
  have Z0 : PB ((w.alloc (.cells #[.int .i64 p.ep, .int .i64 p.ld, .slice ai p.isr.length ci, .slice ak p.kn.length ck, .slice ar p.rs.length cr, .int .i64 p.fw, .int .i64 p.bs] 26)).alloc (.cells #[.int .i64 0, .int .i64 0, .slice none 0 0, .slice none 0 0, .slice none 0 0, .int .i64 0, .int .i64 0] 26)) (w.heap.size + 1) Prt.zero nilV nilV nilV := pb_new _ Prt.zero nilV nilV nilV 26 (w.heap.size + 1) (by simp)
  generalize (w.alloc (.cells #[.int .i64 p.ep, .int .i64 p.ld, .slice ai p.isr.length ci, .slice ak p.kn.length ck, .slice ar p.rs.length cr, .int .i64 p.fw, .int .i64 p.bs] 26)).alloc (.cells #[.int .i64 0, .int .i64 0, .slice none 0 0, .slice none 0 0, .slice none 0 0, .int .i64 0, .int .i64 0] 26) = W0 at *
  refine (checkNamed_any p r _ _ _ us _ (RdP.below HRW.out (Nat.le_refl _) B0) HS.out).mono ?_
  rintro e w1 ⟨rfl, hb⟩
  have HB1 : Hid (Below w.heap.size w w1) := B0.trans (hb.mono B0.size)
  have HP1 : Hid (PB w1 w.heap.size p (.slice ai p.isr.length ci) (.slice ak p.kn.length ck) (.slice ar p.rs.length cr)) := P0.below P0.1 hb
  have HZ1 : Hid (PB w1 (w.heap.size + 1) Prt.zero nilV nilV nilV) := Z0.below Z0.1 hb
  have HR1 : Hid (RdP w1 p (.slice ai p.isr.length ci) (.slice ak p.kn.length ck) (.slice ar p.rs.length cr) us) := RdP.below HRW.out (Nat.le_refl _) HB1.out
  clear hb B0 P0 Z0
  obtain ⟨s1, ⟨b0, b1, b2, b3, b4, b5, b6⟩, f1⟩ := HP1.out
  obtain ⟨z1, ⟨e0, e1, e2, e3, e4, e5, e6⟩, g1⟩ := HZ1.out
  by_cases c0 : p.flt r = 0
  rotate_left
  · have d0 : (p.flt r != 0) = true := by simp [c0]
    have HE : Hid (p.crashP r k = (Prt.zero, p.flt r)) := show _ = _ by unfold Prt.crashP; rw [if_pos c0]
    clear c0
    go_wp2
    exact bodyPost_ret (v := .tuple #[.agg #[.int .i64 0, .int .i64 0, nilV, nilV, nilV, .int .i64 0, .int .i64 0], .int .i64 (p.flt r)]) (by simp [results, Try.results37, go_sem, e0, e1, e2, e3, e4, e5, e6]) rfl (by rw [HE.out]; exact resF_zero rfl HB1.out (by omega))
  obtain ⟨m, r0, r1⟩ := flt_zero c0
  rw [c0]
  have H0 : Hid (p.flt r = 0) := c0
  clear c0
  obtain ⟨n, rfl⟩ := Int.eq_ofNat_of_zero_le r0
  have hn : n < p.rs.length := by omega
  have HM : Hid (May p) := m
  have hni : n < p.isr.length := by rw [m.li]; exact hn
  have hnk : n < p.kn.length := by rw [m.lk]; exact hn
  have hn' : (n : Int) < p.rs.length := by omega
  have hni' : (n : Int) < p.isr.length := by omega
  have hnk' : (n : Int) < p.kn.length := by omega
  obtain ⟨g, off, rfl, -, q0, q1, q2, q3, q4⟩ := HR1.out.2.2.cells n hn
  obtain ⟨hgi, hoi, rfl, m0⟩ := RdP.isrAt HR1.out.1 n hni
  obtain ⟨hgk, hok, rfl, m1⟩ := RdP.knAt HR1.out.2.1 n hnk
  have HQ0 : Hid _ := q0
  clear q0 m r0 r1
  have HL0 : Hid (lft (p.at n).l (p.at n).y = 0) := show _ = _ from (HM.out.ok n hn).1
  have HLN : Hid ((p.at n).l.length ≤ 140737488355328) := show _ ≤ _ by have := may_len HM.out hn; omega
  have HBY : Hid (Bytes (p.at n).l) := HQ0.out.1
  obtain ⟨au, cu, eu⟩ : ∃ au cu, us n = .slice au (p.at n).l.length cu := by obtain ⟨_, au, cu, e, _⟩ := HQ0.out; exact ⟨au, cu, e⟩
  rw [eu] at q2
  have HU0 : Hid (Rd w1 (.slice au (p.at n).l.length cu) (p.at n).l) := show Rd _ _ _ by rw [← eu]; exact HQ0.out
  clear eu HQ0
  have HE0 : Hid (p.crashP n k = if (p.at n).up = false then (Prt.zero, 7) else if crf (p.at n).l (p.at n).y k ≠ 0 then (Prt.zero, crf (p.at n).l (p.at n).y k) else ({ p.setR n (fun x => ⟨false, x.l.take (stayOf x.l x.y k), stayOf x.l x.y k, min x.h (decL (x.l.take (stayOf x.l x.y k))).1.length⟩) with kn := p.kn.set n 0, ld := if p.ld = n then -1 else p.ld }, 0)) := show _ = _ by unfold Prt.crashP; rw [if_neg (by simp [H0.out]), Int.toNat_natCast]; rfl
  generalize hbu : (p.at n).up = bu at *
  clear hbu
  cases bu with
  | false =>
    have HE : Hid (p.crashP n k = (Prt.zero, 7)) := show _ = _ by rw [HE0.out]; simp
    go_wp2
    exact bodyPost_ret (v := .tuple #[.agg #[.int .i64 0, .int .i64 0, nilV, nilV, nilV, .int .i64 0, .int .i64 0], .int .i64 7]) (by simp [results, Try.results37, go_sem, e0, e1, e2, e3, e4, e5, e6]) rfl (by rw [HE.out]; exact resF_zero rfl HB1.out (by omega))
  | true =>
    by_cases hcr : crf (p.at n).l (p.at n).y k = 0
    rotate_left
    · have HE : Hid (p.crashP n k = (Prt.zero, crf (p.at n).l (p.at n).y k)) := show _ = _ by rw [HE0.out]; simp [hcr]
      have d0 : (crf (p.at n).l (p.at n).y k != 0) = true := by simp [hcr]
      go_wp2_with fail
      refine (segCrash_bad (p.at n).l _ (p.at n).y k _ HLN.out HU0.out hcr).mono ?_
      rintro e wb ⟨rfl, hb⟩
      have HBz : Hid (Below w.heap.size w ((put7 wb (w.heap.size + 1) Prt.zero nilV nilV nilV).alloc (.cells #[.slice none 0 0, .int .i64 0] 61))) := (below_put (HB1.out.trans (hb.mono HB1.out.size)) (by omega) _ _ _ _).alloc (by rw [put7_size]; have h1 := HB1.out.size; have h2 := hb.size; omega) _
      have HZb : Hid _ := PB.below HZ1.out HZ1.out.1 hb
      clear s1 b0 b1 b2 b3 b4 b5 b6 f1 z1 e0 e1 e2 e3 e4 e5 e6 g1 hcr hb
      obtain ⟨z1, ⟨e0, e1, e2, e3, e4, e5, e6⟩, g1⟩ := HZb.out
      go_wp2
      exact bodyPost_ret (v := .tuple #[.agg #[.int .i64 0, .int .i64 0, nilV, nilV, nilV, .int .i64 0, .int .i64 0], .int .i64 (crf (p.at n).l (p.at n).y k)]) (by simp [results, Try.results37, go_sem, e0, e1, e2, e3, e4, e5, e6, z1]) rfl (by rw [HE.out]; exact resF_nil HBz.out)
    · have hk0 : 0 ≤ k := crf_zero hcr HL0.out
      have HEK : Hid (p.crashP n k = ({ p.setR n (fun x => ⟨false, x.l.take (stayOf x.l x.y k), stayOf x.l x.y k, min x.h (decL (x.l.take (stayOf x.l x.y k))).1.length⟩) with kn := p.kn.set n 0, ld := if p.ld = n then -1 else p.ld }, 0)) := show _ = _ by rw [HE0.out]; simp [hcr]
      obtain ⟨s, hs⟩ : ∃ s, stayOf (p.at n).l (p.at n).y k = s := ⟨_, rfl⟩
      obtain ⟨NL, hNL⟩ : ∃ NL, (p.at n).l.take s = NL := ⟨_, rfl⟩
      have HLC : Hid (lft NL s = 0) := show _ = _ by rw [← hNL, ← hs]; exact crash_may HBY.out HL0.out k hk0
      have HQF : Hid (p.setR n (fun x => ⟨false, x.l.take (stayOf x.l x.y k), stayOf x.l x.y k, min x.h (decL (x.l.take (stayOf x.l x.y k))).1.length⟩) = p.setR n (fun x => ⟨false, NL, s, min x.h (decL NL).1.length⟩)) := setR_congr hn (by rw [hs, hNL])
      have HCC : Hid (∀ W, Rd W (.slice au (p.at n).l.length cu) (p.at n).l → Calls Try.prog 93 #[.agg #[.slice au (p.at n).l.length cu, .int .i64 (p.at n).y], .int .i64 k] W fun e w' => ∃ av cv, e = .returned (.tuple #[.agg #[.slice av NL.length cv, .int .i64 s], .int .i64 0]) ∧ Own W.heap.size (.slice av NL.length cv) NL w' ∧ Below W.heap.size W w') := fun W hW => segCrash_ok (p.at n).l _ (p.at n).y k _ HLN.out hW hcr s NL hs hNL
      clear hs hNL hcr HE0
      go_wp2_with fail
      refine (HCC.out _ HU0.out).mono ?_
      rintro e wb ⟨av, cv, rfl, hov, hb⟩
      have HOV : Hid (Own w1.heap.size (.slice av NL.length cv) NL wb) := hov
      have HBb : Hid (Below w1.heap.size w1 wb) := hb
      have HBc : Hid (Below wb.heap.size wb (wb.alloc (.cells #[.slice av NL.length cv, .int .i64 s] 61))) := (by repeat (first | exact Below.refl _ _ | refine Below.setCell ?_ (Nat.le_refl _) _ | refine Below.drew ?_ | refine Below.alloc ?_ (Nat.le_refl _) _))
      have HLG : Hid (LBox (wb.alloc (.cells #[.slice av NL.length cv, .int .i64 s] 61)) wb.heap.size (.slice av NL.length cv) s) := lbox_new wb _ s _
      clear hov hb HCC HU0 q1 q2 q3 q4 m0 m1
      clear s1 b0 b1 b2 b3 b4 b5 b6 f1 z1 e0 e1 e2 e3 e4 e5 e6 g1
      obtain ⟨s1, ⟨b0, b1, b2, b3, b4, b5, b6⟩, f1⟩ := PB.below HP1.out HP1.out.1 HBb.out
      go_wp2_with fail
      clear s1 b0 b1 b2 b3 b4 b5 b6 f1
      have HBB : Hid (Below w1.heap.size w1 _) := bstep HBb.out HBc.out
      have HLW : Hid (w1.heap.size ≤ wb.heap.size) := HBb.out.size
      generalize wb.alloc (.cells #[.slice av NL.length cv, .int .i64 s] 61) = w1c at *
      refine (copy_any p _ _ _ us _ (RdP.below HR1.out (Nat.le_refl _) HBB.out) (may_fits HM.out)).mono ?_
      rintro e w2 ⟨xi, xk, xr, us', rfl, hfr0, hb2⟩
      have HOV2 : Hid (Own w1.heap.size (.slice av NL.length cv) NL w2) := (Own.below (Own.below HOV.out (Nat.le_refl _) HBc.out) (Nat.le_refl _) hb2)
      have hfr := hfr0.mono (C := w1.heap.size) HBB.out.size
      have HAP : Hid (∀ j, wb.heap.size ≤ j → True) := fun _ _ => trivial
      obtain ⟨gi, gk, gr, di, dk, dr, rfl, rfl, rfl, ho⟩ := hfr.own (by omega) (by omega) (by omega)
      have hG := hfr0.oi.blk gi rfl
      have hG2 := hfr0.ok.blk gk rfl
      have hG3 := hfr0.or.blk gr rfl
      have hLB := HLG.out.1
      have HB2 : Hid (Below w.heap.size w w2) := HB1.out.trans ((bstep HBB.out hb2).mono HB1.out.size)
      have HP2 : Hid (PB w2 w.heap.size p _ _ _) := PB.below HP1.out HP1.out.1 (bstep HBB.out hb2)
      have HZ2 : Hid (PB w2 (w.heap.size + 1) Prt.zero nilV nilV nilV) := PB.below HZ1.out HZ1.out.1 (bstep HBB.out hb2)
      have HLG2 : Hid (LBox w2 wb.heap.size (.slice av NL.length cv) s) := LBox.below HLG.out hb2
      have HT3 : Hid (St w1.heap.size w.heap.size (w.heap.size + 1) w (p) gi gk gr di dk dr p.isr.length p.kn.length p.rs.length us' (put7 w2 w.heap.size p (.slice (some ⟨gi, 0, none⟩) p.isr.length di) (.slice (some ⟨gk, 0, none⟩) p.kn.length dk) (.slice (some ⟨gr, 0, none⟩) p.rs.length dr))) := ⟨OwnP.put ho HP2.out.2.2 HP1.out.1 p _ _ _, PB.put HP2.out _ _ _ _, PB.putFar HZ2.out (by omega) _ _ _ _, below_put HB2.out (Nat.le_refl _) _ _ _ _, by rw [put7_size]; exact (bstep HBB.out hb2).size, rfl, rfl, rfl, HP1.out.1, HZ1.out.1, by omega, Nat.le_refl _, by omega⟩
      have HKV : Hid (∀ k, (Value.slice av NL.length cv).ownBlock = some k → w1.heap.size ≤ k ∧ k < w2.heap.size ∧ k ≠ gi ∧ k ≠ gk ∧ k ≠ gr) := fun k hk => by
        have h1 := (HOV.out.blk k hk)
        have h2 := HBc.out.size
        have h3 := hb2.size
        exact ⟨h1.1, by omega, by omega, by omega, by omega⟩
      have HRV : Hid (Rd ((put7 w2 w.heap.size p (.slice (some ⟨gi, 0, none⟩) p.isr.length di) (.slice (some ⟨gk, 0, none⟩) p.kn.length dk) (.slice (some ⟨gr, 0, none⟩) p.rs.length dr)).setCell ⟨gr, n * 4, none⟩ (.bool false)) (.slice av NL.length cv) NL) := rd_block (show Rd (put7 w2 w.heap.size p (.slice (some ⟨gi, 0, none⟩) p.isr.length di) (.slice (some ⟨gk, 0, none⟩) p.kn.length dk) (.slice (some ⟨gr, 0, none⟩) p.rs.length dr)) _ _ by
        unfold put7
        have hne : (Value.slice av NL.length cv).ownBlock ≠ some w.heap.size := fun e => by have h1 := (HKV.out _ e).1; have h2 := HP1.out.1; omega
        exact rd_block (rd_block (rd_block (rd_block (rd_block (rd_block (rd_block HOV2.out.rd hne _ _) hne _ _) hne _ _) hne _ _) hne _ _) hne _ _) hne _ _) (fun e => (HKV.out _ e).2.2.2.2 rfl) _ _
      have HT4 : Hid (St w1.heap.size w.heap.size (w.heap.size + 1) w (_) gi gk gr di dk dr p.isr.length p.kn.length p.rs.length _ ((((put7 w2 w.heap.size p (.slice (some ⟨gi, 0, none⟩) p.isr.length di) (.slice (some ⟨gk, 0, none⟩) p.kn.length dk) (.slice (some ⟨gr, 0, none⟩) p.rs.length dr)).setCell ⟨gr, n * 4, none⟩ (.bool false)).setCell ⟨gr, n * 4 + 1, none⟩ (.slice av NL.length cv)).setCell ⟨gr, n * 4 + 2, none⟩ (.int .i64 s))) := ((HT3.out.setUp n hn false).setB n hn (.slice av NL.length cv) NL HRV.out (fun k hk => by have := HKV.out k hk; simpa [put7_size] using this)).setY n hn s
      unfold put7 at HT4
      have k1 : w.heap.size ≠ gi := by have := ho.2.bi; have := HP1.out.1; omega
      have k2 : w.heap.size ≠ gk := by have := ho.2.bk; have := HP1.out.1; omega
      have k3 : w.heap.size ≠ gr := by have := ho.2.br; have := HP1.out.1; omega
      have k4 : w.heap.size + 1 ≠ gi := by have := ho.2.bi; have := HZ1.out.1; omega
      have k5 : w.heap.size + 1 ≠ gk := by have := ho.2.bk; have := HZ1.out.1; omega
      have k6 : w.heap.size + 1 ≠ gr := by have := ho.2.br; have := HZ1.out.1; omega
      have k7 : ¬ gi = w.heap.size := fun h => k1 h.symm
      have k8 : ¬ gk = w.heap.size := fun h => k2 h.symm
      have k9 : ¬ gr = w.heap.size := fun h => k3 h.symm
      have t1 : gi ≠ gk := ho.2.ik
      have t2 : gi ≠ gr := ho.2.ir
      have t3 : gk ≠ gr := ho.2.kr
      have x1 := ho.2.si
      have x2 := ho.2.sk
      have x3 := ho.2.sr
      obtain ⟨-, i1, i2, i3, i4⟩ := OwnP.cellsAt ho n hn
      have i5 := OwnP.isrCell ho n hni
      have i6 := OwnP.knCell ho n hnk
      have i7 := ho.2.fi
      have i8 := ho.2.fk
      have i9 := ho.2.fr
      obtain ⟨s1, ⟨b0, b1, b2, b3, b4, b5, b6⟩, f1⟩ := HP2.out
      obtain ⟨z1, ⟨e0, e1, e2, e3, e4, e5, e6⟩, g1⟩ := HZ2.out
      have v0 : w.heap.size ≠ wb.heap.size := by have h1 := HP1.out.1; have h2 := HLW.out; omega
      have v1 : ¬ wb.heap.size = w.heap.size := fun h => v0 h.symm
      have v2 : gr ≠ wb.heap.size := by omega
      have v3 : ¬ wb.heap.size = gr := fun h => v2 h.symm
      obtain ⟨-, v4, v5, v6⟩ := HLG2.out
      have HQE : Hid (∃ q4 us4, St w1.heap.size w.heap.size (w.heap.size + 1) w (q4) gi gk gr di dk dr p.isr.length p.kn.length p.rs.length us4 ((((((((((w2.setCell ⟨w.heap.size, 0, none⟩ (.int .i64 p.ep)).setCell ⟨w.heap.size, 1, none⟩ (.int .i64 p.ld)).setCell ⟨w.heap.size, 2, none⟩ (.slice (some ⟨gi, 0, none⟩) p.isr.length di)).setCell ⟨w.heap.size, 3, none⟩ (.slice (some ⟨gk, 0, none⟩) p.kn.length dk)).setCell ⟨w.heap.size, 4, none⟩ (.slice (some ⟨gr, 0, none⟩) p.rs.length dr)).setCell ⟨w.heap.size, 5, none⟩ (.int .i64 p.fw)).setCell ⟨w.heap.size, 6, none⟩ (.int .i64 p.bs)).setCell ⟨gr, n * 4, none⟩ (.bool false)).setCell ⟨gr, n * 4 + 1, none⟩ (.slice av NL.length cv)).setCell ⟨gr, n * 4 + 2, none⟩ (.int .i64 s)) ∧ q4 = p.setR n (fun x => ⟨false, NL, s, x.h⟩)) := ⟨_, _, HT4.out, show _ = _ by rw [setR_setR, setR_setR]⟩
      clear hb2 hfr hfr0 ho HT3 HT4 HRV hG hG2 hG3
      go_wp2_with fail
      clear s1 b0 b1 b2 b3 b4 b5 b6 f1 z1 e0 e1 e2 e3 e4 e5 e6 g1 i1 i2 i3 i4 i5 i6 i7 i8 i9 k1 k2 k3 k4 k5 k6 k7 k8 k9 t1 t2 t3 x1 x2 x3
      clear v0 v1 v2 v3 v4 v5 v6
      generalize (((((((((w2.setCell ⟨w.heap.size, 0, none⟩ (.int .i64 p.ep)).setCell ⟨w.heap.size, 1, none⟩ (.int .i64 p.ld)).setCell ⟨w.heap.size, 2, none⟩ (.slice (some ⟨gi, 0, none⟩) p.isr.length di)).setCell ⟨w.heap.size, 3, none⟩ (.slice (some ⟨gk, 0, none⟩) p.kn.length dk)).setCell ⟨w.heap.size, 4, none⟩ (.slice (some ⟨gr, 0, none⟩) p.rs.length dr)).setCell ⟨w.heap.size, 5, none⟩ (.int .i64 p.fw)).setCell ⟨w.heap.size, 6, none⟩ (.int .i64 p.bs)).setCell ⟨gr, n * 4, none⟩ (.bool false)).setCell ⟨gr, n * 4 + 1, none⟩ (.slice av NL.length cv)).setCell ⟨gr, n * 4 + 2, none⟩ (.int .i64 s) = W4 at *
      obtain ⟨q4, us4, ht4, hq4⟩ := HQE.out
      have HT4 : Hid (St w1.heap.size w.heap.size (w.heap.size + 1) w (q4) gi gk gr di dk dr p.isr.length p.kn.length p.rs.length us4 W4) := ht4
      have HQ4 : Hid (q4 = p.setR n (fun x => ⟨false, NL, s, x.h⟩)) := hq4
      have HA4 : Hid (q4.at n = ⟨false, NL, s, (p.at n).h⟩) := show _ = _ by rw [hq4, setR_at _ _ _ hn]
      have HLD4 : Hid (q4.ld = p.ld ∧ q4.kn = p.kn) := show _ ∧ _ by rw [hq4]; exact ⟨rfl, rfl⟩
      have HES : Hid ((q4.at n).es = (decL NL).1) := show _ = _ by rw [HA4.out]; rfl
      have HI4 : Hid (q4.ep = p.ep ∧ q4.ld = p.ld ∧ q4.fw = p.fw ∧ q4.bs = p.bs ∧ q4.kn = p.kn) := show _ ∧ _ ∧ _ ∧ _ ∧ _ by rw [hq4]; exact ⟨rfl, rfl, rfl, rfl, rfl⟩
      clear ht4 hq4 HQE
      have hnq : n < q4.rs.length := by rw [HT4.out.hlr]; exact hn
      refine (entriesOf_at q4 n p.ep p.ld p.fw p.bs _ _ _ us4 _ (HT4.out.o.rd' HT4.out.hli HT4.out.hlk HT4.out.hlr) hnq (by rw [HA4.out]; exact HLC.out) HI4.out.1 HI4.out.2.1 HI4.out.2.2.1 HI4.out.2.2.2.1).mono ?_
      rintro e w6 ⟨v6, rfl, ho6, hb6⟩
      obtain ⟨a6, c6, rfl⟩ := ho6.shape
      have HT6 : Hid (St w1.heap.size w.heap.size (w.heap.size + 1) w (q4) gi gk gr di dk dr p.isr.length p.kn.length p.rs.length us4 w6) := HT4.out.below hb6
      clear ho6 hb6 HT4
      obtain ⟨s1, ⟨b0, b1, b2, b3, b4, b5, b6⟩, f1⟩ := HT6.out.p
      obtain ⟨z1, ⟨e0, e1, e2, e3, e4, e5, e6⟩, g1⟩ := HT6.out.r
      obtain ⟨-, i1, i2, i3, i4, i9⟩ := HT6.out.cells n hn
      obtain ⟨i6, i8⟩ := HT6.out.kn n hnk
      obtain ⟨i5, i7⟩ := HT6.out.isr n hni
      obtain ⟨k1, k2, k3, k4, k5, k6, -, -, -⟩ := HT6.out.apart
      have k7 : ¬ gi = w.heap.size := fun h => k1 h.symm
      have k8 : ¬ gk = w.heap.size := fun h => k2 h.symm
      have k9 : ¬ gr = w.heap.size := fun h => k3 h.symm
      have t1 : gi ≠ gk := HT6.out.o.2.ik
      have t2 : gi ≠ gr := HT6.out.o.2.ir
      have t3 : gk ≠ gr := HT6.out.o.2.kr
      have x1 := HT6.out.o.2.si
      have x2 := HT6.out.o.2.sk
      have x3 := HT6.out.o.2.sr
      rw [HES.out]
      have i4' : w6.cell? ⟨gr, n * 4 + 3, none⟩ = some (.int .i64 (p.at n).h) := by rw [i4, HA4.out]
      clear i4
      generalize hLn : (decL NL).1.length = Ln at *
      clear hLn
      go_wp2
      go_cut [] (fun W => St w1.heap.size w.heap.size (w.heap.size + 1) w ((q4.setR n (fun r => { r with h := (if (Ln : Int) < (p.at n).h then (Ln : Int) else (p.at n).h) }))) gi gk gr di dk dr p.isr.length p.kn.length p.rs.length us4 W)
      case first =>
        have HX : Hid _ := HT6.out.setH n hn (if (Ln : Int) < (p.at n).h then (Ln : Int) else (p.at n).h)
        go_region
        all_goals
          go_wp2_with fail
        all_goals
          go_meet
        all_goals
          first
          | exact St.drew HX.out
          | (have e : (if (Ln : Int) < (p.at n).h then (Ln : Int) else (p.at n).h) = Ln := if_pos (by omega)
             have h9 := HX.out
             rw [e] at h9 ⊢
             exact St.drew h9)
          | (have e : (if (Ln : Int) < (p.at n).h then (Ln : Int) else (p.at n).h) = (p.at n).h := if_neg (by omega)
             have h9 := HX.out
             rw [e] at h9 ⊢
             exact St.drew h9)
      case rest =>
        have HT7 : Hid (St w1.heap.size w.heap.size (w.heap.size + 1) w ((q4.setR n (fun r => { r with h := (if (Ln : Int) < (p.at n).h then (Ln : Int) else (p.at n).h) }))) gi gk gr di dk dr p.isr.length p.kn.length p.rs.length us4 wc) := hcut
        clear s1 b0 b1 b2 b3 b4 b5 b6 f1 z1 e0 e1 e2 e3 e4 e5 e6 g1 i1 i2 i3 i4' i5 i6 i7 i8 i9 k1 k2 k3 k4 k5 k6 k7 k8 k9 t1 t2 t3 x1 x2 x3
        clear hcut HT6
        obtain ⟨q5, hq5⟩ : ∃ q5, q5 = (q4.setR n (fun r => { r with h := (if (Ln : Int) < (p.at n).h then (Ln : Int) else (p.at n).h) })) := ⟨_, rfl⟩
        rw [← hq5] at HT7
        have HQ5 : Hid (q5 = (q4.setR n (fun r => { r with h := (if (Ln : Int) < (p.at n).h then (Ln : Int) else (p.at n).h) }))) := hq5
        have HI5 : Hid (q5.ep = p.ep ∧ q5.ld = p.ld ∧ q5.fw = p.fw ∧ q5.bs = p.bs ∧ q5.kn = p.kn) := show _ ∧ _ ∧ _ ∧ _ ∧ _ by rw [hq5]; exact HI4.out
        clear hq5
        have HT8 : Hid (St w1.heap.size w.heap.size (w.heap.size + 1) w ({ q5 with kn := q5.kn.set n 0 }) gi gk gr di dk dr p.isr.length p.kn.length p.rs.length us4 (wc.setCell ⟨gk, n, none⟩ (.int .i64 0))) := HT7.out.setKn n hnk 0
        have HT9 : Hid (St w1.heap.size w.heap.size (w.heap.size + 1) w ({ q5 with kn := q5.kn.set n 0, ld := -1 }) gi gk gr di dk dr p.isr.length p.kn.length p.rs.length us4 ((wc.setCell ⟨gk, n, none⟩ (.int .i64 0)).setCell ⟨w.heap.size, 1, none⟩ (.int .i64 (-1)))) := HT8.out.setInt { q5 with kn := q5.kn.set n 0, ld := -1 } 1 (-1) (by simp) rfl rfl rfl (by simp) (by simp) (by simp) (by simp)
        obtain ⟨be, hbe⟩ : ∃ be, (q5.ld == (n : Int)) = be := ⟨_, rfl⟩
        have HBE : Hid ((q5.ld == (n : Int)) = be) := hbe
        have HEQ : Hid (p.crashP n k = ({ q5 with kn := q5.kn.set n 0, ld := if be = true then -1 else q5.ld }, 0)) := show _ = _ by
          rw [HEK.out, HQF.out, ← HBE.out, HI5.out.2.1, HI5.out.2.2.2.2, HQ5.out, HQ4.out, setR_setR]
          have e1 : p.setR n (fun x => ⟨false, NL, s, min x.h Ln⟩) = p.setR n (fun x => { (⟨false, NL, s, x.h⟩ : Rep) with h := if (Ln : Int) < (p.at n).h then (Ln : Int) else (p.at n).h }) := setR_congr hn (by
            simp only [Rep.mk.injEq, true_and]
            split <;> omega)
          rw [e1]
          simp [Prt.setR]
        obtain ⟨s1, ⟨b0, b1, b2, b3, b4, b5, b6⟩, f1⟩ := HT7.out.p
        obtain ⟨z1, ⟨e0, e1, e2, e3, e4, e5, e6⟩, g1⟩ := HT7.out.r
        obtain ⟨-, i1, i2, i3, i4, i9⟩ := HT7.out.cells n hn
        obtain ⟨i6, i8⟩ := HT7.out.kn n hnk
        obtain ⟨i5, i7⟩ := HT7.out.isr n hni
        obtain ⟨k1, k2, k3, k4, k5, k6, -, -, -⟩ := HT7.out.apart
        have k7 : ¬ gi = w.heap.size := fun h => k1 h.symm
        have k8 : ¬ gk = w.heap.size := fun h => k2 h.symm
        have k9 : ¬ gr = w.heap.size := fun h => k3 h.symm
        have t1 : gi ≠ gk := HT7.out.o.2.ik
        have t2 : gi ≠ gr := HT7.out.o.2.ir
        have t3 : gk ≠ gr := HT7.out.o.2.kr
        have x1 := HT7.out.o.2.si
        have x2 := HT7.out.o.2.sk
        have x3 := HT7.out.o.2.sr
        go_at_K
        go_wp2
        · have hbt : be = true := by assumption
          have HE : Hid (p.crashP n k = ({ q5 with kn := q5.kn.set n 0, ld := -1 }, 0)) := show _ = _ by rw [HEQ.out, if_pos hbt]
          exact bodyPost_ret (v := .tuple #[.agg #[.int .i64 q5.ep, .int .i64 (-1), (.slice (some ⟨gi, 0, none⟩) p.isr.length di), (.slice (some ⟨gk, 0, none⟩) p.kn.length dk), (.slice (some ⟨gr, 0, none⟩) p.rs.length dr), .int .i64 q5.fw, .int .i64 q5.bs], .int .i64 0]) (by simp [results, Try.results37, go_sem, e0, e1, e2, e3, e4, e5, e6]) rfl (by rw [HE.out]; exact St.doneF (q := { q5 with kn := q5.kn.set n 0, ld := -1 }) HT9.out rfl)
        · have hbt : be = false := by assumption
          have HE : Hid (p.crashP n k = ({ q5 with kn := q5.kn.set n 0 }, 0)) := show _ = _ by rw [HEQ.out, hbt]; rfl
          exact bodyPost_ret (v := .tuple #[.agg #[.int .i64 q5.ep, .int .i64 q5.ld, (.slice (some ⟨gi, 0, none⟩) p.isr.length di), (.slice (some ⟨gk, 0, none⟩) p.kn.length dk), (.slice (some ⟨gr, 0, none⟩) p.rs.length dr), .int .i64 q5.fw, .int .i64 q5.bs], .int .i64 0]) (by simp [results, Try.results37, go_sem, e0, e1, e2, e3, e4, e5, e6]) rfl (by rw [HE.out]; exact St.doneF (q := { q5 with kn := q5.kn.set n 0 }) HT8.out rfl)

theorem crash_any (p : Prt) (r : Int) (k : Int) (vi vk vr : Value) (us : Nat → Value) (w : World) (h : RdP w p vi vk vr us) (hs : p.small) :
    Calls Try.prog 37 #[.agg #[.int .i64 p.ep, .int .i64 p.ld, vi, vk, vr, .int .i64 p.fw, .int .i64 p.bs], .int .i64 r, .int .i64 k] w fun e w' => Res w (p.crashP r k).1 [.int .i64 (p.crashP r k).2] e w' :=
  (crash_anyF p r k vi vk vr us w h hs).mono fun _ _ h => h.res
end

end Go.Proofs.Ytkolelpdedmkeaa
