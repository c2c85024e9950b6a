/-
  The walk of part.Sync.
-/
import Derived.Test.YtkolelpdedmkeaaPst
import Derived.Test.YtkolelpdedmkeaaPresF
import Derived.Test.YtkolelpdedmkeaaAseg
import Derived.Deep.RegionWith
import Derived.Deep.DeepCutAuto
namespace Go.Proofs.Ytkolelpdedmkeaa
open Go.RowKit
set_option linter.unusedVariables false
set_option linter.unusedSimpArgs false

theorem segSync_ok (l : List Int) (u : Value) (y : Int) (w : World) (hl : l.length ≤ 140737488355328) (h : Rd w u l) (h0 : lft l y = 0) :
    Calls Try.prog 83 #[.agg #[u, .int .i64 y]] w fun e w' => ∃ v, e = .returned (.tuple #[.agg #[v, .int .i64 l.length], .int .i64 0]) ∧ Own w.heap.size v l w' ∧ Below w.heap.size w w' :=
  (segSync_any l u y w hl h).mono fun e w' ⟨hb, _, h⟩ => by
    obtain ⟨v, h1, h2⟩ := h h0
    exact ⟨v, h1, h2, hb⟩

theorem lft_all {l : List Int} {y : Int} (h : lft l y = 0) : lft l l.length = 0 := by
  obtain ⟨h1, h2, h3, h4, h5, h6⟩ := lft_ok h
  unfold lft
  rw [if_neg (by omega), if_neg (by omega), if_neg (by omega), Int.toNat_natCast, List.take_length, if_neg (by omega)]
theorem safe_all (r : Rep) : Rep.safe { r with y := r.l.length } = r.es.length := by
  unfold Rep.safe Rep.es
  simp only
  rw [Int.toNat_natCast, List.take_length]

set_option maxRecDepth 100000 in
set_option maxHeartbeats 4000000 in
theorem sync_anyF (p : Prt) (r : Int) (vi vk vr : Value) (us : Nat → Value) (w : World) (h : RdP w p vi vk vr us) (hs : p.small) :
    Calls Try.prog 33 #[.agg #[.int .i64 p.ep, .int .i64 p.ld, vi, vk, vr, .int .i64 p.fw, .int .i64 p.bs], .int .i64 r] w fun e w' => ResF w (p.syncP r).1 [.int .i64 (p.syncP r).2] e w' := by
  have HRW : Hid (RdP w p vi vk vr us) := h
  have HS : Hid p.small := hs
  obtain ⟨ai, ci, ak, ck, ar, cr, rfl, rfl, rfl, l1, l2, l3⟩ := h.lens
  clear h hs
  go_enter Try.func33, Try.ntmps33
  go_wp2_with fail
  have B0 : Below w.heap.size w ((w.alloc (.cells #[.int .i64 p.ep, .int .i64 p.ld, .slice ai p.isr.length ci, .slice ak p.kn.length ck, .slice ar p.rs.length cr, .int .i64 p.fw, .int .i64 p.bs] 26)).alloc (.cells #[.int .i64 0, .int .i64 0, .slice none 0 0, .slice none 0 0, .slice none 0 0, .int .i64 0, .int .i64 0] 26)) := bstep (bbox _ _) (bbox _ _)
  have P0 : PB ((w.alloc (.cells #[.int .i64 p.ep, .int .i64 p.ld, .slice ai p.isr.length ci, .slice ak p.kn.length ck, .slice ar p.rs.length cr, .int .i64 p.fw, .int .i64 p.bs] 26)).alloc (.cells #[.int .i64 0, .int .i64 0, .slice none 0 0, .slice none 0 0, .slice none 0 0, .int .i64 0, .int .i64 0] 26)) w.heap.size p _ _ _ := (pb_new w p (.slice ai p.isr.length ci) (.slice ak p.kn.length ck) (.slice ar p.rs.length cr) 26 w.heap.size rfl).below (C := w.heap.size + 1) (by omega) ((Below.refl _ _).alloc (by simp) (.cells #[.int .i64 0, .int .i64 0, .slice none 0 0, .slice none 0 0, .slice none 0 0, .int .i64 0, .int .i64 0] 26))
  have Z0 : PB ((w.alloc (.cells #[.int .i64 p.ep, .int .i64 p.ld, .slice ai p.isr.length ci, .slice ak p.kn.length ck, .slice ar p.rs.length cr, .int .i64 p.fw, .int .i64 p.bs] 26)).alloc (.cells #[.int .i64 0, .int .i64 0, .slice none 0 0, .slice none 0 0, .slice none 0 0, .int .i64 0, .int .i64 0] 26)) (w.heap.size + 1) Prt.zero nilV nilV nilV := pb_new _ Prt.zero nilV nilV nilV 26 (w.heap.size + 1) (by simp)
  generalize (w.alloc (.cells #[.int .i64 p.ep, .int .i64 p.ld, .slice ai p.isr.length ci, .slice ak p.kn.length ck, .slice ar p.rs.length cr, .int .i64 p.fw, .int .i64 p.bs] 26)).alloc (.cells #[.int .i64 0, .int .i64 0, .slice none 0 0, .slice none 0 0, .slice none 0 0, .int .i64 0, .int .i64 0] 26) = W0 at *
  refine (checkNamed_any p r _ _ _ us _ (RdP.below HRW.out (Nat.le_refl _) B0) HS.out).mono ?_
  rintro e w1 ⟨rfl, hb⟩
  have HB1 : Hid (Below w.heap.size w w1) := B0.trans (hb.mono B0.size)
  have HP1 : Hid (PB w1 w.heap.size p (.slice ai p.isr.length ci) (.slice ak p.kn.length ck) (.slice ar p.rs.length cr)) := P0.below P0.1 hb
  have HZ1 : Hid (PB w1 (w.heap.size + 1) Prt.zero nilV nilV nilV) := Z0.below Z0.1 hb
  have HR1 : Hid (RdP w1 p (.slice ai p.isr.length ci) (.slice ak p.kn.length ck) (.slice ar p.rs.length cr) us) := RdP.below HRW.out (Nat.le_refl _) HB1.out
  clear hb B0 P0 Z0
  obtain ⟨s1, ⟨b0, b1, b2, b3, b4, b5, b6⟩, f1⟩ := HP1.out
  obtain ⟨z1, ⟨e0, e1, e2, e3, e4, e5, e6⟩, g1⟩ := HZ1.out
  by_cases c0 : p.flt r = 0
  rotate_left
  · have d0 : (p.flt r != 0) = true := by simp [c0]
    have HE : Hid (p.syncP r = (Prt.zero, p.flt r)) := show _ = _ by unfold Prt.syncP; rw [if_pos c0]
    clear c0
    go_wp2
    exact bodyPost_ret (v := .tuple #[.agg #[.int .i64 0, .int .i64 0, nilV, nilV, nilV, .int .i64 0, .int .i64 0], .int .i64 (p.flt r)]) (by simp [results, Try.results33, go_sem, e0, e1, e2, e3, e4, e5, e6]) rfl (by rw [HE.out]; exact resF_zero rfl HB1.out (by omega))
  obtain ⟨m, r0, r1⟩ := flt_zero c0
  rw [c0]
  have H0 : Hid (p.flt r = 0) := c0
  clear c0
  obtain ⟨n, rfl⟩ := Int.eq_ofNat_of_zero_le r0
  have hn : n < p.rs.length := by omega
  have HM : Hid (May p) := m
  have hni : n < p.isr.length := by rw [m.li]; exact hn
  have hnk : n < p.kn.length := by rw [m.lk]; exact hn
  have hn' : (n : Int) < p.rs.length := by omega
  have hni' : (n : Int) < p.isr.length := by omega
  have hnk' : (n : Int) < p.kn.length := by omega
  obtain ⟨g, off, rfl, -, q0, q1, q2, q3, q4⟩ := HR1.out.2.2.cells n hn
  obtain ⟨hgi, hoi, rfl, m0⟩ := RdP.isrAt HR1.out.1 n hni
  obtain ⟨hgk, hok, rfl, m1⟩ := RdP.knAt HR1.out.2.1 n hnk
  clear q0 q2 m r0 r1
  have HY : Hid ((p.setR n (fun r => { r with l := (p.at n).l })).setR n (fun r => { r with y := (p.at n).l.length }) = p.setR n (fun x => { x with y := x.l.length })) := show _ = _ by
    rw [setR_setR]
    exact setR_congr hn rfl
  have HE0 : Hid (p.syncP n = if (p.at n).up = false then (Prt.zero, 7) else if (n : Int) = p.ld then (({ p.setR n (fun x => { x with y := x.l.length }) with kn := p.kn.set n (p.at n).es.length } : Prt).raised, 0) else (p.setR n (fun x => { x with y := x.l.length }), 0)) := show _ = _ by unfold Prt.syncP; rw [if_neg (by simp [H0.out]), Int.toNat_natCast]
  have HL0 : Hid (lft (p.at n).l (p.at n).y = 0) := show _ = _ from (HM.out.ok n hn).1
  have HLN : Hid ((p.at n).l.length ≤ 140737488355328) := show _ ≤ _ by have := may_len HM.out hn; omega
  generalize hbu : (p.at n).up = bu at *
  clear hbu
  cases bu with
  | false =>
    have HE : Hid (p.syncP n = (Prt.zero, 7)) := show _ = _ by rw [HE0.out]; simp
    go_wp2
    exact bodyPost_ret (v := .tuple #[.agg #[.int .i64 0, .int .i64 0, nilV, nilV, nilV, .int .i64 0, .int .i64 0], .int .i64 7]) (by simp [results, Try.results33, go_sem, e0, e1, e2, e3, e4, e5, e6]) rfl (by rw [HE.out]; exact resF_zero rfl HB1.out (by omega))
  | true =>
    go_wp2_with fail
    refine (copy_any p _ _ _ us _ HR1.out (may_fits HM.out)).mono ?_
    rintro e w2 ⟨xi, xk, xr, us', rfl, hfr, hb⟩
    obtain ⟨gi, gk, gr, di, dk, dr, rfl, rfl, rfl, ho⟩ := hfr.own (by omega) (by omega) (by omega)
    have HB2 : Hid (Below w.heap.size w w2) := HB1.out.trans (hb.mono HB1.out.size)
    have HP2 : Hid (PB w2 w.heap.size p _ _ _) := PB.below HP1.out HP1.out.1 hb
    have HZ2 : Hid (PB w2 (w.heap.size + 1) Prt.zero nilV nilV nilV) := PB.below HZ1.out HZ1.out.1 hb
    have HO3 : Hid (OwnP w1.heap.size (put7 w2 w.heap.size p (.slice (some ⟨gi, 0, none⟩) p.isr.length di) (.slice (some ⟨gk, 0, none⟩) p.kn.length dk) (.slice (some ⟨gr, 0, none⟩) p.rs.length dr)) p gi gk gr di dk dr us') := OwnP.put ho HP2.out.2.2 HP1.out.1 p _ _ _
    have HB3 : Hid (Below w.heap.size w (put7 w2 w.heap.size p (.slice (some ⟨gi, 0, none⟩) p.isr.length di) (.slice (some ⟨gk, 0, none⟩) p.kn.length dk) (.slice (some ⟨gr, 0, none⟩) p.rs.length dr))) := below_put HB2.out (Nat.le_refl _) _ _ _ _
    have HP3 : Hid (PB (put7 w2 w.heap.size p (.slice (some ⟨gi, 0, none⟩) p.isr.length di) (.slice (some ⟨gk, 0, none⟩) p.kn.length dk) (.slice (some ⟨gr, 0, none⟩) p.rs.length dr)) w.heap.size p (.slice (some ⟨gi, 0, none⟩) p.isr.length di) (.slice (some ⟨gk, 0, none⟩) p.kn.length dk) (.slice (some ⟨gr, 0, none⟩) p.rs.length dr)) := PB.put HP2.out _ _ _ _
    have HZ3 : Hid (PB (put7 w2 w.heap.size p (.slice (some ⟨gi, 0, none⟩) p.isr.length di) (.slice (some ⟨gk, 0, none⟩) p.kn.length dk) (.slice (some ⟨gr, 0, none⟩) p.rs.length dr)) (w.heap.size + 1) Prt.zero nilV nilV nilV) := PB.putFar HZ2.out (by omega) _ _ _ _
    have HS3 : Hid (w1.heap.size ≤ w2.heap.size) := hb.size
    have HT3 : Hid (St w1.heap.size w.heap.size (w.heap.size + 1) w (p) gi gk gr di dk dr p.isr.length p.kn.length p.rs.length us' (put7 w2 w.heap.size p (.slice (some ⟨gi, 0, none⟩) p.isr.length di) (.slice (some ⟨gk, 0, none⟩) p.kn.length dk) (.slice (some ⟨gr, 0, none⟩) p.rs.length dr))) := ⟨HO3.out, HP3.out, HZ3.out, HB3.out, by rw [put7_size]; exact HS3.out, rfl, rfl, rfl, HP1.out.1, HZ1.out.1, by omega, Nat.le_refl _, by omega⟩
    clear s1 b0 b1 b2 b3 b4 b5 b6 f1 z1 e0 e1 e2 e3 e4 e5 e6 g1 q1 q3 q4 m0 m1 hb hfr ho HO3 HB3 HP3 HZ3
    obtain ⟨s1, ⟨b0, b1, b2, b3, b4, b5, b6⟩, f1⟩ := HP2.out
    obtain ⟨z1, ⟨e0, e1, e2, e3, e4, e5, e6⟩, g1⟩ := HZ2.out
    unfold put7 at HT3
    go_wp2
    clear s1 b0 b1 b2 b3 b4 b5 b6 f1 z1 e0 e1 e2 e3 e4 e5 e6 g1
    generalize ((((((w2.setCell ⟨w.heap.size, 0, none⟩ (.int .i64 p.ep)).setCell ⟨w.heap.size, 1, none⟩ (.int .i64 p.ld)).setCell ⟨w.heap.size, 2, none⟩ (.slice (some ⟨gi, 0, none⟩) p.isr.length di)).setCell ⟨w.heap.size, 3, none⟩ (.slice (some ⟨gk, 0, none⟩) p.kn.length dk)).setCell ⟨w.heap.size, 4, none⟩ (.slice (some ⟨gr, 0, none⟩) p.rs.length dr)).setCell ⟨w.heap.size, 5, none⟩ (.int .i64 p.fw)).setCell ⟨w.heap.size, 6, none⟩ (.int .i64 p.bs) = W3 at *
    obtain ⟨s1, ⟨b0, b1, b2, b3, b4, b5, b6⟩, f1⟩ := HT3.out.p
    obtain ⟨z1, ⟨e0, e1, e2, e3, e4, e5, e6⟩, g1⟩ := HT3.out.r
    obtain ⟨-, i1, i2, i3, i4, i9⟩ := HT3.out.cells n hn
    obtain ⟨i6, i8⟩ := HT3.out.kn n hnk
    obtain ⟨i5, i7⟩ := HT3.out.isr n hni
    obtain ⟨k1, k2, k3, k4, k5, k6, -, -, -⟩ := HT3.out.apart
    have k7 : ¬ gi = w.heap.size := fun h => k1 h.symm
    have k8 : ¬ gk = w.heap.size := fun h => k2 h.symm
    have k9 : ¬ gr = w.heap.size := fun h => k3 h.symm
    have t1 : gi ≠ gk := HT3.out.o.2.ik
    have t2 : gi ≠ gr := HT3.out.o.2.ir
    have t3 : gk ≠ gr := HT3.out.o.2.kr
    have x1 := HT3.out.o.2.si
    have x2 := HT3.out.o.2.sk
    have x3 := HT3.out.o.2.sr
    have HU : Hid (∀ W, Below W3.heap.size W3 W → Rd W (us' n) (p.at n).l) := fun W hW => (HT3.out.cells n hn).1.below (Nat.le_refl _) hW
    go_cut [] (fun W => ∃ us5, St w1.heap.size w.heap.size (w.heap.size + 1) w ((p.setR n (fun r => { r with l := (p.at n).l })).setR n (fun r => { r with y := (p.at n).l.length })) gi gk gr di dk dr p.isr.length p.kn.length p.rs.length us5 W)
    case first =>
      go_region_with (go_at_call 83; refine (segSync_ok _ _ _ _ HLN.out (HU.out _ (by repeat (first | exact Below.refl _ _ | refine Below.drew ?_))) HL0.out).mono ?_; rintro e w6 ⟨v6, rfl, ho6, hb6⟩; have hB6 : Below W3.heap.size W3 w6 := bstep (by repeat (first | exact Below.refl _ _ | refine Below.drew ?_)) hb6; obtain ⟨m1, m2⟩ := bcell hB6; obtain ⟨av6, cv6, rfl⟩ := ho6.shape)
      all_goals
        have HX : Hid (∃ us5, St w1.heap.size w.heap.size (w.heap.size + 1) w ((p.setR n (fun r => { r with l := (p.at n).l })).setR n (fun r => { r with y := (p.at n).l.length })) gi gk gr di dk dr p.isr.length p.kn.length p.rs.length us5 _) := ⟨_, ((HT3.out.below hB6).setB n hn _ _ ho6.rd (HT3.out.fresh ho6)).setY n hn _⟩
        clear m1 m2 hB6 hb6 ho6
        go_wp2_with fail
        go_meet
      all_goals
        exact HX.out
    case rest =>
      obtain ⟨us5, ht4⟩ := hcut
      have HT4 : Hid (St w1.heap.size w.heap.size (w.heap.size + 1) w ((p.setR n (fun r => { r with l := (p.at n).l })).setR n (fun r => { r with y := (p.at n).l.length })) gi gk gr di dk dr p.isr.length p.kn.length p.rs.length us5 wc) := ht4
      clear ht4 HT3 HU i1 i2 i3 i4 i5 i6 i7 i8 i9 k1 k2 k3 k4 k5 k6 k7 k8 k9 t1 t2 t3 x1 x2 x3 s1 b0 b1 b2 b3 b4 b5 b6 f1 z1 e0 e1 e2 e3 e4 e5 e6 g1
      rw [HY.out] at HT4
      have HQ0 : Hid (∃ q, q = p.setR n (fun x => { x with y := x.l.length })) := ⟨_, rfl⟩
      obtain ⟨q, hq⟩ := HQ0.out
      rw [← hq] at HT4
      have HQ : Hid (q = p.setR n (fun x => { x with y := x.l.length })) := hq
      have HQA : Hid (q.at n = { (p.at n) with y := (p.at n).l.length }) := show _ = _ by rw [hq, setR_at _ _ _ hn]
      have HQL : Hid (q.ld = p.ld ∧ q.kn = p.kn ∧ q.isr = p.isr) := show _ ∧ _ ∧ _ by rw [hq]; exact ⟨rfl, rfl, rfl⟩
      clear hq HQ0
      obtain ⟨be, hbe⟩ : ∃ be, ((n : Int) == q.ld) = be := ⟨_, rfl⟩
      have HBE : Hid (((n : Int) == q.ld) = be) := hbe
      rename World => W4
      obtain ⟨s1, ⟨b0, b1, b2, b3, b4, b5, b6⟩, f1⟩ := HT4.out.p
      obtain ⟨z1, ⟨e0, e1, e2, e3, e4, e5, e6⟩, g1⟩ := HT4.out.r
      obtain ⟨-, i1, i2, i3, i4, i9⟩ := HT4.out.cells n hn
      obtain ⟨i6, i8⟩ := HT4.out.kn n hnk
      obtain ⟨i5, i7⟩ := HT4.out.isr n hni
      obtain ⟨k1, k2, k3, k4, k5, k6, -, -, -⟩ := HT4.out.apart
      have k7 : ¬ gi = w.heap.size := fun h => k1 h.symm
      have k8 : ¬ gk = w.heap.size := fun h => k2 h.symm
      have k9 : ¬ gr = w.heap.size := fun h => k3 h.symm
      have t1 : gi ≠ gk := HT4.out.o.2.ik
      have t2 : gi ≠ gr := HT4.out.o.2.ir
      have t3 : gk ≠ gr := HT4.out.o.2.kr
      have x1 := HT4.out.o.2.si
      have x2 := HT4.out.o.2.sk
      have x3 := HT4.out.o.2.sr
      go_wp2
      · have hbt : be = true := by assumption
        have HN : Hid (q.ld = n) := show _ = _ by have := HBE.out; rw [hbt] at this; simp at this; exact this.symm
        clear hbt hbe HBE
        have HRQ : Hid (∀ W, Below W4.heap.size W4 W → RdP W q (.slice (some ⟨gi, 0, none⟩) p.isr.length di) (.slice (some ⟨gk, 0, none⟩) p.kn.length dk) (.slice (some ⟨gr, 0, none⟩) p.rs.length dr) us5) := fun W hW => (HT4.out.o.rd' HT4.out.hli HT4.out.hlk HT4.out.hlr).below (Nat.le_refl _) hW
        have HLQ : Hid (lft (q.at n).l (q.at n).y = 0) := show _ = _ by rw [HQA.out]; exact lft_all HL0.out
        have HSQ : Hid ((q.at n).safe = (p.at n).es.length) := show _ = _ by rw [HQA.out]; exact safe_all _
        have hnq : n < q.rs.length := by rw [HT4.out.hlr]; exact hn
        go_cut [] (fun W => St w1.heap.size w.heap.size (w.heap.size + 1) w ({ q with kn := q.kn.set n (p.at n).es.length }) gi gk gr di dk dr p.isr.length p.kn.length p.rs.length us5 W)
        case first =>
          go_region_with (go_at_call 75; refine (entriesOf_may q n _ _ _ us5 _ (HRQ.out _ (by repeat (first | exact Below.refl _ _ | refine Below.drew ?_))) hnq HLQ.out).mono ?_; rintro e w6 ⟨v6, rfl, ho6, hb6⟩; have hB6 : Below W4.heap.size W4 w6 := bstep (by repeat (first | exact Below.refl _ _ | refine Below.drew ?_)) hb6; obtain ⟨m1, m2⟩ := bcell hB6; obtain ⟨av6, cv6, rfl⟩ := ho6.shape; rw [HSQ.out])
          all_goals
            have HX : Hid (St w1.heap.size w.heap.size (w.heap.size + 1) w ({ q with kn := q.kn.set n (p.at n).es.length }) gi gk gr di dk dr p.isr.length p.kn.length p.rs.length us5 _) := (HT4.out.below hB6).setKn n hnk (p.at n).es.length
            clear m1 m2 hB6 hb6 ho6
            go_wp2_with fail
            go_meet
          all_goals
            exact HX.out
        case rest =>
          have HT6 : Hid (St w1.heap.size w.heap.size (w.heap.size + 1) w ({ q with kn := q.kn.set n (p.at n).es.length }) gi gk gr di dk dr p.isr.length p.kn.length p.rs.length us5 wc) := hcut
          clear hcut HT4 HRQ i1 i2 i3 i4 i5 i6 i7 i8 i9 k1 k2 k3 k4 k5 k6 k7 k8 k9 t1 t2 t3 x1 x2 x3 s1 b0 b1 b2 b3 b4 b5 b6 f1 z1 e0 e1 e2 e3 e4 e5 e6 g1
          have HE : Hid (p.syncP n = (({ q with kn := q.kn.set n (p.at n).es.length } : Prt).raised, 0)) := show _ = _ by
            rw [HE0.out, if_neg (by simp), if_pos (by rw [← HQL.out.1, HN.out]), HQL.out.2.1, ← HQ.out]
          obtain ⟨q6, hq6⟩ : ∃ q6, q6 = ({ q with kn := q.kn.set n (p.at n).es.length } : Prt) := ⟨_, rfl⟩
          rw [← hq6] at HT6 HE
          have HL6 : Hid (0 ≤ q6.ld ∧ q6.ld < p.rs.length) := show _ ∧ _ by rw [hq6]; show 0 ≤ q.ld ∧ q.ld < _; rw [HN.out]; exact ⟨by omega, hn'⟩
          have HLL : Hid (lft (q6.at q6.ld.toNat).l (q6.at q6.ld.toNat).y = 0) := show _ = _ by
            have e1 : q6.ld.toNat = n := by rw [hq6]; show q.ld.toNat = n; rw [HN.out, Int.toNat_natCast]
            rw [e1, hq6]
            exact HLQ.out
          clear hq6
          obtain ⟨s1, ⟨b0, b1, b2, b3, b4, b5, b6⟩, f1⟩ := HT6.out.p
          go_at_K
          go_wp2_with fail
          refine (raiseHigh_at (q6) w1.heap.size gi gk gr di dk dr p.isr.length p.kn.length p.rs.length (q6).ep (q6).ld (q6).fw (q6).bs _ _ HT6.out.o HT6.out.s HL6.out.1 HL6.out.2 HM.out.li HM.out.lk HLL.out (by have := HM.out.n5; omega) HT6.out.hli HT6.out.hlk HT6.out.hlr rfl rfl rfl rfl).mono ?_
          rintro e w5 ⟨rfl, ho5, hb5⟩
          have HT5 : Hid (St w1.heap.size w.heap.size (w.heap.size + 1) w ((q6).raised) gi gk gr di dk dr p.isr.length p.kn.length p.rs.length us5 w5) := St.other HT6.out hb5 ho5 (by rw [(raised_len _).1]; exact HT6.out.hli) (by rw [(raised_len _).2.1]; exact HT6.out.hlk) (by rw [(raised_len _).2.2.1]; exact HT6.out.hlr) (raised_len _).2.2.2.1 (raised_len _).2.2.2.2.1 (raised_len _).2.2.2.2.2.1 (raised_len _).2.2.2.2.2.2
          have HRL : Hid ((q6).raised.ep = (q6).ep ∧ (q6).raised.ld = (q6).ld ∧ (q6).raised.fw = (q6).fw ∧ (q6).raised.bs = (q6).bs) := ⟨(raised_len _).2.2.2.1, (raised_len _).2.2.2.2.1, (raised_len _).2.2.2.2.2.1, (raised_len _).2.2.2.2.2.2⟩
          clear hb5 ho5
          clear s1 b0 b1 b2 b3 b4 b5 b6 f1 HRL HT6
          generalize q6.raised = q7 at *
          obtain ⟨s1, ⟨b0, b1, b2, b3, b4, b5, b6⟩, f1⟩ := HT5.out.p
          obtain ⟨z1, ⟨e0, e1, e2, e3, e4, e5, e6⟩, g1⟩ := HT5.out.r
          obtain ⟨-, i1, i2, i3, i4, i9⟩ := HT5.out.cells n hn
          obtain ⟨i6, i8⟩ := HT5.out.kn n hnk
          obtain ⟨i5, i7⟩ := HT5.out.isr n hni
          obtain ⟨k1, k2, k3, k4, k5, k6, -, -, -⟩ := HT5.out.apart
          have k7 : ¬ gi = w.heap.size := fun h => k1 h.symm
          have k8 : ¬ gk = w.heap.size := fun h => k2 h.symm
          have k9 : ¬ gr = w.heap.size := fun h => k3 h.symm
          have t1 : gi ≠ gk := HT5.out.o.2.ik
          have t2 : gi ≠ gr := HT5.out.o.2.ir
          have t3 : gk ≠ gr := HT5.out.o.2.kr
          have x1 := HT5.out.o.2.si
          have x2 := HT5.out.o.2.sk
          have x3 := HT5.out.o.2.sr
          go_wp2
          exact bodyPost_ret (v := .tuple #[.agg #[.int .i64 (q7).ep, .int .i64 (q7).ld, (.slice (some ⟨gi, 0, none⟩) p.isr.length di), (.slice (some ⟨gk, 0, none⟩) p.kn.length dk), (.slice (some ⟨gr, 0, none⟩) p.rs.length dr), .int .i64 (q7).fw, .int .i64 (q7).bs], .int .i64 0]) (by simp [results, Try.results33, go_sem, e0, e1, e2, e3, e4, e5, e6]) rfl (by rw [HE.out]; exact St.doneF HT5.out rfl)

      · have hbt : be = false := by assumption
        have HN : Hid (¬ (n : Int) = p.ld) := fun h => by
          have := HBE.out
          rw [hbt, HQL.out.1, ← h] at this
          simp at this
        have HE : Hid (p.syncP n = (q, 0)) := show _ = _ by
          rw [HE0.out, if_neg (by simp), if_neg HN.out, ← HQ.out]
        clear hbt hbe HBE
        go_wp2
        exact bodyPost_ret (v := .tuple #[.agg #[.int .i64 (q).ep, .int .i64 (q).ld, (.slice (some ⟨gi, 0, none⟩) p.isr.length di), (.slice (some ⟨gk, 0, none⟩) p.kn.length dk), (.slice (some ⟨gr, 0, none⟩) p.rs.length dr), .int .i64 (q).fw, .int .i64 (q).bs], .int .i64 0]) (by simp [results, Try.results33, go_sem, e0, e1, e2, e3, e4, e5, e6]) rfl (by rw [HE.out]; exact St.doneF HT4.out rfl)

theorem sync_any (p : Prt) (r : Int) (vi vk vr : Value) (us : Nat → Value) (w : World) (h : RdP w p vi vk vr us) (hs : p.small) :
    Calls Try.prog 33 #[.agg #[.int .i64 p.ep, .int .i64 p.ld, vi, vk, vr, .int .i64 p.fw, .int .i64 p.bs], .int .i64 r] w fun e w' => Res w (p.syncP r).1 [.int .i64 (p.syncP r).2] e w' :=
  (sync_anyF p r vi vk vr us w h hs).mono fun _ _ h => h.res

end Go.Proofs.Ytkolelpdedmkeaa
