/-
  A transaction that is done stays done, and one that is not stays so; asked again it is answered the same: the walk.
-/
import Derived.Test.YtjhpfnogdjpbmaaCplayw
import Derived.Test.YtjhpfnogdjpbmaaCstay1
namespace Go.Proofs.Ytjhpfnogdjpbmaa
open Go.RowKit
set_option linter.unusedVariables false
set_option linter.unusedSimpArgs false

theorem nmD_list : nmD.toList = [100, 101, 101] := by decide +kernel
theorem toL_no {nm : ByteArray} (h : nm ≠ nmD) : (nm.toList == [100, 101, 101]) = false := by
  have := sameN_no.2 h
  unfold sameN at this
  rwa [nmD_list] at this
theorem toL_yes : (nmD.toList == [100, 101, 101]) = true := by rw [nmD_list]; decide

set_option maxRecDepth 100000 in
set_option maxHeartbeats 16000000 in
theorem coordStays_core (rs : List Raw4) (v : Value) (bo : Bool) (l : List Int) (u : Value) (w : World) (hl : (rs.length : Int) ≤ 9223372036854775807) (h : RdR w v rs) (hu : RdV w u (ints l)) (hwf : ∀ n ∈ l, (Lit.int .i64 n).wf = true) :
    Calls Try.prog 14 #[v, .bool bo, u] w fun e w' => e = .returned (.bool true) ∧ Below w.heap.size w w' := by
  have HND : Hid (nmD.size ≤ maxLen) := show _ ≤ _ by decide
  obtain ⟨ql, hql⟩ : ∃ ql, (l.take 6).map (fun n => pick n 4) = ql := ⟨_, rfl⟩
  have HQL : Hid (ql.length = min 6 l.length ∧ (∀ m, (h1 : m < l.length) → (h2 : m < ql.length) → pick (l[m]'h1) 4 = ql[m]'h2) ∧ In4 ql) := by
    refine ⟨by rw [← hql]; simp, fun m h1 h2 => by subst hql; simp, fun x hx => ?_⟩
    rw [← hql] at hx
    obtain ⟨n, _, rfl⟩ := List.mem_map.1 hx
    rw [inR_iff]
    have := pick_bd n 4 (by omega)
    omega
  obtain ⟨au, cu, hsh, hcu⟩ : ∃ ao cap, u = .slice ao (ints l).length cap ∧ ((ints l).length : Int) ≤ 9223372036854775807 := by
    obtain ⟨ao, cap, e, h1, h2, _⟩ := hu
    unfold maxLen at h2
    exact ⟨ao, cap, e, by omega⟩
  rw [ints_len] at hsh hcu
  subst hsh
  have HU : Hid (∀ W, Below w.heap.size w W → RdV W (.slice au l.length cu) (ints l)) := fun W hW => hu.below (Nat.le_refl _) hW
  have HWF : Hid (∀ n ∈ l, (Lit.int .i64 n).wf = true) := hwf
  clear hql hu hwf
  go_enter Try.func14, Try.ntmps14
  go_wp2_with fail
  refine (coordinated_any rs 30 v _ h hl (by omega)).mono ?_
  rintro e w1 ⟨c, vt, us, rfl, hC, hr1, hb1⟩
  obtain ⟨g1, hC1, hk, ha⟩ := dee_new hC
  have HF : Hid c.fits := mayC_fits hC.m
  obtain ⟨c1, hc1⟩ : ∃ c1 : Crd, { c with nx := c.nx + 1, ts := c.ts ++ [newT nmD c.nx] } = c1 := ⟨_, rfl⟩
  rw [hc1] at g1 hC1 hk ha
  obtain ⟨k, hkk⟩ : ∃ k, c.ts.length = k := ⟨_, rfl⟩
  obtain ⟨pid, hpid⟩ : ∃ pid, c.nx = pid := ⟨_, rfl⟩
  rw [hkk] at hk
  rw [hkk, hpid] at ha
  rw [hpid] at g1
  have HE1 : Hid (c.initP nmD = (c1, pid, 0, 0)) := g1
  obtain ⟨ck, hck⟩ : ∃ ck, c1.ck = ck := ⟨_, rfl⟩
  have HST : Hid (StayC c1 k (stayT ck pid (setP [])) ∧ c1.ck = ck) := ⟨⟨hC1, hk, ha⟩, hck⟩
  obtain ⟨k1, q1, rfl⟩ : ∃ k q, vt = .slice k c.ts.length q := by obtain ⟨k, q, e, _⟩ := hr1.shape; exact ⟨k, q, e⟩
  have HB1 : Hid (Below w.heap.size w (w1.alloc (.cells #[.int .i64 c.ck, .int .i64 c.nx, .int .i64 c.wt, .slice k1 c.ts.length q1] 24))) := bstep hb1 (bbox _ _)
  have HC1 : Hid (Hold (w1.alloc (.cells #[.int .i64 c.ck, .int .i64 c.nx, .int .i64 c.wt, .slice k1 c.ts.length q1] 24)) w1.heap.size c (.slice k1 c.ts.length q1) us) := hold_new hr1
  have HLO : w.heap.size ≤ w1.heap.size := hb1.size
  clear hb1 hr1 hC hC1 hk ha hck hkk hpid g1 hc1
  go_upto_region 2 with fail
  generalize w1.alloc (.cells #[.int .i64 c.ck, .int .i64 c.nx, .int .i64 c.wt, .slice k1 c.ts.length q1] 24) = W1 at *
  generalize w1.heap.size = b at *
  obtain ⟨s1, ⟨a0, a1, a2, a3⟩, f1⟩ := HC1.out.1
  go_wp2_with fail
  refine (init_any c nmD _ us _ HC1.out.2 HF.out HND.out).mono ?_
  rintro e w2 ⟨v2, us2, rfl, hf2, hb2⟩
  rw [HE1.out] at hf2 ⊢
  obtain ⟨k2, q2, rfl⟩ := hf2.shapeOf
  have hc2 := HC1.out.1.below HC1.out.1.1 hb2
  have hbs : b < w2.heap.size := hc2.1
  have HB2 : Hid (Below w.heap.size w ((((w2.setCell ⟨b, 0, none⟩ (.int .i64 c1.ck)).setCell ⟨b, 1, none⟩ (.int .i64 c1.nx)).setCell ⟨b, 2, none⟩ (.int .i64 c1.wt)).setCell ⟨b, 3, none⟩ (.slice k2 c1.ts.length q2))) := below_put4 (bstep HB1.out hb2) HLO c1 (.slice k2 c1.ts.length q2)
  have HC2 : Hid (CB ((((w2.setCell ⟨b, 0, none⟩ (.int .i64 c1.ck)).setCell ⟨b, 1, none⟩ (.int .i64 c1.nx)).setCell ⟨b, 2, none⟩ (.int .i64 c1.wt)).setCell ⟨b, 3, none⟩ (.slice k2 c1.ts.length q2)) b c1 (.slice k2 c1.ts.length q2) ∧ FreshC (b + 1) ((((w2.setCell ⟨b, 0, none⟩ (.int .i64 c1.ck)).setCell ⟨b, 1, none⟩ (.int .i64 c1.nx)).setCell ⟨b, 2, none⟩ (.int .i64 c1.wt)).setCell ⟨b, 3, none⟩ (.slice k2 c1.ts.length q2)) c1 (.slice k2 c1.ts.length q2) us2) := ⟨hc2.put c1 (.slice k2 c1.ts.length q2), FreshC.put4 (OwnW.mono hf2 (show b + 1 ≤ W1.heap.size from HC1.out.1.1)) (by omega) c1 (.slice k2 c1.ts.length q2)⟩
  clear s1 a0 a1 a2 a3 f1
  obtain ⟨s1, ⟨a0, a1, a2, a3⟩, f1⟩ := hc2
  clear hb2 hf2
  go_upto_region 3 with fail
  generalize (((w2.setCell ⟨b, 0, none⟩ (.int .i64 c1.ck)).setCell ⟨b, 1, none⟩ (.int .i64 c1.nx)).setCell ⟨b, 2, none⟩ (.int .i64 c1.wt)).setCell ⟨b, 3, none⟩ (.slice k2 c1.ts.length q2) = W2 at *
  clear s1 a0 a1 a2 a3 f1
  have hbW2 : b < W2.heap.size := HC2.out.1.1
  go_upto_region 4 with fail
  have HB3 : Hid (Below w.heap.size w (W2.alloc (.cells #[] 3))) := bstep HB2.out (bbox _ _)
  have HL3 : Hid (Lst b c1 (.slice k2 c1.ts.length q2) us2 (.slice none 0 0) [] (.slice (some ⟨W2.heap.size, 0, none⟩) 0 0) [] (W2.alloc (.cells #[] 3))) := ⟨HC2.out.1.below HC2.out.1.1 (bbox _ _), OwnW.below HC2.out.2 (Nat.le_refl _) (bbox _ _), ownV_nil _ _ _ _ (by simp; omega), (ownV_none W2 3 1).mono (by omega), fun kb e => by
    simp only [Value.ownBlock, Option.some.injEq] at e
    exact ⟨fun e2 => (by cases e2), fun e2 => by have := (HC2.out.2.o.blk kb e2).2; omega, fun i hi e2 => by have := ((HC2.out.2.i i hi).blk kb e2).2; omega⟩⟩
  have HL3' : Hid (∃ c vt us, (StayC c k (stayT ck pid (setP (ql.take 0))) ∧ c.ck = ck) ∧ Lst b c vt us (.slice none 0 0) [] (.slice (some ⟨W2.heap.size, 0, none⟩) 0 0) (ql.take 0) (W2.alloc (.cells #[] 3)) ∧ Below w.heap.size w (W2.alloc (.cells #[] 3))) := ⟨c1, _, us2, HST.out, HL3.out, HB3.out⟩
  go_wp2
  clear HL3 HB3 HC2 HB2 HC1 HB1 HST HE1 HF hbW2 hbs
  go_loopw [12, 13] (fun wv i wr => ∃ m : Nat, m ≤ l.length ∧ m ≤ 6 ∧ i = .int .i64 m ∧ Hid (∃ c vt us, (StayC c k (stayT ck pid (setP (ql.take m))) ∧ c.ck = ck) ∧ Lst b c vt us (.slice none 0 0) [] wv (ql.take m) wr ∧ Below w.heap.size w wr)) (fun _ i _ => 6 - (intOf i).toNat)
  case atStart => exact ⟨0, Nat.zero_le _, Nat.zero_le _, rfl, HL3'⟩
  case round =>
    obtain ⟨m, hml, hm6, rfl, HI⟩ := hrel
    obtain ⟨c, vt, us, ⟨hS, hck⟩, hL, hB⟩ := HI.out
    obtain ⟨xm, hxm⟩ : ∃ x, ql.take m = x := ⟨_, rfl⟩
    rw [hxm] at hS hL
    obtain ⟨ac, cc, rfl⟩ := hL.fr.shapeOf
    obtain ⟨aw, cw, rfl⟩ := hL.om.shape
    have HXM : Hid (ql.take m = xm) := hxm
    have HS : Hid (StayC c k (stayT ck pid (setP xm))) := hS
    have HCK : Hid (c.ck = ck) := hck
    have HL : Hid (Lst b c (.slice ac c.ts.length cc) us (.slice none 0 0) [] (.slice aw xm.length cw) xm wr) := hL
    have HB : Hid (Below w.heap.size w wr) := hB
    have HF : Hid c.fits := mayC_fits hS.m.m
    clear hS hck hL hB HI hxm
    by_cases hc : m < l.length ∧ m < 6
    · obtain ⟨hc1, hc2⟩ := hc
      have hc1' : (m : Int) < l.length := by omega
      have hc2' : (m : Int) < 6 := by omega
      have hqm : m < ql.length := by have := HQL.out.1; omega
      obtain ⟨gp, op, rfl, -, cp⟩ := (HU.out wr HB.out).cellAt m (by rw [ints_len]; exact hc1)
      have ep : (ints l)[m]'(by rw [ints_len]; exact hc1) = .int .i64 (l[m]'hc1) := by simp [ints]
      rw [ep] at cp
      have HPI : Hid (pick (l[m]'hc1) 4 = ql[m]'hqm) := HQL.out.2.1 m hc1 hqm
      have hpw := HWF.out _ (List.getElem_mem hc1)
      have hpb : -9223372036854775808 ≤ l[m]'hc1 ∧ l[m]'hc1 ≤ 9223372036854775807 := i64_bd hpw
      have HPR : Hid (inR (ql[m]'hqm) 0 3 = true) := HQL.out.2.2 _ (List.getElem_mem hqm)
      obtain ⟨xn, hxn⟩ : ∃ x, ql.take (m + 1) = x := ⟨_, rfl⟩
      have HXN : Hid (ql.take (m + 1) = xn) := hxn
      have HTK : Hid (xn = xm ++ [ql[m]'hqm]) := show _ = _ by rw [← hxn, ← HXM.out]; exact List.take_succ_eq_append_getElem hqm
      have HTL : Hid (xm.length = m) := show _ = _ by rw [← HXM.out, List.length_take]; omega
      obtain ⟨y, hy⟩ : ∃ y, l[m]'hc1 = y := ⟨_, rfl⟩
      obtain ⟨p, hp⟩ : ∃ p, ql[m]'hqm = p := ⟨_, rfl⟩
      rw [hy] at cp HPI hpb
      rw [hp] at HPI HPR HTK
      clear hy hp ep hpw hxn
      go_wp2_with fail
      refine (picked_any y 4 _ hpb ⟨by omega, by omega⟩).mono ?_
      rintro e w3 ⟨rfl, hw3⟩
      rw [hw3, HPI.out]
      clear hw3 cp
      obtain ⟨n1, n2, n3, n4, n5⟩ := stay_nm ck pid (setP xm)
      have hadd := add_ok (v := 0) (p := p) HS.out.m.m nmD_ok HS.out.lt (by rw [HS.out.a, n1]) (by rw [HS.out.a, n2]) HPR.out (by rw [HS.out.a, n3])
      have hco := @co_add isName4 c HS.out.m nmD 0 p (by rw [hadd])
      rw [hadd, HS.out.a, HCK.out, stay_add _ _ _ _ (ins_rise (setP_rise _) HPR.out).2, ins_setP, ← HTK.out] at hco
      have hat2 : (c.setT k (stayT ck pid (setP xn))).at k = stayT ck pid (setP xn) := setT_at HS.out.lt _
      rw [HS.out.a, HCK.out, stay_add _ _ _ _ (ins_rise (setP_rise _) HPR.out).2, ins_setP, ← HTK.out] at hadd
      have hlt2 : k < (c.setT k (stayT ck pid (setP xn))).ts.length := by rw [setT_len]; exact HS.out.lt
      have hck2 : (c.setT k (stayT ck pid (setP xn))).ck = ck := HCK.out
      obtain ⟨d, hd⟩ : ∃ d, c.setT k (stayT ck pid (setP xn)) = d := ⟨_, rfl⟩
      rw [hd] at hadd hco hat2 hlt2 hck2
      have HE : Hid (c.addP nmD 0 p = (d, 0)) := hadd
      have HS2 : Hid (StayC d k (stayT ck pid (setP xn)) ∧ d.ck = ck) := ⟨⟨hco, hlt2, hat2⟩, hck2⟩
      clear n1 n2 n3 n4 n5 hadd hco hat2 hlt2 hck2 hd
      obtain ⟨s1, ⟨a0, a1, a2, a3⟩, f1⟩ := HL.out.cb
      go_upto_region 8 with fail
      go_wp2_with fail
      refine (add_any c nmD 0 p _ us _ HL.out.rdC HF.out HND.out).mono ?_
      rintro e w4 ⟨v4, us4, rfl, hf4, hb4⟩
      rw [HE.out] at hf4 ⊢
      obtain ⟨k4, q4, rfl⟩ := hf4.shapeOf
      have t4 := bstep hb4 (bbox w4 (.cells #[.int .i64 d.ck, .int .i64 d.nx, .int .i64 d.wt, .slice k4 d.ts.length q4] 24))
      have HB4 : Hid (Below w.heap.size w (w4.alloc (.cells #[.int .i64 d.ck, .int .i64 d.nx, .int .i64 d.wt, .slice k4 d.ts.length q4] 24))) := bstep HB.out t4
      have HL4 : Hid (Lst b d (.slice k4 d.ts.length q4) us4 (.slice none 0 0) [] (.slice aw xm.length cw) xm (put4 (w4.alloc (.cells #[.int .i64 d.ck, .int .i64 d.nx, .int .i64 d.wt, .slice k4 d.ts.length q4] 24)) b d (.slice k4 d.ts.length q4))) := HL.out.store t4 (OwnW.below hf4 (Nat.le_refl _) (bbox _ _)) (Nat.le_refl _)
      have HN4 : Hid (Hold (w4.alloc (.cells #[.int .i64 d.ck, .int .i64 d.nx, .int .i64 d.wt, .slice k4 d.ts.length q4] 24)) w4.heap.size d (.slice k4 d.ts.length q4) us4) := hold_new hf4.rd
      have HCB4 : Hid (CB (w4.alloc (.cells #[.int .i64 d.ck, .int .i64 d.nx, .int .i64 d.wt, .slice k4 d.ts.length q4] 24)) b c (.slice ac c.ts.length cc)) := HL.out.cb.below HL.out.cb.1 t4
      have HB5 : Hid (Below w.heap.size w (put4 (w4.alloc (.cells #[.int .i64 d.ck, .int .i64 d.nx, .int .i64 d.wt, .slice k4 d.ts.length q4] 24)) b d (.slice k4 d.ts.length q4))) := below_put4 HB4.out HLO d (.slice k4 d.ts.length q4)
      clear s1 a0 a1 a2 a3 f1
      obtain ⟨s1, ⟨a0, a1, a2, a3⟩, f1⟩ := HL.out.cb.below HL.out.cb.1 hb4
      unfold put4 at HL4 HB5
      clear hb4 hf4 t4
      go_upto_region 9 with fail
      generalize w4.alloc (.cells #[.int .i64 d.ck, .int .i64 d.nx, .int .i64 d.wt, .slice k4 d.ts.length q4] 24) = W4 at *
      generalize w4.heap.size = b4 at *
      clear s1 a0 a1 a2 a3 f1
      obtain ⟨s1, ⟨a0, a1, a2, a3⟩, f1⟩ := HCB4.out
      obtain ⟨z1, ⟨z2, z3, z4, z5⟩, z6⟩ := HN4.out.1
      go_upto_region 12 with fail
      generalize (((W4.setCell ⟨b, 0, none⟩ (.int .i64 d.ck)).setCell ⟨b, 1, none⟩ (.int .i64 d.nx)).setCell ⟨b, 2, none⟩ (.int .i64 d.wt)).setCell ⟨b, 3, none⟩ (.slice k4 d.ts.length q4) = W5 at *
      clear s1 a0 a1 a2 a3 f1 z1 z2 z3 z4 z5 z6
      have hm1 : (xm.length : Int) ≤ 6 := by have := HTL.out; omega
      have hm2 : xm.length ≤ 6 := by omega
      go_wp2_with (at_builtin; refine wp_rowI rfl _ _ rfl (b + 1) _ xm.length _ rfl (HL4.out.om.below (Nat.le_refl _) (bbox _ _)) W5.heap.size rfl p (by simp) (by omega) _ rfl ?_)
      intro gn capn wn ho' hg hat hlt'
      have hL6 := HL4.out.below (bbox W5 (.cells #[.int .i64 p] 3))
      have hT6 : (ints xm ++ [Value.int .i64 p]) = ints xn ∧ xm.length + 1 = xn.length := ⟨by rw [HTK.out, ints_app]; rfl, by rw [HTK.out]; simp⟩
      rw [hT6.1, hT6.2] at ho'
      have HL7 : Hid (Lst b d (.slice k4 d.ts.length q4) us4 (.slice none 0 0) [] (.slice (some ⟨gn, 0, none⟩) (xm.length + 1) capn) xn wn) := show Lst _ _ _ _ _ _ _ _ _ by
        rw [hT6.2]
        exact hL6.turn hg ho' (fun kb e => by
          have e2 : gn = kb := by simpa [Value.ownBlock] using e
          rcases hat with h1 | h1
          · left; rw [← e2]; exact h1
          · right; rw [← e2, h1]; first | exact Nat.le_refl _ | simp)
      have HB7 : Hid (Below w.heap.size w wn) := below_grown (bstep HB5.out (bbox W5 (.cells #[.int .i64 p] 3))) hg (by have := HB5.out.size; simp; omega) (fun kb e => by have := (HL4.out.om.blk kb e).1; omega)
      clear ho' hg hat hlt' hL6 hT6 hm1 hm2
      go_wp2
      go_roundw
      case rel => exact ⟨m + 1, by omega, by omega, by go_num, ⟨d, _, us4, by rw [HXN.out]; exact HS2.out, by rw [HXN.out]; exact HL7.out, HB7.out⟩⟩
      case measure => simp [intOf]; omega
    · have HQT : Hid (xm = ql) := show _ = _ by rw [← HXM.out, List.take_of_length_le]; have := HQL.out.1; omega
      have HS9 := HS.out
      have HL9 := HL.out
      rw [HQT.out] at HS9 HL9 ⊢
      have HSS : Hid (StayC c k (stayT ck pid (setP ql))) := HS9
      have HLL : Hid (Lst b c (.slice ac c.ts.length cc) us (.slice none 0 0) [] (.slice aw ql.length cw) ql wr) := HL9
      have hql6 : ql.length ≤ 6 := by have := HQL.out.1; omega
      clear HS9 HL9 HS HL
      have HEX : Hid (¬ (m < l.length ∧ m < 6)) := hc
      have hgo : (¬ (m : Int) < l.length ∧ decide ((m : Int) < (l.length : Int)) = false) ∨ ((m : Int) < l.length ∧ ¬ (m : Int) < 6 ∧ decide ((m : Int) < (l.length : Int)) = true ∧ decide ((m : Int) < 6) = false) := by
        by_cases h1 : m < l.length
        · right; exact ⟨by omega, by omega, by simp; omega, by simp; omega⟩
        · left; exact ⟨by omega, by simp; omega⟩
      clear hc
      rcases hgo with ⟨hg0, hg1⟩ | ⟨hg0, hg1, hg2, hg3⟩
      all_goals
        go_wp2_with fail
        refine (sort_any ql _ _ HLL.out.om (by omega)).mono ?_
        rintro e w3 ⟨rfl, ho3, hg3⟩
        have hlm : (ql.mergeSort fun x y => decide (x ≤ y)).length = ql.length := List.length_mergeSort ql
        have HL3 : Hid (Lst b c (.slice ac c.ts.length cc) us (.slice none 0 0) [] (.slice aw ql.length cw) (ql.mergeSort fun x y => decide (x ≤ y)) w3) := HLL.out.turn hg3 (by rw [hlm]; exact ho3) (fun kb e => .inl e)
        have HB3 : Hid (Below w.heap.size w w3) := below_grown HB.out hg3 HB.out.size (fun kb e => by have := (HLL.out.om.blk kb e).1; omega)
        clear ho3 hg3
        go_wp2_with fail
        refine (compactI_any (ql.mergeSort fun x y => decide (x ≤ y)) _ _ (by rw [hlm]; have := HL3.out.om; rw [hlm] at this; exact this) (by omega)).mono ?_
        rintro e w4 ⟨u4, rfl, ho4, hg4, hat4⟩
        have hcs := sort_set ql HQL.out.2.2
        rw [hcs] at ho4
        obtain ⟨a4, c4, rfl⟩ := ho4.shape
        obtain ⟨wl, hwl⟩ : ∃ wl, setP ql = wl := ⟨_, rfl⟩
        rw [hwl] at ho4 HSS hat4 ⊢
        have HWL : Hid (setP ql = wl) := hwl
        have HL4 : Hid (Lst b c (.slice ac c.ts.length cc) us (.slice none 0 0) [] (.slice a4 wl.length c4) wl w4) := show Lst _ _ _ _ _ _ _ _ _ from HL3.out.turn hg4 ho4 (fun kb e => .inl (hat4.symm.trans e))
        have HB4 : Hid (Below w.heap.size w w4) := below_grown HB3.out hg4 HB3.out.size (fun kb e => by have := (HL3.out.om.blk kb e).1; omega)
        have hw4 : wl.length ≤ 4 := by rw [← hwl]; exact setP_len ql
        clear ho4 hg4 hat4 hcs hwl hlm
        obtain ⟨d, t, hend, hSd, hPd⟩ := stay_end bo HSS.out
        have HE5 : Hid (c.endP nmD 0 bo = (d, 0)) := hend
        have HSD : Hid (StayC d k t) := hSd
        have HPD : Hid (Ph bo pid t wl) := hPd
        obtain ⟨z6, h6⟩ := ph_again hSd hPd
        have HE6 : Hid (d.endP nmD 0 bo = (z6, 0)) := h6
        have HE7 : Hid (d.endP nmD 0 (!bo) = (Crd.zero, 12)) := ph_other hSd hPd
        have HFD : Hid d.fits := mayC_fits hSd.m.m
        clear hend hSd hPd h6
        obtain ⟨s1, ⟨a0, a1, a2, a3⟩, f1⟩ := HL4.out.cb
        go_wp2_with fail
        refine (end_any c nmD 0 bo _ us _ HL4.out.rdC HF.out HND.out).mono ?_
        rintro e w5 ⟨v5, us5, rfl, hf5, hb5⟩
        rw [HE5.out] at hf5 ⊢
        obtain ⟨k5, q5, rfl⟩ := hf5.shapeOf
        have HL5 : Hid (Lst b d (.slice k5 d.ts.length q5) us5 (.slice none 0 0) [] (.slice a4 wl.length c4) wl (put4 w5 b d (.slice k5 d.ts.length q5))) := HL4.out.store hb5 hf5 (Nat.le_refl _)
        have HB5 : Hid (Below w.heap.size w (put4 w5 b d (.slice k5 d.ts.length q5))) := below_put4 (bstep HB4.out hb5) HLO d (.slice k5 d.ts.length q5)
        clear s1 a0 a1 a2 a3 f1
        obtain ⟨s1, ⟨a0, a1, a2, a3⟩, f1⟩ := HL4.out.cb.below HL4.out.cb.1 hb5
        unfold put4 at HL5 HB5
        clear hb5 hf5
        go_upto_region 16 with fail
        generalize (((w5.setCell ⟨b, 0, none⟩ (.int .i64 d.ck)).setCell ⟨b, 1, none⟩ (.int .i64 d.nx)).setCell ⟨b, 2, none⟩ (.int .i64 d.wt)).setCell ⟨b, 3, none⟩ (.slice k5 d.ts.length q5) = W5 at *
        clear s1 a0 a1 a2 a3 f1
        obtain ⟨s1, ⟨a0, a1, a2, a3⟩, f1⟩ := HL5.out.cb
        go_wp2_with fail
        refine (end_any d nmD 0 bo _ us5 _ HL5.out.rdC HFD.out HND.out).mono ?_
        rintro e w6 ⟨v6, us6, rfl, hf6, hb6⟩
        rw [HE6.out] at hf6 ⊢
        obtain ⟨k6, q6, rfl⟩ := hf6.shapeOf
        have t6 := bstep hb6 (bbox w6 (.cells #[.int .i64 z6.ck, .int .i64 z6.nx, .int .i64 z6.wt, .slice k6 z6.ts.length q6] 24))
        have HB6 : Hid (Below w.heap.size w (w6.alloc (.cells #[.int .i64 z6.ck, .int .i64 z6.nx, .int .i64 z6.wt, .slice k6 z6.ts.length q6] 24))) := bstep HB5.out t6
        have HL6 := (show Hid (Lst _ _ _ _ _ _ _ _ (w6.alloc (.cells #[.int .i64 z6.ck, .int .i64 z6.nx, .int .i64 z6.wt, .slice k6 z6.ts.length q6] 24))) from HL5.out.below t6)
        clear s1 a0 a1 a2 a3 f1
        obtain ⟨s1, ⟨a0, a1, a2, a3⟩, f1⟩ := HL5.out.cb.below HL5.out.cb.1 hb6
        clear hb6 hf6 t6
        go_upto_region 17 with fail
        generalize w6.alloc (.cells #[.int .i64 z6.ck, .int .i64 z6.nx, .int .i64 z6.wt, .slice k6 z6.ts.length q6] 24) = W6 at *
        clear s1 a0 a1 a2 a3 f1
        obtain ⟨s1, ⟨a0, a1, a2, a3⟩, f1⟩ := HL6.out.cb
        go_wp2_with fail
        refine (end_any d nmD 0 (!bo) _ us5 _ HL6.out.rdC HFD.out HND.out).mono ?_
        rintro e w7 ⟨v7, us7, rfl, hf7, hb7⟩
        rw [HE7.out] at hf7 ⊢
        obtain ⟨k7, q7, rfl⟩ := hf7.shapeOf
        have t7 := bstep hb7 (bbox w7 (.cells #[.int .i64 Crd.zero.ck, .int .i64 Crd.zero.nx, .int .i64 Crd.zero.wt, .slice k7 Crd.zero.ts.length q7] 24))
        have HB7 : Hid (Below w.heap.size w (w7.alloc (.cells #[.int .i64 Crd.zero.ck, .int .i64 Crd.zero.nx, .int .i64 Crd.zero.wt, .slice k7 Crd.zero.ts.length q7] 24))) := bstep HB6.out t7
        have HL7 := (show Hid (Lst _ _ _ _ _ _ _ _ (w7.alloc (.cells #[.int .i64 Crd.zero.ck, .int .i64 Crd.zero.nx, .int .i64 Crd.zero.wt, .slice k7 Crd.zero.ts.length q7] 24))) from HL6.out.below t7)
        clear s1 a0 a1 a2 a3 f1
        obtain ⟨s1, ⟨a0, a1, a2, a3⟩, f1⟩ := HL6.out.cb.below HL6.out.cb.1 hb7
        clear hb7 hf7 t7
        go_upto_region 18 with fail
        generalize w7.alloc (.cells #[.int .i64 Crd.zero.ck, .int .i64 Crd.zero.nx, .int .i64 Crd.zero.wt, .slice k7 Crd.zero.ts.length q7] 24) = W7 at *
        clear s1 a0 a1 a2 a3 f1
        have HL8 : Hid (∃ c t vt us dn ps, (StayC c k t ∧ Ph bo pid t ps ∧ dn ++ ps = wl ∧ (ps = [] ∨ ps.length + 0 ≤ 4)) ∧ Lst b c vt us (.slice a4 wl.length c4) wl (.slice none 0 0) dn W7 ∧ Below w.heap.size w W7) := ⟨d, t, _, us5, [], wl, ⟨HSD.out, HPD.out, rfl, .inr (by omega)⟩, HL7.out.swap, HB7.out⟩
        clear HL7 HL6 HL5 HL4 HL3 HLL HB7 HB6 HB5 HB4 HB3 HB HE5 HE6 HE7 HFD HF HSD HPD HSS HCK HQT hql6 HWL HEX
        go_upto_region 20 with fail
        go_upto_region 21 with fail
        go_wp2
        go_loopw [22, 118] (fun mv i wr => ∃ j : Nat, j ≤ 60 ∧ i = .int .i64 j ∧ Hid (∃ c t vt us dn ps, (StayC c k t ∧ Ph bo pid t ps ∧ dn ++ ps = wl ∧ (ps = [] ∨ ps.length + j ≤ 4)) ∧ Lst b c vt us (.slice a4 wl.length c4) wl mv dn wr ∧ Below w.heap.size w wr)) (fun _ i _ => 60 - (intOf i).toNat)
        case atStart => exact ⟨0, Nat.zero_le _, rfl, HL8⟩
        case round =>
          obtain ⟨j, hj, rfl, HI⟩ := hrel
          obtain ⟨c, t, vt, us, dn, ps, ⟨hS, hP, hdp, hps⟩, hL, hB⟩ := HI.out
          obtain ⟨ac, cc, rfl⟩ := hL.fr.shapeOf
          obtain ⟨am, cm, rfl⟩ := hL.om.shape
          have HS : Hid (StayC c k t) := hS
          have HP : Hid (Ph bo pid t ps) := hP
          have HDP : Hid (dn ++ ps = wl) := hdp
          have HPS : Hid (ps = [] ∨ ps.length + j ≤ 4) := hps
          have HL : Hid (Lst b c (.slice ac c.ts.length cc) us (.slice a4 wl.length c4) wl (.slice am dn.length cm) dn wr) := hL
          have HB : Hid (Below w.heap.size w wr) := hB
          have HF : Hid c.fits := mayC_fits hS.m.m
          have HK8 : Hid (c.cnt k < 8) := show _ < _ by have h1 := cnt_lt (c := c) k; have h2 := hS.lt; have h3 := hS.m.m.n8; omega
          have hdn4 : dn.length ≤ 4 := by have := congrArg List.length hdp; simp at this; omega
          clear hS hP hdp hps hL hB HI
          by_cases hlt : j < 60
          · have hltv : (j : Int) < 60 := by omega
            generalize wr = wo at *
            go_upto_region 23 with fail
            go_wp2
            go_loopw [22, 120] (fun mv i W => mv = .slice am dn.length cm ∧ ∃ n : Nat, n ≤ 8 ∧ i = .int .i64 n ∧ Hid (ps = [] ∨ n ≤ c.cnt k) ∧ Hid (Below wo.heap.size wo W)) (fun _ i _ => 8 - (intOf i).toNat)
            case atStart => exact ⟨rfl, 0, Nat.zero_le _, rfl, .inr (Nat.zero_le _), Below.refl _ _⟩
            case round =>
              obtain ⟨rfl, n, hn, rfl, HN, HBW⟩ := hrel
              by_cases hn8 : n < 8
              rotate_left
              · have hnv : ¬ (n : Int) < 8 := by omega
                have dn8 : decide ((n : Int) < 8) = false := by simp; omega
                have HPE : Hid (ps = []) := show _ = _ by rcases HN.out with e | e; exact e; have := HK8.out; omega
                have HLW := (show Hid (Lst _ _ _ _ _ _ _ _ wr) from HL.out.below HBW.out)
                have HBB : Hid (Below w.heap.size w wr) := bstep HB.out HBW.out
                go_wp2
                go_roundw
                case rel => exact ⟨j + 1, by omega, by go_num, ⟨c, t, _, us, dn, ps, ⟨HS.out, HP.out, HDP.out, .inl HPE.out⟩, HLW.out, HBB.out⟩⟩
                case measure => simp [intOf]; omega
              have hnv : (n : Int) < 8 := by omega
              have dn8 : decide ((n : Int) < 8) = true := by simp; omega
              have HLW := (show Hid (Lst b c (.slice ac c.ts.length cc) us (.slice a4 wl.length c4) wl (.slice am dn.length cm) dn wr) from HL.out.below HBW.out)
              have HBB : Hid (Below w.heap.size w wr) := bstep HB.out HBW.out
              by_cases htn : ps = [] ∨ (n : Int) ≠ (c.cnt k : Int)
              · obtain ⟨nm, pp, pi, vr, kd, tx, ge, hx, hor⟩ := ph_skip HS.out HP.out n htn
                have HE : Hid (c.nextP n = (nm, pp, pi, vr, kd, tx, ge)) := hx
                have HN2 : Hid (ps = [] ∨ n + 1 ≤ c.cnt k) := by
                  rcases htn with e | e
                  · exact .inl e
                  · rcases HN.out with e2 | e2
                    · exact .inl e2
                    · exact .inr (by omega)
                have HOR : Hid (ge = 15 ∨ (ge = 0 ∧ nm ≠ nmD)) := hor
                clear htn hx hor
                obtain ⟨s1, ⟨a0, a1, a2, a3⟩, f1⟩ := HLW.out.cb
                go_upto_region 26 with fail
                go_wp2_with fail
                refine (next_any c n _ us _ HLW.out.rdC HF.out.n).mono ?_
                rintro e w6 ⟨rfl, hb6⟩
                rw [HE.out]
                unfold nextV entV
                simp only
                have t6 := bstep hb6 (bbox w6 (.cells #[.int .i64 0, .int .i64 pi, .int .i64 vr, .int .i64 0, .int .i64 kd, .bool tx, .string ⟨#[]⟩] 41))
                have HBX : Hid (Below wo.heap.size wo (w6.alloc (.cells #[.int .i64 0, .int .i64 pi, .int .i64 vr, .int .i64 0, .int .i64 kd, .bool tx, .string ⟨#[]⟩] 41))) := bstep HBW.out t6
                clear s1 a0 a1 a2 a3 f1
                obtain ⟨s1, ⟨a0, a1, a2, a3⟩, f1⟩ := HLW.out.cb.below HLW.out.cb.1 hb6
                clear hb6 t6
                rcases HOR.out with rfl | ⟨rfl, hne⟩
                · go_wp2
                  go_roundw
                  case rel => exact ⟨rfl, n + 1, by omega, by go_num, HN2, HBX⟩
                  case measure => simp [intOf]; omega
                · have HNE : Hid (nm ≠ nmD) := hne
                  clear hne
                  have hd : (nm.toList == [100, 101, 101]) = false := toL_no HNE.out
                  go_wp2
                  go_roundw
                  case rel => exact ⟨rfl, n + 1, by omega, by go_num, HN2, HBX⟩
                  case measure => simp [intOf]; omega
              · obtain ⟨hp0, hn0⟩ : ps ≠ [] ∧ (n : Int) = (c.cnt k : Int) := by
                  refine ⟨fun e => htn (.inl e), ?_⟩
                  apply Classical.byContradiction
                  intro e
                  exact htn (.inr e)
                obtain ⟨p, pt, rfl⟩ := List.exists_cons_of_ne_nil hp0
                have hturn := ph_turn HS.out HP.out
                rw [← hn0] at hturn
                obtain ⟨kk, hkk⟩ : ∃ kk : Int, (if bo then 2 else 3) = kk := ⟨_, rfl⟩
                have HKB : Hid ((kk == 2) = bo) := show _ = _ by rw [← hkk]; cases bo <;> rfl
                rw [hkk] at hturn
                have HE : Hid (c.nextP n = (nmD, p, pid, 0, kk, true, 0)) := hturn
                obtain ⟨d, t2, hdn, hS2, hP2⟩ := ph_done HS.out HP.out
                have HE2 : Hid (c.doneP nmD p = (d, 0)) := hdn
                have HS2 : Hid (StayC d k t2) := hS2
                have HP2 : Hid (Ph bo pid t2 pt) := hP2
                clear htn hp0 hn0 hturn hdn hS2 hP2 hkk
                obtain ⟨s1, ⟨a0, a1, a2, a3⟩, f1⟩ := HLW.out.cb
                go_upto_region 26 with fail
                go_wp2_with fail
                refine (next_any c n _ us _ HLW.out.rdC HF.out.n).mono ?_
                rintro e w6 ⟨rfl, hb6⟩
                rw [HE.out]
                unfold nextV entV
                simp only
                have hkb := HKB.out
                have t6 := bstep hb6 (bbox w6 (.cells #[.int .i64 0, .int .i64 pid, .int .i64 0, .int .i64 0, .int .i64 kk, .bool true, .string ⟨#[]⟩] 41))
                have HB6 : Hid (Below w.heap.size w (w6.alloc (.cells #[.int .i64 0, .int .i64 pid, .int .i64 0, .int .i64 0, .int .i64 kk, .bool true, .string ⟨#[]⟩] 41))) := bstep HBB.out t6
                have HL6 := (show Hid (Lst b c (.slice ac c.ts.length cc) us (.slice a4 wl.length c4) wl (.slice am dn.length cm) dn (w6.alloc (.cells #[.int .i64 0, .int .i64 pid, .int .i64 0, .int .i64 0, .int .i64 kk, .bool true, .string ⟨#[]⟩] 41))) from HLW.out.below t6)
                have HX6 : Hid (EB (w6.alloc (.cells #[.int .i64 0, .int .i64 pid, .int .i64 0, .int .i64 0, .int .i64 kk, .bool true, .string ⟨#[]⟩] 41)) w6.heap.size pid 0 kk true) := eb_new w6 _ _ _ _ _ rfl
                clear s1 a0 a1 a2 a3 f1
                obtain ⟨s1, ⟨a0, a1, a2, a3⟩, f1⟩ := HLW.out.cb.below HLW.out.cb.1 hb6
                clear hb6 t6
                have hd : (nmD.toList == [100, 101, 101]) = true := toL_yes
                have hpp : (pid != pid) = false := by simp
                go_upto_region 27 with fail
                generalize w6.alloc (.cells #[.int .i64 0, .int .i64 pid, .int .i64 0, .int .i64 0, .int .i64 kk, .bool true, .string ⟨#[]⟩] 41) = W6 at *
                generalize w6.heap.size = b6 at *
                clear s1 a0 a1 a2 a3 f1
                obtain ⟨z1, ⟨e0, e1, e2, e3, e4, e5, e6⟩, g1⟩ := HX6.out
                obtain ⟨s1, ⟨a0, a1, a2, a3⟩, f1⟩ := HL6.out.cb
                go_wp2_with fail
                refine (done_any c nmD p _ us _ HL6.out.rdC HF.out HND.out).mono ?_
                rintro e w8 ⟨v8, us8, rfl, hf8, hb8⟩
                rw [HE2.out] at hf8 ⊢
                obtain ⟨k8, q8, rfl⟩ := hf8.shapeOf
                have HL8 : Hid (Lst b d (.slice k8 d.ts.length q8) us8 (.slice a4 wl.length c4) wl (.slice am dn.length cm) dn (put4 w8 b d (.slice k8 d.ts.length q8))) := HL6.out.store hb8 hf8 (Nat.le_refl _)
                have HB8 : Hid (Below w.heap.size w (put4 w8 b d (.slice k8 d.ts.length q8))) := below_put4 (bstep HB6.out hb8) HLO d (.slice k8 d.ts.length q8)
                clear s1 a0 a1 a2 a3 f1
                clear z1 e0 e1 e2 e3 e4 e5 e6 g1
                obtain ⟨s1, ⟨a0, a1, a2, a3⟩, f1⟩ := HL6.out.cb.below HL6.out.cb.1 hb8
                unfold put4 at HL8 HB8
                clear hb8 hf8
                go_upto_region 33 with fail
                generalize (((w8.setCell ⟨b, 0, none⟩ (.int .i64 d.ck)).setCell ⟨b, 1, none⟩ (.int .i64 d.nx)).setCell ⟨b, 2, none⟩ (.int .i64 d.wt)).setCell ⟨b, 3, none⟩ (.slice k8 d.ts.length q8) = W8 at *
                clear s1 a0 a1 a2 a3 f1
                go_wp2_with (at_builtin; refine wp_rowI rfl _ _ rfl (b + 1) _ dn.length _ rfl (HL8.out.om.below (Nat.le_refl _) (bbox _ _)) W8.heap.size rfl p (by simp) (by omega) _ rfl ?_)
                intro gn capn wn ho' hg hat hlt'
                have hL9 := HL8.out.below (bbox W8 (.cells #[.int .i64 p] 3))
                have hT9 : (ints dn ++ [Value.int .i64 p]) = ints (dn ++ [p]) ∧ dn.length + 1 = (dn ++ [p]).length := ⟨by rw [ints_app]; rfl, by simp⟩
                rw [hT9.1, hT9.2] at ho'
                have HL9 : Hid (Lst b d (.slice k8 d.ts.length q8) us8 (.slice a4 wl.length c4) wl (.slice (some ⟨gn, 0, none⟩) (dn.length + 1) capn) (dn ++ [p]) wn) := show Lst _ _ _ _ _ _ _ _ _ by
                  rw [hT9.2]
                  exact hL9.turn hg ho' (fun kb e => by
                    have e2 : gn = kb := by simpa [Value.ownBlock] using e
                    rcases hat with h1 | h1
                    · left; rw [← e2]; exact h1
                    · right; rw [← e2, h1]; first | exact Nat.le_refl _ | simp)
                have HB9 : Hid (Below w.heap.size w wn) := below_grown (bstep HB8.out (bbox W8 (.cells #[.int .i64 p] 3))) hg (by have := HB8.out.size; simp; omega) (fun kb e => by have := (HL8.out.om.blk kb e).1; omega)
                have HPS2 : Hid (pt = [] ∨ pt.length + (j + 1) ≤ 4) := show _ ∨ _ by
                  rcases HPS.out with e | e
                  · cases e
                  · simp at e; right; omega
                have HDP2 : Hid ((dn ++ [p]) ++ pt = wl) := show _ = _ by rw [← HDP.out]; simp
                clear ho' hg hat hlt' hL9 hT9
                go_wp2
                go_roundw
                case rel => exact ⟨j + 1, by omega, by go_num, ⟨d, t2, _, us8, dn ++ [p], pt, ⟨HS2.out, HP2.out, HDP2.out, HPS2.out⟩, HL9.out, HB9.out⟩⟩
                case measure => simp [intOf]; omega
          · obtain rfl : j = 60 := by omega
            have HPE : Hid (ps = []) := show _ = _ by
              rcases HPS.out with e | e
              · exact e
              · omega
            have hd0 := HDP.out
            rw [HPE.out, List.append_nil] at hd0
            subst hd0
            obtain ⟨z8, h8⟩ := ph_again HS.out HP.out
            have HE8 : Hid (c.endP nmD 0 bo = (z8, 0)) := h8
            have HE9 : Hid (c.endP nmD 0 (!bo) = (Crd.zero, 12)) := ph_other HS.out HP.out
            have hjn : decide ((60 : Int) < 60) = false := by decide
            clear h8
            go_upto_region 36 with fail
            obtain ⟨s1, ⟨a0, a1, a2, a3⟩, f1⟩ := HL.out.cb
            go_wp2_with fail
            refine (end_any c nmD 0 bo _ us _ HL.out.rdC HF.out HND.out).mono ?_
            rintro e w8 ⟨v8, us8, rfl, hf8, hb8⟩
            rw [HE8.out] at hf8 ⊢
            obtain ⟨k8, q8, rfl⟩ := hf8.shapeOf
            have t8 := bstep hb8 (bbox w8 (.cells #[.int .i64 z8.ck, .int .i64 z8.nx, .int .i64 z8.wt, .slice k8 z8.ts.length q8] 24))
            have HB8 : Hid (Below w.heap.size w (w8.alloc (.cells #[.int .i64 z8.ck, .int .i64 z8.nx, .int .i64 z8.wt, .slice k8 z8.ts.length q8] 24))) := bstep HB.out t8
            have HL8 := (show Hid (Lst _ _ _ _ _ _ _ _ (w8.alloc (.cells #[.int .i64 z8.ck, .int .i64 z8.nx, .int .i64 z8.wt, .slice k8 z8.ts.length q8] 24))) from HL.out.below t8)
            clear s1 a0 a1 a2 a3 f1
            obtain ⟨s1, ⟨a0, a1, a2, a3⟩, f1⟩ := HL.out.cb.below HL.out.cb.1 hb8
            clear hb8 hf8 t8
            go_upto_region 37 with fail
            generalize w8.alloc (.cells #[.int .i64 z8.ck, .int .i64 z8.nx, .int .i64 z8.wt, .slice k8 z8.ts.length q8] 24) = W8 at *
            clear s1 a0 a1 a2 a3 f1
            obtain ⟨s1, ⟨a0, a1, a2, a3⟩, f1⟩ := HL8.out.cb
            go_wp2_with fail
            refine (end_any c nmD 0 (!bo) _ us _ HL8.out.rdC HF.out HND.out).mono ?_
            rintro e w9 ⟨v9, us9, rfl, hf9, hb9⟩
            rw [HE9.out] at hf9 ⊢
            obtain ⟨k9, q9, rfl⟩ := hf9.shapeOf
            have t9 := bstep hb9 (bbox w9 (.cells #[.int .i64 Crd.zero.ck, .int .i64 Crd.zero.nx, .int .i64 Crd.zero.wt, .slice k9 Crd.zero.ts.length q9] 24))
            have HB9 : Hid (Below w.heap.size w (w9.alloc (.cells #[.int .i64 Crd.zero.ck, .int .i64 Crd.zero.nx, .int .i64 Crd.zero.wt, .slice k9 Crd.zero.ts.length q9] 24))) := bstep HB8.out t9
            have HL9 := (show Hid (Lst _ _ _ _ _ _ _ _ (w9.alloc (.cells #[.int .i64 Crd.zero.ck, .int .i64 Crd.zero.nx, .int .i64 Crd.zero.wt, .slice k9 Crd.zero.ts.length q9] 24))) from HL8.out.below t9)
            clear s1 a0 a1 a2 a3 f1
            obtain ⟨s1, ⟨a0, a1, a2, a3⟩, f1⟩ := HL8.out.cb.below HL8.out.cb.1 hb9
            clear hb9 hf9 t9
            go_upto_region 38 with fail
            generalize w9.alloc (.cells #[.int .i64 Crd.zero.ck, .int .i64 Crd.zero.nx, .int .i64 Crd.zero.wt, .slice k9 Crd.zero.ts.length q9] 24) = W9 at *
            clear s1 a0 a1 a2 a3 f1
            go_wp2_with fail
            refine (eqI_any dn _ _ _ HL9.out.om.rdv HL9.out.ow.rdv (by omega)).mono ?_
            rintro e w10 ⟨rfl, hb10⟩
            have HB10 : Hid (Below w.heap.size w w10) := bstep HB9.out hb10
            clear hb10
            go_wp2
            go_ret
            exact ⟨rfl, HB10.out⟩


end Go.Proofs.Ytjhpfnogdjpbmaa
