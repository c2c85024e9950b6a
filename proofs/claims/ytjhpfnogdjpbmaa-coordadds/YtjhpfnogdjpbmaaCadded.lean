/-
  The document's AddedOf, walked.
-/
import Derived.Test.YtjhpfnogdjpbmaaCadd
import Derived.Test.YtjhpfnogdjpbmaaCended
namespace Go.Proofs.Ytjhpfnogdjpbmaa
open Go.RowKit
set_option linter.unusedVariables false
set_option linter.unusedSimpArgs false

/-- The parts below m that are there, or the one that is told. -/
def insUp (l : List Int) (p : Int) (m : Nat) : List Int := ((List.range m).map Int.ofNat).filter (fun q => decide (q = p) || l.contains q)
theorem insUp_four (l : List Int) (p : Int) : insUp l p 4 = insP l p := by
  unfold insUp insP
  congr 1
theorem insUp_succ (l : List Int) (p : Int) (m : Nat) : insUp l p (m + 1) = insUp l p m ++ (if (decide ((m : Int) = p) || l.contains (m : Int)) then [(m : Int)] else []) := by
  unfold insUp
  rw [List.range_succ, List.map_append, List.filter_append]
  congr 1
  simp only [List.map_cons, List.map_nil, List.filter_cons, List.filter_nil]
  rfl
theorem insUp_yes {l : List Int} {p : Int} {m : Nat} (h : (decide ((m : Int) = p) || l.contains (m : Int)) = true) : ints (insUp l p (m + 1)) = ints (insUp l p m) ++ [.int .i64 (m : Int)] ∧ (insUp l p (m + 1)).length = (insUp l p m).length + 1 := by
  rw [insUp_succ, if_pos h]
  exact ⟨by simp [ints], by simp⟩
theorem insUp_no {l : List Int} {p : Int} {m : Nat} (h : (decide ((m : Int) = p) || l.contains (m : Int)) = false) : insUp l p (m + 1) = insUp l p m := by
  rw [insUp_succ, if_neg (by rw [h]; simp), List.append_nil]
theorem insUp_len (l : List Int) (p : Int) (m : Nat) : (insUp l p m).length ≤ m := by
  unfold insUp
  refine Nat.le_trans (List.length_filter_le _ _) ?_
  simp

theorem sd_cast {w : World} {o B : Nat} {c0 : Crd} {v0 : Value} {c d : Crd} {vt : Value} {us : Nat → Value} {W : World} (e : c = d) (h : Sd w o B c0 v0 c vt us W) : Sd w o B c0 v0 d vt us W := e ▸ h

set_option maxRecDepth 100000 in
set_option maxHeartbeats 4000000 in
theorem added_any (c : Crd) (s : ByteArray) (v p : Int) (vt : Value) (us : Nat → Value) (w : World) (h : RdC w c vt us) (hf : c.fits) (hn : s.size ≤ maxLen) :
    Calls Try.prog 27 #[.agg #[.int .i64 c.ck, .int .i64 c.nx, .int .i64 c.wt, vt], .string s, .int .i64 v, .int .i64 p] w fun e w' => ∃ vt' us', e = .returned (.tuple #[.agg #[.int .i64 (c.addP s v p).1.ck, .int .i64 (c.addP s v p).1.nx, .int .i64 (c.addP s v p).1.wt, vt'], .int .i64 (c.addP s v p).2]) ∧ FreshC w.heap.size w' (c.addP s v p).1 vt' us' ∧ Below w.heap.size w w' := by
  obtain ⟨av, cv, rfl, hl1, hl2⟩ := h.shape
  unfold maxLen at hl2
  have hll : (c.ts.length : Int) ≤ 9223372036854775807 := by omega
  have HR : Hid (∀ W, Below w.heap.size w W → RdC W c (.slice av c.ts.length cv) us) := fun W hW => h.below (Nat.le_refl _) hW
  have HF : Hid c.fits := hf
  have HB0 : Hid (Below w.heap.size w ((w.alloc (.cells #[.int .i64 c.ck, .int .i64 c.nx, .int .i64 c.wt, .slice av c.ts.length cv] 24)).alloc (.cells #[.int .i64 0, .int .i64 0, .int .i64 0, .slice none 0 0] 24))) := bstep (bbox _ _) (bbox _ _)
  have HC0 : Hid (CB ((w.alloc (.cells #[.int .i64 c.ck, .int .i64 c.nx, .int .i64 c.wt, .slice av c.ts.length cv] 24)).alloc (.cells #[.int .i64 0, .int .i64 0, .int .i64 0, .slice none 0 0] 24)) w.heap.size c (.slice av c.ts.length cv)) := (cb_new w c (.slice av c.ts.length cv) 24 w.heap.size rfl).below (C := w.heap.size + 1) (by omega) ((Below.refl _ _).alloc (by simp) _)
  have HZ0 : Hid (CB ((w.alloc (.cells #[.int .i64 c.ck, .int .i64 c.nx, .int .i64 c.wt, .slice av c.ts.length cv] 24)).alloc (.cells #[.int .i64 0, .int .i64 0, .int .i64 0, .slice none 0 0] 24)) (w.heap.size + 1) Crd.zero (.slice none 0 0)) := cb_new _ Crd.zero (.slice none 0 0) 24 (w.heap.size + 1) (by simp)
  have HEE : Hid (c.addP s v p = if c.kfl s v ≠ 0 then (Crd.zero, c.kfl s v) else if inR p 0 3 = false then (Crd.zero, 2) else if (c.at (c.pos s).toNat).endB then (Crd.zero, 12) else (c.setT (c.pos s).toNat ((c.at (c.pos s).toNat).add c.ck p), 0)) := show _ = _ from rfl
  have HN : Hid (s.size ≤ maxLen) := hn
  clear h hf hl1 hl2 hn
  go_enter Try.func27, Try.ntmps27
  go_upto_region 1 with fail
  generalize (w.alloc (.cells #[.int .i64 c.ck, .int .i64 c.nx, .int .i64 c.wt, .slice av c.ts.length cv] 24)).alloc (.cells #[.int .i64 0, .int .i64 0, .int .i64 0, .slice none 0 0] 24) = W0 at *
  obtain ⟨s1, ⟨a0, a1, a2, a3⟩, f1⟩ := HC0.out
  obtain ⟨z1, ⟨e0, e1, e2, e3⟩, g1⟩ := HZ0.out
  go_wp2_with fail
  refine (knownFault_any c s v _ us _ (HR.out _ HB0.out) HF.out.n HN.out).mono ?_
  rintro e w1 ⟨rfl, hb1⟩
  have HB1 : Hid (Below w.heap.size w w1) := bstep HB0.out hb1
  have HC1 : Hid (CB w1 w.heap.size c _) := HC0.out.below HC0.out.1 hb1
  have HZ1 : Hid (CB w1 (w.heap.size + 1) Crd.zero _) := HZ0.out.below HZ0.out.1 hb1
  clear a0 a1 a2 a3 f1 s1 z1 e0 e1 e2 e3 g1 hb1
  obtain ⟨s1, ⟨a0, a1, a2, a3⟩, f1⟩ := HC1.out
  obtain ⟨z1, ⟨e0, e1, e2, e3⟩, g1⟩ := HZ1.out
  have HDN : Hid (∀ W, Below w.heap.size w W → FreshC w.heap.size (put4 W (w.heap.size + 1) Crd.zero (.slice none 0 0)) Crd.zero (.slice none 0 0) (fun _ => .slice none 0 0) ∧ Below w.heap.size w (put4 W (w.heap.size + 1) Crd.zero (.slice none 0 0))) := fun W hW => ⟨freshC_nil' _ rfl (by rw [put4_size]; exact hW.size), below_put4 hW (by omega) _ _⟩
  unfold put4 at HDN
  by_cases hf0 : c.kfl s v = 0
  rotate_left
  · have HV : Hid (c.addP s v p = (Crd.zero, c.kfl s v)) := show _ = _ by rw [HEE.out, if_pos hf0]
    have d1 : (c.kfl s v != 0) = true := by simp [hf0]
    have d1' : (c.kfl s v == 0) = false := by simp [hf0]
    clear hf0
    generalize c.kfl s v = fl at *
    go_wp2
    go_quiet (fail)
    go_wp2
    exact bodyPost_ret (v := .tuple #[.agg #[.int .i64 0, .int .i64 0, .int .i64 0, .slice none 0 0], .int .i64 fl]) (by simp [results, Try.results27, go_sem, e0, e1, e2, e3]) rfl ⟨.slice none 0 0, fun _ => .slice none 0 0, by simp only [HV.out, Crd.zero], by simp only [HV.out]; exact (HDN.out _ (below_drewN HB1.out _)).1, (HDN.out _ (below_drewN HB1.out _)).2⟩
  have HFL : Hid (c.kfl s v = 0) := hf0
  obtain ⟨k, hk, -, HPS⟩ := kfl_at hf0
  rw [HFL.out]
  have HE2 : Hid (c.addP s v p = if inR p 0 3 = false then (Crd.zero, 2) else if (c.at k).endB then (Crd.zero, 12) else (c.setT k ((c.at k).add c.ck p), 0)) := show _ = _ by rw [HEE.out, if_neg (by rw [HFL.out]; simp), HPS, Int.toNat_natCast]
  have hkv : (k : Int) < c.ts.length := by omega
  have HPS : Hid (c.pos s = k) := HPS
  clear hf0 HEE
  go_wp2_with fail
  refine (In_any _ _ _ _).mono ?_
  rintro e w1 ⟨rfl, rfl⟩
  cases hin : inR p 0 3 with
  | false =>
    have HV : Hid (c.addP s v p = (Crd.zero, 2)) := show _ = _ by rw [HE2.out, if_pos hin]
    clear hin
    go_wp2
    go_quiet (fail)
    go_wp2
    exact bodyPost_ret (v := .tuple #[.agg #[.int .i64 0, .int .i64 0, .int .i64 0, .slice none 0 0], .int .i64 2]) (by simp [results, Try.results27, go_sem, e0, e1, e2, e3]) rfl ⟨.slice none 0 0, fun _ => .slice none 0 0, by simp only [HV.out, Crd.zero], by simp only [HV.out]; exact (HDN.out _ (below_drewN HB1.out _)).1, (HDN.out _ (below_drewN HB1.out _)).2⟩
  | true =>
  have HE3 : Hid (c.addP s v p = if (c.at k).endB then (Crd.zero, 12) else (c.setT k ((c.at k).add c.ck p), 0)) := show _ = _ by rw [HE2.out, if_neg (by rw [hin]; simp)]
  clear hin HE2
  go_wp2
  go_cut [39] (fun r W => r = .bool (c.at k).endB ∧ Below w1.heap.size w1 W)
  case first =>
    obtain ⟨gg, off, t, au, cu, rfl, HAT, hgg, HQ, p0, p1, p2, p3, p4, p5, p6⟩ := (HR.out w1 HB1.out).txnAt k hk
    go_region_with (first | (go_at_call 56; refine (txnOf_any c s _ us _ (HR.out _ (bstep HB1.out (by repeat (first | exact Below.refl _ _ | refine Below.drew ?_))))).mono ?_; rintro e w6 ⟨rfl, hb6⟩; rw [HPS.out]; have hB6 : Below w1.heap.size w1 w6 := bstep (by repeat (first | exact Below.refl _ _ | refine Below.drew ?_)) hb6; obtain ⟨m3, m4⟩ := bcell hB6; clear hb6) | (go_at_call 57; refine (ending_any t _ _).mono ?_; rintro e w7 ⟨rfl, hb7⟩))
    all_goals
      have HX : Below w1.heap.size w1 w7 := hB6.trans ((bstep (by repeat (first | exact Below.refl _ _ | refine Below.drew ?_)) hb7 : Below w6.heap.size w6 w7).mono hB6.size)
      go_wp2_with fail
      go_meet
      exact ⟨by rw [HAT.out], HX⟩
  case rest =>
  obtain ⟨hv, hbl⟩ := hcut
  subst hv
  rename World => w2
  have HB2 : Hid (Below w.heap.size w w2) := bstep HB1.out hbl
  have HC2 : Hid (CB w2 w.heap.size c _) := HC1.out.below HC1.out.1 hbl
  have HZ2 : Hid (CB w2 (w.heap.size + 1) Crd.zero _) := HZ1.out.below HZ1.out.1 hbl
  clear a0 a1 a2 a3 f1 s1 z1 e0 e1 e2 e3 g1 hbl
  obtain ⟨s1, ⟨a0, a1, a2, a3⟩, f1⟩ := HC2.out
  obtain ⟨z1, ⟨e0, e1, e2, e3⟩, g1⟩ := HZ2.out
  cases he : (c.at k).endB with
  | true =>
    have HV : Hid (c.addP s v p = (Crd.zero, 12)) := show _ = _ by rw [HE3.out, he]; rfl
    clear he
    go_at_K
    go_wp2
    exact bodyPost_ret (v := .tuple #[.agg #[.int .i64 0, .int .i64 0, .int .i64 0, .slice none 0 0], .int .i64 12]) (by simp [results, Try.results27, go_sem, e0, e1, e2, e3]) rfl ⟨.slice none 0 0, fun _ => .slice none 0 0, by simp only [HV.out, Crd.zero], by simp only [HV.out]; exact (HDN.out _ HB2.out).1, (HDN.out _ HB2.out).2⟩
  | false =>
  have HEF : Hid (c.addP s v p = (c.setT k ((c.at k).add c.ck p), 0)) := show _ = _ by rw [HE3.out, if_neg (by rw [he]; simp)]
  clear he HE3 HDN
  go_at_K
  go_wp2_with fail
  refine (coordCopy_any c _ us _ (HR.out _ HB2.out) HF.out).mono ?_
  rintro e w3 ⟨v3, us3, rfl, hf3, hb3⟩
  obtain ⟨g3o, c3, rfl⟩ := hf3.shapeOf
  have HS : Hid (Sd w w3.heap.size w2.heap.size c (.slice av c.ts.length cv) c (.slice g3o c.ts.length c3) us3 (w3.alloc (.cells #[.int .i64 c.ck, .int .i64 c.nx, .int .i64 c.wt, .slice g3o c.ts.length c3] 24))) := sd_new HB2.out HC2.out HZ2.out hf3 hb3
  clear a0 a1 a2 a3 f1 s1 z1 e0 e1 e2 e3 g1
  have hC3 := HC2.out.below HC2.out.1 hb3
  obtain ⟨s1, ⟨a0, a1, a2, a3⟩, f1⟩ := hC3
  clear hf3 hb3
  go_wp2_with fail
  refine (txnOf_any c s _ us _ (HR.out _ HS.out.bel)).mono ?_
  rintro e w5 ⟨rfl, hb5⟩
  have HS5 : Hid (Sd w w3.heap.size w2.heap.size c (.slice av c.ts.length cv) c (.slice g3o c.ts.length c3) us3 w5) := HS.out.below hb5
  generalize w3.heap.size = o at *
  clear a0 a1 a2 a3 f1 s1 hb5 HS
  obtain ⟨s1, ⟨a0, a1, a2, a3⟩, f1⟩ := HS5.out.src
  obtain ⟨z1, ⟨e0, e1, e2, e3⟩, g1⟩ := HS5.out.zz
  obtain ⟨o1, ⟨b0, b1, b2, b3⟩, h1⟩ := HS5.out.out
  have hbz : w.heap.size ≠ w.heap.size + 1 := by omega
  have hob : w.heap.size ≠ o := by have := HS5.out.no; omega
  have hoz : w.heap.size + 1 ≠ o := by have := HS5.out.no; omega
  rw [HPS.out]
  obtain ⟨gg, off, t, au, cu, rfl, HAT, hgg, HQ, p0, p1, p2, p3, p4, p5, p6⟩ := (HR.out w5 HS5.out.bel).txnAt k hk
  obtain ⟨g3, cc3, eg3⟩ := HS5.out.own.form (by omega)
  simp only [Value.slice.injEq, true_and] at eg3
  obtain ⟨rfl, rfl⟩ := eg3
  obtain ⟨hT3, hfz, hg1, hg2⟩ := FreshC.cells HS5.out.own k hk
  rw [HAT.out] at hT3
  have hgb : w.heap.size ≠ g3 := by have := HS5.out.lo; omega
  have hgz : w.heap.size + 1 ≠ g3 := by have := HS5.out.lo; omega
  have hgo : o ≠ g3 := fun e => HS5.out.na (by rw [e]; rfl)
  have hgw : gg < w.heap.size := by
    obtain ⟨gg', off', t', au', cu', e, HAT', h0, _⟩ := (HR.out w (Below.refl _ _)).txnAt k hk
    simp only [Option.some.injEq, Addr.mk.injEq, and_true] at e
    omega
  have hgr : gg ≠ g3 := by have := HS5.out.lo; omega
  have hrb : gg ≠ w.heap.size := by omega
  have hrz : gg ≠ w.heap.size + 1 := by omega
  have hro : gg ≠ o := by have := HS5.out.no; omega
  obtain ⟨q0, q1, q2, q3, q4, q5, q6⟩ := hT3
  clear hg1
  rw [HAT.out] at HEF
  have hpn : (Value.slice (some ⟨g3, 0, none⟩) c.ts.length c3) = (Value.slice (some ⟨g3, 0, none⟩) c.ts.length c3) := rfl
  by_cases hst : t.st = 1
  · have d2 : (t.st == 1) = true := by simp [hst]
    obtain ⟨t1, ht1⟩ : ∃ t1 : Txn, { t with st := 2, sn := c.ck } = t1 := ⟨_, rfl⟩
    have HV : Hid (c.addP s v p = (c.setT k { t1 with ps := insP t.ps p }, 0)) := show _ = _ by rw [HEF.out]; unfold Txn.add; rw [if_pos hst, if_pos hst, ← ht1]
    have hs1' := HS5.out.set k 3 hk (by omega) { t with st := 2 } (.int .i64 2) (by rw [HAT.out]; rfl) (by rw [HAT.out])
    have hs2' := hs1'.set k 5 (by rw [setT_len]; exact hk) (by omega) { t with st := 2, sn := c.ck } (.int .i64 c.ck) (by rw [setT_at hk]; rfl) (by rw [setT_at hk])
    rw [setT_setT, ht1] at hs2'
    have HSB : Hid _ := hs2'
    clear hst hs1' hs2' ht1
    go_upto_region 13 with fail
    clear a0 a1 a2 a3 f1 s1 z1 e0 e1 e2 e3 g1 o1 b0 b1 b2 b3 h1 p0 p1 p2 p3 p4 p5 p6 q0 q1 q2 q3 q4 q5 q6 hfz hg2
    generalize (w5.setCell ⟨g3, k * 7 + 3, none⟩ (.int .i64 2)).setCell ⟨g3, k * 7 + 5, none⟩ (.int .i64 c.ck) = W5 at *
    go_wp2
    go_loopw [13, 14] (fun l q W => ∃ m : Nat, m ≤ 4 ∧ q = .int .i64 m ∧ Hid (OwnV W5.heap.size 3 1 l (insUp t.ps p m).length (ints (insUp t.ps p m)) W) ∧ Hid (Below W5.heap.size W5 W)) (fun _ q _ => 4 - (intOf q).toNat)
    case atStart => exact ⟨0, by omega, rfl, ownV_nil _ _ _ _ (Nat.le_refl _), Below.refl _ _⟩
    case round =>
      obtain ⟨m, hm, rfl, HO, HB⟩ := hrel
      obtain ⟨al, cl, rfl⟩ := HO.out.shape
      have HSW : Hid (Sd w o w2.heap.size c (.slice (some ⟨gg, off, none⟩) c.ts.length cv) (c.setT k t1) (.slice (some ⟨g3, 0, none⟩) c.ts.length c3) us3 wr) := HSB.out.below HB.out
      obtain ⟨s1, ⟨a0, a1, a2, a3⟩, f1⟩ := HSW.out.src
      by_cases hlt : m < 4
      · have hltv : (m : Int) < 4 := by omega
        obtain ⟨g', off', t', au', cu', e, HAT', hgg', HQ', p0, p1, p2, p3, p4, p5, p6⟩ := (HR.out wr HSW.out.bel).txnAt k hk
        simp only [Option.some.injEq, Addr.mk.injEq, and_true] at e
        obtain ⟨rfl, rfl⟩ := e
        obtain rfl : t' = t := HAT'.out.symm.trans HAT.out
        have hll2 : (t'.ps.length : Int) ≤ 9223372036854775807 := by
          obtain ⟨_, cpq, _, hq1, hq2, _⟩ := HQ'.out
          rw [ints_len] at hq1
          unfold maxLen at hq2
          omega
        go_wp2
        go_loop [15, 16] (fun b i => ∃ j : Nat, j ≤ t'.ps.length ∧ i = .int .i64 j ∧ b = .bool (decide ((m : Int) = p) || (t'.ps.take j).contains (m : Int))) (fun _ i => t'.ps.length - (intOf i).toNat)
        case atStart => exact ⟨0, by omega, rfl, by simp; rfl⟩
        case round =>
          obtain ⟨j, hj, rfl, rfl⟩ := hrel
          by_cases hjt : j < t'.ps.length
          · have hjv : (j : Int) < t'.ps.length := by omega
            obtain ⟨gi, oi, rfl, -, ci⟩ := HQ'.out.cellAt j (by rw [ints_len]; exact hjt)
            have e1 : (ints t'.ps)[j]'(by rw [ints_len]; exact hjt) = .int .i64 (t'.ps[j]'hjt) := by simp [ints]
            rw [e1] at ci
            have HTK : Hid (t'.ps.take (j + 1) = t'.ps.take j ++ [t'.ps[j]'hjt]) := show _ = _ from List.take_succ_eq_append_getElem hjt
            generalize t'.ps[j]'hjt = y at *
            clear e1
            have HNB : Hid (∀ b : Bool, (decide ((m : Int) = p) || (t'.ps.take j).contains (m : Int)) = b → (decide ((m : Int) = p) || (t'.ps.take (j + 1)).contains (m : Int)) = (b || (y == (m : Int)))) := fun b hb => by
              rw [HTK.out, ← hb]
              by_cases hy : y = (m : Int)
              · simp [hy]
              · have hy2 : ¬ (m : Int) = y := fun h => hy h.symm
                simp [hy, hy2]
            cases hb : (decide ((m : Int) = p) || (t'.ps.take j).contains (m : Int)) with
            | true =>
              have HNX := HNB.out true hb
              clear hb
              go_wp2
              go_round
              case rel => exact ⟨j + 1, by omega, by go_num, by rw [HNX]; rfl⟩
              case measure => simp [intOf]; omega
            | false =>
              have HNX := HNB.out false hb
              clear hb
              go_wp2
              go_round
              case rel => exact ⟨j + 1, by omega, by go_num, by rw [HNX]; simp⟩
              case measure => simp [intOf]; omega
          · have hje : j = t'.ps.length := by omega
            subst hje
            rw [List.take_length]
            cases hb : (decide ((m : Int) = p) || t'.ps.contains (m : Int)) with
            | true =>
              have HUP : Hid (ints (insUp t'.ps p (m + 1)) = ints (insUp t'.ps p m) ++ [.int .i64 (m : Int)] ∧ (insUp t'.ps p (m + 1)).length = (insUp t'.ps p m).length + 1) := insUp_yes hb
              have HLE : Hid ((insUp t'.ps p m).length ≤ m) := insUp_len _ _ _
              have hle := HLE.out
              clear hb
              go_wp2_with (at_builtin; refine wp_rowI rfl _ _ rfl W5.heap.size _ (insUp t'.ps p m).length _ rfl (HO.out.below (Nat.le_refl _) (bbox _ _)) wr.heap.size rfl (m : Int) (by simp) (by omega) _ rfl ?_)
              intro gn capn wn ho' hg hat hlt'
              have HO' : Hid (OwnV W5.heap.size 3 1 (.slice (some ⟨gn, 0, none⟩) ((insUp t'.ps p m).length + 1) capn) (insUp t'.ps p (m + 1)).length (ints (insUp t'.ps p (m + 1))) wn) := show OwnV _ _ _ _ _ _ _ by rw [HUP.out.1, HUP.out.2]; exact ho'
              have HB' : Hid (Below W5.heap.size W5 wn) := below_grown (bstep HB.out (bbox wr (.cells #[.int .i64 (m : Int)] 3))) hg (by simp; have := HB.out.size; omega) (fun j e => (HO.out.blk j e).1)
              clear ho' hg hat hlt' hle
              go_wp2
              go_roundw
              case rel => exact ⟨m + 1, by omega, by go_num, HO', HB'⟩
              case measure => simp [intOf]; omega
            | false =>
              have HUP : Hid (insUp t'.ps p (m + 1) = insUp t'.ps p m) := insUp_no hb
              have HO' : Hid (OwnV W5.heap.size 3 1 (.slice al (insUp t'.ps p m).length cl) (insUp t'.ps p (m + 1)).length (ints (insUp t'.ps p (m + 1))) wr) := show OwnV _ _ _ _ _ _ _ by rw [HUP.out]; exact HO.out
              clear hb
              go_wp2
              go_roundw
              case rel => exact ⟨m + 1, by omega, by go_num, HO', HB⟩
              case measure => simp [intOf]; omega
      · obtain rfl : m = 4 := by omega
        have ho := HO.out
        rw [insUp_four] at ho
        have HIL : Hid ((insUp t.ps p 4).length = (insP t.ps p).length) := show _ = _ by rw [insUp_four]
        rw [HIL.out]
        have hbl : ∀ b, (Value.slice al (insP t.ps p).length cl).ownBlock = some b → W5.heap.size ≤ b := fun b e => (ho.blk b e).1
        have hg3l : g3 < W5.heap.size := (HSB.out.own.o.blk g3 rfl).2
        have hs9 := HSW.out.setIn k (by rw [setT_len]; exact hk) { t1 with ps := insP t.ps p } (.slice al (insP t.ps p).length cl) (by rw [setT_at hk]; rfl) (ho.mono HSB.out.own.o.2) (fun e => by have := hbl _ e; have := HSB.out.out.1; omega) (fun e => by have := hbl _ e; omega) (fun j hj hne b e e2 => by have := hbl _ e2; have := ((HSB.out.own.i j hj).blk _ e).2; omega)
        rw [setT_setT] at hs9
        have hT3 := FreshC.cells HSW.out.own k (by rw [setT_len]; exact hk)
        have HDN : Hid _ := hs9.done c
        unfold put4 at HDN
        have hbb : CB wr o c (.slice (some ⟨g3, 0, none⟩) c.ts.length c3) := HSW.out.out
        obtain ⟨o1, ⟨b0, b1, b2, b3⟩, h1⟩ := hbb
        obtain ⟨z1, ⟨e0, e1, e2, e3⟩, g1⟩ := HSW.out.zz
        rw [setT_at hk] at hT3
        obtain ⟨⟨q0, q1, q2, q3, q4, q5, q6⟩, hfz, hg1, hg2⟩ := hT3
        clear ho hbl hs9 hg1
        go_wp2
        exact bodyPost_ret (v := .tuple #[.agg #[.int .i64 c.ck, .int .i64 c.nx, .int .i64 c.wt, .slice (some ⟨g3, 0, none⟩) c.ts.length c3], .int .i64 0]) (by simp [results, Try.results27, go_sem, a0, a1, a2, a3, b0, b1, b2, b3, e0, e1, e2, e3, hgb, hgz, hgo, hbz, hob, hoz]) rfl ⟨.slice (some ⟨g3, 0, none⟩) c.ts.length c3, _, by simp only [HV.out, Crd.setT], by simp only [HV.out]; exact HDN.out.1, HDN.out.2⟩
  · have d2 : (t.st == 1) = false := by simp [hst]
    obtain ⟨t1, ht1⟩ : ∃ t1 : Txn, t = t1 := ⟨_, rfl⟩
    have HV : Hid (c.addP s v p = (c.setT k { t1 with ps := insP t.ps p }, 0)) := show _ = _ by rw [HEF.out]; unfold Txn.add; rw [if_neg hst, if_neg hst, ← ht1]
    have HC4 : Hid (c.setT k t1 = c) := show _ = _ by rw [← ht1, ← HAT.out]; exact setT_self hk
    have hs2' := sd_cast HC4.out.symm HS5.out
    have HSB : Hid _ := hs2'
    clear hst hs2' ht1
    go_upto_region 13 with fail
    clear a0 a1 a2 a3 f1 s1 z1 e0 e1 e2 e3 g1 o1 b0 b1 b2 b3 h1 p0 p1 p2 p3 p4 p5 p6 q0 q1 q2 q3 q4 q5 q6 hfz hg2
    generalize w5 = W5 at *
    go_wp2
    go_loopw [13, 14] (fun l q W => ∃ m : Nat, m ≤ 4 ∧ q = .int .i64 m ∧ Hid (OwnV W5.heap.size 3 1 l (insUp t.ps p m).length (ints (insUp t.ps p m)) W) ∧ Hid (Below W5.heap.size W5 W)) (fun _ q _ => 4 - (intOf q).toNat)
    case atStart => exact ⟨0, by omega, rfl, ownV_nil _ _ _ _ (Nat.le_refl _), Below.refl _ _⟩
    case round =>
      obtain ⟨m, hm, rfl, HO, HB⟩ := hrel
      obtain ⟨al, cl, rfl⟩ := HO.out.shape
      have HSW : Hid (Sd w o w2.heap.size c (.slice (some ⟨gg, off, none⟩) c.ts.length cv) (c.setT k t1) (.slice (some ⟨g3, 0, none⟩) c.ts.length c3) us3 wr) := HSB.out.below HB.out
      obtain ⟨s1, ⟨a0, a1, a2, a3⟩, f1⟩ := HSW.out.src
      by_cases hlt : m < 4
      · have hltv : (m : Int) < 4 := by omega
        obtain ⟨g', off', t', au', cu', e, HAT', hgg', HQ', p0, p1, p2, p3, p4, p5, p6⟩ := (HR.out wr HSW.out.bel).txnAt k hk
        simp only [Option.some.injEq, Addr.mk.injEq, and_true] at e
        obtain ⟨rfl, rfl⟩ := e
        obtain rfl : t' = t := HAT'.out.symm.trans HAT.out
        have hll2 : (t'.ps.length : Int) ≤ 9223372036854775807 := by
          obtain ⟨_, cpq, _, hq1, hq2, _⟩ := HQ'.out
          rw [ints_len] at hq1
          unfold maxLen at hq2
          omega
        go_wp2
        go_loop [15, 16] (fun b i => ∃ j : Nat, j ≤ t'.ps.length ∧ i = .int .i64 j ∧ b = .bool (decide ((m : Int) = p) || (t'.ps.take j).contains (m : Int))) (fun _ i => t'.ps.length - (intOf i).toNat)
        case atStart => exact ⟨0, by omega, rfl, by simp; rfl⟩
        case round =>
          obtain ⟨j, hj, rfl, rfl⟩ := hrel
          by_cases hjt : j < t'.ps.length
          · have hjv : (j : Int) < t'.ps.length := by omega
            obtain ⟨gi, oi, rfl, -, ci⟩ := HQ'.out.cellAt j (by rw [ints_len]; exact hjt)
            have e1 : (ints t'.ps)[j]'(by rw [ints_len]; exact hjt) = .int .i64 (t'.ps[j]'hjt) := by simp [ints]
            rw [e1] at ci
            have HTK : Hid (t'.ps.take (j + 1) = t'.ps.take j ++ [t'.ps[j]'hjt]) := show _ = _ from List.take_succ_eq_append_getElem hjt
            generalize t'.ps[j]'hjt = y at *
            clear e1
            have HNB : Hid (∀ b : Bool, (decide ((m : Int) = p) || (t'.ps.take j).contains (m : Int)) = b → (decide ((m : Int) = p) || (t'.ps.take (j + 1)).contains (m : Int)) = (b || (y == (m : Int)))) := fun b hb => by
              rw [HTK.out, ← hb]
              by_cases hy : y = (m : Int)
              · simp [hy]
              · have hy2 : ¬ (m : Int) = y := fun h => hy h.symm
                simp [hy, hy2]
            cases hb : (decide ((m : Int) = p) || (t'.ps.take j).contains (m : Int)) with
            | true =>
              have HNX := HNB.out true hb
              clear hb
              go_wp2
              go_round
              case rel => exact ⟨j + 1, by omega, by go_num, by rw [HNX]; rfl⟩
              case measure => simp [intOf]; omega
            | false =>
              have HNX := HNB.out false hb
              clear hb
              go_wp2
              go_round
              case rel => exact ⟨j + 1, by omega, by go_num, by rw [HNX]; simp⟩
              case measure => simp [intOf]; omega
          · have hje : j = t'.ps.length := by omega
            subst hje
            rw [List.take_length]
            cases hb : (decide ((m : Int) = p) || t'.ps.contains (m : Int)) with
            | true =>
              have HUP : Hid (ints (insUp t'.ps p (m + 1)) = ints (insUp t'.ps p m) ++ [.int .i64 (m : Int)] ∧ (insUp t'.ps p (m + 1)).length = (insUp t'.ps p m).length + 1) := insUp_yes hb
              have HLE : Hid ((insUp t'.ps p m).length ≤ m) := insUp_len _ _ _
              have hle := HLE.out
              clear hb
              go_wp2_with (at_builtin; refine wp_rowI rfl _ _ rfl W5.heap.size _ (insUp t'.ps p m).length _ rfl (HO.out.below (Nat.le_refl _) (bbox _ _)) wr.heap.size rfl (m : Int) (by simp) (by omega) _ rfl ?_)
              intro gn capn wn ho' hg hat hlt'
              have HO' : Hid (OwnV W5.heap.size 3 1 (.slice (some ⟨gn, 0, none⟩) ((insUp t'.ps p m).length + 1) capn) (insUp t'.ps p (m + 1)).length (ints (insUp t'.ps p (m + 1))) wn) := show OwnV _ _ _ _ _ _ _ by rw [HUP.out.1, HUP.out.2]; exact ho'
              have HB' : Hid (Below W5.heap.size W5 wn) := below_grown (bstep HB.out (bbox wr (.cells #[.int .i64 (m : Int)] 3))) hg (by simp; have := HB.out.size; omega) (fun j e => (HO.out.blk j e).1)
              clear ho' hg hat hlt' hle
              go_wp2
              go_roundw
              case rel => exact ⟨m + 1, by omega, by go_num, HO', HB'⟩
              case measure => simp [intOf]; omega
            | false =>
              have HUP : Hid (insUp t'.ps p (m + 1) = insUp t'.ps p m) := insUp_no hb
              have HO' : Hid (OwnV W5.heap.size 3 1 (.slice al (insUp t'.ps p m).length cl) (insUp t'.ps p (m + 1)).length (ints (insUp t'.ps p (m + 1))) wr) := show OwnV _ _ _ _ _ _ _ by rw [HUP.out]; exact HO.out
              clear hb
              go_wp2
              go_roundw
              case rel => exact ⟨m + 1, by omega, by go_num, HO', HB⟩
              case measure => simp [intOf]; omega
      · obtain rfl : m = 4 := by omega
        have ho := HO.out
        rw [insUp_four] at ho
        have HIL : Hid ((insUp t.ps p 4).length = (insP t.ps p).length) := show _ = _ by rw [insUp_four]
        rw [HIL.out]
        have hbl : ∀ b, (Value.slice al (insP t.ps p).length cl).ownBlock = some b → W5.heap.size ≤ b := fun b e => (ho.blk b e).1
        have hg3l : g3 < W5.heap.size := (HSB.out.own.o.blk g3 rfl).2
        have hs9 := HSW.out.setIn k (by rw [setT_len]; exact hk) { t1 with ps := insP t.ps p } (.slice al (insP t.ps p).length cl) (by rw [setT_at hk]; rfl) (ho.mono HSB.out.own.o.2) (fun e => by have := hbl _ e; have := HSB.out.out.1; omega) (fun e => by have := hbl _ e; omega) (fun j hj hne b e e2 => by have := hbl _ e2; have := ((HSB.out.own.i j hj).blk _ e).2; omega)
        rw [setT_setT] at hs9
        have hT3 := FreshC.cells HSW.out.own k (by rw [setT_len]; exact hk)
        have HDN : Hid _ := hs9.done c
        unfold put4 at HDN
        have hbb : CB wr o c (.slice (some ⟨g3, 0, none⟩) c.ts.length c3) := HSW.out.out
        obtain ⟨o1, ⟨b0, b1, b2, b3⟩, h1⟩ := hbb
        obtain ⟨z1, ⟨e0, e1, e2, e3⟩, g1⟩ := HSW.out.zz
        rw [setT_at hk] at hT3
        obtain ⟨⟨q0, q1, q2, q3, q4, q5, q6⟩, hfz, hg1, hg2⟩ := hT3
        clear ho hbl hs9 hg1
        go_wp2
        exact bodyPost_ret (v := .tuple #[.agg #[.int .i64 c.ck, .int .i64 c.nx, .int .i64 c.wt, .slice (some ⟨g3, 0, none⟩) c.ts.length c3], .int .i64 0]) (by simp [results, Try.results27, go_sem, a0, a1, a2, a3, b0, b1, b2, b3, e0, e1, e2, e3, hgb, hgz, hgo, hbz, hob, hoz]) rfl ⟨.slice (some ⟨g3, 0, none⟩) c.ts.length c3, _, by simp only [HV.out, Crd.setT], by simp only [HV.out]; exact HDN.out.1, HDN.out.2⟩

end Go.Proofs.Ytjhpfnogdjpbmaa
