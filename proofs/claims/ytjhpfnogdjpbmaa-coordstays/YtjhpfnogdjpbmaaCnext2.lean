/-
  The walk of coord.Next.
-/
import Derived.Test.YtjhpfnogdjpbmaaCnext1
import Derived.Test.YtjhpfnogdjpbmaaRtwo
import Derived.Deep.RegionHeld3
namespace Go.Proofs.Ytjhpfnogdjpbmaa
open Go.RowKit
set_option linter.unusedVariables false
set_option linter.unusedSimpArgs false

theorem ask_no {c : Prop} [Decidable c] {A B : Prop} (h : ¬ c) (b : B) : if c then A else B := by rw [if_neg h]; exact b
theorem ask_yes {c : Prop} [Decidable c] {A B : Prop} (h : c) (b : A) : if c then A else B := by rw [if_pos h]; exact b

set_option maxRecDepth 100000 in
set_option maxHeartbeats 16000000 in
theorem next_any (c : Crd) (n : Int) (vt : Value) (us : Nat → Value) (w : World) (h : RdC w c vt us) (hs : c.small) :
    Calls Try.prog 30 #[.agg #[.int .i64 c.ck, .int .i64 c.nx, .int .i64 c.wt, vt], .int .i64 n] w fun e w' => e = .returned (nextV (c.nextP n)) ∧ Below w.heap.size w w' := by
  obtain ⟨av, cv, rfl, hl1, hl2⟩ := h.shape
  unfold maxLen at hl2
  have hll : (c.ts.length : Int) ≤ 9223372036854775807 := by omega
  have HR : Hid (∀ W, Below w.heap.size w W → RdC W c (.slice av c.ts.length cv) us) := fun W hW => h.below (Nat.le_refl _) hW
  have HS : Hid c.small := hs
  have HB0 : Hid (Below w.heap.size w ((w.alloc (.cells #[.int .i64 c.ck, .int .i64 c.nx, .int .i64 c.wt, .slice av c.ts.length cv] 24)).alloc (.cells #[.int .i64 0, .int .i64 0, .int .i64 0, .int .i64 0, .int .i64 0, .bool false, .string ⟨#[]⟩] 41))) := bstep (bbox _ _) (bbox _ _)
  have HC0 : Hid (CB ((w.alloc (.cells #[.int .i64 c.ck, .int .i64 c.nx, .int .i64 c.wt, .slice av c.ts.length cv] 24)).alloc (.cells #[.int .i64 0, .int .i64 0, .int .i64 0, .int .i64 0, .int .i64 0, .bool false, .string ⟨#[]⟩] 41)) w.heap.size c (.slice av c.ts.length cv)) := (cb_new w c (.slice av c.ts.length cv) 24 w.heap.size rfl).below (C := w.heap.size + 1) (by omega) ((Below.refl _ _).alloc (by simp) _)
  clear h hs hl1 hl2
  go_enter Try.func30, Try.ntmps30
  go_upto_region 1 with fail
  have HZ0 : Hid (EB ((w.alloc (.cells #[.int .i64 c.ck, .int .i64 c.nx, .int .i64 c.wt, .slice av c.ts.length cv] 24)).alloc (.cells #[.int .i64 0, .int .i64 0, .int .i64 0, .int .i64 0, .int .i64 0, .bool false, .string ⟨#[]⟩] 41)) (w.heap.size + 1) 0 0 0 false) := eb_new _ 0 0 0 false _ (by simp)
  have HDN : Hid (∀ W p v k f, Below w.heap.size w W → Below w.heap.size w (putE W (w.heap.size + 1) p v k f)) := fun W p v k f h => below_putE h (by omega) p v k f
  unfold putE at HDN
  generalize (w.alloc (.cells #[.int .i64 c.ck, .int .i64 c.nx, .int .i64 c.wt, .slice av c.ts.length cv] 24)).alloc (.cells #[.int .i64 0, .int .i64 0, .int .i64 0, .int .i64 0, .int .i64 0, .bool false, .string ⟨#[]⟩] 41) = W0 at *
  obtain ⟨s1, ⟨a0, a1, a2, a3⟩, f1⟩ := HC0.out
  go_wp2_with fail
  refine (ccheck_any c _ us _ (HR.out _ HB0.out) HS.out).mono ?_
  rintro e w1 ⟨rfl, hb1⟩
  have HB1 : Hid (Below w.heap.size w w1) := bstep HB0.out hb1
  have HC1 : Hid (CB w1 w.heap.size c _) := HC0.out.below HC0.out.1 hb1
  have HZ1 : Hid (EB w1 (w.heap.size + 1) 0 0 0 false) := HZ0.out.below hb1
  clear a0 a1 a2 a3 f1 s1 hb1
  obtain ⟨s1, ⟨a0, a1, a2, a3⟩, f1⟩ := HC1.out
  obtain ⟨z1, ⟨e0, e1, e2, e3, e4, e5, e6⟩, g1⟩ := HZ1.out
  cases hm : c.mayB with
  | false =>
    have HV : Hid (c.nextP n = (⟨#[]⟩, 0, 0, 0, 0, false, 12)) := show _ = _ by unfold Crd.nextP; rw [if_pos hm]
    rw [ccfl_no hm]
    clear hm
    go_wp2
    exact bodyPost_ret (v := nextV (⟨#[]⟩, 0, 0, 0, 0, false, 12)) (by simp [results, Try.results30, go_sem, e0, e1, e2, e3, e4, e5, e6, nextV, entV]) rfl ⟨by rw [HV.out], HDN.out _ _ _ _ _ HB1.out⟩
  | true =>
  have HMY : Hid (MayC c) := mayC_iff.1 hm
  have HE2 : Hid (c.nextP n = if c.nth n < 0 then (⟨#[]⟩, 0, 0, 0, 0, false, 15) else ((c.at (c.nth n).toNat).nm, (c.at (c.nth n).toNat).ps.getD 0 0, (c.at (c.nth n).toNat).id, (c.at (c.nth n).toNat).v, (c.at (c.nth n).toNat).mkK, true, 0)) := show _ = _ by unfold Crd.nextP; rw [if_neg (by rw [hm]; simp)]
  rw [ccfl_yes hm]
  clear hm
  have h8 := HMY.out.n8
  have HRW : Hid (∀ W, Below w1.heap.size w1 W → RdC W c (.slice av c.ts.length cv) us) := fun W hW => HR.out W (bstep HB1.out hW)
  go_wp2
  go_cut [9] (fun r W => r = .int .i64 (c.nth n) ∧ Below w1.heap.size w1 W)
  case first =>
    go_region_with (first | (go_at_call 64; refine (nthW_any n _).mono ?_; rintro e w6 ⟨rfl, hl6, hn6, hc6, hf6, hb6⟩; have hB6 : Below w1.heap.size w1 w6 := bstep (by repeat (first | exact Below.refl _ _ | refine Below.drew ?_)) hb6; obtain ⟨m3, m4⟩ := bcell hB6; clear hb6) | (go_at_call 63; go_must (refine (indexNth_any c n _ us w1 _ _ _ HRW.out h8 (by repeat (first | exact Below.refl _ _ | exact hB6 | refine Below.drew ?_)) (by simp) (by have := hl6; simp at this ⊢; omega) (by have := hl6; simp at this ⊢; omega) (by simp) hn6 hc6 hf6).mono ?_; rintro e w7 ⟨rfl, hb7⟩)))
    all_goals
      go_wp2_with fail
      go_meet
      exact ⟨rfl, hb7⟩
  case rest =>
  obtain ⟨hv, hbl⟩ := hcut
  subst hv
  rename World => w7
  have HB7 : Hid (Below w.heap.size w w7) := bstep HB1.out hbl
  have HC7 : Hid (CB w7 w.heap.size c _) := HC1.out.below HC1.out.1 hbl
  have HZ7 : Hid (EB w7 (w.heap.size + 1) 0 0 0 false) := HZ1.out.below hbl
  clear a0 a1 a2 a3 f1 s1 z1 e0 e1 e2 e3 e4 e5 e6 g1 hbl
  obtain ⟨s1, ⟨a0, a1, a2, a3⟩, f1⟩ := HC7.out
  obtain ⟨z1, ⟨e0, e1, e2, e3, e4, e5, e6⟩, g1⟩ := HZ7.out
  rcases nth_cases c n with hp | ⟨k, hk, hp, hen⟩
  · have HV : Hid (c.nextP n = (⟨#[]⟩, 0, 0, 0, 0, false, 15)) := show _ = _ by rw [HE2.out, if_pos (by omega)]
    rw [hp]
    clear hp
    go_at_K
    go_wp2
    exact bodyPost_ret (v := nextV (⟨#[]⟩, 0, 0, 0, 0, false, 15)) (by simp [results, Try.results30, go_sem, e0, e1, e2, e3, e4, e5, e6, nextV, entV]) rfl ⟨by rw [HV.out], HDN.out _ _ _ _ _ HB7.out⟩
  · have HE3 : Hid (c.nextP n = ((c.at k).nm, (c.at k).ps.getD 0 0, (c.at k).id, (c.at k).v, (c.at k).mkK, true, 0)) := show _ = _ by rw [HE2.out, if_neg (by omega), hp, Int.toNat_natCast]
    have hkv : (k : Int) < c.ts.length := by omega
    have hk1 : ((k : Int) == -1) = false := by simp
    rw [hp]
    have hok := HMY.out.ok k hk
    obtain ⟨gg, off, t, au, cu, rfl, HAT, hgg, HQ, p0, p1, p2, p3, p4, p5, p6⟩ := (HR.out w7 HB7.out).txnAt k hk
    rw [HAT.out] at HE3 hok hen
    have hpl : 0 < t.ps.length := by
      rcases Nat.eq_zero_or_pos t.ps.length with h | h
      · have h1 := hok.em.1 (List.eq_nil_of_length_eq_zero h)
        unfold Txn.endB at hen
        rw [h1] at hen
        cases hen
      · exact h
    have hpv : (0 : Int) < t.ps.length := by omega
    obtain ⟨gi, oi, rfl, -, ci⟩ := HQ.out.cellAt 0 (by rw [ints_len]; exact hpl)
    have ey : (ints t.ps)[0]'(by rw [ints_len]; exact hpl) = .int .i64 (t.ps.getD 0 0) := by simp [ints, List.getD, hpl]
    rw [ey] at ci
    have hgi := cell_lt ci
    generalize t.ps.getD 0 0 = y at *
    clear hp hen hok ey hk1
    have hk1 : ((k : Int) == -1) = false := by simp
    go_at_K
    go_upto_region 8 with fail
    have HT8 : Hid (TBox (w7.alloc (.cells #[.string t.nm, .int .i64 t.id, .int .i64 t.v, .int .i64 t.st, .slice (some ⟨gi, oi, none⟩) t.ps.length cu, .int .i64 t.sn, .int .i64 t.dn] 62)) w7.heap.size 0 t (.slice (some ⟨gi, oi, none⟩) t.ps.length cu)) := tbox_new w7 t _ _
    have HB8 : Hid (Below w.heap.size w (w7.alloc (.cells #[.string t.nm, .int .i64 t.id, .int .i64 t.v, .int .i64 t.st, .slice (some ⟨gi, oi, none⟩) t.ps.length cu, .int .i64 t.sn, .int .i64 t.dn] 62))) := bstep HB7.out (bbox _ _)
    have HZ8 : Hid (EB (w7.alloc (.cells #[.string t.nm, .int .i64 t.id, .int .i64 t.v, .int .i64 t.st, .slice (some ⟨gi, oi, none⟩) t.ps.length cu, .int .i64 t.sn, .int .i64 t.dn] 62)) (w.heap.size + 1) 0 0 0 false) := HZ7.out.below (bbox _ _)
    have hc8 : (w7.alloc (.cells #[.string t.nm, .int .i64 t.id, .int .i64 t.v, .int .i64 t.st, .slice (some ⟨gi, oi, none⟩) t.ps.length cu, .int .i64 t.sn, .int .i64 t.dn] 62)).cell? ⟨gi, oi, none⟩ = some (.int .i64 y) := ((bbox w7 (.cells #[.string t.nm, .int .i64 t.id, .int .i64 t.v, .int .i64 t.st, .slice (some ⟨gi, oi, none⟩) t.ps.length cu, .int .i64 t.sn, .int .i64 t.dn] 62)).cell (p := ⟨gi, oi, none⟩) hgi).trans (by simpa using ci)
    have hgiw : gi < w.heap.size := by
      obtain ⟨gg2, off2, t2, au2, cu2, e, HAT2, _, HQ2, _, _, _, _, r4, _, _⟩ := (HR.out w (Below.refl _ _)).txnAt k hk
      have : t2 = t := HAT2.out.symm.trans HAT.out
      subst this
      simp only [Option.some.injEq, Addr.mk.injEq, and_true] at e
      obtain ⟨rfl, rfl⟩ := e
      have h1 := (HB7.out.cell (p := ⟨gg, off + k * 7 + 4, none⟩) (cell_lt r4)).trans r4
      rw [p4] at h1
      simp only [Option.some.injEq, Value.slice.injEq] at h1
      obtain ⟨g3, o3, e3, _, c3⟩ := HQ2.out.cellAt 0 (by rw [ints_len]; exact hpl)
      rw [← h1.1] at e3
      simp only [Option.some.injEq, Addr.mk.injEq, and_true] at e3
      rw [e3.1]
      exact cell_lt c3
    have hgz : gi ≠ w.heap.size + 1 := by omega
    have hgb8 : w7.heap.size ≠ w.heap.size + 1 := by omega
    have hs8 : w7.heap.size < (w7.alloc (.cells #[.string t.nm, .int .i64 t.id, .int .i64 t.v, .int .i64 t.st, .slice (some ⟨gi, oi, none⟩) t.ps.length cu, .int .i64 t.sn, .int .i64 t.dn] 62)).heap.size := by simp
    have hgi8 : gi < (w7.alloc (.cells #[.string t.nm, .int .i64 t.id, .int .i64 t.v, .int .i64 t.st, .slice (some ⟨gi, oi, none⟩) t.ps.length cu, .int .i64 t.sn, .int .i64 t.dn] 62)).heap.size := by simp; omega
    generalize w7.alloc (.cells #[.string t.nm, .int .i64 t.id, .int .i64 t.v, .int .i64 t.st, .slice (some ⟨gi, oi, none⟩) t.ps.length cu, .int .i64 t.sn, .int .i64 t.dn] 62) = w8 at *
    generalize w7.heap.size = b8 at *
    clear a0 a1 a2 a3 f1 s1 z1 e0 e1 e2 e3 e4 e5 e6 g1 p0 p1 p2 p3 p4 p5 p6 ci
    obtain ⟨p0, p1, p2, p3, p4, p5, p6⟩ := HT8.out
    obtain ⟨z1, ⟨e0, e1, e2, e3, e4, e5, e6⟩, g1⟩ := HZ8.out
    simp only [Nat.zero_add] at p0 p1 p2 p3 p4 p5 p6
    -- TWO
    refine wp_region_two (C0 := fun W => Below w8.heap.size w8 W) (C1 := fun W => ∃ W1, Below w8.heap.size w8 W1 ∧ W = putE W1 (w.heap.size + 1) t.id t.v t.mkK true) (S := fun i v => match i with | 0 => v = .pointer (some ⟨b8, 0, none⟩) | 1 => v = .string t.nm | 2 => v = .pointer (some ⟨b8, 4, none⟩) | 3 => v = .slice (some ⟨gi, oi, none⟩) t.ps.length cu | 4 => v = .pointer (some ⟨gi, oi, none⟩) | 5 => v = .int .i64 y | 6 => v = .agg #[.string t.nm, .int .i64 t.id, .int .i64 t.v, .int .i64 t.st, .slice (some ⟨gi, oi, none⟩) t.ps.length cu, .int .i64 t.sn, .int .i64 t.dn] | 7 => v = entV t.id t.v t.mkK true | 8 => v = .string t.nm | 9 => v = .int .i64 y | 10 => True | 11 => v = .int .i64 0 | _ => True) 10 [11] (by kernel_rfl) (n := 38) (by kernel_rfl) (by kernel_rfl) (by kernel_rfl) (Below.refl _ _).drew (each_at (X := fun i o => if i = 10 then AskedTo _ _ _ _ _ _ _ i o else AskedTo _ _ _ _ _ _ _ i o) ?_) (each_at (X := fun i o => [11].contains i = true → i = 10 ∨ AskedTo _ _ _ _ _ _ _ i o) ?_) ?_
    · refine ⟨?_, ?_, ?_, ?_, ?_, ?_, ?_, ?_, ?_, ?_, ?_, ?_, trivial⟩
      · refine ask_no (by decide) ?_
        intro a W hC _ _ he hdep
        rw [if_pos (wanted_free rfl)]
        have t10 := slot_else (t := 10) he (by kernel_rfl) rfl
        unfold Oper.wp
        simp [execOp, go_sem, t10]
        first | done | exact hC | exact ⟨hC, rfl⟩ | (refine ⟨hC, ?_⟩; simp [Act.put])
      · refine ask_no (by decide) ?_
        intro a W hC _ _ he hdep
        obtain ⟨_, t30, rfl⟩ : ∃ v, a.tmps[30]? = some v ∧ v = .pointer (some ⟨b8, 0, none⟩) := hdep ⟨0, .data⟩ (by simp) (by rfl) _ _ rfl rfl
        rw [if_pos (wanted_free rfl)]
        have Q0 := (hC.cell (p := ⟨b8, 0, none⟩) hs8).trans p0
        unfold Oper.wp
        simp [execOp, go_sem, t30, Q0]
        first | done | exact hC | exact ⟨hC, rfl⟩ | (refine ⟨hC, ?_⟩; simp [Act.put])
      · refine ask_no (by decide) ?_
        intro a W hC _ _ he hdep
        rw [if_pos (wanted_free rfl)]
        have t10 := slot_else (t := 10) he (by kernel_rfl) rfl
        unfold Oper.wp
        simp [execOp, go_sem, t10]
        first | done | exact hC | exact ⟨hC, rfl⟩ | (refine ⟨hC, ?_⟩; simp [Act.put])
      · refine ask_no (by decide) ?_
        intro a W hC _ _ he hdep
        obtain ⟨_, t32, rfl⟩ : ∃ v, a.tmps[32]? = some v ∧ v = .pointer (some ⟨b8, 4, none⟩) := hdep ⟨2, .data⟩ (by simp) (by rfl) _ _ rfl rfl
        rw [if_pos (wanted_free rfl)]
        have Q4 := (hC.cell (p := ⟨b8, 4, none⟩) hs8).trans p4
        unfold Oper.wp
        simp [execOp, go_sem, t32, Q4]
        first | done | exact hC | exact ⟨hC, rfl⟩ | (refine ⟨hC, ?_⟩; simp [Act.put])
      · refine ask_no (by decide) ?_
        intro a W hC _ _ he hdep
        obtain ⟨_, t33, rfl⟩ : ∃ v, a.tmps[33]? = some v ∧ v = .slice (some ⟨gi, oi, none⟩) t.ps.length cu := hdep ⟨3, .data⟩ (by simp) (by rfl) _ _ rfl rfl
        rw [if_pos (wanted_free rfl)]
        unfold Oper.wp
        simp [execOp, go_sem, t33, hpl, hpv]
        first | done | exact hC | exact ⟨hC, rfl⟩ | (refine ⟨hC, ?_⟩; simp [Act.put])
      · refine ask_no (by decide) ?_
        intro a W hC _ _ he hdep
        obtain ⟨_, t34, rfl⟩ : ∃ v, a.tmps[34]? = some v ∧ v = .pointer (some ⟨gi, oi, none⟩) := hdep ⟨4, .data⟩ (by simp) (by rfl) _ _ rfl rfl
        rw [if_pos (wanted_free rfl)]
        have Y0 := (hC.cell (p := ⟨gi, oi, none⟩) hgi8).trans hc8
        unfold Oper.wp
        simp [execOp, go_sem, t34, Y0]
        first | done | exact hC | exact ⟨hC, rfl⟩ | (refine ⟨hC, ?_⟩; simp [Act.put])
      · refine ask_no (by decide) ?_
        intro a W hC _ _ he hdep
        rw [if_pos (wanted_free rfl)]
        have t10 := slot_else (t := 10) he (by kernel_rfl) rfl
        have Q0 := (hC.cell (p := ⟨b8, 0, none⟩) hs8).trans p0
        have Q1 := (hC.cell (p := ⟨b8, 1, none⟩) hs8).trans p1
        have Q2 := (hC.cell (p := ⟨b8, 2, none⟩) hs8).trans p2
        have Q3 := (hC.cell (p := ⟨b8, 3, none⟩) hs8).trans p3
        have Q4 := (hC.cell (p := ⟨b8, 4, none⟩) hs8).trans p4
        have Q5 := (hC.cell (p := ⟨b8, 5, none⟩) hs8).trans p5
        have Q6 := (hC.cell (p := ⟨b8, 6, none⟩) hs8).trans p6
        unfold Oper.wp
        simp [execOp, go_sem, t10, Q0, Q1, Q2, Q3, Q4, Q5, Q6]
        first | done | exact hC | exact ⟨hC, rfl⟩ | (refine ⟨hC, ?_⟩; simp [Act.put])
      · refine ask_no (by decide) ?_
        intro a W hC _ _ he hdep
        obtain ⟨_, t36, rfl⟩ : ∃ v, a.tmps[36]? = some v ∧ v = .agg #[.string t.nm, .int .i64 t.id, .int .i64 t.v, .int .i64 t.st, .slice (some ⟨gi, oi, none⟩) t.ps.length cu, .int .i64 t.sn, .int .i64 t.dn] := hdep ⟨6, .data⟩ (by simp) (by rfl) _ _ rfl rfl
        rw [if_pos (wanted_free rfl)]
        unfold Oper.wp
        simp [execOp, go_sem, t36]
        refine (marker_any t _ _).mono ?_
        rintro e W2 ⟨rfl, hb2⟩
        exact ⟨bstep hC hb2, rfl⟩
      · refine ask_no (by decide) ?_
        intro a W hC _ _ he hdep
        obtain ⟨_, t31, rfl⟩ : ∃ v, a.tmps[31]? = some v ∧ v = .string t.nm := hdep ⟨1, .data⟩ (by simp) (by rfl) _ _ rfl rfl
        obtain ⟨_, t37, rfl⟩ : ∃ v, a.tmps[37]? = some v ∧ v = entV t.id t.v t.mkK true := hdep ⟨7, .chain⟩ (by simp) (by rfl) _ _ rfl rfl
        obtain ⟨_, t30, rfl⟩ : ∃ v, a.tmps[30]? = some v ∧ v = .pointer (some ⟨b8, 0, none⟩) := hdep ⟨0, .phase⟩ (by simp) (by rfl) _ _ rfl rfl
        rw [if_pos (wanted_free rfl)]
        unfold Oper.wp
        simp [execOp, go_sem, t30, t31, t37]
        first | done | exact hC | exact ⟨hC, rfl⟩ | (refine ⟨hC, ?_⟩; simp [Act.put])
      · refine ask_no (by decide) ?_
        intro a W hC _ _ he hdep
        obtain ⟨_, t35, rfl⟩ : ∃ v, a.tmps[35]? = some v ∧ v = .int .i64 y := hdep ⟨5, .data⟩ (by simp) (by rfl) _ _ rfl rfl
        obtain ⟨_, t4, rfl⟩ : ∃ v, a.tmps[4]? = some v ∧ v = .string t.nm := hdep ⟨8, .chain⟩ (by simp) (by rfl) _ _ rfl rfl
        obtain ⟨_, t30, rfl⟩ : ∃ v, a.tmps[30]? = some v ∧ v = .pointer (some ⟨b8, 0, none⟩) := hdep ⟨0, .phase⟩ (by simp) (by rfl) _ _ rfl rfl
        obtain ⟨_, t31, rfl⟩ : ∃ v, a.tmps[31]? = some v ∧ v = .string t.nm := hdep ⟨1, .phase⟩ (by simp) (by rfl) _ _ rfl rfl
        obtain ⟨_, t32, rfl⟩ : ∃ v, a.tmps[32]? = some v ∧ v = .pointer (some ⟨b8, 4, none⟩) := hdep ⟨2, .phase⟩ (by simp) (by rfl) _ _ rfl rfl
        obtain ⟨_, t33, rfl⟩ : ∃ v, a.tmps[33]? = some v ∧ v = .slice (some ⟨gi, oi, none⟩) t.ps.length cu := hdep ⟨3, .phase⟩ (by simp) (by rfl) _ _ rfl rfl
        obtain ⟨_, t34, rfl⟩ : ∃ v, a.tmps[34]? = some v ∧ v = .pointer (some ⟨gi, oi, none⟩) := hdep ⟨4, .phase⟩ (by simp) (by rfl) _ _ rfl rfl
        rw [if_pos (wanted_free rfl)]
        unfold Oper.wp
        simp [execOp, go_sem, t4, t30, t31, t32, t33, t34, t35]
        first | done | exact hC | exact ⟨hC, rfl⟩ | (refine ⟨hC, ?_⟩; simp [Act.put])
      · refine ask_yes rfl ?_
        intro a W hC _ _ he hdep
        obtain ⟨_, t37, rfl⟩ : ∃ v, a.tmps[37]? = some v ∧ v = entV t.id t.v t.mkK true := hdep ⟨7, .data⟩ (by simp) (by rfl) _ _ rfl rfl
        rw [if_pos (wanted_free rfl)]
        have t6 := slot_else (t := 6) he (by kernel_rfl) rfl
        obtain ⟨z1, ⟨e0, e1, e2, e3, e4, e5, e6⟩, g1⟩ := HZ8.out.below hC
        unfold entV at t37
        unfold Oper.wp
        simp [execOp, go_sem, t6, t37, e0, e1, e2, e3, e4, e5, e6, g1]
        exact ⟨W, hC, rfl⟩
      · refine ask_no (by decide) ?_
        intro a W hC _ _ he hdep
        obtain ⟨_, t30, rfl⟩ : ∃ v, a.tmps[30]? = some v ∧ v = .pointer (some ⟨b8, 0, none⟩) := hdep ⟨0, .phase⟩ (by simp) (by rfl) _ _ rfl rfl
        obtain ⟨_, t31, rfl⟩ : ∃ v, a.tmps[31]? = some v ∧ v = .string t.nm := hdep ⟨1, .phase⟩ (by simp) (by rfl) _ _ rfl rfl
        obtain ⟨_, t32, rfl⟩ : ∃ v, a.tmps[32]? = some v ∧ v = .pointer (some ⟨b8, 4, none⟩) := hdep ⟨2, .phase⟩ (by simp) (by rfl) _ _ rfl rfl
        obtain ⟨_, t33, rfl⟩ : ∃ v, a.tmps[33]? = some v ∧ v = .slice (some ⟨gi, oi, none⟩) t.ps.length cu := hdep ⟨3, .phase⟩ (by simp) (by rfl) _ _ rfl rfl
        obtain ⟨_, t34, rfl⟩ : ∃ v, a.tmps[34]? = some v ∧ v = .pointer (some ⟨gi, oi, none⟩) := hdep ⟨4, .phase⟩ (by simp) (by rfl) _ _ rfl rfl
        obtain ⟨_, t35, rfl⟩ : ∃ v, a.tmps[35]? = some v ∧ v = .int .i64 y := hdep ⟨5, .phase⟩ (by simp) (by rfl) _ _ rfl rfl
        obtain ⟨_, t36, rfl⟩ : ∃ v, a.tmps[36]? = some v ∧ v = .agg #[.string t.nm, .int .i64 t.id, .int .i64 t.v, .int .i64 t.st, .slice (some ⟨gi, oi, none⟩) t.ps.length cu, .int .i64 t.sn, .int .i64 t.dn] := hdep ⟨6, .phase⟩ (by simp) (by rfl) _ _ rfl rfl
        obtain ⟨_, t37, rfl⟩ : ∃ v, a.tmps[37]? = some v ∧ v = entV t.id t.v t.mkK true := hdep ⟨7, .phase⟩ (by simp) (by rfl) _ _ rfl rfl
        obtain ⟨_, t4, rfl⟩ : ∃ v, a.tmps[4]? = some v ∧ v = .string t.nm := hdep ⟨8, .phase⟩ (by simp) (by rfl) _ _ rfl rfl
        obtain ⟨_, t5, rfl⟩ : ∃ v, a.tmps[5]? = some v ∧ v = .int .i64 y := hdep ⟨9, .phase⟩ (by simp) (by rfl) _ _ rfl rfl
        rw [if_pos (wanted_free rfl)]
        unfold Oper.wp
        simp [execOp, go_sem, t4, t5, t30, t31, t32, t33, t34, t35, t36, t37]
        first | done | exact hC | exact ⟨hC, rfl⟩ | (refine ⟨hC, ?_⟩; simp [Act.put])
    · refine ⟨fun h => absurd h (by decide), fun h => absurd h (by decide), fun h => absurd h (by decide), fun h => absurd h (by decide), fun h => absurd h (by decide), fun h => absurd h (by decide), fun h => absurd h (by decide), fun h => absurd h (by decide), fun h => absurd h (by decide), fun h => absurd h (by decide), fun h => absurd h (by decide), fun _ => .inr ?_, trivial⟩
      intro a W hC _ _ he hdep
      rw [if_pos (wanted_free rfl)]
      unfold Oper.wp
      simp [execOp, go_sem]
      first | done | exact hC | exact ⟨hC, rfl⟩ | (refine ⟨hC, ?_⟩; simp [Act.put])
    · intro vs W hC hS
      obtain ⟨W1, hW1, rfl⟩ := hC
      have h8 : vs 8 = .string t.nm := hS 8 (by simp)
      have h9 : vs 9 = .int .i64 y := hS 9 (by simp)
      have h11 : vs 11 = .int .i64 0 := hS 11 (by simp)
      obtain ⟨z1, ⟨e0, e1, e2, e3, e4, e5, e6⟩, g1⟩ := HZ8.out.below hW1
      simp [over, h8, h9, h11, Act.put]
      go_wp2_with fail
      exact bodyPost_ret (v := nextV (t.nm, y, t.id, t.v, t.mkK, true, 0)) (by simp [results, Try.results30, go_sem, putE, e0, e1, e2, e3, e4, e5, e6, nextV, entV]) rfl ⟨by rw [HE3.out], below_putE (bstep HB8.out hW1) (by omega) _ _ _ _⟩

end Go.Proofs.Ytjhpfnogdjpbmaa
