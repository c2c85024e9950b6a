/-
  The document's NextOf, walked.
-/
import Derived.Test.YtjhpfnogdjpbmaaCnext2
import Derived.Test.YtjhpfnogdjpbmaaCmay
namespace Go.Proofs.Ytjhpfnogdjpbmaa
open Go.RowKit
set_option linter.unusedVariables false
set_option linter.unusedSimpArgs false

set_option maxRecDepth 100000 in
set_option maxHeartbeats 8000000 in
theorem nextOf_any (c : Crd) (n : Int) (vt : Value) (us : Nat → Value) (w : World) (h : RdC w c vt us) (hs : c.small) :
    Calls Try.prog 31 #[.agg #[.int .i64 c.ck, .int .i64 c.nx, .int .i64 c.wt, vt], .int .i64 n] w fun e w' => e = .returned (nextV (c.nextP n)) ∧ Below w.heap.size w w' := by
  obtain ⟨av, cv, rfl, hl1, hl2⟩ := h.shape
  unfold maxLen at hl2
  have hll : (c.ts.length : Int) ≤ 9223372036854775807 := by omega
  have HR : Hid (∀ W, Below w.heap.size w W → RdC W c (.slice av c.ts.length cv) us) := fun W hW => h.below (Nat.le_refl _) hW
  have HS : Hid c.small := hs
  have HB0 : Hid (Below w.heap.size w ((w.alloc (.cells #[.int .i64 c.ck, .int .i64 c.nx, .int .i64 c.wt, .slice av c.ts.length cv] 24)).alloc (.cells #[.int .i64 0, .int .i64 0, .int .i64 0, .int .i64 0, .int .i64 0, .bool false, .string ⟨#[]⟩] 41))) := bstep (bbox _ _) (bbox _ _)
  have HC0 : Hid (CB ((w.alloc (.cells #[.int .i64 c.ck, .int .i64 c.nx, .int .i64 c.wt, .slice av c.ts.length cv] 24)).alloc (.cells #[.int .i64 0, .int .i64 0, .int .i64 0, .int .i64 0, .int .i64 0, .bool false, .string ⟨#[]⟩] 41)) w.heap.size c (.slice av c.ts.length cv)) := (cb_new w c (.slice av c.ts.length cv) 24 w.heap.size rfl).below (C := w.heap.size + 1) (by omega) ((Below.refl _ _).alloc (by simp) _)
  clear h hs hl1 hl2
  go_enter Try.func31, Try.ntmps31
  go_upto_region 1 with fail
  have HZ0 : Hid (EB ((w.alloc (.cells #[.int .i64 c.ck, .int .i64 c.nx, .int .i64 c.wt, .slice av c.ts.length cv] 24)).alloc (.cells #[.int .i64 0, .int .i64 0, .int .i64 0, .int .i64 0, .int .i64 0, .bool false, .string ⟨#[]⟩] 41)) (w.heap.size + 1) 0 0 0 false) := eb_new _ 0 0 0 false _ (by simp)
  have HDN : Hid (∀ W p v k f, Below w.heap.size w W → Below w.heap.size w (putE W (w.heap.size + 1) p v k f)) := fun W p v k f h => below_putE h (by omega) p v k f
  unfold putE at HDN
  generalize (w.alloc (.cells #[.int .i64 c.ck, .int .i64 c.nx, .int .i64 c.wt, .slice av c.ts.length cv] 24)).alloc (.cells #[.int .i64 0, .int .i64 0, .int .i64 0, .int .i64 0, .int .i64 0, .bool false, .string ⟨#[]⟩] 41) = W0 at *
  obtain ⟨s1, ⟨a0, a1, a2, a3⟩, f1⟩ := HC0.out
  go_wp2_with fail
  refine (coordMay_any c _ us _ (HR.out _ HB0.out) HS.out).mono ?_
  rintro e w1 ⟨rfl, hb1⟩
  have HB1 : Hid (Below w.heap.size w w1) := bstep HB0.out hb1
  have HC1 : Hid (CB w1 w.heap.size c _) := HC0.out.below HC0.out.1 hb1
  have HZ1 : Hid (EB w1 (w.heap.size + 1) 0 0 0 false) := HZ0.out.below hb1
  clear a0 a1 a2 a3 f1 s1 hb1
  obtain ⟨s1, ⟨a0, a1, a2, a3⟩, f1⟩ := HC1.out
  obtain ⟨z1, ⟨e0, e1, e2, e3, e4, e5, e6⟩, g1⟩ := HZ1.out
  cases hm : c.mayB with
  | false =>
    have HV : Hid (c.nextP n = (⟨#[]⟩, 0, 0, 0, 0, false, 12)) := show _ = _ by unfold Crd.nextP; rw [if_pos hm]
    have HBX := HB1
    clear hm
    go_wp2
    exact bodyPost_ret (v := nextV (⟨#[]⟩, 0, 0, 0, 0, false, 12)) (by simp [results, Try.results31, go_sem, e0, e1, e2, e3, e4, e5, e6, nextV, entV]) rfl ⟨by rw [HV.out], HDN.out _ _ _ _ _ HBX.out⟩
  | true =>
  have HMY : Hid (MayC c) := mayC_iff.1 hm
  have HE2 : Hid (c.nextP n = if c.nth n < 0 then (⟨#[]⟩, 0, 0, 0, 0, false, 15) else ((c.at (c.nth n).toNat).nm, (c.at (c.nth n).toNat).ps.getD 0 0, (c.at (c.nth n).toNat).id, (c.at (c.nth n).toNat).v, (c.at (c.nth n).toNat).mkK, true, 0)) := show _ = _ by unfold Crd.nextP; rw [if_neg (by rw [hm]; simp)]
  clear hm
  have h8 := HMY.out.n8
  have h8' : (c.ts.length : Int) ≤ 8 := by omega
  go_wp2
  clear a0 a1 a2 a3 f1 s1 z1 e0 e1 e2 e3 e4 e5 e6 g1
  go_loopw [8, 9] (fun kk i wr => ∃ m : Nat, m ≤ c.ts.length ∧ i = .int .i64 m ∧ kk = .int .i64 (c.cnt m) ∧ Hid (∀ j, j < m → ¬ ((c.at j).endB = true ∧ (c.cnt j : Int) = n)) ∧ Hid (Below w1.heap.size w1 wr)) (fun _ i _ => c.ts.length - (intOf i).toNat)
  case atStart => exact ⟨0, Nat.zero_le _, rfl, rfl, (fun j hj => by omega), Below.refl _ _⟩
  case round =>
    obtain ⟨m, hm, rfl, rfl, HN, HB⟩ := hrel
    have HBr : Hid (Below w.heap.size w wr) := bstep HB1.out HB.out
    have HCr : Hid (CB wr w.heap.size c _) := HC1.out.below HC1.out.1 HB.out
    have HZr : Hid (EB wr (w.heap.size + 1) 0 0 0 false) := HZ1.out.below HB.out
    obtain ⟨s1, ⟨a0, a1, a2, a3⟩, f1⟩ := HCr.out
    obtain ⟨z1, ⟨e0, e1, e2, e3, e4, e5, e6⟩, g1⟩ := HZr.out
    have hcm := cnt_le c m
    have hcm' : (c.cnt m : Int) ≤ 8 := by omega
    by_cases hlt : m < c.ts.length
    rotate_left
    · obtain rfl : m = c.ts.length := by omega
      have HV : Hid (c.nextP n = (⟨#[]⟩, 0, 0, 0, 0, false, 15)) := show _ = _ by
        rw [HE2.out, if_pos]
        unfold Crd.nth
        rw [scan_none]
        intro j _ hj
        exact HN.out j (by omega)
      have HBX := HBr
      clear hlt
      go_wp2
      exact bodyPost_ret (v := nextV (⟨#[]⟩, 0, 0, 0, 0, false, 15)) (by simp [results, Try.results31, go_sem, e0, e1, e2, e3, e4, e5, e6, nextV, entV]) rfl ⟨by rw [HV.out], HDN.out _ _ _ _ _ HBX.out⟩
    have hmv : (m : Int) < c.ts.length := by omega
    have hok := HMY.out.ok m hlt
    have HOK : Hid (TxnOk c.ck c.nx (c.at m)) := hok
    have HCN : Hid (c.cnt (m + 1) = c.cnt m + if (c.at m).endB then 1 else 0) := show _ = _ from rfl
    clear hok
    obtain ⟨gg, off, t, au, cu, rfl, HAT, hgg, HQ, p0, p1, p2, p3, p4, p5, p6⟩ := (HR.out wr HBr.out).txnAt m hlt
    rw [HAT.out] at HOK HCN
    go_upto_region 8 with fail
    have HT8 : Hid (TBox (wr.alloc (.cells #[.string t.nm, .int .i64 t.id, .int .i64 t.v, .int .i64 t.st, .slice au t.ps.length cu, .int .i64 t.sn, .int .i64 t.dn] 62)) wr.heap.size 0 t (.slice au t.ps.length cu)) := tbox_new wr t _ _
    have HB8 : Hid (Below w.heap.size w (wr.alloc (.cells #[.string t.nm, .int .i64 t.id, .int .i64 t.v, .int .i64 t.st, .slice au t.ps.length cu, .int .i64 t.sn, .int .i64 t.dn] 62))) := bstep HBr.out (bbox _ _)
    have HB8' : Hid (Below w1.heap.size w1 (wr.alloc (.cells #[.string t.nm, .int .i64 t.id, .int .i64 t.v, .int .i64 t.st, .slice au t.ps.length cu, .int .i64 t.sn, .int .i64 t.dn] 62))) := bstep HB.out (bbox _ _)
    have HZ8 : Hid (EB (wr.alloc (.cells #[.string t.nm, .int .i64 t.id, .int .i64 t.v, .int .i64 t.st, .slice au t.ps.length cu, .int .i64 t.sn, .int .i64 t.dn] 62)) (w.heap.size + 1) 0 0 0 false) := HZr.out.below (bbox _ _)
    have hs8 : wr.heap.size < (wr.alloc (.cells #[.string t.nm, .int .i64 t.id, .int .i64 t.v, .int .i64 t.st, .slice au t.ps.length cu, .int .i64 t.sn, .int .i64 t.dn] 62)).heap.size := by simp
    have HQ8 : Hid (RdV (wr.alloc (.cells #[.string t.nm, .int .i64 t.id, .int .i64 t.v, .int .i64 t.st, .slice au t.ps.length cu, .int .i64 t.sn, .int .i64 t.dn] 62)) (.slice au t.ps.length cu) (ints t.ps)) := HQ.out.below (Nat.le_refl _) (bbox _ _)
    generalize wr.alloc (.cells #[.string t.nm, .int .i64 t.id, .int .i64 t.v, .int .i64 t.st, .slice au t.ps.length cu, .int .i64 t.sn, .int .i64 t.dn] 62) = w8 at *
    generalize wr.heap.size = b8 at *
    clear a0 a1 a2 a3 f1 s1 z1 e0 e1 e2 e3 e4 e5 e6 g1 p0 p1 p2 p3 p4 p5 p6
    obtain ⟨p0, p1, p2, p3, p4, p5, p6⟩ := HT8.out
    simp only [Nat.zero_add] at p0 p1 p2 p3 p4 p5 p6
    go_wp2_with fail
    refine (ending_any t _ _).mono ?_
    rintro e w10 ⟨rfl, hb10⟩
    have HT8 : Hid (TBox w10 b8 0 t _) := TBox.below HT8.out hs8 hb10
    have HB8 : Hid (Below w.heap.size w w10) := bstep HB8.out hb10
    have HB8' : Hid (Below w1.heap.size w1 w10) := bstep HB8'.out hb10
    have HZ8 : Hid (EB w10 (w.heap.size + 1) 0 0 0 false) := HZ8.out.below hb10
    have hs8 : b8 < w10.heap.size := Nat.lt_of_lt_of_le hs8 hb10.size
    have HQ8 : Hid (RdV w10 (.slice au t.ps.length cu) (ints t.ps)) := HQ8.out.below (Nat.le_refl _) hb10
    clear p0 p1 p2 p3 p4 p5 p6 hb10
    cases he : t.endB with
    | false =>
      have HN2 : Hid (∀ j, j < m + 1 → ¬ ((c.at j).endB = true ∧ (c.cnt j : Int) = n)) := fun j hj => by
        by_cases e : j = m
        · rw [e, HAT.out, he]; simp
        · exact HN.out j (by omega)
      have HCN2 : Hid (c.cnt (m + 1) = c.cnt m) := show _ = _ by rw [HCN.out, he]; simp
      clear he
      go_wp2
      go_roundw
      case rel => exact ⟨m + 1, by omega, by go_num, by rw [HCN2.out], HN2, HB8'⟩
      case measure => simp [intOf]; omega
    | true =>
      obtain ⟨p0, p1, p2, p3, p4, p5, p6⟩ := HT8.out
      simp only [Nat.zero_add] at p0 p1 p2 p3 p4 p5 p6
      by_cases hcn : (c.cnt m : Int) = n
      rotate_left
      · have HN2 : Hid (∀ j, j < m + 1 → ¬ ((c.at j).endB = true ∧ (c.cnt j : Int) = n)) := fun j hj => by
          by_cases e : j = m
          · rw [e]; exact fun h => hcn h.2
          · exact HN.out j (by omega)
        have HCN2 : Hid (c.cnt (m + 1) = c.cnt m + 1) := show _ = _ by rw [HCN.out, he]; simp
        have d1 : (((c.cnt m : Nat) : Int) == n) = false := by rw [beq_eq_false_iff_ne]; exact hcn
        clear he hcn
        go_wp2
        go_roundw
        case rel => exact ⟨m + 1, by omega, by go_num, by rw [HCN2.out]; go_num, HN2, HB8'⟩
        case measure => simp [intOf]; omega
      have HTE : Hid (t.endB = true) := he
      have HNT : Hid (c.nth n = m) := show _ = _ by
        unfold Crd.nth
        exact scan_some (by omega) (by omega) ⟨by rw [HAT.out]; exact he, hcn⟩ (fun j _ hj => HN.out j hj)
      have HE3 : Hid (c.nextP n = (t.nm, t.ps.getD 0 0, t.id, t.v, t.mkK, true, 0)) := show _ = _ by rw [HE2.out, if_neg (by rw [HNT.out]; omega), HNT.out, Int.toNat_natCast, HAT.out]
      have d1 : (((c.cnt m : Nat) : Int) == n) = true := by rw [beq_iff_eq]; exact hcn
      have hpl : 0 < t.ps.length := by
        rcases Nat.eq_zero_or_pos t.ps.length with h | h
        · have h1 := HOK.out.em.1 (List.eq_nil_of_length_eq_zero h)
          have he2 := he
          unfold Txn.endB at he2
          rw [h1] at he2
          cases he2
        · exact h
      have hpv : (0 : Int) < t.ps.length := by omega
      obtain ⟨gi, oi, rfl, -, ci⟩ := HQ8.out.cellAt 0 (by rw [ints_len]; exact hpl)
      have ey : (ints t.ps)[0]'(by rw [ints_len]; exact hpl) = .int .i64 (t.ps.getD 0 0) := by simp [ints, List.getD, hpl]
      rw [ey] at ci
      have hc8 : w10.cell? ⟨gi, oi, none⟩ = some (.int .i64 (t.ps.getD 0 0)) := by simpa using ci
      have hgi8 : gi < w10.heap.size := cell_lt hc8
      generalize t.ps.getD 0 0 = y at *
      clear hcn he ey ci
      generalize w10 = w8 at *
      by_cases h4 : t.st = 4
      · have d4 : (t.st == 4) = true := by simp [h4]
        have HS4 : Hid (t.st = 4) := h4
        clear h4
        have HMK : Hid (t.mkK = 3) := show _ = _ by unfold Txn.mkK; rw [if_neg (by rw [HS4.out]; decide)]
        go_upto_region 13 with fail
        have HZ9 : Hid (EB (w8.alloc (.cells #[.int .i64 0, .int .i64 t.id, .int .i64 t.v, .int .i64 0, .int .i64 3, .bool true, .string ⟨#[]⟩] 41)) (w.heap.size + 1) 0 0 0 false) := HZ8.out.below (bbox _ _)
        have HX9 : Hid (EB (w8.alloc (.cells #[.int .i64 0, .int .i64 t.id, .int .i64 t.v, .int .i64 0, .int .i64 3, .bool true, .string ⟨#[]⟩] 41)) w8.heap.size t.id t.v 3 true) := eb_new w8 _ _ _ _ _ rfl
        have HT9 : Hid (TBox (w8.alloc (.cells #[.int .i64 0, .int .i64 t.id, .int .i64 t.v, .int .i64 0, .int .i64 3, .bool true, .string ⟨#[]⟩] 41)) b8 0 t (.slice (some ⟨gi, oi, none⟩) t.ps.length cu)) := TBox.below HT8.out hs8 (bbox _ _)
        have HB9 : Hid (Below w.heap.size w (w8.alloc (.cells #[.int .i64 0, .int .i64 t.id, .int .i64 t.v, .int .i64 0, .int .i64 3, .bool true, .string ⟨#[]⟩] 41))) := bstep HB8.out (bbox _ _)
        have hc9 := ((bbox w8 (.cells #[.int .i64 0, .int .i64 t.id, .int .i64 t.v, .int .i64 0, .int .i64 3, .bool true, .string ⟨#[]⟩] 41)).cell (p := ⟨gi, oi, none⟩) hgi8).trans hc8
        have hgi9 : gi < (w8.alloc (.cells #[.int .i64 0, .int .i64 t.id, .int .i64 t.v, .int .i64 0, .int .i64 3, .bool true, .string ⟨#[]⟩] 41)).heap.size := Nat.lt_of_lt_of_le hgi8 (bbox _ _).size
        have hs9 : b8 < (w8.alloc (.cells #[.int .i64 0, .int .i64 t.id, .int .i64 t.v, .int .i64 0, .int .i64 3, .bool true, .string ⟨#[]⟩] 41)).heap.size := Nat.lt_of_lt_of_le hs8 (bbox _ _).size
        generalize w8.alloc (.cells #[.int .i64 0, .int .i64 t.id, .int .i64 t.v, .int .i64 0, .int .i64 3, .bool true, .string ⟨#[]⟩] 41) = w9 at *
        generalize w8.heap.size = b9 at *
        clear p0 p1 p2 p3 p4 p5 p6
        obtain ⟨p0, p1, p2, p3, p4, p5, p6⟩ := HT9.out
        simp only [Nat.zero_add] at p0 p1 p2 p3 p4 p5 p6
        rw [← HMK.out] at HX9
        obtain ⟨x7, ⟨x0, x1, x2, x3, x4, x5, x6⟩, x8⟩ := HX9.out
        refine wp_region_two (C0 := fun W => Below w9.heap.size w9 W) (C1 := fun W => ∃ W1, Below w9.heap.size w9 W1 ∧ W = putE W1 (w.heap.size + 1) t.id t.v t.mkK true) (S := fun i v => match i with | 0 => v = .pointer (some ⟨b8, 0, none⟩) | 1 => v = .string t.nm | 2 => v = .pointer (some ⟨b8, 4, none⟩) | 3 => v = .slice (some ⟨gi, oi, none⟩) t.ps.length cu | 4 => v = .pointer (some ⟨gi, oi, none⟩) | 5 => v = .int .i64 y | 6 => v = .agg #[.int .i64 0, .int .i64 t.id, .int .i64 t.v, .int .i64 0, .int .i64 t.mkK, .bool true, .string ⟨#[]⟩] | 7 => v = .string t.nm | 8 => v = .int .i64 y | 9 => True | 10 => v = .int .i64 0 | _ => True) 9 [10] (by kernel_rfl) (n := 53) (by kernel_rfl) (by kernel_rfl) (by kernel_rfl) (Below.refl _ _).drew (each_at (X := fun i o => if i = 9 then AskedTo _ _ _ _ _ _ _ i o else AskedTo _ _ _ _ _ _ _ i o) ?_) (each_at (X := fun i o => [10].contains i = true → i = 9 ∨ AskedTo _ _ _ _ _ _ _ i o) ?_) ?_
        · refine ⟨?_, ?_, ?_, ?_, ?_, ?_, ?_, ?_, ?_, ?_, ?_, trivial⟩
          · refine ask_no (by decide) ?_
            intro a W hC _ _ he hdep
            rw [if_pos (wanted_free rfl)]
            have t10 := slot_else (t := 10) he (by kernel_rfl) rfl
            unfold Oper.wp
            simp [execOp, go_sem, t10]
            first | done | exact hC | exact ⟨hC, rfl⟩ | (refine ⟨hC, ?_⟩; simp [Act.put])
          · refine ask_no (by decide) ?_
            intro a W hC _ _ he hdep
            obtain ⟨_, t43, rfl⟩ : ∃ v, a.tmps[43]? = some v ∧ v = .pointer (some ⟨b8, 0, none⟩) := hdep ⟨0, .data⟩ (by simp) (by rfl) _ _ rfl rfl
            rw [if_pos (wanted_free rfl)]
            have Q0 := (hC.cell (p := ⟨b8, 0, none⟩) hs9).trans p0
            unfold Oper.wp
            simp [execOp, go_sem, t43, Q0]
            first | done | exact hC | exact ⟨hC, rfl⟩ | (refine ⟨hC, ?_⟩; simp [Act.put])
          · refine ask_no (by decide) ?_
            intro a W hC _ _ he hdep
            rw [if_pos (wanted_free rfl)]
            have t10 := slot_else (t := 10) he (by kernel_rfl) rfl
            unfold Oper.wp
            simp [execOp, go_sem, t10]
            first | done | exact hC | exact ⟨hC, rfl⟩ | (refine ⟨hC, ?_⟩; simp [Act.put])
          · refine ask_no (by decide) ?_
            intro a W hC _ _ he hdep
            obtain ⟨_, t45, rfl⟩ : ∃ v, a.tmps[45]? = some v ∧ v = .pointer (some ⟨b8, 4, none⟩) := hdep ⟨2, .data⟩ (by simp) (by rfl) _ _ rfl rfl
            rw [if_pos (wanted_free rfl)]
            have Q4 := (hC.cell (p := ⟨b8, 4, none⟩) hs9).trans p4
            unfold Oper.wp
            simp [execOp, go_sem, t45, Q4]
            first | done | exact hC | exact ⟨hC, rfl⟩ | (refine ⟨hC, ?_⟩; simp [Act.put])
          · refine ask_no (by decide) ?_
            intro a W hC _ _ he hdep
            obtain ⟨_, t46, rfl⟩ : ∃ v, a.tmps[46]? = some v ∧ v = .slice (some ⟨gi, oi, none⟩) t.ps.length cu := hdep ⟨3, .data⟩ (by simp) (by rfl) _ _ rfl rfl
            rw [if_pos (wanted_free rfl)]
            unfold Oper.wp
            simp [execOp, go_sem, t46, hpl, hpv]
            first | done | exact hC | exact ⟨hC, rfl⟩ | (refine ⟨hC, ?_⟩; simp [Act.put])
          · refine ask_no (by decide) ?_
            intro a W hC _ _ he hdep
            obtain ⟨_, t47, rfl⟩ : ∃ v, a.tmps[47]? = some v ∧ v = .pointer (some ⟨gi, oi, none⟩) := hdep ⟨4, .data⟩ (by simp) (by rfl) _ _ rfl rfl
            rw [if_pos (wanted_free rfl)]
            have Y0 := (hC.cell (p := ⟨gi, oi, none⟩) hgi9).trans hc9
            unfold Oper.wp
            simp [execOp, go_sem, t47, Y0]
            first | done | exact hC | exact ⟨hC, rfl⟩ | (refine ⟨hC, ?_⟩; simp [Act.put])
          · refine ask_no (by decide) ?_
            intro a W hC _ _ he hdep
            rw [if_pos (wanted_free rfl)]
            have t11 := slot_else (t := 11) he (by kernel_rfl) rfl
            have X0 := (hC.cell (p := ⟨b9, 0, none⟩) x7).trans x0
            have X1 := (hC.cell (p := ⟨b9, 1, none⟩) x7).trans x1
            have X2 := (hC.cell (p := ⟨b9, 2, none⟩) x7).trans x2
            have X3 := (hC.cell (p := ⟨b9, 3, none⟩) x7).trans x3
            have X4 := (hC.cell (p := ⟨b9, 4, none⟩) x7).trans x4
            have X5 := (hC.cell (p := ⟨b9, 5, none⟩) x7).trans x5
            have X6 := (hC.cell (p := ⟨b9, 6, none⟩) x7).trans x6
            unfold Oper.wp
            simp [execOp, go_sem, t11, X0, X1, X2, X3, X4, X5, X6]
            first | done | exact hC | exact ⟨hC, rfl⟩ | (refine ⟨hC, ?_⟩; simp [Act.put])
          · refine ask_no (by decide) ?_
            intro a W hC _ _ he hdep
            obtain ⟨_, t44, rfl⟩ : ∃ v, a.tmps[44]? = some v ∧ v = .string t.nm := hdep ⟨1, .data⟩ (by simp) (by rfl) _ _ rfl rfl
            obtain ⟨_, t43, rfl⟩ : ∃ v, a.tmps[43]? = some v ∧ v = .pointer (some ⟨b8, 0, none⟩) := hdep ⟨0, .phase⟩ (by simp) (by rfl) _ _ rfl rfl
            rw [if_pos (wanted_free rfl)]
            unfold Oper.wp
            simp [execOp, go_sem, t43, t44]
            first | done | exact hC | exact ⟨hC, rfl⟩ | (refine ⟨hC, ?_⟩; simp [Act.put])
          · refine ask_no (by decide) ?_
            intro a W hC _ _ he hdep
            obtain ⟨_, t48, rfl⟩ : ∃ v, a.tmps[48]? = some v ∧ v = .int .i64 y := hdep ⟨5, .data⟩ (by simp) (by rfl) _ _ rfl rfl
            obtain ⟨_, t4, rfl⟩ : ∃ v, a.tmps[4]? = some v ∧ v = .string t.nm := hdep ⟨7, .chain⟩ (by simp) (by rfl) _ _ rfl rfl
            obtain ⟨_, t43, rfl⟩ : ∃ v, a.tmps[43]? = some v ∧ v = .pointer (some ⟨b8, 0, none⟩) := hdep ⟨0, .phase⟩ (by simp) (by rfl) _ _ rfl rfl
            obtain ⟨_, t44, rfl⟩ : ∃ v, a.tmps[44]? = some v ∧ v = .string t.nm := hdep ⟨1, .phase⟩ (by simp) (by rfl) _ _ rfl rfl
            obtain ⟨_, t45, rfl⟩ : ∃ v, a.tmps[45]? = some v ∧ v = .pointer (some ⟨b8, 4, none⟩) := hdep ⟨2, .phase⟩ (by simp) (by rfl) _ _ rfl rfl
            obtain ⟨_, t46, rfl⟩ : ∃ v, a.tmps[46]? = some v ∧ v = .slice (some ⟨gi, oi, none⟩) t.ps.length cu := hdep ⟨3, .phase⟩ (by simp) (by rfl) _ _ rfl rfl
            obtain ⟨_, t47, rfl⟩ : ∃ v, a.tmps[47]? = some v ∧ v = .pointer (some ⟨gi, oi, none⟩) := hdep ⟨4, .phase⟩ (by simp) (by rfl) _ _ rfl rfl
            rw [if_pos (wanted_free rfl)]
            unfold Oper.wp
            simp [execOp, go_sem, t4, t43, t44, t45, t46, t47, t48]
            first | done | exact hC | exact ⟨hC, rfl⟩ | (refine ⟨hC, ?_⟩; simp [Act.put])
          · refine ask_yes rfl ?_
            intro a W hC _ _ he hdep
            obtain ⟨_, t49, rfl⟩ : ∃ v, a.tmps[49]? = some v ∧ v = .agg #[.int .i64 0, .int .i64 t.id, .int .i64 t.v, .int .i64 0, .int .i64 t.mkK, .bool true, .string ⟨#[]⟩] := hdep ⟨6, .data⟩ (by simp) (by rfl) _ _ rfl rfl
            rw [if_pos (wanted_free rfl)]
            have t6 := slot_else (t := 6) he (by kernel_rfl) rfl
            obtain ⟨z1, ⟨e0, e1, e2, e3, e4, e5, e6⟩, g1⟩ := HZ9.out.below hC
            unfold Oper.wp
            simp [execOp, go_sem, t6, t49, e0, e1, e2, e3, e4, e5, e6, g1]
            exact ⟨W, hC, rfl⟩
          · refine ask_no (by decide) ?_
            intro a W hC _ _ he hdep
            obtain ⟨_, t43, rfl⟩ : ∃ v, a.tmps[43]? = some v ∧ v = .pointer (some ⟨b8, 0, none⟩) := hdep ⟨0, .phase⟩ (by simp) (by rfl) _ _ rfl rfl
            obtain ⟨_, t44, rfl⟩ : ∃ v, a.tmps[44]? = some v ∧ v = .string t.nm := hdep ⟨1, .phase⟩ (by simp) (by rfl) _ _ rfl rfl
            obtain ⟨_, t45, rfl⟩ : ∃ v, a.tmps[45]? = some v ∧ v = .pointer (some ⟨b8, 4, none⟩) := hdep ⟨2, .phase⟩ (by simp) (by rfl) _ _ rfl rfl
            obtain ⟨_, t46, rfl⟩ : ∃ v, a.tmps[46]? = some v ∧ v = .slice (some ⟨gi, oi, none⟩) t.ps.length cu := hdep ⟨3, .phase⟩ (by simp) (by rfl) _ _ rfl rfl
            obtain ⟨_, t47, rfl⟩ : ∃ v, a.tmps[47]? = some v ∧ v = .pointer (some ⟨gi, oi, none⟩) := hdep ⟨4, .phase⟩ (by simp) (by rfl) _ _ rfl rfl
            obtain ⟨_, t48, rfl⟩ : ∃ v, a.tmps[48]? = some v ∧ v = .int .i64 y := hdep ⟨5, .phase⟩ (by simp) (by rfl) _ _ rfl rfl
            obtain ⟨_, t49, rfl⟩ : ∃ v, a.tmps[49]? = some v ∧ v = .agg #[.int .i64 0, .int .i64 t.id, .int .i64 t.v, .int .i64 0, .int .i64 t.mkK, .bool true, .string ⟨#[]⟩] := hdep ⟨6, .phase⟩ (by simp) (by rfl) _ _ rfl rfl
            obtain ⟨_, t4, rfl⟩ : ∃ v, a.tmps[4]? = some v ∧ v = .string t.nm := hdep ⟨7, .phase⟩ (by simp) (by rfl) _ _ rfl rfl
            obtain ⟨_, t5, rfl⟩ : ∃ v, a.tmps[5]? = some v ∧ v = .int .i64 y := hdep ⟨8, .phase⟩ (by simp) (by rfl) _ _ rfl rfl
            rw [if_pos (wanted_free rfl)]
            unfold Oper.wp
            simp [execOp, go_sem, t4, t5, t43, t44, t45, t46, t47, t48, t49]
            first | done | exact hC | exact ⟨hC, rfl⟩ | (refine ⟨hC, ?_⟩; simp [Act.put])
        · refine ⟨fun h => absurd h (by decide), fun h => absurd h (by decide), fun h => absurd h (by decide), fun h => absurd h (by decide), fun h => absurd h (by decide), fun h => absurd h (by decide), fun h => absurd h (by decide), fun h => absurd h (by decide), fun h => absurd h (by decide), fun h => absurd h (by decide), fun _ => .inr ?_, trivial⟩
          · intro a W hC _ _ he hdep
            obtain ⟨_, t43, rfl⟩ : ∃ v, a.tmps[43]? = some v ∧ v = .pointer (some ⟨b8, 0, none⟩) := hdep ⟨0, .phase⟩ (by simp) (by rfl) _ _ rfl rfl
            obtain ⟨_, t44, rfl⟩ : ∃ v, a.tmps[44]? = some v ∧ v = .string t.nm := hdep ⟨1, .phase⟩ (by simp) (by rfl) _ _ rfl rfl
            obtain ⟨_, t45, rfl⟩ : ∃ v, a.tmps[45]? = some v ∧ v = .pointer (some ⟨b8, 4, none⟩) := hdep ⟨2, .phase⟩ (by simp) (by rfl) _ _ rfl rfl
            obtain ⟨_, t46, rfl⟩ : ∃ v, a.tmps[46]? = some v ∧ v = .slice (some ⟨gi, oi, none⟩) t.ps.length cu := hdep ⟨3, .phase⟩ (by simp) (by rfl) _ _ rfl rfl
            obtain ⟨_, t47, rfl⟩ : ∃ v, a.tmps[47]? = some v ∧ v = .pointer (some ⟨gi, oi, none⟩) := hdep ⟨4, .phase⟩ (by simp) (by rfl) _ _ rfl rfl
            obtain ⟨_, t48, rfl⟩ : ∃ v, a.tmps[48]? = some v ∧ v = .int .i64 y := hdep ⟨5, .phase⟩ (by simp) (by rfl) _ _ rfl rfl
            obtain ⟨_, t49, rfl⟩ : ∃ v, a.tmps[49]? = some v ∧ v = .agg #[.int .i64 0, .int .i64 t.id, .int .i64 t.v, .int .i64 0, .int .i64 t.mkK, .bool true, .string ⟨#[]⟩] := hdep ⟨6, .phase⟩ (by simp) (by rfl) _ _ rfl rfl
            obtain ⟨_, t4, rfl⟩ : ∃ v, a.tmps[4]? = some v ∧ v = .string t.nm := hdep ⟨7, .phase⟩ (by simp) (by rfl) _ _ rfl rfl
            obtain ⟨_, t5, rfl⟩ : ∃ v, a.tmps[5]? = some v ∧ v = .int .i64 y := hdep ⟨8, .phase⟩ (by simp) (by rfl) _ _ rfl rfl
            rw [if_pos (wanted_free rfl)]
            unfold Oper.wp
            simp [execOp, go_sem, t4, t5, t43, t44, t45, t46, t47, t48, t49]
            first | done | exact hC | exact ⟨hC, rfl⟩ | (refine ⟨hC, ?_⟩; simp [Act.put])
        · intro vs W hC hS
          obtain ⟨W1, hW1, rfl⟩ := hC
          have h7 : vs 7 = .string t.nm := hS 7 (by simp)
          have h8 : vs 8 = .int .i64 y := hS 8 (by simp)
          have h10 : vs 10 = .int .i64 0 := hS 10 (by simp)
          obtain ⟨z1, ⟨e0, e1, e2, e3, e4, e5, e6⟩, g1⟩ := HZ9.out.below hW1
          simp [over, h7, h8, h10, Act.put]
          go_wp2_with fail
          exact bodyPost_ret (v := nextV (t.nm, y, t.id, t.v, t.mkK, true, 0)) (by simp [results, Try.results31, go_sem, putE, e0, e1, e2, e3, e4, e5, e6, nextV, entV]) rfl ⟨by rw [HE3.out], below_putE (bstep HB9.out hW1) (by omega) _ _ _ _⟩
      · have d4 : (t.st == 4) = false := by simp [h4]
        have HS4 : Hid (t.st = 3) := show _ = _ by have := HTE.out; unfold Txn.endB at this; simp at this; omega
        clear h4
        have HMK : Hid (t.mkK = 2) := show _ = _ by unfold Txn.mkK; rw [if_pos HS4.out]
        go_upto_region 13 with fail
        have HZ9 : Hid (EB (w8.alloc (.cells #[.int .i64 0, .int .i64 t.id, .int .i64 t.v, .int .i64 0, .int .i64 2, .bool true, .string ⟨#[]⟩] 41)) (w.heap.size + 1) 0 0 0 false) := HZ8.out.below (bbox _ _)
        have HX9 : Hid (EB (w8.alloc (.cells #[.int .i64 0, .int .i64 t.id, .int .i64 t.v, .int .i64 0, .int .i64 2, .bool true, .string ⟨#[]⟩] 41)) w8.heap.size t.id t.v 2 true) := eb_new w8 _ _ _ _ _ rfl
        have HT9 : Hid (TBox (w8.alloc (.cells #[.int .i64 0, .int .i64 t.id, .int .i64 t.v, .int .i64 0, .int .i64 2, .bool true, .string ⟨#[]⟩] 41)) b8 0 t (.slice (some ⟨gi, oi, none⟩) t.ps.length cu)) := TBox.below HT8.out hs8 (bbox _ _)
        have HB9 : Hid (Below w.heap.size w (w8.alloc (.cells #[.int .i64 0, .int .i64 t.id, .int .i64 t.v, .int .i64 0, .int .i64 2, .bool true, .string ⟨#[]⟩] 41))) := bstep HB8.out (bbox _ _)
        have hc9 := ((bbox w8 (.cells #[.int .i64 0, .int .i64 t.id, .int .i64 t.v, .int .i64 0, .int .i64 2, .bool true, .string ⟨#[]⟩] 41)).cell (p := ⟨gi, oi, none⟩) hgi8).trans hc8
        have hgi9 : gi < (w8.alloc (.cells #[.int .i64 0, .int .i64 t.id, .int .i64 t.v, .int .i64 0, .int .i64 2, .bool true, .string ⟨#[]⟩] 41)).heap.size := Nat.lt_of_lt_of_le hgi8 (bbox _ _).size
        have hs9 : b8 < (w8.alloc (.cells #[.int .i64 0, .int .i64 t.id, .int .i64 t.v, .int .i64 0, .int .i64 2, .bool true, .string ⟨#[]⟩] 41)).heap.size := Nat.lt_of_lt_of_le hs8 (bbox _ _).size
        generalize w8.alloc (.cells #[.int .i64 0, .int .i64 t.id, .int .i64 t.v, .int .i64 0, .int .i64 2, .bool true, .string ⟨#[]⟩] 41) = w9 at *
        generalize w8.heap.size = b9 at *
        clear p0 p1 p2 p3 p4 p5 p6
        obtain ⟨p0, p1, p2, p3, p4, p5, p6⟩ := HT9.out
        simp only [Nat.zero_add] at p0 p1 p2 p3 p4 p5 p6
        rw [← HMK.out] at HX9
        obtain ⟨x7, ⟨x0, x1, x2, x3, x4, x5, x6⟩, x8⟩ := HX9.out
        refine wp_region_two (C0 := fun W => Below w9.heap.size w9 W) (C1 := fun W => ∃ W1, Below w9.heap.size w9 W1 ∧ W = putE W1 (w.heap.size + 1) t.id t.v t.mkK true) (S := fun i v => match i with | 0 => v = .pointer (some ⟨b8, 0, none⟩) | 1 => v = .string t.nm | 2 => v = .pointer (some ⟨b8, 4, none⟩) | 3 => v = .slice (some ⟨gi, oi, none⟩) t.ps.length cu | 4 => v = .pointer (some ⟨gi, oi, none⟩) | 5 => v = .int .i64 y | 6 => v = .agg #[.int .i64 0, .int .i64 t.id, .int .i64 t.v, .int .i64 0, .int .i64 t.mkK, .bool true, .string ⟨#[]⟩] | 7 => v = .string t.nm | 8 => v = .int .i64 y | 9 => True | 10 => v = .int .i64 0 | _ => True) 9 [10] (by kernel_rfl) (n := 53) (by kernel_rfl) (by kernel_rfl) (by kernel_rfl) (Below.refl _ _).drew (each_at (X := fun i o => if i = 9 then AskedTo _ _ _ _ _ _ _ i o else AskedTo _ _ _ _ _ _ _ i o) ?_) (each_at (X := fun i o => [10].contains i = true → i = 9 ∨ AskedTo _ _ _ _ _ _ _ i o) ?_) ?_
        · refine ⟨?_, ?_, ?_, ?_, ?_, ?_, ?_, ?_, ?_, ?_, ?_, trivial⟩
          · refine ask_no (by decide) ?_
            intro a W hC _ _ he hdep
            rw [if_pos (wanted_free rfl)]
            have t10 := slot_else (t := 10) he (by kernel_rfl) rfl
            unfold Oper.wp
            simp [execOp, go_sem, t10]
            first | done | exact hC | exact ⟨hC, rfl⟩ | (refine ⟨hC, ?_⟩; simp [Act.put])
          · refine ask_no (by decide) ?_
            intro a W hC _ _ he hdep
            obtain ⟨_, t43, rfl⟩ : ∃ v, a.tmps[43]? = some v ∧ v = .pointer (some ⟨b8, 0, none⟩) := hdep ⟨0, .data⟩ (by simp) (by rfl) _ _ rfl rfl
            rw [if_pos (wanted_free rfl)]
            have Q0 := (hC.cell (p := ⟨b8, 0, none⟩) hs9).trans p0
            unfold Oper.wp
            simp [execOp, go_sem, t43, Q0]
            first | done | exact hC | exact ⟨hC, rfl⟩ | (refine ⟨hC, ?_⟩; simp [Act.put])
          · refine ask_no (by decide) ?_
            intro a W hC _ _ he hdep
            rw [if_pos (wanted_free rfl)]
            have t10 := slot_else (t := 10) he (by kernel_rfl) rfl
            unfold Oper.wp
            simp [execOp, go_sem, t10]
            first | done | exact hC | exact ⟨hC, rfl⟩ | (refine ⟨hC, ?_⟩; simp [Act.put])
          · refine ask_no (by decide) ?_
            intro a W hC _ _ he hdep
            obtain ⟨_, t45, rfl⟩ : ∃ v, a.tmps[45]? = some v ∧ v = .pointer (some ⟨b8, 4, none⟩) := hdep ⟨2, .data⟩ (by simp) (by rfl) _ _ rfl rfl
            rw [if_pos (wanted_free rfl)]
            have Q4 := (hC.cell (p := ⟨b8, 4, none⟩) hs9).trans p4
            unfold Oper.wp
            simp [execOp, go_sem, t45, Q4]
            first | done | exact hC | exact ⟨hC, rfl⟩ | (refine ⟨hC, ?_⟩; simp [Act.put])
          · refine ask_no (by decide) ?_
            intro a W hC _ _ he hdep
            obtain ⟨_, t46, rfl⟩ : ∃ v, a.tmps[46]? = some v ∧ v = .slice (some ⟨gi, oi, none⟩) t.ps.length cu := hdep ⟨3, .data⟩ (by simp) (by rfl) _ _ rfl rfl
            rw [if_pos (wanted_free rfl)]
            unfold Oper.wp
            simp [execOp, go_sem, t46, hpl, hpv]
            first | done | exact hC | exact ⟨hC, rfl⟩ | (refine ⟨hC, ?_⟩; simp [Act.put])
          · refine ask_no (by decide) ?_
            intro a W hC _ _ he hdep
            obtain ⟨_, t47, rfl⟩ : ∃ v, a.tmps[47]? = some v ∧ v = .pointer (some ⟨gi, oi, none⟩) := hdep ⟨4, .data⟩ (by simp) (by rfl) _ _ rfl rfl
            rw [if_pos (wanted_free rfl)]
            have Y0 := (hC.cell (p := ⟨gi, oi, none⟩) hgi9).trans hc9
            unfold Oper.wp
            simp [execOp, go_sem, t47, Y0]
            first | done | exact hC | exact ⟨hC, rfl⟩ | (refine ⟨hC, ?_⟩; simp [Act.put])
          · refine ask_no (by decide) ?_
            intro a W hC _ _ he hdep
            rw [if_pos (wanted_free rfl)]
            have t11 := slot_else (t := 11) he (by kernel_rfl) rfl
            have X0 := (hC.cell (p := ⟨b9, 0, none⟩) x7).trans x0
            have X1 := (hC.cell (p := ⟨b9, 1, none⟩) x7).trans x1
            have X2 := (hC.cell (p := ⟨b9, 2, none⟩) x7).trans x2
            have X3 := (hC.cell (p := ⟨b9, 3, none⟩) x7).trans x3
            have X4 := (hC.cell (p := ⟨b9, 4, none⟩) x7).trans x4
            have X5 := (hC.cell (p := ⟨b9, 5, none⟩) x7).trans x5
            have X6 := (hC.cell (p := ⟨b9, 6, none⟩) x7).trans x6
            unfold Oper.wp
            simp [execOp, go_sem, t11, X0, X1, X2, X3, X4, X5, X6]
            first | done | exact hC | exact ⟨hC, rfl⟩ | (refine ⟨hC, ?_⟩; simp [Act.put])
          · refine ask_no (by decide) ?_
            intro a W hC _ _ he hdep
            obtain ⟨_, t44, rfl⟩ : ∃ v, a.tmps[44]? = some v ∧ v = .string t.nm := hdep ⟨1, .data⟩ (by simp) (by rfl) _ _ rfl rfl
            obtain ⟨_, t43, rfl⟩ : ∃ v, a.tmps[43]? = some v ∧ v = .pointer (some ⟨b8, 0, none⟩) := hdep ⟨0, .phase⟩ (by simp) (by rfl) _ _ rfl rfl
            rw [if_pos (wanted_free rfl)]
            unfold Oper.wp
            simp [execOp, go_sem, t43, t44]
            first | done | exact hC | exact ⟨hC, rfl⟩ | (refine ⟨hC, ?_⟩; simp [Act.put])
          · refine ask_no (by decide) ?_
            intro a W hC _ _ he hdep
            obtain ⟨_, t48, rfl⟩ : ∃ v, a.tmps[48]? = some v ∧ v = .int .i64 y := hdep ⟨5, .data⟩ (by simp) (by rfl) _ _ rfl rfl
            obtain ⟨_, t4, rfl⟩ : ∃ v, a.tmps[4]? = some v ∧ v = .string t.nm := hdep ⟨7, .chain⟩ (by simp) (by rfl) _ _ rfl rfl
            obtain ⟨_, t43, rfl⟩ : ∃ v, a.tmps[43]? = some v ∧ v = .pointer (some ⟨b8, 0, none⟩) := hdep ⟨0, .phase⟩ (by simp) (by rfl) _ _ rfl rfl
            obtain ⟨_, t44, rfl⟩ : ∃ v, a.tmps[44]? = some v ∧ v = .string t.nm := hdep ⟨1, .phase⟩ (by simp) (by rfl) _ _ rfl rfl
            obtain ⟨_, t45, rfl⟩ : ∃ v, a.tmps[45]? = some v ∧ v = .pointer (some ⟨b8, 4, none⟩) := hdep ⟨2, .phase⟩ (by simp) (by rfl) _ _ rfl rfl
            obtain ⟨_, t46, rfl⟩ : ∃ v, a.tmps[46]? = some v ∧ v = .slice (some ⟨gi, oi, none⟩) t.ps.length cu := hdep ⟨3, .phase⟩ (by simp) (by rfl) _ _ rfl rfl
            obtain ⟨_, t47, rfl⟩ : ∃ v, a.tmps[47]? = some v ∧ v = .pointer (some ⟨gi, oi, none⟩) := hdep ⟨4, .phase⟩ (by simp) (by rfl) _ _ rfl rfl
            rw [if_pos (wanted_free rfl)]
            unfold Oper.wp
            simp [execOp, go_sem, t4, t43, t44, t45, t46, t47, t48]
            first | done | exact hC | exact ⟨hC, rfl⟩ | (refine ⟨hC, ?_⟩; simp [Act.put])
          · refine ask_yes rfl ?_
            intro a W hC _ _ he hdep
            obtain ⟨_, t49, rfl⟩ : ∃ v, a.tmps[49]? = some v ∧ v = .agg #[.int .i64 0, .int .i64 t.id, .int .i64 t.v, .int .i64 0, .int .i64 t.mkK, .bool true, .string ⟨#[]⟩] := hdep ⟨6, .data⟩ (by simp) (by rfl) _ _ rfl rfl
            rw [if_pos (wanted_free rfl)]
            have t6 := slot_else (t := 6) he (by kernel_rfl) rfl
            obtain ⟨z1, ⟨e0, e1, e2, e3, e4, e5, e6⟩, g1⟩ := HZ9.out.below hC
            unfold Oper.wp
            simp [execOp, go_sem, t6, t49, e0, e1, e2, e3, e4, e5, e6, g1]
            exact ⟨W, hC, rfl⟩
          · refine ask_no (by decide) ?_
            intro a W hC _ _ he hdep
            obtain ⟨_, t43, rfl⟩ : ∃ v, a.tmps[43]? = some v ∧ v = .pointer (some ⟨b8, 0, none⟩) := hdep ⟨0, .phase⟩ (by simp) (by rfl) _ _ rfl rfl
            obtain ⟨_, t44, rfl⟩ : ∃ v, a.tmps[44]? = some v ∧ v = .string t.nm := hdep ⟨1, .phase⟩ (by simp) (by rfl) _ _ rfl rfl
            obtain ⟨_, t45, rfl⟩ : ∃ v, a.tmps[45]? = some v ∧ v = .pointer (some ⟨b8, 4, none⟩) := hdep ⟨2, .phase⟩ (by simp) (by rfl) _ _ rfl rfl
            obtain ⟨_, t46, rfl⟩ : ∃ v, a.tmps[46]? = some v ∧ v = .slice (some ⟨gi, oi, none⟩) t.ps.length cu := hdep ⟨3, .phase⟩ (by simp) (by rfl) _ _ rfl rfl
            obtain ⟨_, t47, rfl⟩ : ∃ v, a.tmps[47]? = some v ∧ v = .pointer (some ⟨gi, oi, none⟩) := hdep ⟨4, .phase⟩ (by simp) (by rfl) _ _ rfl rfl
            obtain ⟨_, t48, rfl⟩ : ∃ v, a.tmps[48]? = some v ∧ v = .int .i64 y := hdep ⟨5, .phase⟩ (by simp) (by rfl) _ _ rfl rfl
            obtain ⟨_, t49, rfl⟩ : ∃ v, a.tmps[49]? = some v ∧ v = .agg #[.int .i64 0, .int .i64 t.id, .int .i64 t.v, .int .i64 0, .int .i64 t.mkK, .bool true, .string ⟨#[]⟩] := hdep ⟨6, .phase⟩ (by simp) (by rfl) _ _ rfl rfl
            obtain ⟨_, t4, rfl⟩ : ∃ v, a.tmps[4]? = some v ∧ v = .string t.nm := hdep ⟨7, .phase⟩ (by simp) (by rfl) _ _ rfl rfl
            obtain ⟨_, t5, rfl⟩ : ∃ v, a.tmps[5]? = some v ∧ v = .int .i64 y := hdep ⟨8, .phase⟩ (by simp) (by rfl) _ _ rfl rfl
            rw [if_pos (wanted_free rfl)]
            unfold Oper.wp
            simp [execOp, go_sem, t4, t5, t43, t44, t45, t46, t47, t48, t49]
            first | done | exact hC | exact ⟨hC, rfl⟩ | (refine ⟨hC, ?_⟩; simp [Act.put])
        · refine ⟨fun h => absurd h (by decide), fun h => absurd h (by decide), fun h => absurd h (by decide), fun h => absurd h (by decide), fun h => absurd h (by decide), fun h => absurd h (by decide), fun h => absurd h (by decide), fun h => absurd h (by decide), fun h => absurd h (by decide), fun h => absurd h (by decide), fun _ => .inr ?_, trivial⟩
          · intro a W hC _ _ he hdep
            obtain ⟨_, t43, rfl⟩ : ∃ v, a.tmps[43]? = some v ∧ v = .pointer (some ⟨b8, 0, none⟩) := hdep ⟨0, .phase⟩ (by simp) (by rfl) _ _ rfl rfl
            obtain ⟨_, t44, rfl⟩ : ∃ v, a.tmps[44]? = some v ∧ v = .string t.nm := hdep ⟨1, .phase⟩ (by simp) (by rfl) _ _ rfl rfl
            obtain ⟨_, t45, rfl⟩ : ∃ v, a.tmps[45]? = some v ∧ v = .pointer (some ⟨b8, 4, none⟩) := hdep ⟨2, .phase⟩ (by simp) (by rfl) _ _ rfl rfl
            obtain ⟨_, t46, rfl⟩ : ∃ v, a.tmps[46]? = some v ∧ v = .slice (some ⟨gi, oi, none⟩) t.ps.length cu := hdep ⟨3, .phase⟩ (by simp) (by rfl) _ _ rfl rfl
            obtain ⟨_, t47, rfl⟩ : ∃ v, a.tmps[47]? = some v ∧ v = .pointer (some ⟨gi, oi, none⟩) := hdep ⟨4, .phase⟩ (by simp) (by rfl) _ _ rfl rfl
            obtain ⟨_, t48, rfl⟩ : ∃ v, a.tmps[48]? = some v ∧ v = .int .i64 y := hdep ⟨5, .phase⟩ (by simp) (by rfl) _ _ rfl rfl
            obtain ⟨_, t49, rfl⟩ : ∃ v, a.tmps[49]? = some v ∧ v = .agg #[.int .i64 0, .int .i64 t.id, .int .i64 t.v, .int .i64 0, .int .i64 t.mkK, .bool true, .string ⟨#[]⟩] := hdep ⟨6, .phase⟩ (by simp) (by rfl) _ _ rfl rfl
            obtain ⟨_, t4, rfl⟩ : ∃ v, a.tmps[4]? = some v ∧ v = .string t.nm := hdep ⟨7, .phase⟩ (by simp) (by rfl) _ _ rfl rfl
            obtain ⟨_, t5, rfl⟩ : ∃ v, a.tmps[5]? = some v ∧ v = .int .i64 y := hdep ⟨8, .phase⟩ (by simp) (by rfl) _ _ rfl rfl
            rw [if_pos (wanted_free rfl)]
            unfold Oper.wp
            simp [execOp, go_sem, t4, t5, t43, t44, t45, t46, t47, t48, t49]
            first | done | exact hC | exact ⟨hC, rfl⟩ | (refine ⟨hC, ?_⟩; simp [Act.put])
        · intro vs W hC hS
          obtain ⟨W1, hW1, rfl⟩ := hC
          have h7 : vs 7 = .string t.nm := hS 7 (by simp)
          have h8 : vs 8 = .int .i64 y := hS 8 (by simp)
          have h10 : vs 10 = .int .i64 0 := hS 10 (by simp)
          obtain ⟨z1, ⟨e0, e1, e2, e3, e4, e5, e6⟩, g1⟩ := HZ9.out.below hW1
          simp [over, h7, h8, h10, Act.put]
          go_wp2_with fail
          exact bodyPost_ret (v := nextV (t.nm, y, t.id, t.v, t.mkK, true, 0)) (by simp [results, Try.results31, go_sem, putE, e0, e1, e2, e3, e4, e5, e6, nextV, entV]) rfl ⟨by rw [HE3.out], below_putE (bstep HB9.out hW1) (by omega) _ _ _ _⟩

end Go.Proofs.Ytjhpfnogdjpbmaa
