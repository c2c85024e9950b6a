/-
  The walk of coord.Done.
-/
import Derived.Test.YtjhpfnogdjpbmaaCturn
import Derived.Test.YtjhpfnogdjpbmaaCdel
import Derived.Test.YtjhpfnogdjpbmaaCadd
namespace Go.Proofs.Ytjhpfnogdjpbmaa
open Go.RowKit
set_option linter.unusedVariables false
set_option linter.unusedSimpArgs false

theorem less_some {t : Txn} {p : Int} {l : List Int} (e : delP t.ps p = l) (h : l ≠ []) : t.less p = { t with ps := l } := by
  unfold Txn.less
  rw [e, if_neg h, if_neg h]
theorem less_none {t : Txn} {p : Int} {l : List Int} (e : delP t.ps p = l) (h : l = []) : t.less p = { t with ps := l, dn := t.st, st := 1 } := by
  unfold Txn.less
  rw [e, if_pos h, if_pos h]

set_option maxRecDepth 100000 in
set_option maxHeartbeats 4000000 in
theorem done_any (c : Crd) (s : ByteArray) (p : Int) (vt : Value) (us : Nat → Value) (w : World) (h : RdC w c vt us) (hf : c.fits) (hn : s.size ≤ maxLen) :
    Calls Try.prog 32 #[.agg #[.int .i64 c.ck, .int .i64 c.nx, .int .i64 c.wt, vt], .string s, .int .i64 p] w fun e w' => ∃ vt' us', e = .returned (.tuple #[.agg #[.int .i64 (c.doneP s p).1.ck, .int .i64 (c.doneP s p).1.nx, .int .i64 (c.doneP s p).1.wt, vt'], .int .i64 (c.doneP s p).2]) ∧ FreshC w.heap.size w' (c.doneP s p).1 vt' us' ∧ Below w.heap.size w w' := by
  obtain ⟨av, cv, rfl, hl1, hl2⟩ := h.shape
  unfold maxLen at hl2
  have hll : (c.ts.length : Int) ≤ 9223372036854775807 := by omega
  have HR : Hid (∀ W, Below w.heap.size w W → RdC W c (.slice av c.ts.length cv) us) := fun W hW => h.below (Nat.le_refl _) hW
  have HF : Hid c.fits := hf
  have HB0 : Hid (Below w.heap.size w ((w.alloc (.cells #[.int .i64 c.ck, .int .i64 c.nx, .int .i64 c.wt, .slice av c.ts.length cv] 24)).alloc (.cells #[.int .i64 0, .int .i64 0, .int .i64 0, .slice none 0 0] 24))) := bstep (bbox _ _) (bbox _ _)
  have HC0 : Hid (CB ((w.alloc (.cells #[.int .i64 c.ck, .int .i64 c.nx, .int .i64 c.wt, .slice av c.ts.length cv] 24)).alloc (.cells #[.int .i64 0, .int .i64 0, .int .i64 0, .slice none 0 0] 24)) w.heap.size c (.slice av c.ts.length cv)) := (cb_new w c (.slice av c.ts.length cv) 24 w.heap.size rfl).below (C := w.heap.size + 1) (by omega) ((Below.refl _ _).alloc (by simp) _)
  have HZ0 : Hid (CB ((w.alloc (.cells #[.int .i64 c.ck, .int .i64 c.nx, .int .i64 c.wt, .slice av c.ts.length cv] 24)).alloc (.cells #[.int .i64 0, .int .i64 0, .int .i64 0, .slice none 0 0] 24)) (w.heap.size + 1) Crd.zero (.slice none 0 0)) := cb_new _ Crd.zero (.slice none 0 0) 24 (w.heap.size + 1) (by simp)
  have HEE : Hid (c.doneP s p = if c.flt s ≠ 0 then (Crd.zero, c.flt s) else if c.pos s < 0 then (Crd.zero, 5) else if (c.at (c.pos s).toNat).endB = false then (Crd.zero, 12) else if (c.at (c.pos s).toNat).ps.contains p = false then (Crd.zero, 5) else (c.setT (c.pos s).toNat ((c.at (c.pos s).toNat).less p), 0)) := show _ = _ from rfl
  have HN : Hid (s.size ≤ maxLen) := hn
  clear h hf hl1 hl2 hn
  go_enter Try.func32, Try.ntmps32
  go_upto_region 1 with fail
  generalize (w.alloc (.cells #[.int .i64 c.ck, .int .i64 c.nx, .int .i64 c.wt, .slice av c.ts.length cv] 24)).alloc (.cells #[.int .i64 0, .int .i64 0, .int .i64 0, .slice none 0 0] 24) = W0 at *
  obtain ⟨s1, ⟨a0, a1, a2, a3⟩, f1⟩ := HC0.out
  obtain ⟨z1, ⟨e0, e1, e2, e3⟩, g1⟩ := HZ0.out
  go_wp2_with fail
  refine (findNamed_any c s _ us _ (HR.out _ HB0.out) HF.out.n HN.out).mono ?_
  rintro e w1 ⟨rfl, hb1⟩
  have HB1 : Hid (Below w.heap.size w w1) := bstep HB0.out hb1
  have HC1 : Hid (CB w1 w.heap.size c _) := HC0.out.below HC0.out.1 hb1
  have HZ1 : Hid (CB w1 (w.heap.size + 1) Crd.zero _) := HZ0.out.below HZ0.out.1 hb1
  clear a0 a1 a2 a3 f1 s1 z1 e0 e1 e2 e3 g1 hb1
  obtain ⟨s1, ⟨a0, a1, a2, a3⟩, f1⟩ := HC1.out
  obtain ⟨z1, ⟨e0, e1, e2, e3⟩, g1⟩ := HZ1.out
  by_cases hf0 : c.flt s = 0
  rotate_left
  · have HV : Hid (c.doneP s p = (Crd.zero, c.flt s)) := show _ = _ by rw [HEE.out, if_pos hf0]
    have d1 : (c.flt s != 0) = true := by simp [hf0]
    clear hf0
    generalize c.flt s = fl at *
    have HDN : Hid (FreshC w.heap.size (put4 w1 (w.heap.size + 1) Crd.zero (.slice none 0 0)) Crd.zero (.slice none 0 0) (fun _ => .slice none 0 0) ∧ Below w.heap.size w (put4 w1 (w.heap.size + 1) Crd.zero (.slice none 0 0))) := ⟨freshC_nil' _ rfl (by rw [put4_size]; exact HB1.out.size), below_put4 HB1.out (by omega) _ _⟩
    go_wp2
    exact bodyPost_ret (v := .tuple #[.agg #[.int .i64 0, .int .i64 0, .int .i64 0, .slice none 0 0], .int .i64 fl]) (by simp [results, Try.results32, go_sem, e0, e1, e2, e3]) rfl ⟨.slice none 0 0, fun _ => .slice none 0 0, by simp only [HV.out, Crd.zero], by simp only [HV.out]; exact HDN.out.1, HDN.out.2⟩
  have HFL : Hid (c.flt s = 0) := hf0
  have HFN : Hid (c.fnd s = c.pos s) := show _ = _ by unfold Crd.fnd; rw [if_pos hf0]
  obtain ⟨hmay, hnm⟩ := flt_zero_iff.1 hf0
  have HMY : Hid (MayC c) := hmay
  rw [HFL.out, HFN.out]
  clear hf0 hmay hnm
  rcases pos_cases c s with hp | ⟨k, hk, hp, hnm⟩
  · have HV : Hid (c.doneP s p = (Crd.zero, 5)) := show _ = _ by rw [HEE.out, if_neg (by rw [HFL.out]; simp), if_pos (by rw [hp]; decide)]
    rw [hp]
    have HDN : Hid (FreshC w.heap.size (put4 w1 (w.heap.size + 1) Crd.zero (.slice none 0 0)) Crd.zero (.slice none 0 0) (fun _ => .slice none 0 0) ∧ Below w.heap.size w (put4 w1 (w.heap.size + 1) Crd.zero (.slice none 0 0))) := ⟨freshC_nil' _ rfl (by rw [put4_size]; exact HB1.out.size), below_put4 HB1.out (by omega) _ _⟩
    clear hp
    go_wp2
    exact bodyPost_ret (v := .tuple #[.agg #[.int .i64 0, .int .i64 0, .int .i64 0, .slice none 0 0], .int .i64 5]) (by simp [results, Try.results32, go_sem, e0, e1, e2, e3]) rfl ⟨.slice none 0 0, fun _ => .slice none 0 0, by simp only [HV.out, Crd.zero], by simp only [HV.out]; exact HDN.out.1, HDN.out.2⟩
  have HE2 : Hid (c.doneP s p = if (c.at k).endB = false then (Crd.zero, 12) else if (c.at k).ps.contains p = false then (Crd.zero, 5) else (c.setT k ((c.at k).less p), 0)) := show _ = _ by rw [HEE.out, if_neg (by rw [HFL.out]; simp), if_neg (by omega), hp, Int.toNat_natCast]
  have hkv : (k : Int) < c.ts.length := by omega
  have hk1 : ((k : Int) == -1) = false := by simp
  rw [hp]
  clear HEE hp hnm
  obtain ⟨gg, off, t, au', cu', rfl, HAT, hgg, HQ, p0, p1, p2, p3, p4, p5, p6⟩ := (HR.out w1 HB1.out).txnAt k hk
  have HRS : Hid (riseB t.ps = true) := show _ = _ by rw [← HAT.out]; exact (HMY.out.ok k hk).ps
  have HE3 : Hid (c.doneP s p = if t.endB = false then (Crd.zero, 12) else if t.ps.contains p = false then (Crd.zero, 5) else (c.setT k (t.less p), 0)) := show _ = _ by rw [HE2.out, HAT.out]
  clear HE2
  go_wp2_with fail
  refine (hasMarkers_any t (.slice au' t.ps.length cu') _).mono ?_
  rintro e w2 ⟨rfl, hb2⟩
  have HB2 : Hid (Below w.heap.size w w2) := bstep HB1.out hb2
  have HC2 : Hid (CB w2 w.heap.size c _) := HC1.out.below HC1.out.1 hb2
  have HZ2 : Hid (CB w2 (w.heap.size + 1) Crd.zero _) := HZ1.out.below HZ1.out.1 hb2
  clear a0 a1 a2 a3 f1 s1 z1 e0 e1 e2 e3 g1 p0 p1 p2 p3 p4 p5 p6 hb2
  obtain ⟨s1, ⟨a0, a1, a2, a3⟩, f1⟩ := HC2.out
  obtain ⟨z1, ⟨e0, e1, e2, e3⟩, g1⟩ := HZ2.out
  obtain ⟨gg2, off2, t2, au2, cu2, eg2, HAT2, hgg2, HQ2, p0, p1, p2, p3, p4, p5, p6⟩ := (HR.out w2 HB2.out).txnAt k hk
  obtain rfl : t2 = t := HAT2.out.symm.trans HAT.out
  simp only [Option.some.injEq, Addr.mk.injEq, and_true] at eg2
  obtain ⟨rfl, rfl⟩ := eg2
  cases he : t2.endB with
  | false =>
    have HV : Hid (c.doneP s p = (Crd.zero, 12)) := show _ = _ by rw [HE3.out, if_pos he]
    have HDN : Hid (FreshC w.heap.size (put4 w2 (w.heap.size + 1) Crd.zero (.slice none 0 0)) Crd.zero (.slice none 0 0) (fun _ => .slice none 0 0) ∧ Below w.heap.size w (put4 w2 (w.heap.size + 1) Crd.zero (.slice none 0 0))) := ⟨freshC_nil' _ rfl (by rw [put4_size]; exact HB2.out.size), below_put4 HB2.out (by omega) _ _⟩
    clear he
    go_wp2
    exact bodyPost_ret (v := .tuple #[.agg #[.int .i64 0, .int .i64 0, .int .i64 0, .slice none 0 0], .int .i64 12]) (by simp [results, Try.results32, go_sem, e0, e1, e2, e3]) rfl ⟨.slice none 0 0, fun _ => .slice none 0 0, by simp only [HV.out, Crd.zero], by simp only [HV.out]; exact HDN.out.1, HDN.out.2⟩
  | true =>
  have HE4 : Hid (c.doneP s p = if t2.ps.contains p = false then (Crd.zero, 5) else (c.setT k (t2.less p), 0)) := show _ = _ by rw [HE3.out, if_neg (by rw [he]; simp)]
  clear he HE3
  go_wp2_with fail
  refine (index_any t2.ps p _ _ HQ2.out (rise_len HRS.out)).mono ?_
  rintro e w4 ⟨rfl, hb4⟩
  have HB4 : Hid (Below w.heap.size w w4) := bstep HB2.out hb4
  have HC4 : Hid (CB w4 w.heap.size c _) := HC2.out.below HC2.out.1 hb4
  have HZ4 : Hid (CB w4 (w.heap.size + 1) Crd.zero _) := HZ2.out.below HZ2.out.1 hb4
  clear a0 a1 a2 a3 f1 s1 z1 e0 e1 e2 e3 g1 p0 p1 p2 p3 p4 p5 p6 hb4
  obtain ⟨s1, ⟨a0, a1, a2, a3⟩, f1⟩ := HC4.out
  obtain ⟨z1, ⟨e0, e1, e2, e3⟩, g1⟩ := HZ4.out
  cases hct : t2.ps.contains p with
  | false =>
    have HV : Hid (c.doneP s p = (Crd.zero, 5)) := show _ = _ by rw [HE4.out, if_pos hct]
    rw [posI_no hct]
    have HDN : Hid (FreshC w.heap.size (put4 w4 (w.heap.size + 1) Crd.zero (.slice none 0 0)) Crd.zero (.slice none 0 0) (fun _ => .slice none 0 0) ∧ Below w.heap.size w (put4 w4 (w.heap.size + 1) Crd.zero (.slice none 0 0))) := ⟨freshC_nil' _ rfl (by rw [put4_size]; exact HB4.out.size), below_put4 HB4.out (by omega) _ _⟩
    clear hct
    go_wp2
    exact bodyPost_ret (v := .tuple #[.agg #[.int .i64 0, .int .i64 0, .int .i64 0, .slice none 0 0], .int .i64 5]) (by simp [results, Try.results32, go_sem, e0, e1, e2, e3]) rfl ⟨.slice none 0 0, fun _ => .slice none 0 0, by simp only [HV.out, Crd.zero], by simp only [HV.out]; exact HDN.out.1, HDN.out.2⟩
  | true =>
  have HEF : Hid (c.doneP s p = (c.setT k (t2.less p), 0)) := show _ = _ by rw [HE4.out, if_neg (by rw [hct]; simp)]
  obtain ⟨m, hm, hpm, hgm⟩ := posI_yes hct
  have HDE : Hid (delP t2.ps p = t2.ps.take m ++ t2.ps.drop (m + 1)) := show _ = _ by rw [← hgm]; exact del_at (rise_nodup HRS.out) hm
  have HLN : Hid ((t2.ps.take m ++ t2.ps.drop (m + 1)).length = t2.ps.length - 1) := del_len hm
  rw [hpm]
  have hm1 : ((m : Int) == -1) = false := by simp
  have hm4 : (m : Int) ≤ 4 := by have := rise_len HRS.out; omega
  have hps4 : (t2.ps.length : Int) ≤ 4 := by have := rise_len HRS.out; omega
  clear hct hpm hgm HE4
  go_wp2_with fail
  refine (ccopy_any c _ us _ (HR.out _ HB4.out) HF.out).mono ?_
  rintro e w3 ⟨v3, us3, rfl, hf3, hb3⟩
  obtain ⟨g3, c3, rfl⟩ := hf3.form (by omega)
  have HS : Hid (Sc w w.heap.size (w.heap.size + 1) w4.heap.size c (.slice (some ⟨g3, 0, none⟩) c.ts.length c3) us3 (put4 w3 w.heap.size c (.slice (some ⟨g3, 0, none⟩) c.ts.length c3))) := sc_copy HB4.out HC4.out HZ4.out (by omega) (Nat.le_refl _) (by omega) hf3 hb3
  have hC3 := HC4.out.below HC4.out.1 hb3
  have hZ3 := HZ4.out.below HZ4.out.1 hb3
  obtain ⟨hT3, hfz, hg1, hg2⟩ := hf3.cells k hk
  obtain ⟨au, cu, hu, _⟩ := (hf3.i k hk).rdv.intShape
  rw [← at_txn hk, HAT.out] at hu
  have hu : us3 k = .slice au t2.ps.length cu := hu
  rw [HAT.out, hu] at hT3
  have HU : Hid (us3 k = .slice au t2.ps.length cu) := hu
  have hgb : w.heap.size ≠ g3 := by have := HB4.out.size; have := HC4.out.1; omega
  have hgz : w.heap.size + 1 ≠ g3 := by have := HZ4.out.1; omega
  have hbz : w.heap.size ≠ w.heap.size + 1 := by omega
  clear a0 a1 a2 a3 f1 s1 z1 e0 e1 e2 e3 g1 hf3 hb3 hu hg1
  obtain ⟨s1, ⟨a0, a1, a2, a3⟩, f1⟩ := hC3
  obtain ⟨z1, ⟨e0, e1, e2, e3⟩, g1⟩ := hZ3
  obtain ⟨q0, q1, q2, q3, q4, q5, q6⟩ := hT3
  have HO4 : Hid (OwnV w4.heap.size 3 1 (.slice au t2.ps.length cu) t2.ps.length (ints t2.ps) (put4 w3 w.heap.size c (.slice (some ⟨g3, 0, none⟩) c.ts.length c3))) := by
    have h1 := HS.out.own.i k hk
    rw [← at_txn hk, HAT.out, HU.out] at h1
    exact h1
  unfold put4 at HS HO4
  go_wp2_with fail
  refine (delete_any t2.ps m _ _ HO4.out hm (rise_len HRS.out)).mono ?_
  rintro e w6 ⟨u6, rfl, ho6, hg6, hat6⟩
  obtain ⟨au6, cu6, rfl⟩ := ho6.shape
  rw [← HU.out] at hg6 hat6
  obtain ⟨hb7, hz7, hT7, hfz7, hg7⟩ := HS.out.turned k hk hg6
  rw [HAT.out, HU.out] at hT7
  have hs7 := HS.out.turnIn k hk { t2 with ps := t2.ps.take m ++ t2.ps.drop (m + 1) } (.slice au6 (t2.ps.length - 1) cu6) (by rw [HAT.out]; simp only [txnE, HLN.out]; rfl) (by simpa [HLN.out] using ho6) hg6 (fun b e => by rw [hat6] at e; exact .inl e)
  have HS7 : Hid _ := hs7
  clear a0 a1 a2 a3 f1 s1 z1 e0 e1 e2 e3 g1 q0 q1 q2 q3 q4 q5 q6 hfz hg2 ho6 hg6 hat6 hs7
  obtain ⟨s1, ⟨a0, a1, a2, a3⟩, f1⟩ := hb7
  obtain ⟨z1, ⟨e0, e1, e2, e3⟩, g1⟩ := hz7
  obtain ⟨q0, q1, q2, q3, q4, q5, q6⟩ := hT7
  by_cases hl1 : t2.ps.length = 1
  · have HV : Hid (c.doneP s p = (c.setT k { t2 with ps := t2.ps.take m ++ t2.ps.drop (m + 1), dn := t2.st, st := 1 }, 0)) := show _ = _ by
      rw [HEF.out]
      exact congrArg (fun x => (c.setT k x, (0 : Int))) (less_none HDE.out (List.eq_nil_of_length_eq_zero (by rw [HLN.out]; omega)))
    have hs8 := HS7.out.set k 3 (by rw [setT_len]; exact hk) (by omega) { t2 with ps := t2.ps.take m ++ t2.ps.drop (m + 1), st := 1 } (.int .i64 1) (by rw [setT_at hk]; rfl) (by rw [setT_at hk])
    have hs9 := hs8.set k 6 (by rw [setT_setT, setT_len]; exact hk) (by omega) { t2 with ps := t2.ps.take m ++ t2.ps.drop (m + 1), dn := t2.st, st := 1 } (.int .i64 t2.st) (by rw [setT_setT, setT_at hk]; rfl) (by rw [setT_setT, setT_at hk])
    rw [setT_setT, setT_setT] at hs9
    have HS9 : Hid _ := hs9
    have HDN : Hid _ := HS9.out.done c
    unfold put4 at HDN
    have hz0 : (((t2.ps.length - 1 : Nat) : Int) == 0) = true := by simp; omega
    clear hl1 hs8 hs9
    go_wp2
    exact bodyPost_ret (v := .tuple #[.agg #[.int .i64 c.ck, .int .i64 c.nx, .int .i64 c.wt, .slice (some ⟨g3, 0, none⟩) c.ts.length c3], .int .i64 0]) (by simp [results, Try.results32, go_sem, a0, a1, a2, a3, e0, e1, e2, e3, q0, q1, q2, q3, q4, q5, q6, hgb, hgz, hbz]) rfl ⟨.slice (some ⟨g3, 0, none⟩) c.ts.length c3, _, by simp only [HV.out, Crd.setT], by simp only [HV.out]; exact HDN.out.1, HDN.out.2⟩
  · have hne : t2.ps.take m ++ t2.ps.drop (m + 1) ≠ [] := fun e => by have := HLN.out; rw [e] at this; simp at this; omega
    have HV : Hid (c.doneP s p = (c.setT k { t2 with ps := t2.ps.take m ++ t2.ps.drop (m + 1) }, 0)) := show _ = _ by
      rw [HEF.out]
      exact congrArg (fun x => (c.setT k x, (0 : Int))) (less_some HDE.out hne)
    have HDN : Hid _ := HS7.out.done c
    unfold put4 at HDN
    have hz0 : (((t2.ps.length - 1 : Nat) : Int) == 0) = false := by rw [beq_eq_false_iff_ne]; omega
    clear hl1 hne
    go_wp2
    exact bodyPost_ret (v := .tuple #[.agg #[.int .i64 c.ck, .int .i64 c.nx, .int .i64 c.wt, .slice (some ⟨g3, 0, none⟩) c.ts.length c3], .int .i64 0]) (by simp [results, Try.results32, go_sem, a0, a1, a2, a3, e0, e1, e2, e3, q0, q1, q2, q3, q4, q5, q6, hgb, hgz, hbz]) rfl ⟨.slice (some ⟨g3, 0, none⟩) c.ts.length c3, _, by simp only [HV.out, Crd.setT], by simp only [HV.out]; exact HDN.out.1, HDN.out.2⟩

end Go.Proofs.Ytjhpfnogdjpbmaa
