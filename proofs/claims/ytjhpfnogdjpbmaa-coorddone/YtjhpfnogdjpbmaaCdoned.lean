/-
  The document's DoneOf, walked.
-/
import Derived.Test.YtjhpfnogdjpbmaaCdone
import Derived.Test.YtjhpfnogdjpbmaaCended
namespace Go.Proofs.Ytjhpfnogdjpbmaa
open Go.RowKit
set_option linter.unusedVariables false
set_option linter.unusedSimpArgs false

def delUp (l : List Int) (p : Int) (m : Nat) : List Int := (l.take m).filter (fun q => q != p)
theorem delUp_all (l : List Int) (p : Int) : delUp l p l.length = delP l p := by
  unfold delUp delP
  rw [List.take_length]
theorem delUp_succ {l : List Int} {p : Int} {m : Nat} (hm : m < l.length) : delUp l p (m + 1) = delUp l p m ++ (if (l[m]'hm != p) then [l[m]'hm] else []) := by
  unfold delUp
  rw [List.take_succ_eq_append_getElem hm, List.filter_append]
  congr 1
  simp only [List.filter_cons, List.filter_nil]
theorem delUp_yes {l : List Int} {p : Int} {m : Nat} (hm : m < l.length) (h : (l[m]'hm != p) = true) : ints (delUp l p (m + 1)) = ints (delUp l p m) ++ [.int .i64 (l[m]'hm)] ∧ (delUp l p (m + 1)).length = (delUp l p m).length + 1 := by
  rw [delUp_succ hm, if_pos h]
  exact ⟨by simp [ints], by simp⟩
theorem delUp_no {l : List Int} {p : Int} {m : Nat} (hm : m < l.length) (h : (l[m]'hm != p) = false) : delUp l p (m + 1) = delUp l p m := by
  rw [delUp_succ hm, if_neg (by rw [h]; simp), List.append_nil]
theorem delUp_len (l : List Int) (p : Int) (m : Nat) : (delUp l p m).length ≤ m := by
  unfold delUp
  refine Nat.le_trans (List.length_filter_le _ _) ?_
  simp
  omega
theorem delP_same {l : List Int} {p : Int} (h : l.contains p = false) : delP l p = l := by
  unfold delP
  rw [List.filter_eq_self]
  intro q hq
  simp only [bne_iff_ne, ne_eq]
  rintro rfl
  rw [← Bool.not_eq_true, List.contains_iff_mem] at h
  exact h hq
theorem delP_less {l : List Int} {p : Int} (h : l.contains p = true) : (delP l p).length < l.length := by
  rw [List.contains_iff_mem] at h
  unfold delP
  induction l with
  | nil => cases h
  | cons a l ih =>
    rw [List.filter_cons]
    by_cases e : a = p
    · rw [if_neg (by simp [e])]
      have := List.length_filter_le (fun q => q != p) l
      simp only [List.length_cons]
      omega
    · rw [if_pos (by simp [e])]
      have := ih (by rcases List.mem_cons.1 h with h | h; exact absurd h.symm e; exact h)
      simp only [List.length_cons]
      omega

set_option maxRecDepth 100000 in
set_option maxHeartbeats 4000000 in
theorem doneOf_any (c : Crd) (s : ByteArray) (p : Int) (vt : Value) (us : Nat → Value) (w : World) (h : RdC w c vt us) (hf : c.fits) (hn : s.size ≤ maxLen) :
    Calls Try.prog 33 #[.agg #[.int .i64 c.ck, .int .i64 c.nx, .int .i64 c.wt, vt], .string s, .int .i64 p] w fun e w' => ∃ vt' us', e = .returned (.tuple #[.agg #[.int .i64 (c.doneP s p).1.ck, .int .i64 (c.doneP s p).1.nx, .int .i64 (c.doneP s p).1.wt, vt'], .int .i64 (c.doneP s p).2]) ∧ FreshC w.heap.size w' (c.doneP s p).1 vt' us' ∧ Below w.heap.size w w' := by
  obtain ⟨av, cv, rfl, hl1, hl2⟩ := h.shape
  unfold maxLen at hl2
  have hll : (c.ts.length : Int) ≤ 9223372036854775807 := by omega
  have HR : Hid (∀ W, Below w.heap.size w W → RdC W c (.slice av c.ts.length cv) us) := fun W hW => h.below (Nat.le_refl _) hW
  have HF : Hid c.fits := hf
  have HB0 : Hid (Below w.heap.size w ((w.alloc (.cells #[.int .i64 c.ck, .int .i64 c.nx, .int .i64 c.wt, .slice av c.ts.length cv] 24)).alloc (.cells #[.int .i64 0, .int .i64 0, .int .i64 0, .slice none 0 0] 24))) := bstep (bbox _ _) (bbox _ _)
  have HC0 : Hid (CB ((w.alloc (.cells #[.int .i64 c.ck, .int .i64 c.nx, .int .i64 c.wt, .slice av c.ts.length cv] 24)).alloc (.cells #[.int .i64 0, .int .i64 0, .int .i64 0, .slice none 0 0] 24)) w.heap.size c (.slice av c.ts.length cv)) := (cb_new w c (.slice av c.ts.length cv) 24 w.heap.size rfl).below (C := w.heap.size + 1) (by omega) ((Below.refl _ _).alloc (by simp) _)
  have HZ0 : Hid (CB ((w.alloc (.cells #[.int .i64 c.ck, .int .i64 c.nx, .int .i64 c.wt, .slice av c.ts.length cv] 24)).alloc (.cells #[.int .i64 0, .int .i64 0, .int .i64 0, .slice none 0 0] 24)) (w.heap.size + 1) Crd.zero (.slice none 0 0)) := cb_new _ Crd.zero (.slice none 0 0) 24 (w.heap.size + 1) (by simp)
  have HEE : Hid (c.doneP s p = if c.flt s ≠ 0 then (Crd.zero, c.flt s) else if c.pos s < 0 then (Crd.zero, 5) else if (c.at (c.pos s).toNat).endB = false then (Crd.zero, 12) else if (c.at (c.pos s).toNat).ps.contains p = false then (Crd.zero, 5) else (c.setT (c.pos s).toNat ((c.at (c.pos s).toNat).less p), 0)) := show _ = _ from rfl
  have HN : Hid (s.size ≤ maxLen) := hn
  clear h hf hl1 hl2 hn
  go_enter Try.func33, Try.ntmps33
  go_upto_region 1 with fail
  generalize (w.alloc (.cells #[.int .i64 c.ck, .int .i64 c.nx, .int .i64 c.wt, .slice av c.ts.length cv] 24)).alloc (.cells #[.int .i64 0, .int .i64 0, .int .i64 0, .slice none 0 0] 24) = W0 at *
  obtain ⟨s1, ⟨a0, a1, a2, a3⟩, f1⟩ := HC0.out
  obtain ⟨z1, ⟨e0, e1, e2, e3⟩, g1⟩ := HZ0.out
  go_wp2_with fail
  refine (coordFault_any c s _ us _ (HR.out _ HB0.out) HF.out.n HN.out).mono ?_
  rintro e w1 ⟨rfl, hb1⟩
  have HB1 : Hid (Below w.heap.size w w1) := bstep HB0.out hb1
  have HC1 : Hid (CB w1 w.heap.size c _) := HC0.out.below HC0.out.1 hb1
  have HZ1 : Hid (CB w1 (w.heap.size + 1) Crd.zero _) := HZ0.out.below HZ0.out.1 hb1
  clear a0 a1 a2 a3 f1 s1 z1 e0 e1 e2 e3 g1 hb1
  obtain ⟨s1, ⟨a0, a1, a2, a3⟩, f1⟩ := HC1.out
  obtain ⟨z1, ⟨e0, e1, e2, e3⟩, g1⟩ := HZ1.out
  by_cases hf0 : c.flt s = 0
  rotate_left
  · have HV : Hid (c.doneP s p = (Crd.zero, c.flt s)) := show _ = _ by rw [HEE.out, if_pos hf0]
    have d1 : (c.flt s != 0) = true := by simp [hf0]
    have d1' : (c.flt s == 0) = false := by simp [hf0]
    clear hf0
    generalize c.flt s = fl at *
    have HDN : Hid (FreshC w.heap.size (put4 w1 (w.heap.size + 1) Crd.zero (.slice none 0 0)) Crd.zero (.slice none 0 0) (fun _ => .slice none 0 0) ∧ Below w.heap.size w (put4 w1 (w.heap.size + 1) Crd.zero (.slice none 0 0))) := ⟨freshC_nil' _ rfl (by rw [put4_size]; exact HB1.out.size), below_put4 HB1.out (by omega) _ _⟩
    go_wp2
    exact bodyPost_ret (v := .tuple #[.agg #[.int .i64 0, .int .i64 0, .int .i64 0, .slice none 0 0], .int .i64 fl]) (by simp [results, Try.results33, go_sem, e0, e1, e2, e3]) rfl ⟨.slice none 0 0, fun _ => .slice none 0 0, by simp only [HV.out, Crd.zero], by simp only [HV.out]; exact HDN.out.1, HDN.out.2⟩
  have HFL : Hid (c.flt s = 0) := hf0
  obtain ⟨hmay, -⟩ := flt_zero_iff.1 hf0
  have HMY : Hid (MayC c) := hmay
  rw [HFL.out]
  clear hf0 hmay
  go_wp2_with fail
  refine (txnOf_any c s _ us _ (HR.out _ HB1.out)).mono ?_
  rintro e w2 ⟨rfl, hb2⟩
  have HB2 : Hid (Below w.heap.size w w2) := bstep HB1.out hb2
  have HC2 : Hid (CB w2 w.heap.size c _) := HC1.out.below HC1.out.1 hb2
  have HZ2 : Hid (CB w2 (w.heap.size + 1) Crd.zero _) := HZ1.out.below HZ1.out.1 hb2
  clear a0 a1 a2 a3 f1 s1 z1 e0 e1 e2 e3 g1 hb2
  obtain ⟨s1, ⟨a0, a1, a2, a3⟩, f1⟩ := HC2.out
  obtain ⟨z1, ⟨e0, e1, e2, e3⟩, g1⟩ := HZ2.out
  rcases pos_cases c s with hp | ⟨k, hk, hp, -⟩
  · have HV : Hid (c.doneP s p = (Crd.zero, 5)) := show _ = _ by rw [HEE.out, if_neg (by rw [HFL.out]; simp), if_pos (by rw [hp]; decide)]
    rw [hp]
    have HDN : Hid (FreshC w.heap.size (put4 w2 (w.heap.size + 1) Crd.zero (.slice none 0 0)) Crd.zero (.slice none 0 0) (fun _ => .slice none 0 0) ∧ Below w.heap.size w (put4 w2 (w.heap.size + 1) Crd.zero (.slice none 0 0))) := ⟨freshC_nil' _ rfl (by rw [put4_size]; exact HB2.out.size), below_put4 HB2.out (by omega) _ _⟩
    clear hp
    go_wp2
    exact bodyPost_ret (v := .tuple #[.agg #[.int .i64 0, .int .i64 0, .int .i64 0, .slice none 0 0], .int .i64 5]) (by simp [results, Try.results33, go_sem, e0, e1, e2, e3]) rfl ⟨.slice none 0 0, fun _ => .slice none 0 0, by simp only [HV.out, Crd.zero], by simp only [HV.out]; exact HDN.out.1, HDN.out.2⟩
  have HE2 : Hid (c.doneP s p = if (c.at k).endB = false then (Crd.zero, 12) else if (c.at k).ps.contains p = false then (Crd.zero, 5) else (c.setT k ((c.at k).less p), 0)) := show _ = _ by rw [HEE.out, if_neg (by rw [HFL.out]; simp), if_neg (by omega), hp, Int.toNat_natCast]
  have hkv : (k : Int) < c.ts.length := by omega
  have hk0 : ¬ (k : Int) < 0 := by omega
  rw [hp]
  clear HEE hp
  obtain ⟨gg, off, t, au, cu, rfl, HAT, hgg, HQ, p0, p1, p2, p3, p4, p5, p6⟩ := (HR.out w2 HB2.out).txnAt k hk
  have HRS : Hid (riseB t.ps = true) := show _ = _ by rw [← HAT.out]; exact (HMY.out.ok k hk).ps
  have HE3 : Hid (c.doneP s p = if t.endB = false then (Crd.zero, 12) else if t.ps.contains p = false then (Crd.zero, 5) else (c.setT k (t.less p), 0)) := show _ = _ by rw [HE2.out, HAT.out]
  clear HE2
  go_wp2_with fail
  refine (ending_any t (.slice au t.ps.length cu) _).mono ?_
  rintro e w4 ⟨rfl, hb4⟩
  have HB4 : Hid (Below w.heap.size w w4) := bstep HB2.out hb4
  have HC4 : Hid (CB w4 w.heap.size c _) := HC2.out.below HC2.out.1 hb4
  have HZ4 : Hid (CB w4 (w.heap.size + 1) Crd.zero _) := HZ2.out.below HZ2.out.1 hb4
  clear a0 a1 a2 a3 f1 s1 z1 e0 e1 e2 e3 g1 p0 p1 p2 p3 p4 p5 p6 hb4
  obtain ⟨s1, ⟨a0, a1, a2, a3⟩, f1⟩ := HC4.out
  obtain ⟨z1, ⟨e0, e1, e2, e3⟩, g1⟩ := HZ4.out
  cases he : t.endB with
  | false =>
    have HV : Hid (c.doneP s p = (Crd.zero, 12)) := show _ = _ by rw [HE3.out, if_pos he]
    have HDN : Hid (FreshC w.heap.size (put4 w4 (w.heap.size + 1) Crd.zero (.slice none 0 0)) Crd.zero (.slice none 0 0) (fun _ => .slice none 0 0) ∧ Below w.heap.size w (put4 w4 (w.heap.size + 1) Crd.zero (.slice none 0 0))) := ⟨freshC_nil' _ rfl (by rw [put4_size]; exact HB4.out.size), below_put4 HB4.out (by omega) _ _⟩
    clear he
    go_wp2
    exact bodyPost_ret (v := .tuple #[.agg #[.int .i64 0, .int .i64 0, .int .i64 0, .slice none 0 0], .int .i64 12]) (by simp [results, Try.results33, go_sem, e0, e1, e2, e3]) rfl ⟨.slice none 0 0, fun _ => .slice none 0 0, by simp only [HV.out, Crd.zero], by simp only [HV.out]; exact HDN.out.1, HDN.out.2⟩
  | true =>
  have HE4 : Hid (c.doneP s p = if t.ps.contains p = false then (Crd.zero, 5) else (c.setT k (t.less p), 0)) := show _ = _ by rw [HE3.out, if_neg (by rw [he]; simp)]
  clear he HE3
  go_wp2_with fail
  refine (coordCopy_any c _ us _ (HR.out _ HB4.out) HF.out).mono ?_
  rintro e w3 ⟨v3, us3, rfl, hf3, hb3⟩
  obtain ⟨g3o, c3, rfl⟩ := hf3.shapeOf
  have HS : Hid (Sd w w3.heap.size w4.heap.size c (.slice (some ⟨gg, off, none⟩) c.ts.length cv) c (.slice g3o c.ts.length c3) us3 (w3.alloc (.cells #[.int .i64 c.ck, .int .i64 c.nx, .int .i64 c.wt, .slice g3o c.ts.length c3] 24))) := sd_new HB4.out HC4.out HZ4.out hf3 hb3
  clear a0 a1 a2 a3 f1 s1 z1 e0 e1 e2 e3 g1
  have hC3 := HC4.out.below HC4.out.1 hb3
  obtain ⟨s1, ⟨a0, a1, a2, a3⟩, f1⟩ := hC3
  clear hf3 hb3
  clear a0 a1 a2 a3 f1 s1
  have hbz : w.heap.size ≠ w.heap.size + 1 := by omega
  have hob : w.heap.size ≠ w3.heap.size := by have := HS.out.no; omega
  have hoz : w.heap.size + 1 ≠ w3.heap.size := by have := HS.out.no; omega
  obtain ⟨g3, cc3, eg3⟩ := HS.out.own.form (by omega)
  simp only [Value.slice.injEq, true_and] at eg3
  obtain ⟨rfl, rfl⟩ := eg3
  have hgb : w.heap.size ≠ g3 := by
    have h1 := HS.out.lo
    have h2 := (HS.out.own.o.blk g3 rfl).1
    omega
  have hgz : w.heap.size + 1 ≠ g3 := by
    have h1 := HS.out.lo
    have h2 := (HS.out.own.o.blk g3 rfl).1
    omega
  have hgo : w3.heap.size ≠ g3 := fun e => HS.out.na (by rw [e]; rfl)
  have hps4 := rise_len HRS.out
  have hps4' : (t.ps.length : Int) ≤ 4 := by omega
  go_upto_region 13 with fail
  generalize w3.alloc (.cells #[.int .i64 c.ck, .int .i64 c.nx, .int .i64 c.wt, .slice (some ⟨g3, 0, none⟩) c.ts.length c3] 24) = W5 at *
  generalize w3.heap.size = o at *
  go_wp2
  go_loopw [11, 12] (fun l q W => ∃ m : Nat, m ≤ t.ps.length ∧ q = .int .i64 m ∧ Hid (OwnV W5.heap.size 3 1 l (delUp t.ps p m).length (ints (delUp t.ps p m)) W) ∧ Hid (Below W5.heap.size W5 W)) (fun _ q _ => t.ps.length - (intOf q).toNat)
  case atStart => exact ⟨0, by omega, rfl, ownV_nil _ _ _ _ (Nat.le_refl _), Below.refl _ _⟩
  case round =>
    obtain ⟨m, hm, rfl, HO, HB⟩ := hrel
    obtain ⟨al, cl, rfl⟩ := HO.out.shape
    have HSW : Hid (Sd w o w4.heap.size c (.slice (some ⟨gg, off, none⟩) c.ts.length cv) c (.slice (some ⟨g3, 0, none⟩) c.ts.length c3) us3 wr) := HS.out.below HB.out
    obtain ⟨s1, ⟨a0, a1, a2, a3⟩, f1⟩ := HSW.out.src
    obtain ⟨g', off', t', au', cu', e, HAT', hgg', HQ', p0, p1, p2, p3, p4, p5, p6⟩ := (HR.out wr HSW.out.bel).txnAt k hk
    simp only [Option.some.injEq, Addr.mk.injEq, and_true] at e
    obtain ⟨rfl, rfl⟩ := e
    obtain rfl : t' = t := HAT'.out.symm.trans HAT.out
    by_cases hlt : m < t'.ps.length
    · have hltv : (m : Int) < t'.ps.length := by omega
      obtain ⟨gi, oi, rfl, -, ci⟩ := HQ'.out.cellAt m (by rw [ints_len]; exact hlt)
      have e1 : (ints t'.ps)[m]'(by rw [ints_len]; exact hlt) = .int .i64 (t'.ps[m]'hlt) := by simp [ints]
      rw [e1] at ci
      cases hb : (t'.ps[m]'hlt != p) with
      | true =>
        have HUP := (show Hid (_ ∧ _) from delUp_yes hlt hb)
        have HLE : Hid ((delUp t'.ps p m).length ≤ m) := delUp_len _ _ _
        have hle := HLE.out
        generalize t'.ps[m]'hlt = y at *
        clear e1
        go_wp2_with (at_builtin; refine wp_rowI rfl _ _ rfl W5.heap.size _ (delUp t'.ps p m).length _ rfl (HO.out.below (Nat.le_refl _) (bbox _ _)) wr.heap.size rfl y (by simp) (by omega) _ rfl ?_)
        intro gn capn wn ho' hg hat hlt'
        have HO' : Hid (OwnV W5.heap.size 3 1 (.slice (some ⟨gn, 0, none⟩) ((delUp t'.ps p m).length + 1) capn) (delUp t'.ps p (m + 1)).length (ints (delUp t'.ps p (m + 1))) wn) := show OwnV _ _ _ _ _ _ _ by rw [HUP.out.1, HUP.out.2]; exact ho'
        have HB' : Hid (Below W5.heap.size W5 wn) := below_grown (bstep HB.out (bbox wr (.cells #[.int .i64 y] 3))) hg (by simp; have := HB.out.size; omega) (fun j e => (HO.out.blk j e).1)
        clear ho' hg hat hlt' hle
        go_wp2
        go_roundw
        case rel => exact ⟨m + 1, by omega, by go_num, HO', HB'⟩
        case measure => simp [intOf]; omega
      | false =>
        have HUP : Hid (delUp t'.ps p (m + 1) = delUp t'.ps p m) := delUp_no hlt hb
        have HO' : Hid (OwnV W5.heap.size 3 1 (.slice al (delUp t'.ps p m).length cl) (delUp t'.ps p (m + 1)).length (ints (delUp t'.ps p (m + 1))) wr) := show OwnV _ _ _ _ _ _ _ by rw [HUP.out]; exact HO.out
        generalize t'.ps[m]'hlt = y at *
        clear e1
        go_wp2
        go_roundw
        case rel => exact ⟨m + 1, by omega, by go_num, HO', HB⟩
        case measure => simp [intOf]; omega
    · obtain rfl : m = t'.ps.length := by omega
      have ho := HO.out
      rw [delUp_all] at ho
      have HDL : Hid ((delUp t'.ps p t'.ps.length).length = (delP t'.ps p).length) := show _ = _ by rw [delUp_all]
      rw [HDL.out]
      have HOO : Hid (OwnV W5.heap.size 3 1 (.slice al (delP t'.ps p).length cl) (delP t'.ps p).length (ints (delP t'.ps p)) wr) := ho
      obtain ⟨z1, ⟨e0, e1, e2, e3⟩, g1⟩ := HSW.out.zz
      obtain ⟨o1, ⟨b0, b1, b2, b3⟩, h1⟩ := HSW.out.out
      clear ho HO
      cases hct : t'.ps.contains p with
      | false =>
        have HV : Hid (c.doneP s p = (Crd.zero, 5)) := show _ = _ by rw [HE4.out, if_pos hct]
        have HDN : Hid _ := HSW.out.nil
        unfold put4 at HDN
        have d1 : (((delP t'.ps p).length : Int) == (t'.ps.length : Int)) = true := by rw [delP_same hct]; simp
        clear hct
        go_wp2
        exact bodyPost_ret (v := .tuple #[.agg #[.int .i64 0, .int .i64 0, .int .i64 0, .slice none 0 0], .int .i64 5]) (by simp [results, Try.results33, go_sem, e0, e1, e2, e3, hbz, hgz, hgb, hob, hoz]) rfl ⟨.slice none 0 0, fun _ => .slice none 0 0, by simp only [HV.out, Crd.zero], by simp only [HV.out]; exact HDN.out.1, HDN.out.2⟩
      | true =>
      have HEF : Hid (c.doneP s p = (c.setT k (t'.less p), 0)) := show _ = _ by rw [HE4.out, if_neg (by rw [hct]; simp)]
      have hdl := delP_less hct
      have d1 : (((delP t'.ps p).length : Int) == (t'.ps.length : Int)) = false := by rw [beq_eq_false_iff_ne]; omega
      have hbl : ∀ b, (Value.slice al (delP t'.ps p).length cl).ownBlock = some b → W5.heap.size ≤ b := fun b e => (HOO.out.blk b e).1
      have hs9 := HSW.out.setIn k hk { t' with ps := delP t'.ps p } (.slice al (delP t'.ps p).length cl) (by rw [HAT.out]; rfl) (HOO.out.mono HS.out.own.o.2) (fun e => by have := hbl _ e; have := HS.out.out.1; omega) (fun e => by have := hbl _ e; have := (HS.out.own.o.blk g3 rfl).2; omega) (fun j hj hne b e e2 => by have := hbl _ e2; have := ((HS.out.own.i j hj).blk _ e).2; omega)
      have HS9 : Hid _ := hs9
      have hT3 := FreshC.cells HSW.out.own k hk
      rw [HAT.out] at hT3
      obtain ⟨⟨q0, q1, q2, q3, q4, q5, q6⟩, hfz, hg1, hg2⟩ := hT3
      have hgr : gg ≠ g3 := by
        have hgw : gg < w.heap.size := by
          obtain ⟨gg', off', t', au', cu', e, HAT', h0, _⟩ := (HR.out w (Below.refl _ _)).txnAt k hk
          simp only [Option.some.injEq, Addr.mk.injEq, and_true] at e
          omega
        have := HS.out.lo
        have := (HS.out.own.o.blk g3 rfl).1
        omega
      clear hct hbl hs9 hg1 hdl
      by_cases hz : (delP t'.ps p) = []
      · have HV : Hid (c.doneP s p = (c.setT k { t' with ps := delP t'.ps p, dn := t'.st, st := 1 }, 0)) := show _ = _ by
          rw [HEF.out]
          exact congrArg (fun x => (c.setT k x, (0 : Int))) (less_none rfl hz)
        have HLZ : Hid ((delP t'.ps p).length = 0) := show _ = _ by rw [hz]; rfl
        have d2 : (((delP t'.ps p).length : Int) == 0) = true := by rw [HLZ.out]; rfl
        have hs10 := HS9.out.set k 6 (by rw [setT_len]; exact hk) (by omega) { t' with ps := delP t'.ps p, dn := t'.st } (.int .i64 t'.st) (by rw [setT_at hk]; rfl) (by rw [setT_at hk])
        rw [setT_setT] at hs10
        have hs11 := hs10.set k 3 (by rw [setT_len]; exact hk) (by omega) { t' with ps := delP t'.ps p, dn := t'.st, st := 1 } (.int .i64 1) (by rw [setT_at hk]; rfl) (by rw [setT_at hk])
        rw [setT_setT] at hs11
        have HDN : Hid _ := hs11.doneD c
        unfold put4 at HDN
        clear hz hs10 hs11
        go_upto_region 22 with fail
        go_region
        all_goals
          go_wp2
          exact bodyPost_ret (v := .tuple #[.agg #[.int .i64 c.ck, .int .i64 c.nx, .int .i64 c.wt, .slice (some ⟨g3, 0, none⟩) c.ts.length c3], .int .i64 0]) (by simp [results, Try.results33, go_sem, a0, a1, a2, a3, b0, b1, b2, b3, e0, e1, e2, e3, q0, q1, q2, q3, q4, q5, q6, hgb, hgz, hgo, hbz, hob, hoz]) rfl ⟨.slice (some ⟨g3, 0, none⟩) c.ts.length c3, _, by simp only [HV.out, Crd.setT], by simp only [HV.out]; exact HDN.out.1, HDN.out.2⟩
      · have HV : Hid (c.doneP s p = (c.setT k { t' with ps := delP t'.ps p }, 0)) := show _ = _ by
          rw [HEF.out]
          exact congrArg (fun x => (c.setT k x, (0 : Int))) (less_some rfl hz)
        have d2 : (((delP t'.ps p).length : Int) == 0) = false := by
          rw [beq_eq_false_iff_ne]
          have := List.length_pos_iff.2 hz
          omega
        have HDN : Hid _ := HS9.out.done c
        unfold put4 at HDN
        clear hz
        go_wp2
        exact bodyPost_ret (v := .tuple #[.agg #[.int .i64 c.ck, .int .i64 c.nx, .int .i64 c.wt, .slice (some ⟨g3, 0, none⟩) c.ts.length c3], .int .i64 0]) (by simp [results, Try.results33, go_sem, a0, a1, a2, a3, b0, b1, b2, b3, e0, e1, e2, e3, q0, q1, q2, q3, q4, q5, q6, hgb, hgz, hgo, hbz, hob, hoz]) rfl ⟨.slice (some ⟨g3, 0, none⟩) c.ts.length c3, _, by simp only [HV.out, Crd.setT], by simp only [HV.out]; exact HDN.out.1, HDN.out.2⟩

end Go.Proofs.Ytjhpfnogdjpbmaa
