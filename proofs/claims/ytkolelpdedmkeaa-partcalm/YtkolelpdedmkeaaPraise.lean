/-
  The walk of part.raiseHigh, in memory of one's own.
-/
import Derived.Test.YtkolelpdedmkeaaPnamed
import Derived.Deep.RegionWith
namespace Go.Proofs.Ytkolelpdedmkeaa
open Go.RowKit
set_option linter.unusedVariables false
set_option linter.unusedSimpArgs false

theorem OwnP.cellsAt {B : Nat} {w : World} {p : Prt} {gi gk gr ci ck cr : Nat} {us : Nat → Value} (h : OwnP B w p gi gk gr ci ck cr us) (i : Nat) (hi : i < p.rs.length) : Rd w (us i) (p.at i).l ∧ w.cell? ⟨gr, i * 4, none⟩ = some (.bool (p.at i).up) ∧ w.cell? ⟨gr, i * 4 + 1, none⟩ = some (us i) ∧ w.cell? ⟨gr, i * 4 + 2, none⟩ = some (.int .i64 (p.at i).y) ∧ w.cell? ⟨gr, i * 4 + 3, none⟩ = some (.int .i64 (p.at i).h) := by
  obtain ⟨g, off, e, _, r0, r1, r2, r3, r4⟩ := h.1.2.2.cells i hi
  simp only [Option.some.injEq, Addr.mk.injEq, and_true] at e
  obtain ⟨rfl, rfl⟩ := e
  simp only [Nat.zero_add] at r1 r2 r3 r4
  exact ⟨r0, r1, r2, r3, r4⟩
theorem OwnP.isrCell {B : Nat} {w : World} {p : Prt} {gi gk gr ci ck cr : Nat} {us : Nat → Value} (h : OwnP B w p gi gk gr ci ck cr us) (i : Nat) (hi : i < p.isr.length) : w.cell? ⟨gi, i, none⟩ = some (.bool (p.isr.getD i false)) := by
  obtain ⟨g, off, e, r0⟩ := RdP.isrAt h.1.1 i hi
  simp only [Option.some.injEq, Addr.mk.injEq, and_true] at e
  obtain ⟨rfl, rfl⟩ := e
  simpa using r0
theorem OwnP.knCell {B : Nat} {w : World} {p : Prt} {gi gk gr ci ck cr : Nat} {us : Nat → Value} (h : OwnP B w p gi gk gr ci ck cr us) (i : Nat) (hi : i < p.kn.length) : w.cell? ⟨gk, i, none⟩ = some (.int .i64 (p.kn.getD i 0)) := by
  obtain ⟨g, off, e, r0⟩ := RdP.knAt h.1.2.1 i hi
  simp only [Option.some.injEq, Addr.mk.injEq, and_true] at e
  obtain ⟨rfl, rfl⟩ := e
  simpa using r0
theorem OwnP.drew {B : Nat} {w : World} {p : Prt} {gi gk gr ci ck cr : Nat} {us : Nat → Value} (h : OwnP B w p gi gk gr ci ck cr us) : OwnP B w.drew p gi gk gr ci ck cr us :=
  ⟨⟨h.1.1, h.1.2.1, h.1.2.2⟩, ⟨h.2.bi, h.2.bk, h.2.br, h.2.si, h.2.sk, h.2.sr, h.2.ik, h.2.ir, h.2.kr, h.2.fi, h.2.fk, h.2.fr, h.2.un⟩⟩
theorem setR_congr {p : Prt} {d : Nat} {f g : Rep → Rep} (hd : d < p.rs.length) (h : f (p.at d) = g (p.at d)) : p.setR d f = p.setR d g := by
  unfold Prt.setR
  have : p.rs.modify d f = p.rs.modify d g := by
    apply List.ext_getElem (by simp)
    intro j h1 h2
    rw [List.getElem_modify, List.getElem_modify]
    by_cases e : d = j
    · subst e
      rw [if_pos rfl, if_pos rfl]
      rw [at_rep hd] at h
      exact h
    · rw [if_neg e, if_neg e]
  rw [this]
theorem setR_id {p : Prt} {d : Nat} {f : Rep → Rep} (hd : d < p.rs.length) (h : f (p.at d) = p.at d) : p.setR d f = p := by
  rw [setR_congr (g := fun r => r) hd h]
  unfold Prt.setR
  have : p.rs.modify d (fun r => r) = p.rs := by
    apply List.ext_getElem (by simp)
    intro j h1 h2
    rw [List.getElem_modify]
    split <;> rfl
  rw [this]
theorem raised_eq {p : Prt} (h0 : 0 ≤ p.ld) (h1 : p.ld < p.rs.length) : p.raised = p.setR p.ld.toNat (fun r => { r with h := max (p.at p.ld.toNat).h (p.low (p.at p.ld.toNat).es.length p.isr.length) }) := by
  have hd : p.ld.toNat < p.rs.length := by omega
  unfold Prt.raised
  rw [if_neg (by omega)]
  split
  · rename_i h
    rw [Int.max_eq_right (by omega)]
  · rename_i h
    rw [Int.max_eq_left (by omega)]
    exact (setR_id hd rfl).symm
theorem low_min (p : Prt) (n : Int) (k : Nat) : p.low n (k + 1) = if p.isr.getD k false = true then min (p.low n k) (p.kn.getD k 0) else p.low n k := by
  simp only [Prt.low]
  by_cases h : p.isr.getD k false = true
  · simp only [h, true_and, if_true]
    split <;> omega
  · rw [if_neg (fun hh => h hh.1), if_neg h]
theorem entriesOf_int (p : Prt) (r : Int) (vi vk vr : Value) (us : Nat → Value) (w : World) (h : RdP w p vi vk vr us) (h0 : 0 ≤ r) (h1 : r < p.rs.length) (hl : lft (p.at r.toNat).l (p.at r.toNat).y = 0) :
    Calls Try.prog 75 #[.agg #[.int .i64 p.ep, .int .i64 p.ld, vi, vk, vr, .int .i64 p.fw, .int .i64 p.bs], .int .i64 r] w fun e w' => ∃ v, e = .returned (.tuple #[v, .int .i64 (p.at r.toNat).safe]) ∧ OwnE w.heap.size v (p.at r.toNat).es w' ∧ Below w.heap.size w w' := by
  obtain ⟨n, rfl⟩ := Int.eq_ofNat_of_zero_le h0
  rw [Int.toNat_natCast] at *
  exact entriesOf_may p n vi vk vr us w h (by omega) hl

set_option maxRecDepth 100000 in
set_option maxHeartbeats 4000000 in
theorem raiseHigh_any (p : Prt) (B gi gk gr ci ck cr : Nat) (us : Nat → Value) (w : World) (h : OwnP B w p gi gk gr ci ck cr us) (hB : B ≤ w.heap.size) (h0 : 0 ≤ p.ld) (h1 : p.ld < p.rs.length) (hi : p.isr.length = p.rs.length) (hk : p.kn.length = p.rs.length) (hl : lft (p.at p.ld.toNat).l (p.at p.ld.toNat).y = 0) (hn : (p.rs.length : Int) ≤ 5) :
    Calls Try.prog 84 #[.agg #[.int .i64 p.ep, .int .i64 p.ld, .slice (some ⟨gi, 0, none⟩) p.isr.length ci, .slice (some ⟨gk, 0, none⟩) p.kn.length ck, .slice (some ⟨gr, 0, none⟩) p.rs.length cr, .int .i64 p.fw, .int .i64 p.bs]] w fun e w' => e = .returned (.tuple #[]) ∧ OwnP B w' p.raised gi gk gr ci ck cr us ∧ Below B w w' := by
  have hBx := bbox w (.cells #[.int .i64 p.ep, .int .i64 p.ld, .slice (some ⟨gi, 0, none⟩) p.isr.length ci, .slice (some ⟨gk, 0, none⟩) p.kn.length ck, .slice (some ⟨gr, 0, none⟩) p.rs.length cr, .int .i64 p.fw, .int .i64 p.bs] 26)
  have HB : Hid (Below w.heap.size w _) := hBx
  have HP : Hid (PBox _ w.heap.size p _ _ _) := pbox_new w p (.slice (some ⟨gi, 0, none⟩) p.isr.length ci) (.slice (some ⟨gk, 0, none⟩) p.kn.length ck) (.slice (some ⟨gr, 0, none⟩) p.rs.length cr) 26
  have HSZ : Hid (w.heap.size < _) := show w.heap.size < (w.alloc (.cells #[.int .i64 p.ep, .int .i64 p.ld, .slice (some ⟨gi, 0, none⟩) p.isr.length ci, .slice (some ⟨gk, 0, none⟩) p.kn.length ck, .slice (some ⟨gr, 0, none⟩) p.rs.length cr, .int .i64 p.fw, .int .i64 p.bs] 26)).heap.size by simp
  have HO : Hid (OwnP B _ p gi gk gr ci ck cr us) := h.below (Nat.le_refl _) hBx
  have HL : Hid _ := hl
  have HI : Hid _ := hi
  have HK : Hid _ := hk
  have HBB : Hid _ := hB
  have HE : Hid _ := raised_eq h0 h1
  have hgi : gi < w.heap.size := h.2.si
  have hgk : gk < w.heap.size := h.2.sk
  have hgr : gr < w.heap.size := h.2.sr
  obtain ⟨b0, b1, b2, b3, b4, b5, b6⟩ := HP.out
  clear h hl hi hk hBx hB
  go_enter Try.func84, Try.ntmps84
  go_wp2_with fail
  refine (entriesOf_int p p.ld _ _ _ us _ HO.out.1 h0 h1 HL.out).mono ?_
  rintro e w1 ⟨v, rfl, hv, hb1⟩
  have HB1 : Hid (Below w.heap.size w w1) := HB.out.trans (hb1.mono HB.out.size)
  have HO1 : Hid (OwnP B w1 p gi gk gr ci ck cr us) := OwnP.below HO.out (Nat.le_refl _) hb1
  have HP1 : Hid (PBox w1 w.heap.size p _ _ _) := PBox.below HP.out HSZ.out hb1
  have hwr : w.heap.size < w1.heap.size := Nat.lt_of_lt_of_le HSZ.out hb1.size
  obtain ⟨ae, ce, rfl⟩ := hv.shape
  clear hv hb1 b0 b1 b2 b3 b4 b5 b6 HO HP HB HSZ
  obtain ⟨b0, b1, b2, b3, b4, b5, b6⟩ := HP1.out
  generalize (p.at p.ld.toNat).es.length = L at *
  go_wp2
  go_loop [4, 19] (fun kp i => ∃ k : Nat, k ≤ p.kn.length ∧ i = .int .i64 k ∧ kp = .int .i64 (p.low L k)) (fun _ i => p.kn.length - (intOf i).toNat)
  case atStart => exact ⟨0, by omega, rfl, rfl⟩
  case round =>
    obtain ⟨k, hk, rfl, rfl⟩ := hrel
    by_cases hlt : k < p.kn.length
    · have hlt' : (k : Int) < p.kn.length := by omega
      have hki : k < p.isr.length := by rw [HI.out, ← HK.out]; exact hlt
      have hki' : (k : Int) < p.isr.length := by omega
      have m0 := OwnP.isrCell HO1.out k hki
      have m1 := OwnP.knCell HO1.out k hlt
      have HM : Hid _ := low_min p L k
      have hl5 : (k : Int) ≤ 5 := by have := HK.out; omega
      generalize p.isr.getD k false = bi at *
      generalize p.kn.getD k 0 = kk at *
      generalize p.low L k = lw at *
      cases bi with
      | true =>
        go_wp2
        go_round
        case rel => exact ⟨k + 1, by omega, by go_num, by rw [HM.out, if_pos rfl]; exact congrArg _ (by split <;> omega)⟩
        case measure => simp [intOf]; omega
      | false =>
        go_wp2
        go_round
        case rel => exact ⟨k + 1, by omega, by go_num, by rw [HM.out]; simp⟩
        case measure => simp [intOf]; omega
    · have hke : k = p.kn.length := by omega
      subst hke
      have hd : p.ld.toNat < p.rs.length := by omega
      obtain ⟨_, q0, q1, q2, q3⟩ := OwnP.cellsAt HO1.out p.ld.toNat hd
      have f1 := (OwnP.setH HO1.out p.ld.toNat hd (if (p.at p.ld.toNat).h < p.low L p.kn.length then p.low L p.kn.length else (p.at p.ld.toNat).h))
      have f2 := HO1.out.2.fr
      have HF1 : Hid (OwnP B (w1.setCell ⟨gr, p.ld.toNat * 4 + 3, none⟩ (.int .i64 (if (p.at p.ld.toNat).h < p.low L p.kn.length then p.low L p.kn.length else (p.at p.ld.toNat).h))) p.raised gi gk gr ci ck cr us) := show OwnP _ _ _ _ _ _ _ _ _ _ by
        rw [HE.out, show p.isr.length = p.kn.length by rw [HI.out, HK.out]]
        have e : max (p.at p.ld.toNat).h (p.low L p.kn.length) = if (p.at p.ld.toNat).h < p.low L p.kn.length then p.low L p.kn.length else (p.at p.ld.toNat).h := by split <;> omega
        rw [e]
        exact f1
      have HF2 : Hid (Below B w (w1.setCell ⟨gr, p.ld.toNat * 4 + 3, none⟩ (.int .i64 (if (p.at p.ld.toNat).h < p.low L p.kn.length then p.low L p.kn.length else (p.at p.ld.toNat).h)))) := (HB1.out.mono HBB.out).setCell (p := ⟨gr, p.ld.toNat * 4 + 3, none⟩) HO1.out.2.br _
      clear f1 HE
      go_wp2
      go_region
      all_goals
        exact bodyPost_end (v := .tuple #[]) (by simp [results, Try.results84, go_sem]) rfl ⟨rfl, OwnP.drew HF1.out, HF2.out.drew⟩

end Go.Proofs.Ytkolelpdedmkeaa
