/-
  The document's PartMay, where its form is right.
-/
import Derived.Test.YtkolelpdedmkeaaPmay
import Derived.Test.YtkolelpdedmkeaaRfree
namespace Go.Proofs.Ytkolelpdedmkeaa
open Go.RowKit
set_option linter.unusedVariables false
set_option linter.unusedSimpArgs false

theorem form_ok {p : Prt} (h : p.formB = true) : inR p.rs.length 1 5 = true ∧ p.isr.length = p.rs.length ∧ p.kn.length = p.rs.length ∧ inR p.fw 1 p.rs.length = true ∧ inR p.ep 0 1073741824 = true ∧ inR p.ld (-1) ((p.rs.length : Int) - 1) = true ∧ inR p.bs 0 400 = true := by
  unfold Prt.formB at h
  simp only [Bool.and_eq_true, beq_iff_eq] at h
  obtain ⟨⟨⟨⟨⟨⟨h1, h2⟩, h3⟩, h4⟩, h5⟩, h6⟩, h7⟩ := h
  exact ⟨h1, h2, h3, h4, h5, h6, h7⟩

theorem oks_no {p : Prt} {k n : Nat} (h : (p.at k).okB (p.kn.getD k 0) = false) (hk : k < n) : p.oks n = false := by
  induction n with
  | zero => omega
  | succ n ih =>
    simp only [Prt.oks]
    by_cases e : k = n
    · rw [← e, h]; simp
    · rw [ih (by omega)]; rfl
/-- The cells that are read of a replica, and of its part. -/
def Held (W : World) (p : Prt) (vi vk vr u : Value) (kk : Int) (b g off gk ok k : Nat) : Prop := W.cell? ⟨b, 0, none⟩ = some (.int .i64 p.ep) ∧ W.cell? ⟨b, 1, none⟩ = some (.int .i64 p.ld) ∧ W.cell? ⟨b, 2, none⟩ = some vi ∧ W.cell? ⟨b, 3, none⟩ = some vk ∧ W.cell? ⟨b, 4, none⟩ = some vr ∧ W.cell? ⟨b, 5, none⟩ = some (.int .i64 p.fw) ∧ W.cell? ⟨b, 6, none⟩ = some (.int .i64 p.bs) ∧ W.cell? ⟨g, off + k * 4 + 1, none⟩ = some u ∧ W.cell? ⟨g, off + k * 4 + 2, none⟩ = some (.int .i64 (p.at k).y) ∧ W.cell? ⟨g, off + k * 4 + 3, none⟩ = some (.int .i64 (p.at k).h) ∧ W.cell? ⟨gk, ok + k, none⟩ = some (.int .i64 kk)
theorem Held.below {W W' : World} {p : Prt} {vi vk vr u : Value} {kk : Int} {b g off gk ok k C : Nat} (h : Held W p vi vk vr u kk b g off gk ok k) (hC : W.heap.size ≤ C) (hb : Below C W W') : Held W' p vi vk vr u kk b g off gk ok k := by
  obtain ⟨a0, a1, a2, a3, a4, a5, a6, a7, a8, a9, a10⟩ := h
  have h1 : b < C := Nat.lt_of_lt_of_le (cell_lt a0) hC
  have h2 : g < C := Nat.lt_of_lt_of_le (cell_lt a7) hC
  have h3 : gk < C := Nat.lt_of_lt_of_le (cell_lt a10) hC
  exact ⟨(hb.cell (p := ⟨b, 0, none⟩) h1).trans a0, (hb.cell (p := ⟨b, 1, none⟩) h1).trans a1, (hb.cell (p := ⟨b, 2, none⟩) h1).trans a2, (hb.cell (p := ⟨b, 3, none⟩) h1).trans a3, (hb.cell (p := ⟨b, 4, none⟩) h1).trans a4, (hb.cell (p := ⟨b, 5, none⟩) h1).trans a5, (hb.cell (p := ⟨b, 6, none⟩) h1).trans a6, (hb.cell (p := ⟨g, _, none⟩) h2).trans a7, (hb.cell (p := ⟨g, _, none⟩) h2).trans a8, (hb.cell (p := ⟨g, _, none⟩) h2).trans a9, (hb.cell (p := ⟨gk, _, none⟩) h3).trans a10⟩

set_option maxRecDepth 100000 in
set_option maxHeartbeats 4000000 in
theorem partMay_main (p : Prt) (vi vk vr : Value) (us : Nat → Value) (w : World) (h : RdP w p vi vk vr us) (hs : p.small) (hf : p.formB = true) :
    Calls Try.prog 28 #[.agg #[.int .i64 p.ep, .int .i64 p.ld, vi, vk, vr, .int .i64 p.fw, .int .i64 p.bs]] w fun e w' => e = .returned (.bool p.mayB) ∧ Below w.heap.size w w' := by
  obtain ⟨ai, ci, ak, ck, ar, cr, rfl, rfl, rfl, l1, l2, l3⟩ := h.lens
  obtain ⟨c0, e1, e2, c3, c4, c5, c6⟩ := form_ok hf
  have hn : 1 ≤ p.rs.length ∧ p.rs.length ≤ 5 := by unfold inR at c0; simp at c0; omega
  have hld : -1 ≤ p.ld ∧ p.ld ≤ (p.rs.length : Int) - 1 := by unfold inR at c5; simpa using c5
  have d1 : ((p.isr.length : Int) != (p.rs.length : Int)) = false := by simp; omega
  have d2 : ((p.kn.length : Int) != (p.rs.length : Int)) = false := by simp; omega
  have hB := bbox w (.cells #[.int .i64 p.ep, .int .i64 p.ld, .slice ai p.isr.length ci, .slice ak p.kn.length ck, .slice ar p.rs.length cr, .int .i64 p.fw, .int .i64 p.bs] 26)
  have HB : Hid (Below w.heap.size w _) := hB
  have HP : Hid (PBox _ w.heap.size p _ _ _) := pbox_new w p (.slice ai p.isr.length ci) (.slice ak p.kn.length ck) (.slice ar p.rs.length cr) 26
  have HR : Hid (RdP _ p _ _ _ us) := h.below (Nat.le_refl _) hB
  have HS : Hid p.small := hs
  have HSZ : Hid (w.heap.size < _) := show w.heap.size < (w.alloc (.cells #[.int .i64 p.ep, .int .i64 p.ld, .slice ai p.isr.length ci, .slice ak p.kn.length ck, .slice ar p.rs.length cr, .int .i64 p.fw, .int .i64 p.bs] 26)).heap.size by simp
  have HM : Hid (p.mayB = (p.oks p.rs.length && p.ledB && p.some p.rs.length)) := show _ = _ by unfold Prt.mayB; rw [hf]; simp
  have HE1 : Hid (p.isr.length = p.rs.length) := e1
  have HE2 : Hid (p.kn.length = p.rs.length) := e2
  clear h hB hs hf e1 e2
  go_enter Try.func28, Try.ntmps28
  go_wp2_with (go_at_call 59; refine (In_any _ _ _ _).mono ?_; rintro e w' ⟨rfl, rfl⟩)
  generalize hW0 : w.alloc (.cells #[.int .i64 p.ep, .int .i64 p.ld, .slice ai p.isr.length ci, .slice ak p.kn.length ck, .slice ar p.rs.length cr, .int .i64 p.fw, .int .i64 p.bs] 26) = W0 at *
  clear hW0
  go_loopw [4, 5] (fun so i wr => ∃ k : Nat, k ≤ p.rs.length ∧ so = .bool (p.some k) ∧ i = .int .i64 k ∧ Hid (p.oks k = true) ∧ Below W0.heap.size W0 wr) (fun _ i _ => p.rs.length - (intOf i).toNat)
  case atStart => exact ⟨0, by omega, rfl, rfl, show _ = _ from rfl, Below.refl _ _⟩
  case round =>
    obtain ⟨k, hk, rfl, rfl, HO, hb⟩ := hrel
    have HBr : Hid (Below w.heap.size w wr) := HB.out.trans (hb.mono HB.out.size)
    have hbx := PBox.below HP.out HSZ.out hb
    have hwr : w.heap.size < wr.heap.size := Nat.lt_of_lt_of_le HSZ.out hb.size
    have hRr := RdP.below HR.out (Nat.le_refl _) hb
    by_cases hlt : k < p.rs.length
    · have hlt' : (k : Int) < p.rs.length := by omega
      have hki : k < p.isr.length := by rw [HE1.out]; exact hlt
      have hkk : k < p.kn.length := by rw [HE2.out]; exact hlt
      have hki' : (k : Int) < p.isr.length := by omega
      have hkk' : (k : Int) < p.kn.length := by omega
      obtain ⟨g, off, rfl, _, r0, r1, r2, r3, r4⟩ := hRr.2.2.cells k hlt
      obtain ⟨gk, ok, rfl, n0⟩ := RdP.knAt hRr.2.1 k hkk
      obtain ⟨gi, oi, rfl, m0⟩ := RdP.isrAt hRr.1 k hki
      have HRr : Hid _ := hRr
      have HR0 : Hid _ := r0
      obtain ⟨b0, b1, b2, b3, b4, b5, b6⟩ := hbx
      have HSO : Hid (p.some (k + 1) = (p.some k || p.isr.getD k false)) := show _ = _ from rfl
      have HOK : Hid (p.oks (k + 1) = (p.oks k && (p.at k).okB (p.kn.getD k 0))) := show _ = _ from rfl
      have HSM := HS.out.at k
      clear hRr r0
      have HNO : Hid ((p.at k).okB (p.kn.getD k 0) = false → p.mayB = false) := fun hh => by rw [HM.out, oks_no hh hlt]; rfl
      generalize p.kn.getD k 0 = kk at *
      generalize p.isr.getD k false = bi at *
      have HH : Hid (Held wr p _ _ _ (us k) kk w.heap.size g off gk ok k) := ⟨b0, b1, b2, b3, b4, b5, b6, r2, r3, r4, n0⟩
      have hgw : g < wr.heap.size := cell_lt r2
      have hkw : gk < wr.heap.size := cell_lt n0
      by_cases hl0 : lft (p.at k).l (p.at k).y = 0
      · have HSM2 : Hid ((p.at k).l.length ≤ 1099511627775) := show _ ≤ _ by have := (lft_ok hl0).1; omega
        cases hcH : inR (p.at k).h 0 (p.at k).es.length with
        | true =>
          cases hcK : inR kk 0 400 with
          | true =>
            have HO1 : Hid (p.oks (k + 1) = true) := show _ = _ by rw [HOK.out, HO.out]; unfold Rep.okB; rw [hl0, hcH, hcK]; rfl
            cases hso : p.some k with
            | true =>
              rw [hso] at HSO
              go_wp2
              refine wp_region_free (C := fun W => Below wr.heap.size wr W) (S := fun i v => match i with | 0 => v = .pointer (some ⟨w.heap.size, 4, none⟩) | 1 => v = .slice (some ⟨g, off, none⟩) p.rs.length cr | 2 => v = .int .i64 k | 3 => v = .pointer (some ⟨g, off + k * 4, none⟩) | 4 => v = .pointer (some ⟨g, off + k * 4 + 1, none⟩) | 5 => v = .agg #[us k, .int .i64 (p.at k).y] | 6 => v = .int .i64 0 | 7 => v = .bool false | 8 => v = .bool false | 9 => v = .pointer (some ⟨w.heap.size, 4, none⟩) | 10 => v = .slice (some ⟨g, off, none⟩) p.rs.length cr | 11 => v = .int .i64 k | 12 => v = .pointer (some ⟨g, off + k * 4, none⟩) | 13 => v = .pointer (some ⟨g, off + k * 4 + 3, none⟩) | 14 => v = .int .i64 (p.at k).h | 15 => v = .agg #[.int .i64 p.ep, .int .i64 p.ld, .slice (some ⟨gi, oi, none⟩) p.isr.length ci, .slice (some ⟨gk, ok, none⟩) p.kn.length ck, .slice (some ⟨g, off, none⟩) p.rs.length cr, .int .i64 p.fw, .int .i64 p.bs] | 16 => v = .int .i64 k | 17 => ∃ av cv, v = .slice av (p.at k).es.length cv | 18 => v = .int .i64 (p.at k).es.length | 19 => v = .bool true | 20 => v = .bool false | 21 => v = .bool false | 22 => v = .bool false | 23 => v = .pointer (some ⟨w.heap.size, 3, none⟩) | 24 => v = .slice (some ⟨gk, ok, none⟩) p.kn.length ck | 25 => v = .int .i64 k | 26 => v = .pointer (some ⟨gk, ok + k, none⟩) | 27 => v = .int .i64 kk | 28 => v = .bool true | 29 => v = .bool false | 30 => v = .bool false | _ => True) (by kernel_rfl) (regionB_spec (n := 120) (by kernel_rfl)).1 (regionB_spec (n := 120) (by kernel_rfl)).2.1 (free_of (regionB_spec (n := 120) (by kernel_rfl)).2.2) ((Below.refl _ _).drew) (each_at ?_) ?_
              · refine ⟨?_, ?_, ?_, ?_, ?_, ?_, ?_, ?_, ?_, ?_, ?_, ?_, ?_, ?_, ?_, ?_, ?_, ?_, ?_, ?_, ?_, ?_, ?_, ?_, ?_, ?_, ?_, ?_, ?_, ?_, ?_, trivial⟩
                · intro a W hC _ _ he hdep
                  rw [if_pos (wanted_free rfl)]
                  have t1 := slot_else (t := 1) he (by kernel_rfl) rfl
                  unfold Oper.wp
                  simp [execOp, go_sem, t1]
                  first | done | exact hC | exact ⟨hC, rfl⟩ | (refine ⟨hC, ?_⟩; simp [Act.put])
                · intro a W hC _ _ he hdep
                  obtain ⟨_, t66, rfl⟩ : ∃ v, a.tmps[66]? = some v ∧ v = .pointer (some ⟨w.heap.size, 4, none⟩) := hdep ⟨0, .data⟩ (by simp) (by rfl) _ _ rfl rfl
                  rw [if_pos (wanted_free rfl)]
                  have c4 := (hC.cell (p := ⟨w.heap.size, 4, none⟩) hwr).trans b4
                  unfold Oper.wp
                  simp [execOp, go_sem, t66, c4]
                  first | done | exact hC | exact ⟨hC, rfl⟩ | (refine ⟨hC, ?_⟩; simp [Act.put])
                · intro a W hC _ _ he hdep
                  rw [if_pos (wanted_free rfl)]
                  have t5 := slot_else (t := 5) he (by kernel_rfl) rfl
                  unfold Oper.wp
                  simp [execOp, go_sem, t5]
                  first | done | exact hC | exact ⟨hC, rfl⟩ | (refine ⟨hC, ?_⟩; simp [Act.put])
                · intro a W hC _ _ he hdep
                  obtain ⟨_, t67, rfl⟩ : ∃ v, a.tmps[67]? = some v ∧ v = .slice (some ⟨g, off, none⟩) p.rs.length cr := hdep ⟨1, .data⟩ (by simp) (by rfl) _ _ rfl rfl
                  obtain ⟨_, t68, rfl⟩ : ∃ v, a.tmps[68]? = some v ∧ v = .int .i64 k := hdep ⟨2, .data⟩ (by simp) (by rfl) _ _ rfl rfl
                  rw [if_pos (wanted_free rfl)]
                  unfold Oper.wp
                  simp [execOp, go_sem, t67, t68, hlt]
                  first | done | exact hC | exact ⟨hC, rfl⟩ | (refine ⟨hC, ?_⟩; simp [Act.put])
                · intro a W hC _ _ he hdep
                  obtain ⟨_, t69, rfl⟩ : ∃ v, a.tmps[69]? = some v ∧ v = .pointer (some ⟨g, off + k * 4, none⟩) := hdep ⟨3, .data⟩ (by simp) (by rfl) _ _ rfl rfl
                  rw [if_pos (wanted_free rfl)]
                  unfold Oper.wp
                  simp [execOp, go_sem, t69]
                  first | done | exact hC | exact ⟨hC, rfl⟩ | (refine ⟨hC, ?_⟩; simp [Act.put])
                · intro a W hC _ _ he hdep
                  obtain ⟨_, t70, rfl⟩ : ∃ v, a.tmps[70]? = some v ∧ v = .pointer (some ⟨g, off + k * 4 + 1, none⟩) := hdep ⟨4, .data⟩ (by simp) (by rfl) _ _ rfl rfl
                  rw [if_pos (wanted_free rfl)]
                  have d1 := (hC.cell (p := ⟨g, off + k * 4 + 1, none⟩) hgw).trans r2
                  have d2 := (hC.cell (p := ⟨g, off + k * 4 + 2, none⟩) hgw).trans r3
                  unfold Oper.wp
                  simp [execOp, go_sem, t70, d1, d2]
                  first | done | exact hC | exact ⟨hC, rfl⟩ | (refine ⟨hC, ?_⟩; simp [Act.put])
                · intro a W hC _ _ he hdep
                  obtain ⟨_, t71, rfl⟩ : ∃ v, a.tmps[71]? = some v ∧ v = .agg #[us k, .int .i64 (p.at k).y] := hdep ⟨5, .data⟩ (by simp) (by rfl) _ _ rfl rfl
                  rw [if_pos (wanted_free rfl)]
                  unfold Oper.wp
                  simp [execOp, go_sem, t71]
                  refine (logFault_any _ _ _ _ HSM (Rd.below HR0.out (Nat.le_refl _) hC)).mono ?_
                  rintro e W2 ⟨rfl, hb2⟩
                  rw [hl0]
                  exact ⟨bstep hC hb2, rfl⟩
                · intro a W hC _ _ he hdep
                  obtain ⟨_, t72, rfl⟩ : ∃ v, a.tmps[72]? = some v ∧ v = .int .i64 0 := hdep ⟨6, .data⟩ (by simp) (by rfl) _ _ rfl rfl
                  rw [if_pos (wanted_free rfl)]
                  unfold Oper.wp
                  simp [execOp, go_sem, t72]
                  first | done | exact hC | exact ⟨hC, rfl⟩ | (refine ⟨hC, ?_⟩; simp [Act.put])
                · intro a W hC _ _ he hdep
                  obtain ⟨_, t73, rfl⟩ : ∃ v, a.tmps[73]? = some v ∧ v = .bool false := hdep ⟨7, .data⟩ (by simp) (by rfl) _ _ rfl rfl
                  obtain ⟨_, t72, rfl⟩ : ∃ v, a.tmps[72]? = some v ∧ v = .int .i64 0 := hdep ⟨6, .chain⟩ (by simp) (by rfl) _ _ rfl rfl
                  rw [if_pos (wanted_free rfl)]
                  unfold Oper.wp
                  simp [execOp, go_sem, t72, t73]
                  first | done | exact hC | exact ⟨hC, rfl⟩ | (refine ⟨hC, ?_⟩; simp [Act.put])
                · intro a W hC _ _ he hdep
                  obtain ⟨_, t74, rfl⟩ : ∃ v, a.tmps[74]? = some v ∧ v = .bool false := hdep ⟨8, .guard⟩ (by simp) (by rfl) _ _ rfl rfl
                  rw [if_pos (wanted_yes rfl (yielded_slot (t := 74) rfl t74))]
                  have t1 := slot_else (t := 1) he (by kernel_rfl) rfl
                  unfold Oper.wp
                  simp [execOp, go_sem, t1, t74]
                  first | done | exact hC | exact ⟨hC, rfl⟩ | (refine ⟨hC, ?_⟩; simp [Act.put])
                · intro a W hC _ _ he hdep
                  obtain ⟨_, t75, rfl⟩ : ∃ v, a.tmps[75]? = some v ∧ v = .pointer (some ⟨w.heap.size, 4, none⟩) := hdep ⟨9, .data⟩ (by simp) (by rfl) _ _ rfl rfl
                  obtain ⟨_, t74, rfl⟩ : ∃ v, a.tmps[74]? = some v ∧ v = .bool false := hdep ⟨8, .guard⟩ (by simp) (by rfl) _ _ rfl rfl
                  rw [if_pos (wanted_yes rfl (yielded_slot (t := 74) rfl t74))]
                  have c4 := (hC.cell (p := ⟨w.heap.size, 4, none⟩) hwr).trans b4
                  unfold Oper.wp
                  simp [execOp, go_sem, t74, t75, c4]
                  first | done | exact hC | exact ⟨hC, rfl⟩ | (refine ⟨hC, ?_⟩; simp [Act.put])
                · intro a W hC _ _ he hdep
                  obtain ⟨_, t74, rfl⟩ : ∃ v, a.tmps[74]? = some v ∧ v = .bool false := hdep ⟨8, .guard⟩ (by simp) (by rfl) _ _ rfl rfl
                  rw [if_pos (wanted_yes rfl (yielded_slot (t := 74) rfl t74))]
                  have t5 := slot_else (t := 5) he (by kernel_rfl) rfl
                  unfold Oper.wp
                  simp [execOp, go_sem, t5, t74]
                  first | done | exact hC | exact ⟨hC, rfl⟩ | (refine ⟨hC, ?_⟩; simp [Act.put])
                · intro a W hC _ _ he hdep
                  obtain ⟨_, t76, rfl⟩ : ∃ v, a.tmps[76]? = some v ∧ v = .slice (some ⟨g, off, none⟩) p.rs.length cr := hdep ⟨10, .data⟩ (by simp) (by rfl) _ _ rfl rfl
                  obtain ⟨_, t77, rfl⟩ : ∃ v, a.tmps[77]? = some v ∧ v = .int .i64 k := hdep ⟨11, .data⟩ (by simp) (by rfl) _ _ rfl rfl
                  obtain ⟨_, t74, rfl⟩ : ∃ v, a.tmps[74]? = some v ∧ v = .bool false := hdep ⟨8, .guard⟩ (by simp) (by rfl) _ _ rfl rfl
                  rw [if_pos (wanted_yes rfl (yielded_slot (t := 74) rfl t74))]
                  unfold Oper.wp
                  simp [execOp, go_sem, t74, t76, t77, hlt]
                  first | done | exact hC | exact ⟨hC, rfl⟩ | (refine ⟨hC, ?_⟩; simp [Act.put])
                · intro a W hC _ _ he hdep
                  obtain ⟨_, t78, rfl⟩ : ∃ v, a.tmps[78]? = some v ∧ v = .pointer (some ⟨g, off + k * 4, none⟩) := hdep ⟨12, .data⟩ (by simp) (by rfl) _ _ rfl rfl
                  obtain ⟨_, t74, rfl⟩ : ∃ v, a.tmps[74]? = some v ∧ v = .bool false := hdep ⟨8, .guard⟩ (by simp) (by rfl) _ _ rfl rfl
                  rw [if_pos (wanted_yes rfl (yielded_slot (t := 74) rfl t74))]
                  unfold Oper.wp
                  simp [execOp, go_sem, t74, t78]
                  first | done | exact hC | exact ⟨hC, rfl⟩ | (refine ⟨hC, ?_⟩; simp [Act.put])
                · intro a W hC _ _ he hdep
                  obtain ⟨_, t79, rfl⟩ : ∃ v, a.tmps[79]? = some v ∧ v = .pointer (some ⟨g, off + k * 4 + 3, none⟩) := hdep ⟨13, .data⟩ (by simp) (by rfl) _ _ rfl rfl
                  obtain ⟨_, t74, rfl⟩ : ∃ v, a.tmps[74]? = some v ∧ v = .bool false := hdep ⟨8, .guard⟩ (by simp) (by rfl) _ _ rfl rfl
                  rw [if_pos (wanted_yes rfl (yielded_slot (t := 74) rfl t74))]
                  have d3 := (hC.cell (p := ⟨g, off + k * 4 + 3, none⟩) hgw).trans r4
                  unfold Oper.wp
                  simp [execOp, go_sem, t74, t79, d3]
                  first | done | exact hC | exact ⟨hC, rfl⟩ | (refine ⟨hC, ?_⟩; simp [Act.put])
                · intro a W hC _ _ he hdep
                  obtain ⟨_, t74, rfl⟩ : ∃ v, a.tmps[74]? = some v ∧ v = .bool false := hdep ⟨8, .guard⟩ (by simp) (by rfl) _ _ rfl rfl
                  rw [if_pos (wanted_yes rfl (yielded_slot (t := 74) rfl t74))]
                  have t1 := slot_else (t := 1) he (by kernel_rfl) rfl
                  have c0 := (hC.cell (p := ⟨w.heap.size, 0, none⟩) hwr).trans b0
                  have c1 := (hC.cell (p := ⟨w.heap.size, 1, none⟩) hwr).trans b1
                  have c2 := (hC.cell (p := ⟨w.heap.size, 2, none⟩) hwr).trans b2
                  have c3 := (hC.cell (p := ⟨w.heap.size, 3, none⟩) hwr).trans b3
                  have c4 := (hC.cell (p := ⟨w.heap.size, 4, none⟩) hwr).trans b4
                  have c5 := (hC.cell (p := ⟨w.heap.size, 5, none⟩) hwr).trans b5
                  have c6 := (hC.cell (p := ⟨w.heap.size, 6, none⟩) hwr).trans b6
                  unfold Oper.wp
                  simp [execOp, go_sem, t1, t74, c0, c1, c2, c3, c4, c5, c6]
                  first | done | exact hC | exact ⟨hC, rfl⟩ | (refine ⟨hC, ?_⟩; simp [Act.put])
                · intro a W hC _ _ he hdep
                  obtain ⟨_, t74, rfl⟩ : ∃ v, a.tmps[74]? = some v ∧ v = .bool false := hdep ⟨8, .guard⟩ (by simp) (by rfl) _ _ rfl rfl
                  rw [if_pos (wanted_yes rfl (yielded_slot (t := 74) rfl t74))]
                  have t5 := slot_else (t := 5) he (by kernel_rfl) rfl
                  unfold Oper.wp
                  simp [execOp, go_sem, t5, t74]
                  first | done | exact hC | exact ⟨hC, rfl⟩ | (refine ⟨hC, ?_⟩; simp [Act.put])
                · intro a W hC _ _ he hdep
                  obtain ⟨_, t81, rfl⟩ : ∃ v, a.tmps[81]? = some v ∧ v = .agg #[.int .i64 p.ep, .int .i64 p.ld, .slice (some ⟨gi, oi, none⟩) p.isr.length ci, .slice (some ⟨gk, ok, none⟩) p.kn.length ck, .slice (some ⟨g, off, none⟩) p.rs.length cr, .int .i64 p.fw, .int .i64 p.bs] := hdep ⟨15, .data⟩ (by simp) (by rfl) _ _ rfl rfl
                  obtain ⟨_, t82, rfl⟩ : ∃ v, a.tmps[82]? = some v ∧ v = .int .i64 k := hdep ⟨16, .data⟩ (by simp) (by rfl) _ _ rfl rfl
                  obtain ⟨_, t74, rfl⟩ : ∃ v, a.tmps[74]? = some v ∧ v = .bool false := hdep ⟨8, .chain⟩ (by simp) (by rfl) _ _ rfl rfl
                  rw [if_pos (wanted_yes rfl (yielded_slot (t := 74) rfl t74))]
                  unfold Oper.wp
                  simp [execOp, go_sem, t74, t81, t82]
                  refine (logOf_any p _ _ _ us k _ (RdP.below HRr.out (Nat.le_refl _) hC) HSM2.out hlt (by omega)).mono ?_
                  rintro e W2 ⟨v3, rfl, hv3, hb3⟩
                  obtain ⟨a3, c3, rfl⟩ := hv3.shape
                  exact ⟨bstep hC hb3, _, ⟨a3, c3, rfl⟩, rfl⟩
                · intro a W hC _ _ he hdep
                  obtain ⟨_, t83, av, cv, rfl⟩ : ∃ v, a.tmps[83]? = some v ∧ ∃ av cv, v = .slice av (p.at k).es.length cv := hdep ⟨17, .data⟩ (by simp) (by rfl) _ _ rfl rfl
                  obtain ⟨_, t74, rfl⟩ : ∃ v, a.tmps[74]? = some v ∧ v = .bool false := hdep ⟨8, .guard⟩ (by simp) (by rfl) _ _ rfl rfl
                  rw [if_pos (wanted_yes rfl (yielded_slot (t := 74) rfl t74))]
                  unfold Oper.wp
                  simp [execOp, go_sem, t74, t83]
                  first | done | exact hC | exact ⟨hC, rfl⟩ | (refine ⟨hC, ?_⟩; simp [Act.put])
                · intro a W hC _ _ he hdep
                  obtain ⟨_, t80, rfl⟩ : ∃ v, a.tmps[80]? = some v ∧ v = .int .i64 (p.at k).h := hdep ⟨14, .data⟩ (by simp) (by rfl) _ _ rfl rfl
                  obtain ⟨_, t84, rfl⟩ : ∃ v, a.tmps[84]? = some v ∧ v = .int .i64 (p.at k).es.length := hdep ⟨18, .data⟩ (by simp) (by rfl) _ _ rfl rfl
                  obtain ⟨_, t83, av, cv, rfl⟩ : ∃ v, a.tmps[83]? = some v ∧ ∃ av cv, v = .slice av (p.at k).es.length cv := hdep ⟨17, .chain⟩ (by simp) (by rfl) _ _ rfl rfl
                  obtain ⟨_, t74, rfl⟩ : ∃ v, a.tmps[74]? = some v ∧ v = .bool false := hdep ⟨8, .guard⟩ (by simp) (by rfl) _ _ rfl rfl
                  rw [if_pos (wanted_yes rfl (yielded_slot (t := 74) rfl t74))]
                  unfold Oper.wp
                  simp [execOp, go_sem, t74, t80, t83, t84]
                  refine (In_any _ _ _ _).mono ?_
                  rintro e W2 ⟨rfl, rfl⟩
                  rw [hcH]
                  exact ⟨hC, rfl⟩
                · intro a W hC _ _ he hdep
                  obtain ⟨_, t85, rfl⟩ : ∃ v, a.tmps[85]? = some v ∧ v = .bool true := hdep ⟨19, .data⟩ (by simp) (by rfl) _ _ rfl rfl
                  obtain ⟨_, t74, rfl⟩ : ∃ v, a.tmps[74]? = some v ∧ v = .bool false := hdep ⟨8, .guard⟩ (by simp) (by rfl) _ _ rfl rfl
                  rw [if_pos (wanted_yes rfl (yielded_slot (t := 74) rfl t74))]
                  unfold Oper.wp
                  simp [execOp, go_sem, t74, t85]
                  first | done | exact hC | exact ⟨hC, rfl⟩ | (refine ⟨hC, ?_⟩; simp [Act.put])
                · intro a W hC _ _ he hdep
                  obtain ⟨_, t74, rfl⟩ : ∃ v, a.tmps[74]? = some v ∧ v = .bool false := hdep ⟨8, .data⟩ (by simp) (by rfl) _ _ rfl rfl
                  obtain ⟨_, t86, rfl⟩ : ∃ v, a.tmps[86]? = some v ∧ v = .bool false := hdep ⟨20, .data⟩ (by simp) (by rfl) _ _ rfl rfl
                  rw [if_pos (wanted_free rfl)]
                  unfold Oper.wp
                  simp [execOp, go_sem, t74, t86]
                  first | done | exact hC | exact ⟨hC, rfl⟩ | (refine ⟨hC, ?_⟩; simp [Act.put])
                · intro a W hC _ _ he hdep
                  obtain ⟨_, t87, rfl⟩ : ∃ v, a.tmps[87]? = some v ∧ v = .bool false := hdep ⟨21, .data⟩ (by simp) (by rfl) _ _ rfl rfl
                  obtain ⟨_, t85, rfl⟩ : ∃ v, a.tmps[85]? = some v ∧ v = .bool true := hdep ⟨19, .chain⟩ (by simp) (by rfl) _ _ rfl rfl
                  rw [if_pos (wanted_free rfl)]
                  unfold Oper.wp
                  simp [execOp, go_sem, t85, t87]
                  first | done | exact hC | exact ⟨hC, rfl⟩ | (refine ⟨hC, ?_⟩; simp [Act.put])
                · intro a W hC _ _ he hdep
                  obtain ⟨_, t88, rfl⟩ : ∃ v, a.tmps[88]? = some v ∧ v = .bool false := hdep ⟨22, .guard⟩ (by simp) (by rfl) _ _ rfl rfl
                  rw [if_pos (wanted_yes rfl (yielded_slot (t := 88) rfl t88))]
                  have t1 := slot_else (t := 1) he (by kernel_rfl) rfl
                  unfold Oper.wp
                  simp [execOp, go_sem, t1, t88]
                  first | done | exact hC | exact ⟨hC, rfl⟩ | (refine ⟨hC, ?_⟩; simp [Act.put])
                · intro a W hC _ _ he hdep
                  obtain ⟨_, t89, rfl⟩ : ∃ v, a.tmps[89]? = some v ∧ v = .pointer (some ⟨w.heap.size, 3, none⟩) := hdep ⟨23, .data⟩ (by simp) (by rfl) _ _ rfl rfl
                  obtain ⟨_, t88, rfl⟩ : ∃ v, a.tmps[88]? = some v ∧ v = .bool false := hdep ⟨22, .guard⟩ (by simp) (by rfl) _ _ rfl rfl
                  rw [if_pos (wanted_yes rfl (yielded_slot (t := 88) rfl t88))]
                  have c3 := (hC.cell (p := ⟨w.heap.size, 3, none⟩) hwr).trans b3
                  unfold Oper.wp
                  simp [execOp, go_sem, t88, t89, c3]
                  first | done | exact hC | exact ⟨hC, rfl⟩ | (refine ⟨hC, ?_⟩; simp [Act.put])
                · intro a W hC _ _ he hdep
                  obtain ⟨_, t88, rfl⟩ : ∃ v, a.tmps[88]? = some v ∧ v = .bool false := hdep ⟨22, .guard⟩ (by simp) (by rfl) _ _ rfl rfl
                  rw [if_pos (wanted_yes rfl (yielded_slot (t := 88) rfl t88))]
                  have t5 := slot_else (t := 5) he (by kernel_rfl) rfl
                  unfold Oper.wp
                  simp [execOp, go_sem, t5, t88]
                  first | done | exact hC | exact ⟨hC, rfl⟩ | (refine ⟨hC, ?_⟩; simp [Act.put])
                · intro a W hC _ _ he hdep
                  obtain ⟨_, t90, rfl⟩ : ∃ v, a.tmps[90]? = some v ∧ v = .slice (some ⟨gk, ok, none⟩) p.kn.length ck := hdep ⟨24, .data⟩ (by simp) (by rfl) _ _ rfl rfl
                  obtain ⟨_, t91, rfl⟩ : ∃ v, a.tmps[91]? = some v ∧ v = .int .i64 k := hdep ⟨25, .data⟩ (by simp) (by rfl) _ _ rfl rfl
                  obtain ⟨_, t88, rfl⟩ : ∃ v, a.tmps[88]? = some v ∧ v = .bool false := hdep ⟨22, .guard⟩ (by simp) (by rfl) _ _ rfl rfl
                  rw [if_pos (wanted_yes rfl (yielded_slot (t := 88) rfl t88))]
                  unfold Oper.wp
                  simp [execOp, go_sem, t88, t90, t91, hkk]
                  first | done | exact hC | exact ⟨hC, rfl⟩ | (refine ⟨hC, ?_⟩; simp [Act.put])
                · intro a W hC _ _ he hdep
                  obtain ⟨_, t92, rfl⟩ : ∃ v, a.tmps[92]? = some v ∧ v = .pointer (some ⟨gk, ok + k, none⟩) := hdep ⟨26, .data⟩ (by simp) (by rfl) _ _ rfl rfl
                  obtain ⟨_, t88, rfl⟩ : ∃ v, a.tmps[88]? = some v ∧ v = .bool false := hdep ⟨22, .guard⟩ (by simp) (by rfl) _ _ rfl rfl
                  rw [if_pos (wanted_yes rfl (yielded_slot (t := 88) rfl t88))]
                  have d4 := (hC.cell (p := ⟨gk, ok + k, none⟩) hkw).trans n0
                  unfold Oper.wp
                  simp [execOp, go_sem, t88, t92, d4]
                  first | done | exact hC | exact ⟨hC, rfl⟩ | (refine ⟨hC, ?_⟩; simp [Act.put])
                · intro a W hC _ _ he hdep
                  obtain ⟨_, t93, rfl⟩ : ∃ v, a.tmps[93]? = some v ∧ v = .int .i64 kk := hdep ⟨27, .data⟩ (by simp) (by rfl) _ _ rfl rfl
                  obtain ⟨_, t88, rfl⟩ : ∃ v, a.tmps[88]? = some v ∧ v = .bool false := hdep ⟨22, .chain⟩ (by simp) (by rfl) _ _ rfl rfl
                  rw [if_pos (wanted_yes rfl (yielded_slot (t := 88) rfl t88))]
                  unfold Oper.wp
                  simp [execOp, go_sem, t88, t93]
                  refine (In_any _ _ _ _).mono ?_
                  rintro e W2 ⟨rfl, rfl⟩
                  rw [hcK]
                  exact ⟨hC, rfl⟩
                · intro a W hC _ _ he hdep
                  obtain ⟨_, t94, rfl⟩ : ∃ v, a.tmps[94]? = some v ∧ v = .bool true := hdep ⟨28, .data⟩ (by simp) (by rfl) _ _ rfl rfl
                  obtain ⟨_, t88, rfl⟩ : ∃ v, a.tmps[88]? = some v ∧ v = .bool false := hdep ⟨22, .guard⟩ (by simp) (by rfl) _ _ rfl rfl
                  rw [if_pos (wanted_yes rfl (yielded_slot (t := 88) rfl t88))]
                  unfold Oper.wp
                  simp [execOp, go_sem, t88, t94]
                  first | done | exact hC | exact ⟨hC, rfl⟩ | (refine ⟨hC, ?_⟩; simp [Act.put])
                · intro a W hC _ _ he hdep
                  obtain ⟨_, t88, rfl⟩ : ∃ v, a.tmps[88]? = some v ∧ v = .bool false := hdep ⟨22, .data⟩ (by simp) (by rfl) _ _ rfl rfl
                  obtain ⟨_, t95, rfl⟩ : ∃ v, a.tmps[95]? = some v ∧ v = .bool false := hdep ⟨29, .data⟩ (by simp) (by rfl) _ _ rfl rfl
                  rw [if_pos (wanted_free rfl)]
                  unfold Oper.wp
                  simp [execOp, go_sem, t88, t95]
                  first | done | exact hC | exact ⟨hC, rfl⟩ | (refine ⟨hC, ?_⟩; simp [Act.put])
              · intro vs W hC hS
                have h30 : vs 30 = .bool false := hS 30 (by simp)
                simp [over, h30, Act.put]
                clear b0 b1 b2 b3 b4 b5 b6 r1 r2 r3 r4 n0 m0 hS h30
                go_wp2
                go_roundw
                case rel => exact ⟨k + 1, by omega, by rw [HSO.out]; simp, by go_num, HO1, hb.trans (hC.mono hb.size)⟩
                case measure => simp [intOf]; omega
            | false =>
              rw [hso] at HSO
              go_wp2
              refine wp_region_free (C := fun W => Below wr.heap.size wr W) (S := fun i v => match i with | 0 => v = .pointer (some ⟨w.heap.size, 4, none⟩) | 1 => v = .slice (some ⟨g, off, none⟩) p.rs.length cr | 2 => v = .int .i64 k | 3 => v = .pointer (some ⟨g, off + k * 4, none⟩) | 4 => v = .pointer (some ⟨g, off + k * 4 + 1, none⟩) | 5 => v = .agg #[us k, .int .i64 (p.at k).y] | 6 => v = .int .i64 0 | 7 => v = .bool false | 8 => v = .bool false | 9 => v = .pointer (some ⟨w.heap.size, 4, none⟩) | 10 => v = .slice (some ⟨g, off, none⟩) p.rs.length cr | 11 => v = .int .i64 k | 12 => v = .pointer (some ⟨g, off + k * 4, none⟩) | 13 => v = .pointer (some ⟨g, off + k * 4 + 3, none⟩) | 14 => v = .int .i64 (p.at k).h | 15 => v = .agg #[.int .i64 p.ep, .int .i64 p.ld, .slice (some ⟨gi, oi, none⟩) p.isr.length ci, .slice (some ⟨gk, ok, none⟩) p.kn.length ck, .slice (some ⟨g, off, none⟩) p.rs.length cr, .int .i64 p.fw, .int .i64 p.bs] | 16 => v = .int .i64 k | 17 => ∃ av cv, v = .slice av (p.at k).es.length cv | 18 => v = .int .i64 (p.at k).es.length | 19 => v = .bool true | 20 => v = .bool false | 21 => v = .bool false | 22 => v = .bool false | 23 => v = .pointer (some ⟨w.heap.size, 3, none⟩) | 24 => v = .slice (some ⟨gk, ok, none⟩) p.kn.length ck | 25 => v = .int .i64 k | 26 => v = .pointer (some ⟨gk, ok + k, none⟩) | 27 => v = .int .i64 kk | 28 => v = .bool true | 29 => v = .bool false | 30 => v = .bool false | _ => True) (by kernel_rfl) (regionB_spec (n := 120) (by kernel_rfl)).1 (regionB_spec (n := 120) (by kernel_rfl)).2.1 (free_of (regionB_spec (n := 120) (by kernel_rfl)).2.2) ((Below.refl _ _).drew) (each_at ?_) ?_
              · refine ⟨?_, ?_, ?_, ?_, ?_, ?_, ?_, ?_, ?_, ?_, ?_, ?_, ?_, ?_, ?_, ?_, ?_, ?_, ?_, ?_, ?_, ?_, ?_, ?_, ?_, ?_, ?_, ?_, ?_, ?_, ?_, trivial⟩
                · intro a W hC _ _ he hdep
                  rw [if_pos (wanted_free rfl)]
                  have t1 := slot_else (t := 1) he (by kernel_rfl) rfl
                  unfold Oper.wp
                  simp [execOp, go_sem, t1]
                  first | done | exact hC | exact ⟨hC, rfl⟩ | (refine ⟨hC, ?_⟩; simp [Act.put])
                · intro a W hC _ _ he hdep
                  obtain ⟨_, t66, rfl⟩ : ∃ v, a.tmps[66]? = some v ∧ v = .pointer (some ⟨w.heap.size, 4, none⟩) := hdep ⟨0, .data⟩ (by simp) (by rfl) _ _ rfl rfl
                  rw [if_pos (wanted_free rfl)]
                  have c4 := (hC.cell (p := ⟨w.heap.size, 4, none⟩) hwr).trans b4
                  unfold Oper.wp
                  simp [execOp, go_sem, t66, c4]
                  first | done | exact hC | exact ⟨hC, rfl⟩ | (refine ⟨hC, ?_⟩; simp [Act.put])
                · intro a W hC _ _ he hdep
                  rw [if_pos (wanted_free rfl)]
                  have t5 := slot_else (t := 5) he (by kernel_rfl) rfl
                  unfold Oper.wp
                  simp [execOp, go_sem, t5]
                  first | done | exact hC | exact ⟨hC, rfl⟩ | (refine ⟨hC, ?_⟩; simp [Act.put])
                · intro a W hC _ _ he hdep
                  obtain ⟨_, t67, rfl⟩ : ∃ v, a.tmps[67]? = some v ∧ v = .slice (some ⟨g, off, none⟩) p.rs.length cr := hdep ⟨1, .data⟩ (by simp) (by rfl) _ _ rfl rfl
                  obtain ⟨_, t68, rfl⟩ : ∃ v, a.tmps[68]? = some v ∧ v = .int .i64 k := hdep ⟨2, .data⟩ (by simp) (by rfl) _ _ rfl rfl
                  rw [if_pos (wanted_free rfl)]
                  unfold Oper.wp
                  simp [execOp, go_sem, t67, t68, hlt]
                  first | done | exact hC | exact ⟨hC, rfl⟩ | (refine ⟨hC, ?_⟩; simp [Act.put])
                · intro a W hC _ _ he hdep
                  obtain ⟨_, t69, rfl⟩ : ∃ v, a.tmps[69]? = some v ∧ v = .pointer (some ⟨g, off + k * 4, none⟩) := hdep ⟨3, .data⟩ (by simp) (by rfl) _ _ rfl rfl
                  rw [if_pos (wanted_free rfl)]
                  unfold Oper.wp
                  simp [execOp, go_sem, t69]
                  first | done | exact hC | exact ⟨hC, rfl⟩ | (refine ⟨hC, ?_⟩; simp [Act.put])
                · intro a W hC _ _ he hdep
                  obtain ⟨_, t70, rfl⟩ : ∃ v, a.tmps[70]? = some v ∧ v = .pointer (some ⟨g, off + k * 4 + 1, none⟩) := hdep ⟨4, .data⟩ (by simp) (by rfl) _ _ rfl rfl
                  rw [if_pos (wanted_free rfl)]
                  have d1 := (hC.cell (p := ⟨g, off + k * 4 + 1, none⟩) hgw).trans r2
                  have d2 := (hC.cell (p := ⟨g, off + k * 4 + 2, none⟩) hgw).trans r3
                  unfold Oper.wp
                  simp [execOp, go_sem, t70, d1, d2]
                  first | done | exact hC | exact ⟨hC, rfl⟩ | (refine ⟨hC, ?_⟩; simp [Act.put])
                · intro a W hC _ _ he hdep
                  obtain ⟨_, t71, rfl⟩ : ∃ v, a.tmps[71]? = some v ∧ v = .agg #[us k, .int .i64 (p.at k).y] := hdep ⟨5, .data⟩ (by simp) (by rfl) _ _ rfl rfl
                  rw [if_pos (wanted_free rfl)]
                  unfold Oper.wp
                  simp [execOp, go_sem, t71]
                  refine (logFault_any _ _ _ _ HSM (Rd.below HR0.out (Nat.le_refl _) hC)).mono ?_
                  rintro e W2 ⟨rfl, hb2⟩
                  rw [hl0]
                  exact ⟨bstep hC hb2, rfl⟩
                · intro a W hC _ _ he hdep
                  obtain ⟨_, t72, rfl⟩ : ∃ v, a.tmps[72]? = some v ∧ v = .int .i64 0 := hdep ⟨6, .data⟩ (by simp) (by rfl) _ _ rfl rfl
                  rw [if_pos (wanted_free rfl)]
                  unfold Oper.wp
                  simp [execOp, go_sem, t72]
                  first | done | exact hC | exact ⟨hC, rfl⟩ | (refine ⟨hC, ?_⟩; simp [Act.put])
                · intro a W hC _ _ he hdep
                  obtain ⟨_, t73, rfl⟩ : ∃ v, a.tmps[73]? = some v ∧ v = .bool false := hdep ⟨7, .data⟩ (by simp) (by rfl) _ _ rfl rfl
                  obtain ⟨_, t72, rfl⟩ : ∃ v, a.tmps[72]? = some v ∧ v = .int .i64 0 := hdep ⟨6, .chain⟩ (by simp) (by rfl) _ _ rfl rfl
                  rw [if_pos (wanted_free rfl)]
                  unfold Oper.wp
                  simp [execOp, go_sem, t72, t73]
                  first | done | exact hC | exact ⟨hC, rfl⟩ | (refine ⟨hC, ?_⟩; simp [Act.put])
                · intro a W hC _ _ he hdep
                  obtain ⟨_, t74, rfl⟩ : ∃ v, a.tmps[74]? = some v ∧ v = .bool false := hdep ⟨8, .guard⟩ (by simp) (by rfl) _ _ rfl rfl
                  rw [if_pos (wanted_yes rfl (yielded_slot (t := 74) rfl t74))]
                  have t1 := slot_else (t := 1) he (by kernel_rfl) rfl
                  unfold Oper.wp
                  simp [execOp, go_sem, t1, t74]
                  first | done | exact hC | exact ⟨hC, rfl⟩ | (refine ⟨hC, ?_⟩; simp [Act.put])
                · intro a W hC _ _ he hdep
                  obtain ⟨_, t75, rfl⟩ : ∃ v, a.tmps[75]? = some v ∧ v = .pointer (some ⟨w.heap.size, 4, none⟩) := hdep ⟨9, .data⟩ (by simp) (by rfl) _ _ rfl rfl
                  obtain ⟨_, t74, rfl⟩ : ∃ v, a.tmps[74]? = some v ∧ v = .bool false := hdep ⟨8, .guard⟩ (by simp) (by rfl) _ _ rfl rfl
                  rw [if_pos (wanted_yes rfl (yielded_slot (t := 74) rfl t74))]
                  have c4 := (hC.cell (p := ⟨w.heap.size, 4, none⟩) hwr).trans b4
                  unfold Oper.wp
                  simp [execOp, go_sem, t74, t75, c4]
                  first | done | exact hC | exact ⟨hC, rfl⟩ | (refine ⟨hC, ?_⟩; simp [Act.put])
                · intro a W hC _ _ he hdep
                  obtain ⟨_, t74, rfl⟩ : ∃ v, a.tmps[74]? = some v ∧ v = .bool false := hdep ⟨8, .guard⟩ (by simp) (by rfl) _ _ rfl rfl
                  rw [if_pos (wanted_yes rfl (yielded_slot (t := 74) rfl t74))]
                  have t5 := slot_else (t := 5) he (by kernel_rfl) rfl
                  unfold Oper.wp
                  simp [execOp, go_sem, t5, t74]
                  first | done | exact hC | exact ⟨hC, rfl⟩ | (refine ⟨hC, ?_⟩; simp [Act.put])
                · intro a W hC _ _ he hdep
                  obtain ⟨_, t76, rfl⟩ : ∃ v, a.tmps[76]? = some v ∧ v = .slice (some ⟨g, off, none⟩) p.rs.length cr := hdep ⟨10, .data⟩ (by simp) (by rfl) _ _ rfl rfl
                  obtain ⟨_, t77, rfl⟩ : ∃ v, a.tmps[77]? = some v ∧ v = .int .i64 k := hdep ⟨11, .data⟩ (by simp) (by rfl) _ _ rfl rfl
                  obtain ⟨_, t74, rfl⟩ : ∃ v, a.tmps[74]? = some v ∧ v = .bool false := hdep ⟨8, .guard⟩ (by simp) (by rfl) _ _ rfl rfl
                  rw [if_pos (wanted_yes rfl (yielded_slot (t := 74) rfl t74))]
                  unfold Oper.wp
                  simp [execOp, go_sem, t74, t76, t77, hlt]
                  first | done | exact hC | exact ⟨hC, rfl⟩ | (refine ⟨hC, ?_⟩; simp [Act.put])
                · intro a W hC _ _ he hdep
                  obtain ⟨_, t78, rfl⟩ : ∃ v, a.tmps[78]? = some v ∧ v = .pointer (some ⟨g, off + k * 4, none⟩) := hdep ⟨12, .data⟩ (by simp) (by rfl) _ _ rfl rfl
                  obtain ⟨_, t74, rfl⟩ : ∃ v, a.tmps[74]? = some v ∧ v = .bool false := hdep ⟨8, .guard⟩ (by simp) (by rfl) _ _ rfl rfl
                  rw [if_pos (wanted_yes rfl (yielded_slot (t := 74) rfl t74))]
                  unfold Oper.wp
                  simp [execOp, go_sem, t74, t78]
                  first | done | exact hC | exact ⟨hC, rfl⟩ | (refine ⟨hC, ?_⟩; simp [Act.put])
                · intro a W hC _ _ he hdep
                  obtain ⟨_, t79, rfl⟩ : ∃ v, a.tmps[79]? = some v ∧ v = .pointer (some ⟨g, off + k * 4 + 3, none⟩) := hdep ⟨13, .data⟩ (by simp) (by rfl) _ _ rfl rfl
                  obtain ⟨_, t74, rfl⟩ : ∃ v, a.tmps[74]? = some v ∧ v = .bool false := hdep ⟨8, .guard⟩ (by simp) (by rfl) _ _ rfl rfl
                  rw [if_pos (wanted_yes rfl (yielded_slot (t := 74) rfl t74))]
                  have d3 := (hC.cell (p := ⟨g, off + k * 4 + 3, none⟩) hgw).trans r4
                  unfold Oper.wp
                  simp [execOp, go_sem, t74, t79, d3]
                  first | done | exact hC | exact ⟨hC, rfl⟩ | (refine ⟨hC, ?_⟩; simp [Act.put])
                · intro a W hC _ _ he hdep
                  obtain ⟨_, t74, rfl⟩ : ∃ v, a.tmps[74]? = some v ∧ v = .bool false := hdep ⟨8, .guard⟩ (by simp) (by rfl) _ _ rfl rfl
                  rw [if_pos (wanted_yes rfl (yielded_slot (t := 74) rfl t74))]
                  have t1 := slot_else (t := 1) he (by kernel_rfl) rfl
                  have c0 := (hC.cell (p := ⟨w.heap.size, 0, none⟩) hwr).trans b0
                  have c1 := (hC.cell (p := ⟨w.heap.size, 1, none⟩) hwr).trans b1
                  have c2 := (hC.cell (p := ⟨w.heap.size, 2, none⟩) hwr).trans b2
                  have c3 := (hC.cell (p := ⟨w.heap.size, 3, none⟩) hwr).trans b3
                  have c4 := (hC.cell (p := ⟨w.heap.size, 4, none⟩) hwr).trans b4
                  have c5 := (hC.cell (p := ⟨w.heap.size, 5, none⟩) hwr).trans b5
                  have c6 := (hC.cell (p := ⟨w.heap.size, 6, none⟩) hwr).trans b6
                  unfold Oper.wp
                  simp [execOp, go_sem, t1, t74, c0, c1, c2, c3, c4, c5, c6]
                  first | done | exact hC | exact ⟨hC, rfl⟩ | (refine ⟨hC, ?_⟩; simp [Act.put])
                · intro a W hC _ _ he hdep
                  obtain ⟨_, t74, rfl⟩ : ∃ v, a.tmps[74]? = some v ∧ v = .bool false := hdep ⟨8, .guard⟩ (by simp) (by rfl) _ _ rfl rfl
                  rw [if_pos (wanted_yes rfl (yielded_slot (t := 74) rfl t74))]
                  have t5 := slot_else (t := 5) he (by kernel_rfl) rfl
                  unfold Oper.wp
                  simp [execOp, go_sem, t5, t74]
                  first | done | exact hC | exact ⟨hC, rfl⟩ | (refine ⟨hC, ?_⟩; simp [Act.put])
                · intro a W hC _ _ he hdep
                  obtain ⟨_, t81, rfl⟩ : ∃ v, a.tmps[81]? = some v ∧ v = .agg #[.int .i64 p.ep, .int .i64 p.ld, .slice (some ⟨gi, oi, none⟩) p.isr.length ci, .slice (some ⟨gk, ok, none⟩) p.kn.length ck, .slice (some ⟨g, off, none⟩) p.rs.length cr, .int .i64 p.fw, .int .i64 p.bs] := hdep ⟨15, .data⟩ (by simp) (by rfl) _ _ rfl rfl
                  obtain ⟨_, t82, rfl⟩ : ∃ v, a.tmps[82]? = some v ∧ v = .int .i64 k := hdep ⟨16, .data⟩ (by simp) (by rfl) _ _ rfl rfl
                  obtain ⟨_, t74, rfl⟩ : ∃ v, a.tmps[74]? = some v ∧ v = .bool false := hdep ⟨8, .chain⟩ (by simp) (by rfl) _ _ rfl rfl
                  rw [if_pos (wanted_yes rfl (yielded_slot (t := 74) rfl t74))]
                  unfold Oper.wp
                  simp [execOp, go_sem, t74, t81, t82]
                  refine (logOf_any p _ _ _ us k _ (RdP.below HRr.out (Nat.le_refl _) hC) HSM2.out hlt (by omega)).mono ?_
                  rintro e W2 ⟨v3, rfl, hv3, hb3⟩
                  obtain ⟨a3, c3, rfl⟩ := hv3.shape
                  exact ⟨bstep hC hb3, _, ⟨a3, c3, rfl⟩, rfl⟩
                · intro a W hC _ _ he hdep
                  obtain ⟨_, t83, av, cv, rfl⟩ : ∃ v, a.tmps[83]? = some v ∧ ∃ av cv, v = .slice av (p.at k).es.length cv := hdep ⟨17, .data⟩ (by simp) (by rfl) _ _ rfl rfl
                  obtain ⟨_, t74, rfl⟩ : ∃ v, a.tmps[74]? = some v ∧ v = .bool false := hdep ⟨8, .guard⟩ (by simp) (by rfl) _ _ rfl rfl
                  rw [if_pos (wanted_yes rfl (yielded_slot (t := 74) rfl t74))]
                  unfold Oper.wp
                  simp [execOp, go_sem, t74, t83]
                  first | done | exact hC | exact ⟨hC, rfl⟩ | (refine ⟨hC, ?_⟩; simp [Act.put])
                · intro a W hC _ _ he hdep
                  obtain ⟨_, t80, rfl⟩ : ∃ v, a.tmps[80]? = some v ∧ v = .int .i64 (p.at k).h := hdep ⟨14, .data⟩ (by simp) (by rfl) _ _ rfl rfl
                  obtain ⟨_, t84, rfl⟩ : ∃ v, a.tmps[84]? = some v ∧ v = .int .i64 (p.at k).es.length := hdep ⟨18, .data⟩ (by simp) (by rfl) _ _ rfl rfl
                  obtain ⟨_, t83, av, cv, rfl⟩ : ∃ v, a.tmps[83]? = some v ∧ ∃ av cv, v = .slice av (p.at k).es.length cv := hdep ⟨17, .chain⟩ (by simp) (by rfl) _ _ rfl rfl
                  obtain ⟨_, t74, rfl⟩ : ∃ v, a.tmps[74]? = some v ∧ v = .bool false := hdep ⟨8, .guard⟩ (by simp) (by rfl) _ _ rfl rfl
                  rw [if_pos (wanted_yes rfl (yielded_slot (t := 74) rfl t74))]
                  unfold Oper.wp
                  simp [execOp, go_sem, t74, t80, t83, t84]
                  refine (In_any _ _ _ _).mono ?_
                  rintro e W2 ⟨rfl, rfl⟩
                  rw [hcH]
                  exact ⟨hC, rfl⟩
                · intro a W hC _ _ he hdep
                  obtain ⟨_, t85, rfl⟩ : ∃ v, a.tmps[85]? = some v ∧ v = .bool true := hdep ⟨19, .data⟩ (by simp) (by rfl) _ _ rfl rfl
                  obtain ⟨_, t74, rfl⟩ : ∃ v, a.tmps[74]? = some v ∧ v = .bool false := hdep ⟨8, .guard⟩ (by simp) (by rfl) _ _ rfl rfl
                  rw [if_pos (wanted_yes rfl (yielded_slot (t := 74) rfl t74))]
                  unfold Oper.wp
                  simp [execOp, go_sem, t74, t85]
                  first | done | exact hC | exact ⟨hC, rfl⟩ | (refine ⟨hC, ?_⟩; simp [Act.put])
                · intro a W hC _ _ he hdep
                  obtain ⟨_, t74, rfl⟩ : ∃ v, a.tmps[74]? = some v ∧ v = .bool false := hdep ⟨8, .data⟩ (by simp) (by rfl) _ _ rfl rfl
                  obtain ⟨_, t86, rfl⟩ : ∃ v, a.tmps[86]? = some v ∧ v = .bool false := hdep ⟨20, .data⟩ (by simp) (by rfl) _ _ rfl rfl
                  rw [if_pos (wanted_free rfl)]
                  unfold Oper.wp
                  simp [execOp, go_sem, t74, t86]
                  first | done | exact hC | exact ⟨hC, rfl⟩ | (refine ⟨hC, ?_⟩; simp [Act.put])
                · intro a W hC _ _ he hdep
                  obtain ⟨_, t87, rfl⟩ : ∃ v, a.tmps[87]? = some v ∧ v = .bool false := hdep ⟨21, .data⟩ (by simp) (by rfl) _ _ rfl rfl
                  obtain ⟨_, t85, rfl⟩ : ∃ v, a.tmps[85]? = some v ∧ v = .bool true := hdep ⟨19, .chain⟩ (by simp) (by rfl) _ _ rfl rfl
                  rw [if_pos (wanted_free rfl)]
                  unfold Oper.wp
                  simp [execOp, go_sem, t85, t87]
                  first | done | exact hC | exact ⟨hC, rfl⟩ | (refine ⟨hC, ?_⟩; simp [Act.put])
                · intro a W hC _ _ he hdep
                  obtain ⟨_, t88, rfl⟩ : ∃ v, a.tmps[88]? = some v ∧ v = .bool false := hdep ⟨22, .guard⟩ (by simp) (by rfl) _ _ rfl rfl
                  rw [if_pos (wanted_yes rfl (yielded_slot (t := 88) rfl t88))]
                  have t1 := slot_else (t := 1) he (by kernel_rfl) rfl
                  unfold Oper.wp
                  simp [execOp, go_sem, t1, t88]
                  first | done | exact hC | exact ⟨hC, rfl⟩ | (refine ⟨hC, ?_⟩; simp [Act.put])
                · intro a W hC _ _ he hdep
                  obtain ⟨_, t89, rfl⟩ : ∃ v, a.tmps[89]? = some v ∧ v = .pointer (some ⟨w.heap.size, 3, none⟩) := hdep ⟨23, .data⟩ (by simp) (by rfl) _ _ rfl rfl
                  obtain ⟨_, t88, rfl⟩ : ∃ v, a.tmps[88]? = some v ∧ v = .bool false := hdep ⟨22, .guard⟩ (by simp) (by rfl) _ _ rfl rfl
                  rw [if_pos (wanted_yes rfl (yielded_slot (t := 88) rfl t88))]
                  have c3 := (hC.cell (p := ⟨w.heap.size, 3, none⟩) hwr).trans b3
                  unfold Oper.wp
                  simp [execOp, go_sem, t88, t89, c3]
                  first | done | exact hC | exact ⟨hC, rfl⟩ | (refine ⟨hC, ?_⟩; simp [Act.put])
                · intro a W hC _ _ he hdep
                  obtain ⟨_, t88, rfl⟩ : ∃ v, a.tmps[88]? = some v ∧ v = .bool false := hdep ⟨22, .guard⟩ (by simp) (by rfl) _ _ rfl rfl
                  rw [if_pos (wanted_yes rfl (yielded_slot (t := 88) rfl t88))]
                  have t5 := slot_else (t := 5) he (by kernel_rfl) rfl
                  unfold Oper.wp
                  simp [execOp, go_sem, t5, t88]
                  first | done | exact hC | exact ⟨hC, rfl⟩ | (refine ⟨hC, ?_⟩; simp [Act.put])
                · intro a W hC _ _ he hdep
                  obtain ⟨_, t90, rfl⟩ : ∃ v, a.tmps[90]? = some v ∧ v = .slice (some ⟨gk, ok, none⟩) p.kn.length ck := hdep ⟨24, .data⟩ (by simp) (by rfl) _ _ rfl rfl
                  obtain ⟨_, t91, rfl⟩ : ∃ v, a.tmps[91]? = some v ∧ v = .int .i64 k := hdep ⟨25, .data⟩ (by simp) (by rfl) _ _ rfl rfl
                  obtain ⟨_, t88, rfl⟩ : ∃ v, a.tmps[88]? = some v ∧ v = .bool false := hdep ⟨22, .guard⟩ (by simp) (by rfl) _ _ rfl rfl
                  rw [if_pos (wanted_yes rfl (yielded_slot (t := 88) rfl t88))]
                  unfold Oper.wp
                  simp [execOp, go_sem, t88, t90, t91, hkk]
                  first | done | exact hC | exact ⟨hC, rfl⟩ | (refine ⟨hC, ?_⟩; simp [Act.put])
                · intro a W hC _ _ he hdep
                  obtain ⟨_, t92, rfl⟩ : ∃ v, a.tmps[92]? = some v ∧ v = .pointer (some ⟨gk, ok + k, none⟩) := hdep ⟨26, .data⟩ (by simp) (by rfl) _ _ rfl rfl
                  obtain ⟨_, t88, rfl⟩ : ∃ v, a.tmps[88]? = some v ∧ v = .bool false := hdep ⟨22, .guard⟩ (by simp) (by rfl) _ _ rfl rfl
                  rw [if_pos (wanted_yes rfl (yielded_slot (t := 88) rfl t88))]
                  have d4 := (hC.cell (p := ⟨gk, ok + k, none⟩) hkw).trans n0
                  unfold Oper.wp
                  simp [execOp, go_sem, t88, t92, d4]
                  first | done | exact hC | exact ⟨hC, rfl⟩ | (refine ⟨hC, ?_⟩; simp [Act.put])
                · intro a W hC _ _ he hdep
                  obtain ⟨_, t93, rfl⟩ : ∃ v, a.tmps[93]? = some v ∧ v = .int .i64 kk := hdep ⟨27, .data⟩ (by simp) (by rfl) _ _ rfl rfl
                  obtain ⟨_, t88, rfl⟩ : ∃ v, a.tmps[88]? = some v ∧ v = .bool false := hdep ⟨22, .chain⟩ (by simp) (by rfl) _ _ rfl rfl
                  rw [if_pos (wanted_yes rfl (yielded_slot (t := 88) rfl t88))]
                  unfold Oper.wp
                  simp [execOp, go_sem, t88, t93]
                  refine (In_any _ _ _ _).mono ?_
                  rintro e W2 ⟨rfl, rfl⟩
                  rw [hcK]
                  exact ⟨hC, rfl⟩
                · intro a W hC _ _ he hdep
                  obtain ⟨_, t94, rfl⟩ : ∃ v, a.tmps[94]? = some v ∧ v = .bool true := hdep ⟨28, .data⟩ (by simp) (by rfl) _ _ rfl rfl
                  obtain ⟨_, t88, rfl⟩ : ∃ v, a.tmps[88]? = some v ∧ v = .bool false := hdep ⟨22, .guard⟩ (by simp) (by rfl) _ _ rfl rfl
                  rw [if_pos (wanted_yes rfl (yielded_slot (t := 88) rfl t88))]
                  unfold Oper.wp
                  simp [execOp, go_sem, t88, t94]
                  first | done | exact hC | exact ⟨hC, rfl⟩ | (refine ⟨hC, ?_⟩; simp [Act.put])
                · intro a W hC _ _ he hdep
                  obtain ⟨_, t88, rfl⟩ : ∃ v, a.tmps[88]? = some v ∧ v = .bool false := hdep ⟨22, .data⟩ (by simp) (by rfl) _ _ rfl rfl
                  obtain ⟨_, t95, rfl⟩ : ∃ v, a.tmps[95]? = some v ∧ v = .bool false := hdep ⟨29, .data⟩ (by simp) (by rfl) _ _ rfl rfl
                  rw [if_pos (wanted_free rfl)]
                  unfold Oper.wp
                  simp [execOp, go_sem, t88, t95]
                  first | done | exact hC | exact ⟨hC, rfl⟩ | (refine ⟨hC, ?_⟩; simp [Act.put])
              · intro vs W hC hS
                have h30 : vs 30 = .bool false := hS 30 (by simp)
                simp [over, h30, Act.put]
                clear b0 b1 b2 b3 b4 b5 b6 r1 r2 r3 r4 n0 m0 hS h30
                go_wp2
                go_roundw
                case rel => exact ⟨k + 1, by omega, by rw [HSO.out]; simp, by go_num, HO1, hb.trans (hC.mono hb.size)⟩
                case measure => simp [intOf]; omega
          | false =>
            have HV : Hid (p.mayB = false) := HNO.out (by unfold Rep.okB; rw [hcK]; simp)
            cases hso : p.some k with
            | true =>
              rw [hso] at HSO
              go_wp2
              refine wp_region_free (C := fun W => Below wr.heap.size wr W) (S := fun i v => match i with | 0 => v = .pointer (some ⟨w.heap.size, 4, none⟩) | 1 => v = .slice (some ⟨g, off, none⟩) p.rs.length cr | 2 => v = .int .i64 k | 3 => v = .pointer (some ⟨g, off + k * 4, none⟩) | 4 => v = .pointer (some ⟨g, off + k * 4 + 1, none⟩) | 5 => v = .agg #[us k, .int .i64 (p.at k).y] | 6 => v = .int .i64 0 | 7 => v = .bool false | 8 => v = .bool false | 9 => v = .pointer (some ⟨w.heap.size, 4, none⟩) | 10 => v = .slice (some ⟨g, off, none⟩) p.rs.length cr | 11 => v = .int .i64 k | 12 => v = .pointer (some ⟨g, off + k * 4, none⟩) | 13 => v = .pointer (some ⟨g, off + k * 4 + 3, none⟩) | 14 => v = .int .i64 (p.at k).h | 15 => v = .agg #[.int .i64 p.ep, .int .i64 p.ld, .slice (some ⟨gi, oi, none⟩) p.isr.length ci, .slice (some ⟨gk, ok, none⟩) p.kn.length ck, .slice (some ⟨g, off, none⟩) p.rs.length cr, .int .i64 p.fw, .int .i64 p.bs] | 16 => v = .int .i64 k | 17 => ∃ av cv, v = .slice av (p.at k).es.length cv | 18 => v = .int .i64 (p.at k).es.length | 19 => v = .bool true | 20 => v = .bool false | 21 => v = .bool false | 22 => v = .bool false | 23 => v = .pointer (some ⟨w.heap.size, 3, none⟩) | 24 => v = .slice (some ⟨gk, ok, none⟩) p.kn.length ck | 25 => v = .int .i64 k | 26 => v = .pointer (some ⟨gk, ok + k, none⟩) | 27 => v = .int .i64 kk | 28 => v = .bool false | 29 => v = .bool true | 30 => v = .bool true | _ => True) (by kernel_rfl) (regionB_spec (n := 120) (by kernel_rfl)).1 (regionB_spec (n := 120) (by kernel_rfl)).2.1 (free_of (regionB_spec (n := 120) (by kernel_rfl)).2.2) ((Below.refl _ _).drew) (each_at ?_) ?_
              · refine ⟨?_, ?_, ?_, ?_, ?_, ?_, ?_, ?_, ?_, ?_, ?_, ?_, ?_, ?_, ?_, ?_, ?_, ?_, ?_, ?_, ?_, ?_, ?_, ?_, ?_, ?_, ?_, ?_, ?_, ?_, ?_, trivial⟩
                · intro a W hC _ _ he hdep
                  rw [if_pos (wanted_free rfl)]
                  have t1 := slot_else (t := 1) he (by kernel_rfl) rfl
                  unfold Oper.wp
                  simp [execOp, go_sem, t1]
                  first | done | exact hC | exact ⟨hC, rfl⟩ | (refine ⟨hC, ?_⟩; simp [Act.put])
                · intro a W hC _ _ he hdep
                  obtain ⟨_, t66, rfl⟩ : ∃ v, a.tmps[66]? = some v ∧ v = .pointer (some ⟨w.heap.size, 4, none⟩) := hdep ⟨0, .data⟩ (by simp) (by rfl) _ _ rfl rfl
                  rw [if_pos (wanted_free rfl)]
                  have c4 := (hC.cell (p := ⟨w.heap.size, 4, none⟩) hwr).trans b4
                  unfold Oper.wp
                  simp [execOp, go_sem, t66, c4]
                  first | done | exact hC | exact ⟨hC, rfl⟩ | (refine ⟨hC, ?_⟩; simp [Act.put])
                · intro a W hC _ _ he hdep
                  rw [if_pos (wanted_free rfl)]
                  have t5 := slot_else (t := 5) he (by kernel_rfl) rfl
                  unfold Oper.wp
                  simp [execOp, go_sem, t5]
                  first | done | exact hC | exact ⟨hC, rfl⟩ | (refine ⟨hC, ?_⟩; simp [Act.put])
                · intro a W hC _ _ he hdep
                  obtain ⟨_, t67, rfl⟩ : ∃ v, a.tmps[67]? = some v ∧ v = .slice (some ⟨g, off, none⟩) p.rs.length cr := hdep ⟨1, .data⟩ (by simp) (by rfl) _ _ rfl rfl
                  obtain ⟨_, t68, rfl⟩ : ∃ v, a.tmps[68]? = some v ∧ v = .int .i64 k := hdep ⟨2, .data⟩ (by simp) (by rfl) _ _ rfl rfl
                  rw [if_pos (wanted_free rfl)]
                  unfold Oper.wp
                  simp [execOp, go_sem, t67, t68, hlt]
                  first | done | exact hC | exact ⟨hC, rfl⟩ | (refine ⟨hC, ?_⟩; simp [Act.put])
                · intro a W hC _ _ he hdep
                  obtain ⟨_, t69, rfl⟩ : ∃ v, a.tmps[69]? = some v ∧ v = .pointer (some ⟨g, off + k * 4, none⟩) := hdep ⟨3, .data⟩ (by simp) (by rfl) _ _ rfl rfl
                  rw [if_pos (wanted_free rfl)]
                  unfold Oper.wp
                  simp [execOp, go_sem, t69]
                  first | done | exact hC | exact ⟨hC, rfl⟩ | (refine ⟨hC, ?_⟩; simp [Act.put])
                · intro a W hC _ _ he hdep
                  obtain ⟨_, t70, rfl⟩ : ∃ v, a.tmps[70]? = some v ∧ v = .pointer (some ⟨g, off + k * 4 + 1, none⟩) := hdep ⟨4, .data⟩ (by simp) (by rfl) _ _ rfl rfl
                  rw [if_pos (wanted_free rfl)]
                  have d1 := (hC.cell (p := ⟨g, off + k * 4 + 1, none⟩) hgw).trans r2
                  have d2 := (hC.cell (p := ⟨g, off + k * 4 + 2, none⟩) hgw).trans r3
                  unfold Oper.wp
                  simp [execOp, go_sem, t70, d1, d2]
                  first | done | exact hC | exact ⟨hC, rfl⟩ | (refine ⟨hC, ?_⟩; simp [Act.put])
                · intro a W hC _ _ he hdep
                  obtain ⟨_, t71, rfl⟩ : ∃ v, a.tmps[71]? = some v ∧ v = .agg #[us k, .int .i64 (p.at k).y] := hdep ⟨5, .data⟩ (by simp) (by rfl) _ _ rfl rfl
                  rw [if_pos (wanted_free rfl)]
                  unfold Oper.wp
                  simp [execOp, go_sem, t71]
                  refine (logFault_any _ _ _ _ HSM (Rd.below HR0.out (Nat.le_refl _) hC)).mono ?_
                  rintro e W2 ⟨rfl, hb2⟩
                  rw [hl0]
                  exact ⟨bstep hC hb2, rfl⟩
                · intro a W hC _ _ he hdep
                  obtain ⟨_, t72, rfl⟩ : ∃ v, a.tmps[72]? = some v ∧ v = .int .i64 0 := hdep ⟨6, .data⟩ (by simp) (by rfl) _ _ rfl rfl
                  rw [if_pos (wanted_free rfl)]
                  unfold Oper.wp
                  simp [execOp, go_sem, t72]
                  first | done | exact hC | exact ⟨hC, rfl⟩ | (refine ⟨hC, ?_⟩; simp [Act.put])
                · intro a W hC _ _ he hdep
                  obtain ⟨_, t73, rfl⟩ : ∃ v, a.tmps[73]? = some v ∧ v = .bool false := hdep ⟨7, .data⟩ (by simp) (by rfl) _ _ rfl rfl
                  obtain ⟨_, t72, rfl⟩ : ∃ v, a.tmps[72]? = some v ∧ v = .int .i64 0 := hdep ⟨6, .chain⟩ (by simp) (by rfl) _ _ rfl rfl
                  rw [if_pos (wanted_free rfl)]
                  unfold Oper.wp
                  simp [execOp, go_sem, t72, t73]
                  first | done | exact hC | exact ⟨hC, rfl⟩ | (refine ⟨hC, ?_⟩; simp [Act.put])
                · intro a W hC _ _ he hdep
                  obtain ⟨_, t74, rfl⟩ : ∃ v, a.tmps[74]? = some v ∧ v = .bool false := hdep ⟨8, .guard⟩ (by simp) (by rfl) _ _ rfl rfl
                  rw [if_pos (wanted_yes rfl (yielded_slot (t := 74) rfl t74))]
                  have t1 := slot_else (t := 1) he (by kernel_rfl) rfl
                  unfold Oper.wp
                  simp [execOp, go_sem, t1, t74]
                  first | done | exact hC | exact ⟨hC, rfl⟩ | (refine ⟨hC, ?_⟩; simp [Act.put])
                · intro a W hC _ _ he hdep
                  obtain ⟨_, t75, rfl⟩ : ∃ v, a.tmps[75]? = some v ∧ v = .pointer (some ⟨w.heap.size, 4, none⟩) := hdep ⟨9, .data⟩ (by simp) (by rfl) _ _ rfl rfl
                  obtain ⟨_, t74, rfl⟩ : ∃ v, a.tmps[74]? = some v ∧ v = .bool false := hdep ⟨8, .guard⟩ (by simp) (by rfl) _ _ rfl rfl
                  rw [if_pos (wanted_yes rfl (yielded_slot (t := 74) rfl t74))]
                  have c4 := (hC.cell (p := ⟨w.heap.size, 4, none⟩) hwr).trans b4
                  unfold Oper.wp
                  simp [execOp, go_sem, t74, t75, c4]
                  first | done | exact hC | exact ⟨hC, rfl⟩ | (refine ⟨hC, ?_⟩; simp [Act.put])
                · intro a W hC _ _ he hdep
                  obtain ⟨_, t74, rfl⟩ : ∃ v, a.tmps[74]? = some v ∧ v = .bool false := hdep ⟨8, .guard⟩ (by simp) (by rfl) _ _ rfl rfl
                  rw [if_pos (wanted_yes rfl (yielded_slot (t := 74) rfl t74))]
                  have t5 := slot_else (t := 5) he (by kernel_rfl) rfl
                  unfold Oper.wp
                  simp [execOp, go_sem, t5, t74]
                  first | done | exact hC | exact ⟨hC, rfl⟩ | (refine ⟨hC, ?_⟩; simp [Act.put])
                · intro a W hC _ _ he hdep
                  obtain ⟨_, t76, rfl⟩ : ∃ v, a.tmps[76]? = some v ∧ v = .slice (some ⟨g, off, none⟩) p.rs.length cr := hdep ⟨10, .data⟩ (by simp) (by rfl) _ _ rfl rfl
                  obtain ⟨_, t77, rfl⟩ : ∃ v, a.tmps[77]? = some v ∧ v = .int .i64 k := hdep ⟨11, .data⟩ (by simp) (by rfl) _ _ rfl rfl
                  obtain ⟨_, t74, rfl⟩ : ∃ v, a.tmps[74]? = some v ∧ v = .bool false := hdep ⟨8, .guard⟩ (by simp) (by rfl) _ _ rfl rfl
                  rw [if_pos (wanted_yes rfl (yielded_slot (t := 74) rfl t74))]
                  unfold Oper.wp
                  simp [execOp, go_sem, t74, t76, t77, hlt]
                  first | done | exact hC | exact ⟨hC, rfl⟩ | (refine ⟨hC, ?_⟩; simp [Act.put])
                · intro a W hC _ _ he hdep
                  obtain ⟨_, t78, rfl⟩ : ∃ v, a.tmps[78]? = some v ∧ v = .pointer (some ⟨g, off + k * 4, none⟩) := hdep ⟨12, .data⟩ (by simp) (by rfl) _ _ rfl rfl
                  obtain ⟨_, t74, rfl⟩ : ∃ v, a.tmps[74]? = some v ∧ v = .bool false := hdep ⟨8, .guard⟩ (by simp) (by rfl) _ _ rfl rfl
                  rw [if_pos (wanted_yes rfl (yielded_slot (t := 74) rfl t74))]
                  unfold Oper.wp
                  simp [execOp, go_sem, t74, t78]
                  first | done | exact hC | exact ⟨hC, rfl⟩ | (refine ⟨hC, ?_⟩; simp [Act.put])
                · intro a W hC _ _ he hdep
                  obtain ⟨_, t79, rfl⟩ : ∃ v, a.tmps[79]? = some v ∧ v = .pointer (some ⟨g, off + k * 4 + 3, none⟩) := hdep ⟨13, .data⟩ (by simp) (by rfl) _ _ rfl rfl
                  obtain ⟨_, t74, rfl⟩ : ∃ v, a.tmps[74]? = some v ∧ v = .bool false := hdep ⟨8, .guard⟩ (by simp) (by rfl) _ _ rfl rfl
                  rw [if_pos (wanted_yes rfl (yielded_slot (t := 74) rfl t74))]
                  have d3 := (hC.cell (p := ⟨g, off + k * 4 + 3, none⟩) hgw).trans r4
                  unfold Oper.wp
                  simp [execOp, go_sem, t74, t79, d3]
                  first | done | exact hC | exact ⟨hC, rfl⟩ | (refine ⟨hC, ?_⟩; simp [Act.put])
                · intro a W hC _ _ he hdep
                  obtain ⟨_, t74, rfl⟩ : ∃ v, a.tmps[74]? = some v ∧ v = .bool false := hdep ⟨8, .guard⟩ (by simp) (by rfl) _ _ rfl rfl
                  rw [if_pos (wanted_yes rfl (yielded_slot (t := 74) rfl t74))]
                  have t1 := slot_else (t := 1) he (by kernel_rfl) rfl
                  have c0 := (hC.cell (p := ⟨w.heap.size, 0, none⟩) hwr).trans b0
                  have c1 := (hC.cell (p := ⟨w.heap.size, 1, none⟩) hwr).trans b1
                  have c2 := (hC.cell (p := ⟨w.heap.size, 2, none⟩) hwr).trans b2
                  have c3 := (hC.cell (p := ⟨w.heap.size, 3, none⟩) hwr).trans b3
                  have c4 := (hC.cell (p := ⟨w.heap.size, 4, none⟩) hwr).trans b4
                  have c5 := (hC.cell (p := ⟨w.heap.size, 5, none⟩) hwr).trans b5
                  have c6 := (hC.cell (p := ⟨w.heap.size, 6, none⟩) hwr).trans b6
                  unfold Oper.wp
                  simp [execOp, go_sem, t1, t74, c0, c1, c2, c3, c4, c5, c6]
                  first | done | exact hC | exact ⟨hC, rfl⟩ | (refine ⟨hC, ?_⟩; simp [Act.put])
                · intro a W hC _ _ he hdep
                  obtain ⟨_, t74, rfl⟩ : ∃ v, a.tmps[74]? = some v ∧ v = .bool false := hdep ⟨8, .guard⟩ (by simp) (by rfl) _ _ rfl rfl
                  rw [if_pos (wanted_yes rfl (yielded_slot (t := 74) rfl t74))]
                  have t5 := slot_else (t := 5) he (by kernel_rfl) rfl
                  unfold Oper.wp
                  simp [execOp, go_sem, t5, t74]
                  first | done | exact hC | exact ⟨hC, rfl⟩ | (refine ⟨hC, ?_⟩; simp [Act.put])
                · intro a W hC _ _ he hdep
                  obtain ⟨_, t81, rfl⟩ : ∃ v, a.tmps[81]? = some v ∧ v = .agg #[.int .i64 p.ep, .int .i64 p.ld, .slice (some ⟨gi, oi, none⟩) p.isr.length ci, .slice (some ⟨gk, ok, none⟩) p.kn.length ck, .slice (some ⟨g, off, none⟩) p.rs.length cr, .int .i64 p.fw, .int .i64 p.bs] := hdep ⟨15, .data⟩ (by simp) (by rfl) _ _ rfl rfl
                  obtain ⟨_, t82, rfl⟩ : ∃ v, a.tmps[82]? = some v ∧ v = .int .i64 k := hdep ⟨16, .data⟩ (by simp) (by rfl) _ _ rfl rfl
                  obtain ⟨_, t74, rfl⟩ : ∃ v, a.tmps[74]? = some v ∧ v = .bool false := hdep ⟨8, .chain⟩ (by simp) (by rfl) _ _ rfl rfl
                  rw [if_pos (wanted_yes rfl (yielded_slot (t := 74) rfl t74))]
                  unfold Oper.wp
                  simp [execOp, go_sem, t74, t81, t82]
                  refine (logOf_any p _ _ _ us k _ (RdP.below HRr.out (Nat.le_refl _) hC) HSM2.out hlt (by omega)).mono ?_
                  rintro e W2 ⟨v3, rfl, hv3, hb3⟩
                  obtain ⟨a3, c3, rfl⟩ := hv3.shape
                  exact ⟨bstep hC hb3, _, ⟨a3, c3, rfl⟩, rfl⟩
                · intro a W hC _ _ he hdep
                  obtain ⟨_, t83, av, cv, rfl⟩ : ∃ v, a.tmps[83]? = some v ∧ ∃ av cv, v = .slice av (p.at k).es.length cv := hdep ⟨17, .data⟩ (by simp) (by rfl) _ _ rfl rfl
                  obtain ⟨_, t74, rfl⟩ : ∃ v, a.tmps[74]? = some v ∧ v = .bool false := hdep ⟨8, .guard⟩ (by simp) (by rfl) _ _ rfl rfl
                  rw [if_pos (wanted_yes rfl (yielded_slot (t := 74) rfl t74))]
                  unfold Oper.wp
                  simp [execOp, go_sem, t74, t83]
                  first | done | exact hC | exact ⟨hC, rfl⟩ | (refine ⟨hC, ?_⟩; simp [Act.put])
                · intro a W hC _ _ he hdep
                  obtain ⟨_, t80, rfl⟩ : ∃ v, a.tmps[80]? = some v ∧ v = .int .i64 (p.at k).h := hdep ⟨14, .data⟩ (by simp) (by rfl) _ _ rfl rfl
                  obtain ⟨_, t84, rfl⟩ : ∃ v, a.tmps[84]? = some v ∧ v = .int .i64 (p.at k).es.length := hdep ⟨18, .data⟩ (by simp) (by rfl) _ _ rfl rfl
                  obtain ⟨_, t83, av, cv, rfl⟩ : ∃ v, a.tmps[83]? = some v ∧ ∃ av cv, v = .slice av (p.at k).es.length cv := hdep ⟨17, .chain⟩ (by simp) (by rfl) _ _ rfl rfl
                  obtain ⟨_, t74, rfl⟩ : ∃ v, a.tmps[74]? = some v ∧ v = .bool false := hdep ⟨8, .guard⟩ (by simp) (by rfl) _ _ rfl rfl
                  rw [if_pos (wanted_yes rfl (yielded_slot (t := 74) rfl t74))]
                  unfold Oper.wp
                  simp [execOp, go_sem, t74, t80, t83, t84]
                  refine (In_any _ _ _ _).mono ?_
                  rintro e W2 ⟨rfl, rfl⟩
                  rw [hcH]
                  exact ⟨hC, rfl⟩
                · intro a W hC _ _ he hdep
                  obtain ⟨_, t85, rfl⟩ : ∃ v, a.tmps[85]? = some v ∧ v = .bool true := hdep ⟨19, .data⟩ (by simp) (by rfl) _ _ rfl rfl
                  obtain ⟨_, t74, rfl⟩ : ∃ v, a.tmps[74]? = some v ∧ v = .bool false := hdep ⟨8, .guard⟩ (by simp) (by rfl) _ _ rfl rfl
                  rw [if_pos (wanted_yes rfl (yielded_slot (t := 74) rfl t74))]
                  unfold Oper.wp
                  simp [execOp, go_sem, t74, t85]
                  first | done | exact hC | exact ⟨hC, rfl⟩ | (refine ⟨hC, ?_⟩; simp [Act.put])
                · intro a W hC _ _ he hdep
                  obtain ⟨_, t74, rfl⟩ : ∃ v, a.tmps[74]? = some v ∧ v = .bool false := hdep ⟨8, .data⟩ (by simp) (by rfl) _ _ rfl rfl
                  obtain ⟨_, t86, rfl⟩ : ∃ v, a.tmps[86]? = some v ∧ v = .bool false := hdep ⟨20, .data⟩ (by simp) (by rfl) _ _ rfl rfl
                  rw [if_pos (wanted_free rfl)]
                  unfold Oper.wp
                  simp [execOp, go_sem, t74, t86]
                  first | done | exact hC | exact ⟨hC, rfl⟩ | (refine ⟨hC, ?_⟩; simp [Act.put])
                · intro a W hC _ _ he hdep
                  obtain ⟨_, t87, rfl⟩ : ∃ v, a.tmps[87]? = some v ∧ v = .bool false := hdep ⟨21, .data⟩ (by simp) (by rfl) _ _ rfl rfl
                  obtain ⟨_, t85, rfl⟩ : ∃ v, a.tmps[85]? = some v ∧ v = .bool true := hdep ⟨19, .chain⟩ (by simp) (by rfl) _ _ rfl rfl
                  rw [if_pos (wanted_free rfl)]
                  unfold Oper.wp
                  simp [execOp, go_sem, t85, t87]
                  first | done | exact hC | exact ⟨hC, rfl⟩ | (refine ⟨hC, ?_⟩; simp [Act.put])
                · intro a W hC _ _ he hdep
                  obtain ⟨_, t88, rfl⟩ : ∃ v, a.tmps[88]? = some v ∧ v = .bool false := hdep ⟨22, .guard⟩ (by simp) (by rfl) _ _ rfl rfl
                  rw [if_pos (wanted_yes rfl (yielded_slot (t := 88) rfl t88))]
                  have t1 := slot_else (t := 1) he (by kernel_rfl) rfl
                  unfold Oper.wp
                  simp [execOp, go_sem, t1, t88]
                  first | done | exact hC | exact ⟨hC, rfl⟩ | (refine ⟨hC, ?_⟩; simp [Act.put])
                · intro a W hC _ _ he hdep
                  obtain ⟨_, t89, rfl⟩ : ∃ v, a.tmps[89]? = some v ∧ v = .pointer (some ⟨w.heap.size, 3, none⟩) := hdep ⟨23, .data⟩ (by simp) (by rfl) _ _ rfl rfl
                  obtain ⟨_, t88, rfl⟩ : ∃ v, a.tmps[88]? = some v ∧ v = .bool false := hdep ⟨22, .guard⟩ (by simp) (by rfl) _ _ rfl rfl
                  rw [if_pos (wanted_yes rfl (yielded_slot (t := 88) rfl t88))]
                  have c3 := (hC.cell (p := ⟨w.heap.size, 3, none⟩) hwr).trans b3
                  unfold Oper.wp
                  simp [execOp, go_sem, t88, t89, c3]
                  first | done | exact hC | exact ⟨hC, rfl⟩ | (refine ⟨hC, ?_⟩; simp [Act.put])
                · intro a W hC _ _ he hdep
                  obtain ⟨_, t88, rfl⟩ : ∃ v, a.tmps[88]? = some v ∧ v = .bool false := hdep ⟨22, .guard⟩ (by simp) (by rfl) _ _ rfl rfl
                  rw [if_pos (wanted_yes rfl (yielded_slot (t := 88) rfl t88))]
                  have t5 := slot_else (t := 5) he (by kernel_rfl) rfl
                  unfold Oper.wp
                  simp [execOp, go_sem, t5, t88]
                  first | done | exact hC | exact ⟨hC, rfl⟩ | (refine ⟨hC, ?_⟩; simp [Act.put])
                · intro a W hC _ _ he hdep
                  obtain ⟨_, t90, rfl⟩ : ∃ v, a.tmps[90]? = some v ∧ v = .slice (some ⟨gk, ok, none⟩) p.kn.length ck := hdep ⟨24, .data⟩ (by simp) (by rfl) _ _ rfl rfl
                  obtain ⟨_, t91, rfl⟩ : ∃ v, a.tmps[91]? = some v ∧ v = .int .i64 k := hdep ⟨25, .data⟩ (by simp) (by rfl) _ _ rfl rfl
                  obtain ⟨_, t88, rfl⟩ : ∃ v, a.tmps[88]? = some v ∧ v = .bool false := hdep ⟨22, .guard⟩ (by simp) (by rfl) _ _ rfl rfl
                  rw [if_pos (wanted_yes rfl (yielded_slot (t := 88) rfl t88))]
                  unfold Oper.wp
                  simp [execOp, go_sem, t88, t90, t91, hkk]
                  first | done | exact hC | exact ⟨hC, rfl⟩ | (refine ⟨hC, ?_⟩; simp [Act.put])
                · intro a W hC _ _ he hdep
                  obtain ⟨_, t92, rfl⟩ : ∃ v, a.tmps[92]? = some v ∧ v = .pointer (some ⟨gk, ok + k, none⟩) := hdep ⟨26, .data⟩ (by simp) (by rfl) _ _ rfl rfl
                  obtain ⟨_, t88, rfl⟩ : ∃ v, a.tmps[88]? = some v ∧ v = .bool false := hdep ⟨22, .guard⟩ (by simp) (by rfl) _ _ rfl rfl
                  rw [if_pos (wanted_yes rfl (yielded_slot (t := 88) rfl t88))]
                  have d4 := (hC.cell (p := ⟨gk, ok + k, none⟩) hkw).trans n0
                  unfold Oper.wp
                  simp [execOp, go_sem, t88, t92, d4]
                  first | done | exact hC | exact ⟨hC, rfl⟩ | (refine ⟨hC, ?_⟩; simp [Act.put])
                · intro a W hC _ _ he hdep
                  obtain ⟨_, t93, rfl⟩ : ∃ v, a.tmps[93]? = some v ∧ v = .int .i64 kk := hdep ⟨27, .data⟩ (by simp) (by rfl) _ _ rfl rfl
                  obtain ⟨_, t88, rfl⟩ : ∃ v, a.tmps[88]? = some v ∧ v = .bool false := hdep ⟨22, .chain⟩ (by simp) (by rfl) _ _ rfl rfl
                  rw [if_pos (wanted_yes rfl (yielded_slot (t := 88) rfl t88))]
                  unfold Oper.wp
                  simp [execOp, go_sem, t88, t93]
                  refine (In_any _ _ _ _).mono ?_
                  rintro e W2 ⟨rfl, rfl⟩
                  rw [hcK]
                  exact ⟨hC, rfl⟩
                · intro a W hC _ _ he hdep
                  obtain ⟨_, t94, rfl⟩ : ∃ v, a.tmps[94]? = some v ∧ v = .bool false := hdep ⟨28, .data⟩ (by simp) (by rfl) _ _ rfl rfl
                  obtain ⟨_, t88, rfl⟩ : ∃ v, a.tmps[88]? = some v ∧ v = .bool false := hdep ⟨22, .guard⟩ (by simp) (by rfl) _ _ rfl rfl
                  rw [if_pos (wanted_yes rfl (yielded_slot (t := 88) rfl t88))]
                  unfold Oper.wp
                  simp [execOp, go_sem, t88, t94]
                  first | done | exact hC | exact ⟨hC, rfl⟩ | (refine ⟨hC, ?_⟩; simp [Act.put])
                · intro a W hC _ _ he hdep
                  obtain ⟨_, t88, rfl⟩ : ∃ v, a.tmps[88]? = some v ∧ v = .bool false := hdep ⟨22, .data⟩ (by simp) (by rfl) _ _ rfl rfl
                  obtain ⟨_, t95, rfl⟩ : ∃ v, a.tmps[95]? = some v ∧ v = .bool true := hdep ⟨29, .data⟩ (by simp) (by rfl) _ _ rfl rfl
                  rw [if_pos (wanted_free rfl)]
                  unfold Oper.wp
                  simp [execOp, go_sem, t88, t95]
                  first | done | exact hC | exact ⟨hC, rfl⟩ | (refine ⟨hC, ?_⟩; simp [Act.put])
              · intro vs W hC hS
                have h30 : vs 30 = .bool true := hS 30 (by simp)
                simp [over, h30, Act.put]
                clear b0 b1 b2 b3 b4 b5 b6 r1 r2 r3 r4 n0 m0 hS h30
                go_wp2
                go_ret
                rw [HV.out]
                exact ⟨rfl, HBr.out.trans (hC.mono HBr.out.size)⟩
            | false =>
              rw [hso] at HSO
              go_wp2
              refine wp_region_free (C := fun W => Below wr.heap.size wr W) (S := fun i v => match i with | 0 => v = .pointer (some ⟨w.heap.size, 4, none⟩) | 1 => v = .slice (some ⟨g, off, none⟩) p.rs.length cr | 2 => v = .int .i64 k | 3 => v = .pointer (some ⟨g, off + k * 4, none⟩) | 4 => v = .pointer (some ⟨g, off + k * 4 + 1, none⟩) | 5 => v = .agg #[us k, .int .i64 (p.at k).y] | 6 => v = .int .i64 0 | 7 => v = .bool false | 8 => v = .bool false | 9 => v = .pointer (some ⟨w.heap.size, 4, none⟩) | 10 => v = .slice (some ⟨g, off, none⟩) p.rs.length cr | 11 => v = .int .i64 k | 12 => v = .pointer (some ⟨g, off + k * 4, none⟩) | 13 => v = .pointer (some ⟨g, off + k * 4 + 3, none⟩) | 14 => v = .int .i64 (p.at k).h | 15 => v = .agg #[.int .i64 p.ep, .int .i64 p.ld, .slice (some ⟨gi, oi, none⟩) p.isr.length ci, .slice (some ⟨gk, ok, none⟩) p.kn.length ck, .slice (some ⟨g, off, none⟩) p.rs.length cr, .int .i64 p.fw, .int .i64 p.bs] | 16 => v = .int .i64 k | 17 => ∃ av cv, v = .slice av (p.at k).es.length cv | 18 => v = .int .i64 (p.at k).es.length | 19 => v = .bool true | 20 => v = .bool false | 21 => v = .bool false | 22 => v = .bool false | 23 => v = .pointer (some ⟨w.heap.size, 3, none⟩) | 24 => v = .slice (some ⟨gk, ok, none⟩) p.kn.length ck | 25 => v = .int .i64 k | 26 => v = .pointer (some ⟨gk, ok + k, none⟩) | 27 => v = .int .i64 kk | 28 => v = .bool false | 29 => v = .bool true | 30 => v = .bool true | _ => True) (by kernel_rfl) (regionB_spec (n := 120) (by kernel_rfl)).1 (regionB_spec (n := 120) (by kernel_rfl)).2.1 (free_of (regionB_spec (n := 120) (by kernel_rfl)).2.2) ((Below.refl _ _).drew) (each_at ?_) ?_
              · refine ⟨?_, ?_, ?_, ?_, ?_, ?_, ?_, ?_, ?_, ?_, ?_, ?_, ?_, ?_, ?_, ?_, ?_, ?_, ?_, ?_, ?_, ?_, ?_, ?_, ?_, ?_, ?_, ?_, ?_, ?_, ?_, trivial⟩
                · intro a W hC _ _ he hdep
                  rw [if_pos (wanted_free rfl)]
                  have t1 := slot_else (t := 1) he (by kernel_rfl) rfl
                  unfold Oper.wp
                  simp [execOp, go_sem, t1]
                  first | done | exact hC | exact ⟨hC, rfl⟩ | (refine ⟨hC, ?_⟩; simp [Act.put])
                · intro a W hC _ _ he hdep
                  obtain ⟨_, t66, rfl⟩ : ∃ v, a.tmps[66]? = some v ∧ v = .pointer (some ⟨w.heap.size, 4, none⟩) := hdep ⟨0, .data⟩ (by simp) (by rfl) _ _ rfl rfl
                  rw [if_pos (wanted_free rfl)]
                  have c4 := (hC.cell (p := ⟨w.heap.size, 4, none⟩) hwr).trans b4
                  unfold Oper.wp
                  simp [execOp, go_sem, t66, c4]
                  first | done | exact hC | exact ⟨hC, rfl⟩ | (refine ⟨hC, ?_⟩; simp [Act.put])
                · intro a W hC _ _ he hdep
                  rw [if_pos (wanted_free rfl)]
                  have t5 := slot_else (t := 5) he (by kernel_rfl) rfl
                  unfold Oper.wp
                  simp [execOp, go_sem, t5]
                  first | done | exact hC | exact ⟨hC, rfl⟩ | (refine ⟨hC, ?_⟩; simp [Act.put])
                · intro a W hC _ _ he hdep
                  obtain ⟨_, t67, rfl⟩ : ∃ v, a.tmps[67]? = some v ∧ v = .slice (some ⟨g, off, none⟩) p.rs.length cr := hdep ⟨1, .data⟩ (by simp) (by rfl) _ _ rfl rfl
                  obtain ⟨_, t68, rfl⟩ : ∃ v, a.tmps[68]? = some v ∧ v = .int .i64 k := hdep ⟨2, .data⟩ (by simp) (by rfl) _ _ rfl rfl
                  rw [if_pos (wanted_free rfl)]
                  unfold Oper.wp
                  simp [execOp, go_sem, t67, t68, hlt]
                  first | done | exact hC | exact ⟨hC, rfl⟩ | (refine ⟨hC, ?_⟩; simp [Act.put])
                · intro a W hC _ _ he hdep
                  obtain ⟨_, t69, rfl⟩ : ∃ v, a.tmps[69]? = some v ∧ v = .pointer (some ⟨g, off + k * 4, none⟩) := hdep ⟨3, .data⟩ (by simp) (by rfl) _ _ rfl rfl
                  rw [if_pos (wanted_free rfl)]
                  unfold Oper.wp
                  simp [execOp, go_sem, t69]
                  first | done | exact hC | exact ⟨hC, rfl⟩ | (refine ⟨hC, ?_⟩; simp [Act.put])
                · intro a W hC _ _ he hdep
                  obtain ⟨_, t70, rfl⟩ : ∃ v, a.tmps[70]? = some v ∧ v = .pointer (some ⟨g, off + k * 4 + 1, none⟩) := hdep ⟨4, .data⟩ (by simp) (by rfl) _ _ rfl rfl
                  rw [if_pos (wanted_free rfl)]
                  have d1 := (hC.cell (p := ⟨g, off + k * 4 + 1, none⟩) hgw).trans r2
                  have d2 := (hC.cell (p := ⟨g, off + k * 4 + 2, none⟩) hgw).trans r3
                  unfold Oper.wp
                  simp [execOp, go_sem, t70, d1, d2]
                  first | done | exact hC | exact ⟨hC, rfl⟩ | (refine ⟨hC, ?_⟩; simp [Act.put])
                · intro a W hC _ _ he hdep
                  obtain ⟨_, t71, rfl⟩ : ∃ v, a.tmps[71]? = some v ∧ v = .agg #[us k, .int .i64 (p.at k).y] := hdep ⟨5, .data⟩ (by simp) (by rfl) _ _ rfl rfl
                  rw [if_pos (wanted_free rfl)]
                  unfold Oper.wp
                  simp [execOp, go_sem, t71]
                  refine (logFault_any _ _ _ _ HSM (Rd.below HR0.out (Nat.le_refl _) hC)).mono ?_
                  rintro e W2 ⟨rfl, hb2⟩
                  rw [hl0]
                  exact ⟨bstep hC hb2, rfl⟩
                · intro a W hC _ _ he hdep
                  obtain ⟨_, t72, rfl⟩ : ∃ v, a.tmps[72]? = some v ∧ v = .int .i64 0 := hdep ⟨6, .data⟩ (by simp) (by rfl) _ _ rfl rfl
                  rw [if_pos (wanted_free rfl)]
                  unfold Oper.wp
                  simp [execOp, go_sem, t72]
                  first | done | exact hC | exact ⟨hC, rfl⟩ | (refine ⟨hC, ?_⟩; simp [Act.put])
                · intro a W hC _ _ he hdep
                  obtain ⟨_, t73, rfl⟩ : ∃ v, a.tmps[73]? = some v ∧ v = .bool false := hdep ⟨7, .data⟩ (by simp) (by rfl) _ _ rfl rfl
                  obtain ⟨_, t72, rfl⟩ : ∃ v, a.tmps[72]? = some v ∧ v = .int .i64 0 := hdep ⟨6, .chain⟩ (by simp) (by rfl) _ _ rfl rfl
                  rw [if_pos (wanted_free rfl)]
                  unfold Oper.wp
                  simp [execOp, go_sem, t72, t73]
                  first | done | exact hC | exact ⟨hC, rfl⟩ | (refine ⟨hC, ?_⟩; simp [Act.put])
                · intro a W hC _ _ he hdep
                  obtain ⟨_, t74, rfl⟩ : ∃ v, a.tmps[74]? = some v ∧ v = .bool false := hdep ⟨8, .guard⟩ (by simp) (by rfl) _ _ rfl rfl
                  rw [if_pos (wanted_yes rfl (yielded_slot (t := 74) rfl t74))]
                  have t1 := slot_else (t := 1) he (by kernel_rfl) rfl
                  unfold Oper.wp
                  simp [execOp, go_sem, t1, t74]
                  first | done | exact hC | exact ⟨hC, rfl⟩ | (refine ⟨hC, ?_⟩; simp [Act.put])
                · intro a W hC _ _ he hdep
                  obtain ⟨_, t75, rfl⟩ : ∃ v, a.tmps[75]? = some v ∧ v = .pointer (some ⟨w.heap.size, 4, none⟩) := hdep ⟨9, .data⟩ (by simp) (by rfl) _ _ rfl rfl
                  obtain ⟨_, t74, rfl⟩ : ∃ v, a.tmps[74]? = some v ∧ v = .bool false := hdep ⟨8, .guard⟩ (by simp) (by rfl) _ _ rfl rfl
                  rw [if_pos (wanted_yes rfl (yielded_slot (t := 74) rfl t74))]
                  have c4 := (hC.cell (p := ⟨w.heap.size, 4, none⟩) hwr).trans b4
                  unfold Oper.wp
                  simp [execOp, go_sem, t74, t75, c4]
                  first | done | exact hC | exact ⟨hC, rfl⟩ | (refine ⟨hC, ?_⟩; simp [Act.put])
                · intro a W hC _ _ he hdep
                  obtain ⟨_, t74, rfl⟩ : ∃ v, a.tmps[74]? = some v ∧ v = .bool false := hdep ⟨8, .guard⟩ (by simp) (by rfl) _ _ rfl rfl
                  rw [if_pos (wanted_yes rfl (yielded_slot (t := 74) rfl t74))]
                  have t5 := slot_else (t := 5) he (by kernel_rfl) rfl
                  unfold Oper.wp
                  simp [execOp, go_sem, t5, t74]
                  first | done | exact hC | exact ⟨hC, rfl⟩ | (refine ⟨hC, ?_⟩; simp [Act.put])
                · intro a W hC _ _ he hdep
                  obtain ⟨_, t76, rfl⟩ : ∃ v, a.tmps[76]? = some v ∧ v = .slice (some ⟨g, off, none⟩) p.rs.length cr := hdep ⟨10, .data⟩ (by simp) (by rfl) _ _ rfl rfl
                  obtain ⟨_, t77, rfl⟩ : ∃ v, a.tmps[77]? = some v ∧ v = .int .i64 k := hdep ⟨11, .data⟩ (by simp) (by rfl) _ _ rfl rfl
                  obtain ⟨_, t74, rfl⟩ : ∃ v, a.tmps[74]? = some v ∧ v = .bool false := hdep ⟨8, .guard⟩ (by simp) (by rfl) _ _ rfl rfl
                  rw [if_pos (wanted_yes rfl (yielded_slot (t := 74) rfl t74))]
                  unfold Oper.wp
                  simp [execOp, go_sem, t74, t76, t77, hlt]
                  first | done | exact hC | exact ⟨hC, rfl⟩ | (refine ⟨hC, ?_⟩; simp [Act.put])
                · intro a W hC _ _ he hdep
                  obtain ⟨_, t78, rfl⟩ : ∃ v, a.tmps[78]? = some v ∧ v = .pointer (some ⟨g, off + k * 4, none⟩) := hdep ⟨12, .data⟩ (by simp) (by rfl) _ _ rfl rfl
                  obtain ⟨_, t74, rfl⟩ : ∃ v, a.tmps[74]? = some v ∧ v = .bool false := hdep ⟨8, .guard⟩ (by simp) (by rfl) _ _ rfl rfl
                  rw [if_pos (wanted_yes rfl (yielded_slot (t := 74) rfl t74))]
                  unfold Oper.wp
                  simp [execOp, go_sem, t74, t78]
                  first | done | exact hC | exact ⟨hC, rfl⟩ | (refine ⟨hC, ?_⟩; simp [Act.put])
                · intro a W hC _ _ he hdep
                  obtain ⟨_, t79, rfl⟩ : ∃ v, a.tmps[79]? = some v ∧ v = .pointer (some ⟨g, off + k * 4 + 3, none⟩) := hdep ⟨13, .data⟩ (by simp) (by rfl) _ _ rfl rfl
                  obtain ⟨_, t74, rfl⟩ : ∃ v, a.tmps[74]? = some v ∧ v = .bool false := hdep ⟨8, .guard⟩ (by simp) (by rfl) _ _ rfl rfl
                  rw [if_pos (wanted_yes rfl (yielded_slot (t := 74) rfl t74))]
                  have d3 := (hC.cell (p := ⟨g, off + k * 4 + 3, none⟩) hgw).trans r4
                  unfold Oper.wp
                  simp [execOp, go_sem, t74, t79, d3]
                  first | done | exact hC | exact ⟨hC, rfl⟩ | (refine ⟨hC, ?_⟩; simp [Act.put])
                · intro a W hC _ _ he hdep
                  obtain ⟨_, t74, rfl⟩ : ∃ v, a.tmps[74]? = some v ∧ v = .bool false := hdep ⟨8, .guard⟩ (by simp) (by rfl) _ _ rfl rfl
                  rw [if_pos (wanted_yes rfl (yielded_slot (t := 74) rfl t74))]
                  have t1 := slot_else (t := 1) he (by kernel_rfl) rfl
                  have c0 := (hC.cell (p := ⟨w.heap.size, 0, none⟩) hwr).trans b0
                  have c1 := (hC.cell (p := ⟨w.heap.size, 1, none⟩) hwr).trans b1
                  have c2 := (hC.cell (p := ⟨w.heap.size, 2, none⟩) hwr).trans b2
                  have c3 := (hC.cell (p := ⟨w.heap.size, 3, none⟩) hwr).trans b3
                  have c4 := (hC.cell (p := ⟨w.heap.size, 4, none⟩) hwr).trans b4
                  have c5 := (hC.cell (p := ⟨w.heap.size, 5, none⟩) hwr).trans b5
                  have c6 := (hC.cell (p := ⟨w.heap.size, 6, none⟩) hwr).trans b6
                  unfold Oper.wp
                  simp [execOp, go_sem, t1, t74, c0, c1, c2, c3, c4, c5, c6]
                  first | done | exact hC | exact ⟨hC, rfl⟩ | (refine ⟨hC, ?_⟩; simp [Act.put])
                · intro a W hC _ _ he hdep
                  obtain ⟨_, t74, rfl⟩ : ∃ v, a.tmps[74]? = some v ∧ v = .bool false := hdep ⟨8, .guard⟩ (by simp) (by rfl) _ _ rfl rfl
                  rw [if_pos (wanted_yes rfl (yielded_slot (t := 74) rfl t74))]
                  have t5 := slot_else (t := 5) he (by kernel_rfl) rfl
                  unfold Oper.wp
                  simp [execOp, go_sem, t5, t74]
                  first | done | exact hC | exact ⟨hC, rfl⟩ | (refine ⟨hC, ?_⟩; simp [Act.put])
                · intro a W hC _ _ he hdep
                  obtain ⟨_, t81, rfl⟩ : ∃ v, a.tmps[81]? = some v ∧ v = .agg #[.int .i64 p.ep, .int .i64 p.ld, .slice (some ⟨gi, oi, none⟩) p.isr.length ci, .slice (some ⟨gk, ok, none⟩) p.kn.length ck, .slice (some ⟨g, off, none⟩) p.rs.length cr, .int .i64 p.fw, .int .i64 p.bs] := hdep ⟨15, .data⟩ (by simp) (by rfl) _ _ rfl rfl
                  obtain ⟨_, t82, rfl⟩ : ∃ v, a.tmps[82]? = some v ∧ v = .int .i64 k := hdep ⟨16, .data⟩ (by simp) (by rfl) _ _ rfl rfl
                  obtain ⟨_, t74, rfl⟩ : ∃ v, a.tmps[74]? = some v ∧ v = .bool false := hdep ⟨8, .chain⟩ (by simp) (by rfl) _ _ rfl rfl
                  rw [if_pos (wanted_yes rfl (yielded_slot (t := 74) rfl t74))]
                  unfold Oper.wp
                  simp [execOp, go_sem, t74, t81, t82]
                  refine (logOf_any p _ _ _ us k _ (RdP.below HRr.out (Nat.le_refl _) hC) HSM2.out hlt (by omega)).mono ?_
                  rintro e W2 ⟨v3, rfl, hv3, hb3⟩
                  obtain ⟨a3, c3, rfl⟩ := hv3.shape
                  exact ⟨bstep hC hb3, _, ⟨a3, c3, rfl⟩, rfl⟩
                · intro a W hC _ _ he hdep
                  obtain ⟨_, t83, av, cv, rfl⟩ : ∃ v, a.tmps[83]? = some v ∧ ∃ av cv, v = .slice av (p.at k).es.length cv := hdep ⟨17, .data⟩ (by simp) (by rfl) _ _ rfl rfl
                  obtain ⟨_, t74, rfl⟩ : ∃ v, a.tmps[74]? = some v ∧ v = .bool false := hdep ⟨8, .guard⟩ (by simp) (by rfl) _ _ rfl rfl
                  rw [if_pos (wanted_yes rfl (yielded_slot (t := 74) rfl t74))]
                  unfold Oper.wp
                  simp [execOp, go_sem, t74, t83]
                  first | done | exact hC | exact ⟨hC, rfl⟩ | (refine ⟨hC, ?_⟩; simp [Act.put])
                · intro a W hC _ _ he hdep
                  obtain ⟨_, t80, rfl⟩ : ∃ v, a.tmps[80]? = some v ∧ v = .int .i64 (p.at k).h := hdep ⟨14, .data⟩ (by simp) (by rfl) _ _ rfl rfl
                  obtain ⟨_, t84, rfl⟩ : ∃ v, a.tmps[84]? = some v ∧ v = .int .i64 (p.at k).es.length := hdep ⟨18, .data⟩ (by simp) (by rfl) _ _ rfl rfl
                  obtain ⟨_, t83, av, cv, rfl⟩ : ∃ v, a.tmps[83]? = some v ∧ ∃ av cv, v = .slice av (p.at k).es.length cv := hdep ⟨17, .chain⟩ (by simp) (by rfl) _ _ rfl rfl
                  obtain ⟨_, t74, rfl⟩ : ∃ v, a.tmps[74]? = some v ∧ v = .bool false := hdep ⟨8, .guard⟩ (by simp) (by rfl) _ _ rfl rfl
                  rw [if_pos (wanted_yes rfl (yielded_slot (t := 74) rfl t74))]
                  unfold Oper.wp
                  simp [execOp, go_sem, t74, t80, t83, t84]
                  refine (In_any _ _ _ _).mono ?_
                  rintro e W2 ⟨rfl, rfl⟩
                  rw [hcH]
                  exact ⟨hC, rfl⟩
                · intro a W hC _ _ he hdep
                  obtain ⟨_, t85, rfl⟩ : ∃ v, a.tmps[85]? = some v ∧ v = .bool true := hdep ⟨19, .data⟩ (by simp) (by rfl) _ _ rfl rfl
                  obtain ⟨_, t74, rfl⟩ : ∃ v, a.tmps[74]? = some v ∧ v = .bool false := hdep ⟨8, .guard⟩ (by simp) (by rfl) _ _ rfl rfl
                  rw [if_pos (wanted_yes rfl (yielded_slot (t := 74) rfl t74))]
                  unfold Oper.wp
                  simp [execOp, go_sem, t74, t85]
                  first | done | exact hC | exact ⟨hC, rfl⟩ | (refine ⟨hC, ?_⟩; simp [Act.put])
                · intro a W hC _ _ he hdep
                  obtain ⟨_, t74, rfl⟩ : ∃ v, a.tmps[74]? = some v ∧ v = .bool false := hdep ⟨8, .data⟩ (by simp) (by rfl) _ _ rfl rfl
                  obtain ⟨_, t86, rfl⟩ : ∃ v, a.tmps[86]? = some v ∧ v = .bool false := hdep ⟨20, .data⟩ (by simp) (by rfl) _ _ rfl rfl
                  rw [if_pos (wanted_free rfl)]
                  unfold Oper.wp
                  simp [execOp, go_sem, t74, t86]
                  first | done | exact hC | exact ⟨hC, rfl⟩ | (refine ⟨hC, ?_⟩; simp [Act.put])
                · intro a W hC _ _ he hdep
                  obtain ⟨_, t87, rfl⟩ : ∃ v, a.tmps[87]? = some v ∧ v = .bool false := hdep ⟨21, .data⟩ (by simp) (by rfl) _ _ rfl rfl
                  obtain ⟨_, t85, rfl⟩ : ∃ v, a.tmps[85]? = some v ∧ v = .bool true := hdep ⟨19, .chain⟩ (by simp) (by rfl) _ _ rfl rfl
                  rw [if_pos (wanted_free rfl)]
                  unfold Oper.wp
                  simp [execOp, go_sem, t85, t87]
                  first | done | exact hC | exact ⟨hC, rfl⟩ | (refine ⟨hC, ?_⟩; simp [Act.put])
                · intro a W hC _ _ he hdep
                  obtain ⟨_, t88, rfl⟩ : ∃ v, a.tmps[88]? = some v ∧ v = .bool false := hdep ⟨22, .guard⟩ (by simp) (by rfl) _ _ rfl rfl
                  rw [if_pos (wanted_yes rfl (yielded_slot (t := 88) rfl t88))]
                  have t1 := slot_else (t := 1) he (by kernel_rfl) rfl
                  unfold Oper.wp
                  simp [execOp, go_sem, t1, t88]
                  first | done | exact hC | exact ⟨hC, rfl⟩ | (refine ⟨hC, ?_⟩; simp [Act.put])
                · intro a W hC _ _ he hdep
                  obtain ⟨_, t89, rfl⟩ : ∃ v, a.tmps[89]? = some v ∧ v = .pointer (some ⟨w.heap.size, 3, none⟩) := hdep ⟨23, .data⟩ (by simp) (by rfl) _ _ rfl rfl
                  obtain ⟨_, t88, rfl⟩ : ∃ v, a.tmps[88]? = some v ∧ v = .bool false := hdep ⟨22, .guard⟩ (by simp) (by rfl) _ _ rfl rfl
                  rw [if_pos (wanted_yes rfl (yielded_slot (t := 88) rfl t88))]
                  have c3 := (hC.cell (p := ⟨w.heap.size, 3, none⟩) hwr).trans b3
                  unfold Oper.wp
                  simp [execOp, go_sem, t88, t89, c3]
                  first | done | exact hC | exact ⟨hC, rfl⟩ | (refine ⟨hC, ?_⟩; simp [Act.put])
                · intro a W hC _ _ he hdep
                  obtain ⟨_, t88, rfl⟩ : ∃ v, a.tmps[88]? = some v ∧ v = .bool false := hdep ⟨22, .guard⟩ (by simp) (by rfl) _ _ rfl rfl
                  rw [if_pos (wanted_yes rfl (yielded_slot (t := 88) rfl t88))]
                  have t5 := slot_else (t := 5) he (by kernel_rfl) rfl
                  unfold Oper.wp
                  simp [execOp, go_sem, t5, t88]
                  first | done | exact hC | exact ⟨hC, rfl⟩ | (refine ⟨hC, ?_⟩; simp [Act.put])
                · intro a W hC _ _ he hdep
                  obtain ⟨_, t90, rfl⟩ : ∃ v, a.tmps[90]? = some v ∧ v = .slice (some ⟨gk, ok, none⟩) p.kn.length ck := hdep ⟨24, .data⟩ (by simp) (by rfl) _ _ rfl rfl
                  obtain ⟨_, t91, rfl⟩ : ∃ v, a.tmps[91]? = some v ∧ v = .int .i64 k := hdep ⟨25, .data⟩ (by simp) (by rfl) _ _ rfl rfl
                  obtain ⟨_, t88, rfl⟩ : ∃ v, a.tmps[88]? = some v ∧ v = .bool false := hdep ⟨22, .guard⟩ (by simp) (by rfl) _ _ rfl rfl
                  rw [if_pos (wanted_yes rfl (yielded_slot (t := 88) rfl t88))]
                  unfold Oper.wp
                  simp [execOp, go_sem, t88, t90, t91, hkk]
                  first | done | exact hC | exact ⟨hC, rfl⟩ | (refine ⟨hC, ?_⟩; simp [Act.put])
                · intro a W hC _ _ he hdep
                  obtain ⟨_, t92, rfl⟩ : ∃ v, a.tmps[92]? = some v ∧ v = .pointer (some ⟨gk, ok + k, none⟩) := hdep ⟨26, .data⟩ (by simp) (by rfl) _ _ rfl rfl
                  obtain ⟨_, t88, rfl⟩ : ∃ v, a.tmps[88]? = some v ∧ v = .bool false := hdep ⟨22, .guard⟩ (by simp) (by rfl) _ _ rfl rfl
                  rw [if_pos (wanted_yes rfl (yielded_slot (t := 88) rfl t88))]
                  have d4 := (hC.cell (p := ⟨gk, ok + k, none⟩) hkw).trans n0
                  unfold Oper.wp
                  simp [execOp, go_sem, t88, t92, d4]
                  first | done | exact hC | exact ⟨hC, rfl⟩ | (refine ⟨hC, ?_⟩; simp [Act.put])
                · intro a W hC _ _ he hdep
                  obtain ⟨_, t93, rfl⟩ : ∃ v, a.tmps[93]? = some v ∧ v = .int .i64 kk := hdep ⟨27, .data⟩ (by simp) (by rfl) _ _ rfl rfl
                  obtain ⟨_, t88, rfl⟩ : ∃ v, a.tmps[88]? = some v ∧ v = .bool false := hdep ⟨22, .chain⟩ (by simp) (by rfl) _ _ rfl rfl
                  rw [if_pos (wanted_yes rfl (yielded_slot (t := 88) rfl t88))]
                  unfold Oper.wp
                  simp [execOp, go_sem, t88, t93]
                  refine (In_any _ _ _ _).mono ?_
                  rintro e W2 ⟨rfl, rfl⟩
                  rw [hcK]
                  exact ⟨hC, rfl⟩
                · intro a W hC _ _ he hdep
                  obtain ⟨_, t94, rfl⟩ : ∃ v, a.tmps[94]? = some v ∧ v = .bool false := hdep ⟨28, .data⟩ (by simp) (by rfl) _ _ rfl rfl
                  obtain ⟨_, t88, rfl⟩ : ∃ v, a.tmps[88]? = some v ∧ v = .bool false := hdep ⟨22, .guard⟩ (by simp) (by rfl) _ _ rfl rfl
                  rw [if_pos (wanted_yes rfl (yielded_slot (t := 88) rfl t88))]
                  unfold Oper.wp
                  simp [execOp, go_sem, t88, t94]
                  first | done | exact hC | exact ⟨hC, rfl⟩ | (refine ⟨hC, ?_⟩; simp [Act.put])
                · intro a W hC _ _ he hdep
                  obtain ⟨_, t88, rfl⟩ : ∃ v, a.tmps[88]? = some v ∧ v = .bool false := hdep ⟨22, .data⟩ (by simp) (by rfl) _ _ rfl rfl
                  obtain ⟨_, t95, rfl⟩ : ∃ v, a.tmps[95]? = some v ∧ v = .bool true := hdep ⟨29, .data⟩ (by simp) (by rfl) _ _ rfl rfl
                  rw [if_pos (wanted_free rfl)]
                  unfold Oper.wp
                  simp [execOp, go_sem, t88, t95]
                  first | done | exact hC | exact ⟨hC, rfl⟩ | (refine ⟨hC, ?_⟩; simp [Act.put])
              · intro vs W hC hS
                have h30 : vs 30 = .bool true := hS 30 (by simp)
                simp [over, h30, Act.put]
                clear b0 b1 b2 b3 b4 b5 b6 r1 r2 r3 r4 n0 m0 hS h30
                go_wp2
                go_ret
                rw [HV.out]
                exact ⟨rfl, HBr.out.trans (hC.mono HBr.out.size)⟩
        | false =>
          have HV : Hid (p.mayB = false) := HNO.out (by unfold Rep.okB; rw [hcH]; simp)
          cases hso : p.some k with
          | true =>
            rw [hso] at HSO
            go_wp2
            refine wp_region_free (C := fun W => Below wr.heap.size wr W) (S := fun i v => match i with | 0 => v = .pointer (some ⟨w.heap.size, 4, none⟩) | 1 => v = .slice (some ⟨g, off, none⟩) p.rs.length cr | 2 => v = .int .i64 k | 3 => v = .pointer (some ⟨g, off + k * 4, none⟩) | 4 => v = .pointer (some ⟨g, off + k * 4 + 1, none⟩) | 5 => v = .agg #[us k, .int .i64 (p.at k).y] | 6 => v = .int .i64 0 | 7 => v = .bool false | 8 => v = .bool false | 9 => v = .pointer (some ⟨w.heap.size, 4, none⟩) | 10 => v = .slice (some ⟨g, off, none⟩) p.rs.length cr | 11 => v = .int .i64 k | 12 => v = .pointer (some ⟨g, off + k * 4, none⟩) | 13 => v = .pointer (some ⟨g, off + k * 4 + 3, none⟩) | 14 => v = .int .i64 (p.at k).h | 15 => v = .agg #[.int .i64 p.ep, .int .i64 p.ld, .slice (some ⟨gi, oi, none⟩) p.isr.length ci, .slice (some ⟨gk, ok, none⟩) p.kn.length ck, .slice (some ⟨g, off, none⟩) p.rs.length cr, .int .i64 p.fw, .int .i64 p.bs] | 16 => v = .int .i64 k | 17 => ∃ av cv, v = .slice av (p.at k).es.length cv | 18 => v = .int .i64 (p.at k).es.length | 19 => v = .bool false | 20 => v = .bool true | 21 => v = .bool true | 22 => v = .bool true | 23 => v = undef | 24 => v = undef | 25 => v = undef | 26 => v = undef | 27 => v = undef | 28 => v = undef | 29 => v = undef | 30 => v = .bool true | _ => True) (by kernel_rfl) (regionB_spec (n := 120) (by kernel_rfl)).1 (regionB_spec (n := 120) (by kernel_rfl)).2.1 (free_of (regionB_spec (n := 120) (by kernel_rfl)).2.2) ((Below.refl _ _).drew) (each_at ?_) ?_
            · refine ⟨?_, ?_, ?_, ?_, ?_, ?_, ?_, ?_, ?_, ?_, ?_, ?_, ?_, ?_, ?_, ?_, ?_, ?_, ?_, ?_, ?_, ?_, ?_, ?_, ?_, ?_, ?_, ?_, ?_, ?_, ?_, trivial⟩
              · intro a W hC _ _ he hdep
                rw [if_pos (wanted_free rfl)]
                have t1 := slot_else (t := 1) he (by kernel_rfl) rfl
                unfold Oper.wp
                simp [execOp, go_sem, t1]
                first | done | exact hC | exact ⟨hC, rfl⟩ | (refine ⟨hC, ?_⟩; simp [Act.put])
              · intro a W hC _ _ he hdep
                obtain ⟨_, t66, rfl⟩ : ∃ v, a.tmps[66]? = some v ∧ v = .pointer (some ⟨w.heap.size, 4, none⟩) := hdep ⟨0, .data⟩ (by simp) (by rfl) _ _ rfl rfl
                rw [if_pos (wanted_free rfl)]
                have c4 := (hC.cell (p := ⟨w.heap.size, 4, none⟩) hwr).trans b4
                unfold Oper.wp
                simp [execOp, go_sem, t66, c4]
                first | done | exact hC | exact ⟨hC, rfl⟩ | (refine ⟨hC, ?_⟩; simp [Act.put])
              · intro a W hC _ _ he hdep
                rw [if_pos (wanted_free rfl)]
                have t5 := slot_else (t := 5) he (by kernel_rfl) rfl
                unfold Oper.wp
                simp [execOp, go_sem, t5]
                first | done | exact hC | exact ⟨hC, rfl⟩ | (refine ⟨hC, ?_⟩; simp [Act.put])
              · intro a W hC _ _ he hdep
                obtain ⟨_, t67, rfl⟩ : ∃ v, a.tmps[67]? = some v ∧ v = .slice (some ⟨g, off, none⟩) p.rs.length cr := hdep ⟨1, .data⟩ (by simp) (by rfl) _ _ rfl rfl
                obtain ⟨_, t68, rfl⟩ : ∃ v, a.tmps[68]? = some v ∧ v = .int .i64 k := hdep ⟨2, .data⟩ (by simp) (by rfl) _ _ rfl rfl
                rw [if_pos (wanted_free rfl)]
                unfold Oper.wp
                simp [execOp, go_sem, t67, t68, hlt]
                first | done | exact hC | exact ⟨hC, rfl⟩ | (refine ⟨hC, ?_⟩; simp [Act.put])
              · intro a W hC _ _ he hdep
                obtain ⟨_, t69, rfl⟩ : ∃ v, a.tmps[69]? = some v ∧ v = .pointer (some ⟨g, off + k * 4, none⟩) := hdep ⟨3, .data⟩ (by simp) (by rfl) _ _ rfl rfl
                rw [if_pos (wanted_free rfl)]
                unfold Oper.wp
                simp [execOp, go_sem, t69]
                first | done | exact hC | exact ⟨hC, rfl⟩ | (refine ⟨hC, ?_⟩; simp [Act.put])
              · intro a W hC _ _ he hdep
                obtain ⟨_, t70, rfl⟩ : ∃ v, a.tmps[70]? = some v ∧ v = .pointer (some ⟨g, off + k * 4 + 1, none⟩) := hdep ⟨4, .data⟩ (by simp) (by rfl) _ _ rfl rfl
                rw [if_pos (wanted_free rfl)]
                have d1 := (hC.cell (p := ⟨g, off + k * 4 + 1, none⟩) hgw).trans r2
                have d2 := (hC.cell (p := ⟨g, off + k * 4 + 2, none⟩) hgw).trans r3
                unfold Oper.wp
                simp [execOp, go_sem, t70, d1, d2]
                first | done | exact hC | exact ⟨hC, rfl⟩ | (refine ⟨hC, ?_⟩; simp [Act.put])
              · intro a W hC _ _ he hdep
                obtain ⟨_, t71, rfl⟩ : ∃ v, a.tmps[71]? = some v ∧ v = .agg #[us k, .int .i64 (p.at k).y] := hdep ⟨5, .data⟩ (by simp) (by rfl) _ _ rfl rfl
                rw [if_pos (wanted_free rfl)]
                unfold Oper.wp
                simp [execOp, go_sem, t71]
                refine (logFault_any _ _ _ _ HSM (Rd.below HR0.out (Nat.le_refl _) hC)).mono ?_
                rintro e W2 ⟨rfl, hb2⟩
                rw [hl0]
                exact ⟨bstep hC hb2, rfl⟩
              · intro a W hC _ _ he hdep
                obtain ⟨_, t72, rfl⟩ : ∃ v, a.tmps[72]? = some v ∧ v = .int .i64 0 := hdep ⟨6, .data⟩ (by simp) (by rfl) _ _ rfl rfl
                rw [if_pos (wanted_free rfl)]
                unfold Oper.wp
                simp [execOp, go_sem, t72]
                first | done | exact hC | exact ⟨hC, rfl⟩ | (refine ⟨hC, ?_⟩; simp [Act.put])
              · intro a W hC _ _ he hdep
                obtain ⟨_, t73, rfl⟩ : ∃ v, a.tmps[73]? = some v ∧ v = .bool false := hdep ⟨7, .data⟩ (by simp) (by rfl) _ _ rfl rfl
                obtain ⟨_, t72, rfl⟩ : ∃ v, a.tmps[72]? = some v ∧ v = .int .i64 0 := hdep ⟨6, .chain⟩ (by simp) (by rfl) _ _ rfl rfl
                rw [if_pos (wanted_free rfl)]
                unfold Oper.wp
                simp [execOp, go_sem, t72, t73]
                first | done | exact hC | exact ⟨hC, rfl⟩ | (refine ⟨hC, ?_⟩; simp [Act.put])
              · intro a W hC _ _ he hdep
                obtain ⟨_, t74, rfl⟩ : ∃ v, a.tmps[74]? = some v ∧ v = .bool false := hdep ⟨8, .guard⟩ (by simp) (by rfl) _ _ rfl rfl
                rw [if_pos (wanted_yes rfl (yielded_slot (t := 74) rfl t74))]
                have t1 := slot_else (t := 1) he (by kernel_rfl) rfl
                unfold Oper.wp
                simp [execOp, go_sem, t1, t74]
                first | done | exact hC | exact ⟨hC, rfl⟩ | (refine ⟨hC, ?_⟩; simp [Act.put])
              · intro a W hC _ _ he hdep
                obtain ⟨_, t75, rfl⟩ : ∃ v, a.tmps[75]? = some v ∧ v = .pointer (some ⟨w.heap.size, 4, none⟩) := hdep ⟨9, .data⟩ (by simp) (by rfl) _ _ rfl rfl
                obtain ⟨_, t74, rfl⟩ : ∃ v, a.tmps[74]? = some v ∧ v = .bool false := hdep ⟨8, .guard⟩ (by simp) (by rfl) _ _ rfl rfl
                rw [if_pos (wanted_yes rfl (yielded_slot (t := 74) rfl t74))]
                have c4 := (hC.cell (p := ⟨w.heap.size, 4, none⟩) hwr).trans b4
                unfold Oper.wp
                simp [execOp, go_sem, t74, t75, c4]
                first | done | exact hC | exact ⟨hC, rfl⟩ | (refine ⟨hC, ?_⟩; simp [Act.put])
              · intro a W hC _ _ he hdep
                obtain ⟨_, t74, rfl⟩ : ∃ v, a.tmps[74]? = some v ∧ v = .bool false := hdep ⟨8, .guard⟩ (by simp) (by rfl) _ _ rfl rfl
                rw [if_pos (wanted_yes rfl (yielded_slot (t := 74) rfl t74))]
                have t5 := slot_else (t := 5) he (by kernel_rfl) rfl
                unfold Oper.wp
                simp [execOp, go_sem, t5, t74]
                first | done | exact hC | exact ⟨hC, rfl⟩ | (refine ⟨hC, ?_⟩; simp [Act.put])
              · intro a W hC _ _ he hdep
                obtain ⟨_, t76, rfl⟩ : ∃ v, a.tmps[76]? = some v ∧ v = .slice (some ⟨g, off, none⟩) p.rs.length cr := hdep ⟨10, .data⟩ (by simp) (by rfl) _ _ rfl rfl
                obtain ⟨_, t77, rfl⟩ : ∃ v, a.tmps[77]? = some v ∧ v = .int .i64 k := hdep ⟨11, .data⟩ (by simp) (by rfl) _ _ rfl rfl
                obtain ⟨_, t74, rfl⟩ : ∃ v, a.tmps[74]? = some v ∧ v = .bool false := hdep ⟨8, .guard⟩ (by simp) (by rfl) _ _ rfl rfl
                rw [if_pos (wanted_yes rfl (yielded_slot (t := 74) rfl t74))]
                unfold Oper.wp
                simp [execOp, go_sem, t74, t76, t77, hlt]
                first | done | exact hC | exact ⟨hC, rfl⟩ | (refine ⟨hC, ?_⟩; simp [Act.put])
              · intro a W hC _ _ he hdep
                obtain ⟨_, t78, rfl⟩ : ∃ v, a.tmps[78]? = some v ∧ v = .pointer (some ⟨g, off + k * 4, none⟩) := hdep ⟨12, .data⟩ (by simp) (by rfl) _ _ rfl rfl
                obtain ⟨_, t74, rfl⟩ : ∃ v, a.tmps[74]? = some v ∧ v = .bool false := hdep ⟨8, .guard⟩ (by simp) (by rfl) _ _ rfl rfl
                rw [if_pos (wanted_yes rfl (yielded_slot (t := 74) rfl t74))]
                unfold Oper.wp
                simp [execOp, go_sem, t74, t78]
                first | done | exact hC | exact ⟨hC, rfl⟩ | (refine ⟨hC, ?_⟩; simp [Act.put])
              · intro a W hC _ _ he hdep
                obtain ⟨_, t79, rfl⟩ : ∃ v, a.tmps[79]? = some v ∧ v = .pointer (some ⟨g, off + k * 4 + 3, none⟩) := hdep ⟨13, .data⟩ (by simp) (by rfl) _ _ rfl rfl
                obtain ⟨_, t74, rfl⟩ : ∃ v, a.tmps[74]? = some v ∧ v = .bool false := hdep ⟨8, .guard⟩ (by simp) (by rfl) _ _ rfl rfl
                rw [if_pos (wanted_yes rfl (yielded_slot (t := 74) rfl t74))]
                have d3 := (hC.cell (p := ⟨g, off + k * 4 + 3, none⟩) hgw).trans r4
                unfold Oper.wp
                simp [execOp, go_sem, t74, t79, d3]
                first | done | exact hC | exact ⟨hC, rfl⟩ | (refine ⟨hC, ?_⟩; simp [Act.put])
              · intro a W hC _ _ he hdep
                obtain ⟨_, t74, rfl⟩ : ∃ v, a.tmps[74]? = some v ∧ v = .bool false := hdep ⟨8, .guard⟩ (by simp) (by rfl) _ _ rfl rfl
                rw [if_pos (wanted_yes rfl (yielded_slot (t := 74) rfl t74))]
                have t1 := slot_else (t := 1) he (by kernel_rfl) rfl
                have c0 := (hC.cell (p := ⟨w.heap.size, 0, none⟩) hwr).trans b0
                have c1 := (hC.cell (p := ⟨w.heap.size, 1, none⟩) hwr).trans b1
                have c2 := (hC.cell (p := ⟨w.heap.size, 2, none⟩) hwr).trans b2
                have c3 := (hC.cell (p := ⟨w.heap.size, 3, none⟩) hwr).trans b3
                have c4 := (hC.cell (p := ⟨w.heap.size, 4, none⟩) hwr).trans b4
                have c5 := (hC.cell (p := ⟨w.heap.size, 5, none⟩) hwr).trans b5
                have c6 := (hC.cell (p := ⟨w.heap.size, 6, none⟩) hwr).trans b6
                unfold Oper.wp
                simp [execOp, go_sem, t1, t74, c0, c1, c2, c3, c4, c5, c6]
                first | done | exact hC | exact ⟨hC, rfl⟩ | (refine ⟨hC, ?_⟩; simp [Act.put])
              · intro a W hC _ _ he hdep
                obtain ⟨_, t74, rfl⟩ : ∃ v, a.tmps[74]? = some v ∧ v = .bool false := hdep ⟨8, .guard⟩ (by simp) (by rfl) _ _ rfl rfl
                rw [if_pos (wanted_yes rfl (yielded_slot (t := 74) rfl t74))]
                have t5 := slot_else (t := 5) he (by kernel_rfl) rfl
                unfold Oper.wp
                simp [execOp, go_sem, t5, t74]
                first | done | exact hC | exact ⟨hC, rfl⟩ | (refine ⟨hC, ?_⟩; simp [Act.put])
              · intro a W hC _ _ he hdep
                obtain ⟨_, t81, rfl⟩ : ∃ v, a.tmps[81]? = some v ∧ v = .agg #[.int .i64 p.ep, .int .i64 p.ld, .slice (some ⟨gi, oi, none⟩) p.isr.length ci, .slice (some ⟨gk, ok, none⟩) p.kn.length ck, .slice (some ⟨g, off, none⟩) p.rs.length cr, .int .i64 p.fw, .int .i64 p.bs] := hdep ⟨15, .data⟩ (by simp) (by rfl) _ _ rfl rfl
                obtain ⟨_, t82, rfl⟩ : ∃ v, a.tmps[82]? = some v ∧ v = .int .i64 k := hdep ⟨16, .data⟩ (by simp) (by rfl) _ _ rfl rfl
                obtain ⟨_, t74, rfl⟩ : ∃ v, a.tmps[74]? = some v ∧ v = .bool false := hdep ⟨8, .chain⟩ (by simp) (by rfl) _ _ rfl rfl
                rw [if_pos (wanted_yes rfl (yielded_slot (t := 74) rfl t74))]
                unfold Oper.wp
                simp [execOp, go_sem, t74, t81, t82]
                refine (logOf_any p _ _ _ us k _ (RdP.below HRr.out (Nat.le_refl _) hC) HSM2.out hlt (by omega)).mono ?_
                rintro e W2 ⟨v3, rfl, hv3, hb3⟩
                obtain ⟨a3, c3, rfl⟩ := hv3.shape
                exact ⟨bstep hC hb3, _, ⟨a3, c3, rfl⟩, rfl⟩
              · intro a W hC _ _ he hdep
                obtain ⟨_, t83, av, cv, rfl⟩ : ∃ v, a.tmps[83]? = some v ∧ ∃ av cv, v = .slice av (p.at k).es.length cv := hdep ⟨17, .data⟩ (by simp) (by rfl) _ _ rfl rfl
                obtain ⟨_, t74, rfl⟩ : ∃ v, a.tmps[74]? = some v ∧ v = .bool false := hdep ⟨8, .guard⟩ (by simp) (by rfl) _ _ rfl rfl
                rw [if_pos (wanted_yes rfl (yielded_slot (t := 74) rfl t74))]
                unfold Oper.wp
                simp [execOp, go_sem, t74, t83]
                first | done | exact hC | exact ⟨hC, rfl⟩ | (refine ⟨hC, ?_⟩; simp [Act.put])
              · intro a W hC _ _ he hdep
                obtain ⟨_, t80, rfl⟩ : ∃ v, a.tmps[80]? = some v ∧ v = .int .i64 (p.at k).h := hdep ⟨14, .data⟩ (by simp) (by rfl) _ _ rfl rfl
                obtain ⟨_, t84, rfl⟩ : ∃ v, a.tmps[84]? = some v ∧ v = .int .i64 (p.at k).es.length := hdep ⟨18, .data⟩ (by simp) (by rfl) _ _ rfl rfl
                obtain ⟨_, t83, av, cv, rfl⟩ : ∃ v, a.tmps[83]? = some v ∧ ∃ av cv, v = .slice av (p.at k).es.length cv := hdep ⟨17, .chain⟩ (by simp) (by rfl) _ _ rfl rfl
                obtain ⟨_, t74, rfl⟩ : ∃ v, a.tmps[74]? = some v ∧ v = .bool false := hdep ⟨8, .guard⟩ (by simp) (by rfl) _ _ rfl rfl
                rw [if_pos (wanted_yes rfl (yielded_slot (t := 74) rfl t74))]
                unfold Oper.wp
                simp [execOp, go_sem, t74, t80, t83, t84]
                refine (In_any _ _ _ _).mono ?_
                rintro e W2 ⟨rfl, rfl⟩
                rw [hcH]
                exact ⟨hC, rfl⟩
              · intro a W hC _ _ he hdep
                obtain ⟨_, t85, rfl⟩ : ∃ v, a.tmps[85]? = some v ∧ v = .bool false := hdep ⟨19, .data⟩ (by simp) (by rfl) _ _ rfl rfl
                obtain ⟨_, t74, rfl⟩ : ∃ v, a.tmps[74]? = some v ∧ v = .bool false := hdep ⟨8, .guard⟩ (by simp) (by rfl) _ _ rfl rfl
                rw [if_pos (wanted_yes rfl (yielded_slot (t := 74) rfl t74))]
                unfold Oper.wp
                simp [execOp, go_sem, t74, t85]
                first | done | exact hC | exact ⟨hC, rfl⟩ | (refine ⟨hC, ?_⟩; simp [Act.put])
              · intro a W hC _ _ he hdep
                obtain ⟨_, t74, rfl⟩ : ∃ v, a.tmps[74]? = some v ∧ v = .bool false := hdep ⟨8, .data⟩ (by simp) (by rfl) _ _ rfl rfl
                obtain ⟨_, t86, rfl⟩ : ∃ v, a.tmps[86]? = some v ∧ v = .bool true := hdep ⟨20, .data⟩ (by simp) (by rfl) _ _ rfl rfl
                rw [if_pos (wanted_free rfl)]
                unfold Oper.wp
                simp [execOp, go_sem, t74, t86]
                first | done | exact hC | exact ⟨hC, rfl⟩ | (refine ⟨hC, ?_⟩; simp [Act.put])
              · intro a W hC _ _ he hdep
                obtain ⟨_, t87, rfl⟩ : ∃ v, a.tmps[87]? = some v ∧ v = .bool true := hdep ⟨21, .data⟩ (by simp) (by rfl) _ _ rfl rfl
                obtain ⟨_, t85, rfl⟩ : ∃ v, a.tmps[85]? = some v ∧ v = .bool false := hdep ⟨19, .chain⟩ (by simp) (by rfl) _ _ rfl rfl
                rw [if_pos (wanted_free rfl)]
                unfold Oper.wp
                simp [execOp, go_sem, t85, t87]
                first | done | exact hC | exact ⟨hC, rfl⟩ | (refine ⟨hC, ?_⟩; simp [Act.put])
              · intro a W hC _ _ he hdep
                obtain ⟨_, t88, rfl⟩ : ∃ v, a.tmps[88]? = some v ∧ v = .bool true := hdep ⟨22, .guard⟩ (by simp) (by rfl) _ _ rfl rfl
                rw [if_neg (by rw [wanted_no rfl (yielded_slot (t := 88) rfl t88) (by decide)]; simp)]
                exact rfl
              · intro a W hC _ _ he hdep
                obtain ⟨_, t89, rfl⟩ : ∃ v, a.tmps[89]? = some v ∧ v = undef := hdep ⟨23, .data⟩ (by simp) (by rfl) _ _ rfl rfl
                obtain ⟨_, t88, rfl⟩ : ∃ v, a.tmps[88]? = some v ∧ v = .bool true := hdep ⟨22, .guard⟩ (by simp) (by rfl) _ _ rfl rfl
                rw [if_neg (by rw [wanted_no rfl (yielded_slot (t := 88) rfl t88) (by decide)]; simp)]
                exact rfl
              · intro a W hC _ _ he hdep
                obtain ⟨_, t88, rfl⟩ : ∃ v, a.tmps[88]? = some v ∧ v = .bool true := hdep ⟨22, .guard⟩ (by simp) (by rfl) _ _ rfl rfl
                rw [if_neg (by rw [wanted_no rfl (yielded_slot (t := 88) rfl t88) (by decide)]; simp)]
                exact rfl
              · intro a W hC _ _ he hdep
                obtain ⟨_, t90, rfl⟩ : ∃ v, a.tmps[90]? = some v ∧ v = undef := hdep ⟨24, .data⟩ (by simp) (by rfl) _ _ rfl rfl
                obtain ⟨_, t91, rfl⟩ : ∃ v, a.tmps[91]? = some v ∧ v = undef := hdep ⟨25, .data⟩ (by simp) (by rfl) _ _ rfl rfl
                obtain ⟨_, t88, rfl⟩ : ∃ v, a.tmps[88]? = some v ∧ v = .bool true := hdep ⟨22, .guard⟩ (by simp) (by rfl) _ _ rfl rfl
                rw [if_neg (by rw [wanted_no rfl (yielded_slot (t := 88) rfl t88) (by decide)]; simp)]
                exact rfl
              · intro a W hC _ _ he hdep
                obtain ⟨_, t92, rfl⟩ : ∃ v, a.tmps[92]? = some v ∧ v = undef := hdep ⟨26, .data⟩ (by simp) (by rfl) _ _ rfl rfl
                obtain ⟨_, t88, rfl⟩ : ∃ v, a.tmps[88]? = some v ∧ v = .bool true := hdep ⟨22, .guard⟩ (by simp) (by rfl) _ _ rfl rfl
                rw [if_neg (by rw [wanted_no rfl (yielded_slot (t := 88) rfl t88) (by decide)]; simp)]
                exact rfl
              · intro a W hC _ _ he hdep
                obtain ⟨_, t93, rfl⟩ : ∃ v, a.tmps[93]? = some v ∧ v = undef := hdep ⟨27, .data⟩ (by simp) (by rfl) _ _ rfl rfl
                obtain ⟨_, t88, rfl⟩ : ∃ v, a.tmps[88]? = some v ∧ v = .bool true := hdep ⟨22, .chain⟩ (by simp) (by rfl) _ _ rfl rfl
                rw [if_neg (by rw [wanted_no rfl (yielded_slot (t := 88) rfl t88) (by decide)]; simp)]
                exact rfl
              · intro a W hC _ _ he hdep
                obtain ⟨_, t94, rfl⟩ : ∃ v, a.tmps[94]? = some v ∧ v = undef := hdep ⟨28, .data⟩ (by simp) (by rfl) _ _ rfl rfl
                obtain ⟨_, t88, rfl⟩ : ∃ v, a.tmps[88]? = some v ∧ v = .bool true := hdep ⟨22, .guard⟩ (by simp) (by rfl) _ _ rfl rfl
                rw [if_neg (by rw [wanted_no rfl (yielded_slot (t := 88) rfl t88) (by decide)]; simp)]
                exact rfl
              · intro a W hC _ _ he hdep
                obtain ⟨_, t88, rfl⟩ : ∃ v, a.tmps[88]? = some v ∧ v = .bool true := hdep ⟨22, .data⟩ (by simp) (by rfl) _ _ rfl rfl
                obtain ⟨_, t95, rfl⟩ : ∃ v, a.tmps[95]? = some v ∧ v = undef := hdep ⟨29, .data⟩ (by simp) (by rfl) _ _ rfl rfl
                rw [if_pos (wanted_free rfl)]
                unfold Oper.wp
                simp [execOp, go_sem, t88, t95]
                first | done | exact hC | exact ⟨hC, rfl⟩ | (refine ⟨hC, ?_⟩; simp [Act.put])
            · intro vs W hC hS
              have h30 : vs 30 = .bool true := hS 30 (by simp)
              simp [over, h30, Act.put]
              clear b0 b1 b2 b3 b4 b5 b6 r1 r2 r3 r4 n0 m0 hS h30
              go_wp2
              go_ret
              rw [HV.out]
              exact ⟨rfl, HBr.out.trans (hC.mono HBr.out.size)⟩
          | false =>
            rw [hso] at HSO
            go_wp2
            refine wp_region_free (C := fun W => Below wr.heap.size wr W) (S := fun i v => match i with | 0 => v = .pointer (some ⟨w.heap.size, 4, none⟩) | 1 => v = .slice (some ⟨g, off, none⟩) p.rs.length cr | 2 => v = .int .i64 k | 3 => v = .pointer (some ⟨g, off + k * 4, none⟩) | 4 => v = .pointer (some ⟨g, off + k * 4 + 1, none⟩) | 5 => v = .agg #[us k, .int .i64 (p.at k).y] | 6 => v = .int .i64 0 | 7 => v = .bool false | 8 => v = .bool false | 9 => v = .pointer (some ⟨w.heap.size, 4, none⟩) | 10 => v = .slice (some ⟨g, off, none⟩) p.rs.length cr | 11 => v = .int .i64 k | 12 => v = .pointer (some ⟨g, off + k * 4, none⟩) | 13 => v = .pointer (some ⟨g, off + k * 4 + 3, none⟩) | 14 => v = .int .i64 (p.at k).h | 15 => v = .agg #[.int .i64 p.ep, .int .i64 p.ld, .slice (some ⟨gi, oi, none⟩) p.isr.length ci, .slice (some ⟨gk, ok, none⟩) p.kn.length ck, .slice (some ⟨g, off, none⟩) p.rs.length cr, .int .i64 p.fw, .int .i64 p.bs] | 16 => v = .int .i64 k | 17 => ∃ av cv, v = .slice av (p.at k).es.length cv | 18 => v = .int .i64 (p.at k).es.length | 19 => v = .bool false | 20 => v = .bool true | 21 => v = .bool true | 22 => v = .bool true | 23 => v = undef | 24 => v = undef | 25 => v = undef | 26 => v = undef | 27 => v = undef | 28 => v = undef | 29 => v = undef | 30 => v = .bool true | _ => True) (by kernel_rfl) (regionB_spec (n := 120) (by kernel_rfl)).1 (regionB_spec (n := 120) (by kernel_rfl)).2.1 (free_of (regionB_spec (n := 120) (by kernel_rfl)).2.2) ((Below.refl _ _).drew) (each_at ?_) ?_
            · refine ⟨?_, ?_, ?_, ?_, ?_, ?_, ?_, ?_, ?_, ?_, ?_, ?_, ?_, ?_, ?_, ?_, ?_, ?_, ?_, ?_, ?_, ?_, ?_, ?_, ?_, ?_, ?_, ?_, ?_, ?_, ?_, trivial⟩
              · intro a W hC _ _ he hdep
                rw [if_pos (wanted_free rfl)]
                have t1 := slot_else (t := 1) he (by kernel_rfl) rfl
                unfold Oper.wp
                simp [execOp, go_sem, t1]
                first | done | exact hC | exact ⟨hC, rfl⟩ | (refine ⟨hC, ?_⟩; simp [Act.put])
              · intro a W hC _ _ he hdep
                obtain ⟨_, t66, rfl⟩ : ∃ v, a.tmps[66]? = some v ∧ v = .pointer (some ⟨w.heap.size, 4, none⟩) := hdep ⟨0, .data⟩ (by simp) (by rfl) _ _ rfl rfl
                rw [if_pos (wanted_free rfl)]
                have c4 := (hC.cell (p := ⟨w.heap.size, 4, none⟩) hwr).trans b4
                unfold Oper.wp
                simp [execOp, go_sem, t66, c4]
                first | done | exact hC | exact ⟨hC, rfl⟩ | (refine ⟨hC, ?_⟩; simp [Act.put])
              · intro a W hC _ _ he hdep
                rw [if_pos (wanted_free rfl)]
                have t5 := slot_else (t := 5) he (by kernel_rfl) rfl
                unfold Oper.wp
                simp [execOp, go_sem, t5]
                first | done | exact hC | exact ⟨hC, rfl⟩ | (refine ⟨hC, ?_⟩; simp [Act.put])
              · intro a W hC _ _ he hdep
                obtain ⟨_, t67, rfl⟩ : ∃ v, a.tmps[67]? = some v ∧ v = .slice (some ⟨g, off, none⟩) p.rs.length cr := hdep ⟨1, .data⟩ (by simp) (by rfl) _ _ rfl rfl
                obtain ⟨_, t68, rfl⟩ : ∃ v, a.tmps[68]? = some v ∧ v = .int .i64 k := hdep ⟨2, .data⟩ (by simp) (by rfl) _ _ rfl rfl
                rw [if_pos (wanted_free rfl)]
                unfold Oper.wp
                simp [execOp, go_sem, t67, t68, hlt]
                first | done | exact hC | exact ⟨hC, rfl⟩ | (refine ⟨hC, ?_⟩; simp [Act.put])
              · intro a W hC _ _ he hdep
                obtain ⟨_, t69, rfl⟩ : ∃ v, a.tmps[69]? = some v ∧ v = .pointer (some ⟨g, off + k * 4, none⟩) := hdep ⟨3, .data⟩ (by simp) (by rfl) _ _ rfl rfl
                rw [if_pos (wanted_free rfl)]
                unfold Oper.wp
                simp [execOp, go_sem, t69]
                first | done | exact hC | exact ⟨hC, rfl⟩ | (refine ⟨hC, ?_⟩; simp [Act.put])
              · intro a W hC _ _ he hdep
                obtain ⟨_, t70, rfl⟩ : ∃ v, a.tmps[70]? = some v ∧ v = .pointer (some ⟨g, off + k * 4 + 1, none⟩) := hdep ⟨4, .data⟩ (by simp) (by rfl) _ _ rfl rfl
                rw [if_pos (wanted_free rfl)]
                have d1 := (hC.cell (p := ⟨g, off + k * 4 + 1, none⟩) hgw).trans r2
                have d2 := (hC.cell (p := ⟨g, off + k * 4 + 2, none⟩) hgw).trans r3
                unfold Oper.wp
                simp [execOp, go_sem, t70, d1, d2]
                first | done | exact hC | exact ⟨hC, rfl⟩ | (refine ⟨hC, ?_⟩; simp [Act.put])
              · intro a W hC _ _ he hdep
                obtain ⟨_, t71, rfl⟩ : ∃ v, a.tmps[71]? = some v ∧ v = .agg #[us k, .int .i64 (p.at k).y] := hdep ⟨5, .data⟩ (by simp) (by rfl) _ _ rfl rfl
                rw [if_pos (wanted_free rfl)]
                unfold Oper.wp
                simp [execOp, go_sem, t71]
                refine (logFault_any _ _ _ _ HSM (Rd.below HR0.out (Nat.le_refl _) hC)).mono ?_
                rintro e W2 ⟨rfl, hb2⟩
                rw [hl0]
                exact ⟨bstep hC hb2, rfl⟩
              · intro a W hC _ _ he hdep
                obtain ⟨_, t72, rfl⟩ : ∃ v, a.tmps[72]? = some v ∧ v = .int .i64 0 := hdep ⟨6, .data⟩ (by simp) (by rfl) _ _ rfl rfl
                rw [if_pos (wanted_free rfl)]
                unfold Oper.wp
                simp [execOp, go_sem, t72]
                first | done | exact hC | exact ⟨hC, rfl⟩ | (refine ⟨hC, ?_⟩; simp [Act.put])
              · intro a W hC _ _ he hdep
                obtain ⟨_, t73, rfl⟩ : ∃ v, a.tmps[73]? = some v ∧ v = .bool false := hdep ⟨7, .data⟩ (by simp) (by rfl) _ _ rfl rfl
                obtain ⟨_, t72, rfl⟩ : ∃ v, a.tmps[72]? = some v ∧ v = .int .i64 0 := hdep ⟨6, .chain⟩ (by simp) (by rfl) _ _ rfl rfl
                rw [if_pos (wanted_free rfl)]
                unfold Oper.wp
                simp [execOp, go_sem, t72, t73]
                first | done | exact hC | exact ⟨hC, rfl⟩ | (refine ⟨hC, ?_⟩; simp [Act.put])
              · intro a W hC _ _ he hdep
                obtain ⟨_, t74, rfl⟩ : ∃ v, a.tmps[74]? = some v ∧ v = .bool false := hdep ⟨8, .guard⟩ (by simp) (by rfl) _ _ rfl rfl
                rw [if_pos (wanted_yes rfl (yielded_slot (t := 74) rfl t74))]
                have t1 := slot_else (t := 1) he (by kernel_rfl) rfl
                unfold Oper.wp
                simp [execOp, go_sem, t1, t74]
                first | done | exact hC | exact ⟨hC, rfl⟩ | (refine ⟨hC, ?_⟩; simp [Act.put])
              · intro a W hC _ _ he hdep
                obtain ⟨_, t75, rfl⟩ : ∃ v, a.tmps[75]? = some v ∧ v = .pointer (some ⟨w.heap.size, 4, none⟩) := hdep ⟨9, .data⟩ (by simp) (by rfl) _ _ rfl rfl
                obtain ⟨_, t74, rfl⟩ : ∃ v, a.tmps[74]? = some v ∧ v = .bool false := hdep ⟨8, .guard⟩ (by simp) (by rfl) _ _ rfl rfl
                rw [if_pos (wanted_yes rfl (yielded_slot (t := 74) rfl t74))]
                have c4 := (hC.cell (p := ⟨w.heap.size, 4, none⟩) hwr).trans b4
                unfold Oper.wp
                simp [execOp, go_sem, t74, t75, c4]
                first | done | exact hC | exact ⟨hC, rfl⟩ | (refine ⟨hC, ?_⟩; simp [Act.put])
              · intro a W hC _ _ he hdep
                obtain ⟨_, t74, rfl⟩ : ∃ v, a.tmps[74]? = some v ∧ v = .bool false := hdep ⟨8, .guard⟩ (by simp) (by rfl) _ _ rfl rfl
                rw [if_pos (wanted_yes rfl (yielded_slot (t := 74) rfl t74))]
                have t5 := slot_else (t := 5) he (by kernel_rfl) rfl
                unfold Oper.wp
                simp [execOp, go_sem, t5, t74]
                first | done | exact hC | exact ⟨hC, rfl⟩ | (refine ⟨hC, ?_⟩; simp [Act.put])
              · intro a W hC _ _ he hdep
                obtain ⟨_, t76, rfl⟩ : ∃ v, a.tmps[76]? = some v ∧ v = .slice (some ⟨g, off, none⟩) p.rs.length cr := hdep ⟨10, .data⟩ (by simp) (by rfl) _ _ rfl rfl
                obtain ⟨_, t77, rfl⟩ : ∃ v, a.tmps[77]? = some v ∧ v = .int .i64 k := hdep ⟨11, .data⟩ (by simp) (by rfl) _ _ rfl rfl
                obtain ⟨_, t74, rfl⟩ : ∃ v, a.tmps[74]? = some v ∧ v = .bool false := hdep ⟨8, .guard⟩ (by simp) (by rfl) _ _ rfl rfl
                rw [if_pos (wanted_yes rfl (yielded_slot (t := 74) rfl t74))]
                unfold Oper.wp
                simp [execOp, go_sem, t74, t76, t77, hlt]
                first | done | exact hC | exact ⟨hC, rfl⟩ | (refine ⟨hC, ?_⟩; simp [Act.put])
              · intro a W hC _ _ he hdep
                obtain ⟨_, t78, rfl⟩ : ∃ v, a.tmps[78]? = some v ∧ v = .pointer (some ⟨g, off + k * 4, none⟩) := hdep ⟨12, .data⟩ (by simp) (by rfl) _ _ rfl rfl
                obtain ⟨_, t74, rfl⟩ : ∃ v, a.tmps[74]? = some v ∧ v = .bool false := hdep ⟨8, .guard⟩ (by simp) (by rfl) _ _ rfl rfl
                rw [if_pos (wanted_yes rfl (yielded_slot (t := 74) rfl t74))]
                unfold Oper.wp
                simp [execOp, go_sem, t74, t78]
                first | done | exact hC | exact ⟨hC, rfl⟩ | (refine ⟨hC, ?_⟩; simp [Act.put])
              · intro a W hC _ _ he hdep
                obtain ⟨_, t79, rfl⟩ : ∃ v, a.tmps[79]? = some v ∧ v = .pointer (some ⟨g, off + k * 4 + 3, none⟩) := hdep ⟨13, .data⟩ (by simp) (by rfl) _ _ rfl rfl
                obtain ⟨_, t74, rfl⟩ : ∃ v, a.tmps[74]? = some v ∧ v = .bool false := hdep ⟨8, .guard⟩ (by simp) (by rfl) _ _ rfl rfl
                rw [if_pos (wanted_yes rfl (yielded_slot (t := 74) rfl t74))]
                have d3 := (hC.cell (p := ⟨g, off + k * 4 + 3, none⟩) hgw).trans r4
                unfold Oper.wp
                simp [execOp, go_sem, t74, t79, d3]
                first | done | exact hC | exact ⟨hC, rfl⟩ | (refine ⟨hC, ?_⟩; simp [Act.put])
              · intro a W hC _ _ he hdep
                obtain ⟨_, t74, rfl⟩ : ∃ v, a.tmps[74]? = some v ∧ v = .bool false := hdep ⟨8, .guard⟩ (by simp) (by rfl) _ _ rfl rfl
                rw [if_pos (wanted_yes rfl (yielded_slot (t := 74) rfl t74))]
                have t1 := slot_else (t := 1) he (by kernel_rfl) rfl
                have c0 := (hC.cell (p := ⟨w.heap.size, 0, none⟩) hwr).trans b0
                have c1 := (hC.cell (p := ⟨w.heap.size, 1, none⟩) hwr).trans b1
                have c2 := (hC.cell (p := ⟨w.heap.size, 2, none⟩) hwr).trans b2
                have c3 := (hC.cell (p := ⟨w.heap.size, 3, none⟩) hwr).trans b3
                have c4 := (hC.cell (p := ⟨w.heap.size, 4, none⟩) hwr).trans b4
                have c5 := (hC.cell (p := ⟨w.heap.size, 5, none⟩) hwr).trans b5
                have c6 := (hC.cell (p := ⟨w.heap.size, 6, none⟩) hwr).trans b6
                unfold Oper.wp
                simp [execOp, go_sem, t1, t74, c0, c1, c2, c3, c4, c5, c6]
                first | done | exact hC | exact ⟨hC, rfl⟩ | (refine ⟨hC, ?_⟩; simp [Act.put])
              · intro a W hC _ _ he hdep
                obtain ⟨_, t74, rfl⟩ : ∃ v, a.tmps[74]? = some v ∧ v = .bool false := hdep ⟨8, .guard⟩ (by simp) (by rfl) _ _ rfl rfl
                rw [if_pos (wanted_yes rfl (yielded_slot (t := 74) rfl t74))]
                have t5 := slot_else (t := 5) he (by kernel_rfl) rfl
                unfold Oper.wp
                simp [execOp, go_sem, t5, t74]
                first | done | exact hC | exact ⟨hC, rfl⟩ | (refine ⟨hC, ?_⟩; simp [Act.put])
              · intro a W hC _ _ he hdep
                obtain ⟨_, t81, rfl⟩ : ∃ v, a.tmps[81]? = some v ∧ v = .agg #[.int .i64 p.ep, .int .i64 p.ld, .slice (some ⟨gi, oi, none⟩) p.isr.length ci, .slice (some ⟨gk, ok, none⟩) p.kn.length ck, .slice (some ⟨g, off, none⟩) p.rs.length cr, .int .i64 p.fw, .int .i64 p.bs] := hdep ⟨15, .data⟩ (by simp) (by rfl) _ _ rfl rfl
                obtain ⟨_, t82, rfl⟩ : ∃ v, a.tmps[82]? = some v ∧ v = .int .i64 k := hdep ⟨16, .data⟩ (by simp) (by rfl) _ _ rfl rfl
                obtain ⟨_, t74, rfl⟩ : ∃ v, a.tmps[74]? = some v ∧ v = .bool false := hdep ⟨8, .chain⟩ (by simp) (by rfl) _ _ rfl rfl
                rw [if_pos (wanted_yes rfl (yielded_slot (t := 74) rfl t74))]
                unfold Oper.wp
                simp [execOp, go_sem, t74, t81, t82]
                refine (logOf_any p _ _ _ us k _ (RdP.below HRr.out (Nat.le_refl _) hC) HSM2.out hlt (by omega)).mono ?_
                rintro e W2 ⟨v3, rfl, hv3, hb3⟩
                obtain ⟨a3, c3, rfl⟩ := hv3.shape
                exact ⟨bstep hC hb3, _, ⟨a3, c3, rfl⟩, rfl⟩
              · intro a W hC _ _ he hdep
                obtain ⟨_, t83, av, cv, rfl⟩ : ∃ v, a.tmps[83]? = some v ∧ ∃ av cv, v = .slice av (p.at k).es.length cv := hdep ⟨17, .data⟩ (by simp) (by rfl) _ _ rfl rfl
                obtain ⟨_, t74, rfl⟩ : ∃ v, a.tmps[74]? = some v ∧ v = .bool false := hdep ⟨8, .guard⟩ (by simp) (by rfl) _ _ rfl rfl
                rw [if_pos (wanted_yes rfl (yielded_slot (t := 74) rfl t74))]
                unfold Oper.wp
                simp [execOp, go_sem, t74, t83]
                first | done | exact hC | exact ⟨hC, rfl⟩ | (refine ⟨hC, ?_⟩; simp [Act.put])
              · intro a W hC _ _ he hdep
                obtain ⟨_, t80, rfl⟩ : ∃ v, a.tmps[80]? = some v ∧ v = .int .i64 (p.at k).h := hdep ⟨14, .data⟩ (by simp) (by rfl) _ _ rfl rfl
                obtain ⟨_, t84, rfl⟩ : ∃ v, a.tmps[84]? = some v ∧ v = .int .i64 (p.at k).es.length := hdep ⟨18, .data⟩ (by simp) (by rfl) _ _ rfl rfl
                obtain ⟨_, t83, av, cv, rfl⟩ : ∃ v, a.tmps[83]? = some v ∧ ∃ av cv, v = .slice av (p.at k).es.length cv := hdep ⟨17, .chain⟩ (by simp) (by rfl) _ _ rfl rfl
                obtain ⟨_, t74, rfl⟩ : ∃ v, a.tmps[74]? = some v ∧ v = .bool false := hdep ⟨8, .guard⟩ (by simp) (by rfl) _ _ rfl rfl
                rw [if_pos (wanted_yes rfl (yielded_slot (t := 74) rfl t74))]
                unfold Oper.wp
                simp [execOp, go_sem, t74, t80, t83, t84]
                refine (In_any _ _ _ _).mono ?_
                rintro e W2 ⟨rfl, rfl⟩
                rw [hcH]
                exact ⟨hC, rfl⟩
              · intro a W hC _ _ he hdep
                obtain ⟨_, t85, rfl⟩ : ∃ v, a.tmps[85]? = some v ∧ v = .bool false := hdep ⟨19, .data⟩ (by simp) (by rfl) _ _ rfl rfl
                obtain ⟨_, t74, rfl⟩ : ∃ v, a.tmps[74]? = some v ∧ v = .bool false := hdep ⟨8, .guard⟩ (by simp) (by rfl) _ _ rfl rfl
                rw [if_pos (wanted_yes rfl (yielded_slot (t := 74) rfl t74))]
                unfold Oper.wp
                simp [execOp, go_sem, t74, t85]
                first | done | exact hC | exact ⟨hC, rfl⟩ | (refine ⟨hC, ?_⟩; simp [Act.put])
              · intro a W hC _ _ he hdep
                obtain ⟨_, t74, rfl⟩ : ∃ v, a.tmps[74]? = some v ∧ v = .bool false := hdep ⟨8, .data⟩ (by simp) (by rfl) _ _ rfl rfl
                obtain ⟨_, t86, rfl⟩ : ∃ v, a.tmps[86]? = some v ∧ v = .bool true := hdep ⟨20, .data⟩ (by simp) (by rfl) _ _ rfl rfl
                rw [if_pos (wanted_free rfl)]
                unfold Oper.wp
                simp [execOp, go_sem, t74, t86]
                first | done | exact hC | exact ⟨hC, rfl⟩ | (refine ⟨hC, ?_⟩; simp [Act.put])
              · intro a W hC _ _ he hdep
                obtain ⟨_, t87, rfl⟩ : ∃ v, a.tmps[87]? = some v ∧ v = .bool true := hdep ⟨21, .data⟩ (by simp) (by rfl) _ _ rfl rfl
                obtain ⟨_, t85, rfl⟩ : ∃ v, a.tmps[85]? = some v ∧ v = .bool false := hdep ⟨19, .chain⟩ (by simp) (by rfl) _ _ rfl rfl
                rw [if_pos (wanted_free rfl)]
                unfold Oper.wp
                simp [execOp, go_sem, t85, t87]
                first | done | exact hC | exact ⟨hC, rfl⟩ | (refine ⟨hC, ?_⟩; simp [Act.put])
              · intro a W hC _ _ he hdep
                obtain ⟨_, t88, rfl⟩ : ∃ v, a.tmps[88]? = some v ∧ v = .bool true := hdep ⟨22, .guard⟩ (by simp) (by rfl) _ _ rfl rfl
                rw [if_neg (by rw [wanted_no rfl (yielded_slot (t := 88) rfl t88) (by decide)]; simp)]
                exact rfl
              · intro a W hC _ _ he hdep
                obtain ⟨_, t89, rfl⟩ : ∃ v, a.tmps[89]? = some v ∧ v = undef := hdep ⟨23, .data⟩ (by simp) (by rfl) _ _ rfl rfl
                obtain ⟨_, t88, rfl⟩ : ∃ v, a.tmps[88]? = some v ∧ v = .bool true := hdep ⟨22, .guard⟩ (by simp) (by rfl) _ _ rfl rfl
                rw [if_neg (by rw [wanted_no rfl (yielded_slot (t := 88) rfl t88) (by decide)]; simp)]
                exact rfl
              · intro a W hC _ _ he hdep
                obtain ⟨_, t88, rfl⟩ : ∃ v, a.tmps[88]? = some v ∧ v = .bool true := hdep ⟨22, .guard⟩ (by simp) (by rfl) _ _ rfl rfl
                rw [if_neg (by rw [wanted_no rfl (yielded_slot (t := 88) rfl t88) (by decide)]; simp)]
                exact rfl
              · intro a W hC _ _ he hdep
                obtain ⟨_, t90, rfl⟩ : ∃ v, a.tmps[90]? = some v ∧ v = undef := hdep ⟨24, .data⟩ (by simp) (by rfl) _ _ rfl rfl
                obtain ⟨_, t91, rfl⟩ : ∃ v, a.tmps[91]? = some v ∧ v = undef := hdep ⟨25, .data⟩ (by simp) (by rfl) _ _ rfl rfl
                obtain ⟨_, t88, rfl⟩ : ∃ v, a.tmps[88]? = some v ∧ v = .bool true := hdep ⟨22, .guard⟩ (by simp) (by rfl) _ _ rfl rfl
                rw [if_neg (by rw [wanted_no rfl (yielded_slot (t := 88) rfl t88) (by decide)]; simp)]
                exact rfl
              · intro a W hC _ _ he hdep
                obtain ⟨_, t92, rfl⟩ : ∃ v, a.tmps[92]? = some v ∧ v = undef := hdep ⟨26, .data⟩ (by simp) (by rfl) _ _ rfl rfl
                obtain ⟨_, t88, rfl⟩ : ∃ v, a.tmps[88]? = some v ∧ v = .bool true := hdep ⟨22, .guard⟩ (by simp) (by rfl) _ _ rfl rfl
                rw [if_neg (by rw [wanted_no rfl (yielded_slot (t := 88) rfl t88) (by decide)]; simp)]
                exact rfl
              · intro a W hC _ _ he hdep
                obtain ⟨_, t93, rfl⟩ : ∃ v, a.tmps[93]? = some v ∧ v = undef := hdep ⟨27, .data⟩ (by simp) (by rfl) _ _ rfl rfl
                obtain ⟨_, t88, rfl⟩ : ∃ v, a.tmps[88]? = some v ∧ v = .bool true := hdep ⟨22, .chain⟩ (by simp) (by rfl) _ _ rfl rfl
                rw [if_neg (by rw [wanted_no rfl (yielded_slot (t := 88) rfl t88) (by decide)]; simp)]
                exact rfl
              · intro a W hC _ _ he hdep
                obtain ⟨_, t94, rfl⟩ : ∃ v, a.tmps[94]? = some v ∧ v = undef := hdep ⟨28, .data⟩ (by simp) (by rfl) _ _ rfl rfl
                obtain ⟨_, t88, rfl⟩ : ∃ v, a.tmps[88]? = some v ∧ v = .bool true := hdep ⟨22, .guard⟩ (by simp) (by rfl) _ _ rfl rfl
                rw [if_neg (by rw [wanted_no rfl (yielded_slot (t := 88) rfl t88) (by decide)]; simp)]
                exact rfl
              · intro a W hC _ _ he hdep
                obtain ⟨_, t88, rfl⟩ : ∃ v, a.tmps[88]? = some v ∧ v = .bool true := hdep ⟨22, .data⟩ (by simp) (by rfl) _ _ rfl rfl
                obtain ⟨_, t95, rfl⟩ : ∃ v, a.tmps[95]? = some v ∧ v = undef := hdep ⟨29, .data⟩ (by simp) (by rfl) _ _ rfl rfl
                rw [if_pos (wanted_free rfl)]
                unfold Oper.wp
                simp [execOp, go_sem, t88, t95]
                first | done | exact hC | exact ⟨hC, rfl⟩ | (refine ⟨hC, ?_⟩; simp [Act.put])
            · intro vs W hC hS
              have h30 : vs 30 = .bool true := hS 30 (by simp)
              simp [over, h30, Act.put]
              clear b0 b1 b2 b3 b4 b5 b6 r1 r2 r3 r4 n0 m0 hS h30
              go_wp2
              go_ret
              rw [HV.out]
              exact ⟨rfl, HBr.out.trans (hC.mono HBr.out.size)⟩
      · have HV : Hid (p.mayB = false) := HNO.out (by unfold Rep.okB; simp [hl0])
        have hl0x : (lft (p.at k).l (p.at k).y != 0) = true := by simp [hl0]
        cases hso : p.some k with
        | true =>
          rw [hso] at HSO
          go_wp2
          refine wp_region_free (C := fun W => Below wr.heap.size wr W) (S := fun i v => match i with | 0 => v = .pointer (some ⟨w.heap.size, 4, none⟩) | 1 => v = .slice (some ⟨g, off, none⟩) p.rs.length cr | 2 => v = .int .i64 k | 3 => v = .pointer (some ⟨g, off + k * 4, none⟩) | 4 => v = .pointer (some ⟨g, off + k * 4 + 1, none⟩) | 5 => v = .agg #[us k, .int .i64 (p.at k).y] | 6 => v = .int .i64 (lft (p.at k).l (p.at k).y) | 7 => v = .bool true | 8 => v = .bool true | 9 => v = undef | 10 => v = undef | 11 => v = undef | 12 => v = undef | 13 => v = undef | 14 => v = undef | 15 => v = undef | 16 => v = undef | 17 => v = undef | 18 => v = undef | 19 => v = undef | 20 => v = undef | 21 => v = .bool true | 22 => v = .bool true | 23 => v = undef | 24 => v = undef | 25 => v = undef | 26 => v = undef | 27 => v = undef | 28 => v = undef | 29 => v = undef | 30 => v = .bool true | _ => True) (by kernel_rfl) (regionB_spec (n := 120) (by kernel_rfl)).1 (regionB_spec (n := 120) (by kernel_rfl)).2.1 (free_of (regionB_spec (n := 120) (by kernel_rfl)).2.2) ((Below.refl _ _).drew) (each_at ?_) ?_
          · refine ⟨?_, ?_, ?_, ?_, ?_, ?_, ?_, ?_, ?_, ?_, ?_, ?_, ?_, ?_, ?_, ?_, ?_, ?_, ?_, ?_, ?_, ?_, ?_, ?_, ?_, ?_, ?_, ?_, ?_, ?_, ?_, trivial⟩
            · intro a W hC _ _ he hdep
              rw [if_pos (wanted_free rfl)]
              have t1 := slot_else (t := 1) he (by kernel_rfl) rfl
              unfold Oper.wp
              simp [execOp, go_sem, t1]
              first | done | exact hC | exact ⟨hC, rfl⟩ | (refine ⟨hC, ?_⟩; simp [Act.put])
            · intro a W hC _ _ he hdep
              obtain ⟨_, t66, rfl⟩ : ∃ v, a.tmps[66]? = some v ∧ v = .pointer (some ⟨w.heap.size, 4, none⟩) := hdep ⟨0, .data⟩ (by simp) (by rfl) _ _ rfl rfl
              rw [if_pos (wanted_free rfl)]
              have c4 := (hC.cell (p := ⟨w.heap.size, 4, none⟩) hwr).trans b4
              unfold Oper.wp
              simp [execOp, go_sem, t66, c4]
              first | done | exact hC | exact ⟨hC, rfl⟩ | (refine ⟨hC, ?_⟩; simp [Act.put])
            · intro a W hC _ _ he hdep
              rw [if_pos (wanted_free rfl)]
              have t5 := slot_else (t := 5) he (by kernel_rfl) rfl
              unfold Oper.wp
              simp [execOp, go_sem, t5]
              first | done | exact hC | exact ⟨hC, rfl⟩ | (refine ⟨hC, ?_⟩; simp [Act.put])
            · intro a W hC _ _ he hdep
              obtain ⟨_, t67, rfl⟩ : ∃ v, a.tmps[67]? = some v ∧ v = .slice (some ⟨g, off, none⟩) p.rs.length cr := hdep ⟨1, .data⟩ (by simp) (by rfl) _ _ rfl rfl
              obtain ⟨_, t68, rfl⟩ : ∃ v, a.tmps[68]? = some v ∧ v = .int .i64 k := hdep ⟨2, .data⟩ (by simp) (by rfl) _ _ rfl rfl
              rw [if_pos (wanted_free rfl)]
              unfold Oper.wp
              simp [execOp, go_sem, t67, t68, hlt]
              first | done | exact hC | exact ⟨hC, rfl⟩ | (refine ⟨hC, ?_⟩; simp [Act.put])
            · intro a W hC _ _ he hdep
              obtain ⟨_, t69, rfl⟩ : ∃ v, a.tmps[69]? = some v ∧ v = .pointer (some ⟨g, off + k * 4, none⟩) := hdep ⟨3, .data⟩ (by simp) (by rfl) _ _ rfl rfl
              rw [if_pos (wanted_free rfl)]
              unfold Oper.wp
              simp [execOp, go_sem, t69]
              first | done | exact hC | exact ⟨hC, rfl⟩ | (refine ⟨hC, ?_⟩; simp [Act.put])
            · intro a W hC _ _ he hdep
              obtain ⟨_, t70, rfl⟩ : ∃ v, a.tmps[70]? = some v ∧ v = .pointer (some ⟨g, off + k * 4 + 1, none⟩) := hdep ⟨4, .data⟩ (by simp) (by rfl) _ _ rfl rfl
              rw [if_pos (wanted_free rfl)]
              have d1 := (hC.cell (p := ⟨g, off + k * 4 + 1, none⟩) hgw).trans r2
              have d2 := (hC.cell (p := ⟨g, off + k * 4 + 2, none⟩) hgw).trans r3
              unfold Oper.wp
              simp [execOp, go_sem, t70, d1, d2]
              first | done | exact hC | exact ⟨hC, rfl⟩ | (refine ⟨hC, ?_⟩; simp [Act.put])
            · intro a W hC _ _ he hdep
              obtain ⟨_, t71, rfl⟩ : ∃ v, a.tmps[71]? = some v ∧ v = .agg #[us k, .int .i64 (p.at k).y] := hdep ⟨5, .data⟩ (by simp) (by rfl) _ _ rfl rfl
              rw [if_pos (wanted_free rfl)]
              unfold Oper.wp
              simp [execOp, go_sem, t71]
              refine (logFault_any _ _ _ _ HSM (Rd.below HR0.out (Nat.le_refl _) hC)).mono ?_
              rintro e W2 ⟨rfl, hb2⟩
              exact ⟨bstep hC hb2, rfl⟩
            · intro a W hC _ _ he hdep
              obtain ⟨_, t72, rfl⟩ : ∃ v, a.tmps[72]? = some v ∧ v = .int .i64 (lft (p.at k).l (p.at k).y) := hdep ⟨6, .data⟩ (by simp) (by rfl) _ _ rfl rfl
              rw [if_pos (wanted_free rfl)]
              unfold Oper.wp
              simp [execOp, go_sem, t72, hl0x]
              first | done | exact hC | exact ⟨hC, rfl⟩ | (refine ⟨hC, ?_⟩; simp [Act.put])
            · intro a W hC _ _ he hdep
              obtain ⟨_, t73, rfl⟩ : ∃ v, a.tmps[73]? = some v ∧ v = .bool true := hdep ⟨7, .data⟩ (by simp) (by rfl) _ _ rfl rfl
              obtain ⟨_, t72, rfl⟩ : ∃ v, a.tmps[72]? = some v ∧ v = .int .i64 (lft (p.at k).l (p.at k).y) := hdep ⟨6, .chain⟩ (by simp) (by rfl) _ _ rfl rfl
              rw [if_pos (wanted_free rfl)]
              unfold Oper.wp
              simp [execOp, go_sem, t72, t73]
              first | done | exact hC | exact ⟨hC, rfl⟩ | (refine ⟨hC, ?_⟩; simp [Act.put])
            · intro a W hC _ _ he hdep
              obtain ⟨_, t74, rfl⟩ : ∃ v, a.tmps[74]? = some v ∧ v = .bool true := hdep ⟨8, .guard⟩ (by simp) (by rfl) _ _ rfl rfl
              rw [if_neg (by rw [wanted_no rfl (yielded_slot (t := 74) rfl t74) (by decide)]; simp)]
              exact rfl
            · intro a W hC _ _ he hdep
              obtain ⟨_, t75, rfl⟩ : ∃ v, a.tmps[75]? = some v ∧ v = undef := hdep ⟨9, .data⟩ (by simp) (by rfl) _ _ rfl rfl
              obtain ⟨_, t74, rfl⟩ : ∃ v, a.tmps[74]? = some v ∧ v = .bool true := hdep ⟨8, .guard⟩ (by simp) (by rfl) _ _ rfl rfl
              rw [if_neg (by rw [wanted_no rfl (yielded_slot (t := 74) rfl t74) (by decide)]; simp)]
              exact rfl
            · intro a W hC _ _ he hdep
              obtain ⟨_, t74, rfl⟩ : ∃ v, a.tmps[74]? = some v ∧ v = .bool true := hdep ⟨8, .guard⟩ (by simp) (by rfl) _ _ rfl rfl
              rw [if_neg (by rw [wanted_no rfl (yielded_slot (t := 74) rfl t74) (by decide)]; simp)]
              exact rfl
            · intro a W hC _ _ he hdep
              obtain ⟨_, t76, rfl⟩ : ∃ v, a.tmps[76]? = some v ∧ v = undef := hdep ⟨10, .data⟩ (by simp) (by rfl) _ _ rfl rfl
              obtain ⟨_, t77, rfl⟩ : ∃ v, a.tmps[77]? = some v ∧ v = undef := hdep ⟨11, .data⟩ (by simp) (by rfl) _ _ rfl rfl
              obtain ⟨_, t74, rfl⟩ : ∃ v, a.tmps[74]? = some v ∧ v = .bool true := hdep ⟨8, .guard⟩ (by simp) (by rfl) _ _ rfl rfl
              rw [if_neg (by rw [wanted_no rfl (yielded_slot (t := 74) rfl t74) (by decide)]; simp)]
              exact rfl
            · intro a W hC _ _ he hdep
              obtain ⟨_, t78, rfl⟩ : ∃ v, a.tmps[78]? = some v ∧ v = undef := hdep ⟨12, .data⟩ (by simp) (by rfl) _ _ rfl rfl
              obtain ⟨_, t74, rfl⟩ : ∃ v, a.tmps[74]? = some v ∧ v = .bool true := hdep ⟨8, .guard⟩ (by simp) (by rfl) _ _ rfl rfl
              rw [if_neg (by rw [wanted_no rfl (yielded_slot (t := 74) rfl t74) (by decide)]; simp)]
              exact rfl
            · intro a W hC _ _ he hdep
              obtain ⟨_, t79, rfl⟩ : ∃ v, a.tmps[79]? = some v ∧ v = undef := hdep ⟨13, .data⟩ (by simp) (by rfl) _ _ rfl rfl
              obtain ⟨_, t74, rfl⟩ : ∃ v, a.tmps[74]? = some v ∧ v = .bool true := hdep ⟨8, .guard⟩ (by simp) (by rfl) _ _ rfl rfl
              rw [if_neg (by rw [wanted_no rfl (yielded_slot (t := 74) rfl t74) (by decide)]; simp)]
              exact rfl
            · intro a W hC _ _ he hdep
              obtain ⟨_, t74, rfl⟩ : ∃ v, a.tmps[74]? = some v ∧ v = .bool true := hdep ⟨8, .guard⟩ (by simp) (by rfl) _ _ rfl rfl
              rw [if_neg (by rw [wanted_no rfl (yielded_slot (t := 74) rfl t74) (by decide)]; simp)]
              exact rfl
            · intro a W hC _ _ he hdep
              obtain ⟨_, t74, rfl⟩ : ∃ v, a.tmps[74]? = some v ∧ v = .bool true := hdep ⟨8, .guard⟩ (by simp) (by rfl) _ _ rfl rfl
              rw [if_neg (by rw [wanted_no rfl (yielded_slot (t := 74) rfl t74) (by decide)]; simp)]
              exact rfl
            · intro a W hC _ _ he hdep
              obtain ⟨_, t81, rfl⟩ : ∃ v, a.tmps[81]? = some v ∧ v = undef := hdep ⟨15, .data⟩ (by simp) (by rfl) _ _ rfl rfl
              obtain ⟨_, t82, rfl⟩ : ∃ v, a.tmps[82]? = some v ∧ v = undef := hdep ⟨16, .data⟩ (by simp) (by rfl) _ _ rfl rfl
              obtain ⟨_, t74, rfl⟩ : ∃ v, a.tmps[74]? = some v ∧ v = .bool true := hdep ⟨8, .chain⟩ (by simp) (by rfl) _ _ rfl rfl
              rw [if_neg (by rw [wanted_no rfl (yielded_slot (t := 74) rfl t74) (by decide)]; simp)]
              exact rfl
            · intro a W hC _ _ he hdep
              obtain ⟨_, t83, rfl⟩ : ∃ v, a.tmps[83]? = some v ∧ v = undef := hdep ⟨17, .data⟩ (by simp) (by rfl) _ _ rfl rfl
              obtain ⟨_, t74, rfl⟩ : ∃ v, a.tmps[74]? = some v ∧ v = .bool true := hdep ⟨8, .guard⟩ (by simp) (by rfl) _ _ rfl rfl
              rw [if_neg (by rw [wanted_no rfl (yielded_slot (t := 74) rfl t74) (by decide)]; simp)]
              exact rfl
            · intro a W hC _ _ he hdep
              obtain ⟨_, t80, rfl⟩ : ∃ v, a.tmps[80]? = some v ∧ v = undef := hdep ⟨14, .data⟩ (by simp) (by rfl) _ _ rfl rfl
              obtain ⟨_, t84, rfl⟩ : ∃ v, a.tmps[84]? = some v ∧ v = undef := hdep ⟨18, .data⟩ (by simp) (by rfl) _ _ rfl rfl
              obtain ⟨_, t83, rfl⟩ : ∃ v, a.tmps[83]? = some v ∧ v = undef := hdep ⟨17, .chain⟩ (by simp) (by rfl) _ _ rfl rfl
              obtain ⟨_, t74, rfl⟩ : ∃ v, a.tmps[74]? = some v ∧ v = .bool true := hdep ⟨8, .guard⟩ (by simp) (by rfl) _ _ rfl rfl
              rw [if_neg (by rw [wanted_no rfl (yielded_slot (t := 74) rfl t74) (by decide)]; simp)]
              exact rfl
            · intro a W hC _ _ he hdep
              obtain ⟨_, t85, rfl⟩ : ∃ v, a.tmps[85]? = some v ∧ v = undef := hdep ⟨19, .data⟩ (by simp) (by rfl) _ _ rfl rfl
              obtain ⟨_, t74, rfl⟩ : ∃ v, a.tmps[74]? = some v ∧ v = .bool true := hdep ⟨8, .guard⟩ (by simp) (by rfl) _ _ rfl rfl
              rw [if_neg (by rw [wanted_no rfl (yielded_slot (t := 74) rfl t74) (by decide)]; simp)]
              exact rfl
            · intro a W hC _ _ he hdep
              obtain ⟨_, t74, rfl⟩ : ∃ v, a.tmps[74]? = some v ∧ v = .bool true := hdep ⟨8, .data⟩ (by simp) (by rfl) _ _ rfl rfl
              obtain ⟨_, t86, rfl⟩ : ∃ v, a.tmps[86]? = some v ∧ v = undef := hdep ⟨20, .data⟩ (by simp) (by rfl) _ _ rfl rfl
              rw [if_pos (wanted_free rfl)]
              unfold Oper.wp
              simp [execOp, go_sem, t74, t86]
              first | done | exact hC | exact ⟨hC, rfl⟩ | (refine ⟨hC, ?_⟩; simp [Act.put])
            · intro a W hC _ _ he hdep
              obtain ⟨_, t87, rfl⟩ : ∃ v, a.tmps[87]? = some v ∧ v = .bool true := hdep ⟨21, .data⟩ (by simp) (by rfl) _ _ rfl rfl
              obtain ⟨_, t85, rfl⟩ : ∃ v, a.tmps[85]? = some v ∧ v = undef := hdep ⟨19, .chain⟩ (by simp) (by rfl) _ _ rfl rfl
              rw [if_pos (wanted_free rfl)]
              unfold Oper.wp
              simp [execOp, go_sem, t85, t87]
              first | done | exact hC | exact ⟨hC, rfl⟩ | (refine ⟨hC, ?_⟩; simp [Act.put])
            · intro a W hC _ _ he hdep
              obtain ⟨_, t88, rfl⟩ : ∃ v, a.tmps[88]? = some v ∧ v = .bool true := hdep ⟨22, .guard⟩ (by simp) (by rfl) _ _ rfl rfl
              rw [if_neg (by rw [wanted_no rfl (yielded_slot (t := 88) rfl t88) (by decide)]; simp)]
              exact rfl
            · intro a W hC _ _ he hdep
              obtain ⟨_, t89, rfl⟩ : ∃ v, a.tmps[89]? = some v ∧ v = undef := hdep ⟨23, .data⟩ (by simp) (by rfl) _ _ rfl rfl
              obtain ⟨_, t88, rfl⟩ : ∃ v, a.tmps[88]? = some v ∧ v = .bool true := hdep ⟨22, .guard⟩ (by simp) (by rfl) _ _ rfl rfl
              rw [if_neg (by rw [wanted_no rfl (yielded_slot (t := 88) rfl t88) (by decide)]; simp)]
              exact rfl
            · intro a W hC _ _ he hdep
              obtain ⟨_, t88, rfl⟩ : ∃ v, a.tmps[88]? = some v ∧ v = .bool true := hdep ⟨22, .guard⟩ (by simp) (by rfl) _ _ rfl rfl
              rw [if_neg (by rw [wanted_no rfl (yielded_slot (t := 88) rfl t88) (by decide)]; simp)]
              exact rfl
            · intro a W hC _ _ he hdep
              obtain ⟨_, t90, rfl⟩ : ∃ v, a.tmps[90]? = some v ∧ v = undef := hdep ⟨24, .data⟩ (by simp) (by rfl) _ _ rfl rfl
              obtain ⟨_, t91, rfl⟩ : ∃ v, a.tmps[91]? = some v ∧ v = undef := hdep ⟨25, .data⟩ (by simp) (by rfl) _ _ rfl rfl
              obtain ⟨_, t88, rfl⟩ : ∃ v, a.tmps[88]? = some v ∧ v = .bool true := hdep ⟨22, .guard⟩ (by simp) (by rfl) _ _ rfl rfl
              rw [if_neg (by rw [wanted_no rfl (yielded_slot (t := 88) rfl t88) (by decide)]; simp)]
              exact rfl
            · intro a W hC _ _ he hdep
              obtain ⟨_, t92, rfl⟩ : ∃ v, a.tmps[92]? = some v ∧ v = undef := hdep ⟨26, .data⟩ (by simp) (by rfl) _ _ rfl rfl
              obtain ⟨_, t88, rfl⟩ : ∃ v, a.tmps[88]? = some v ∧ v = .bool true := hdep ⟨22, .guard⟩ (by simp) (by rfl) _ _ rfl rfl
              rw [if_neg (by rw [wanted_no rfl (yielded_slot (t := 88) rfl t88) (by decide)]; simp)]
              exact rfl
            · intro a W hC _ _ he hdep
              obtain ⟨_, t93, rfl⟩ : ∃ v, a.tmps[93]? = some v ∧ v = undef := hdep ⟨27, .data⟩ (by simp) (by rfl) _ _ rfl rfl
              obtain ⟨_, t88, rfl⟩ : ∃ v, a.tmps[88]? = some v ∧ v = .bool true := hdep ⟨22, .chain⟩ (by simp) (by rfl) _ _ rfl rfl
              rw [if_neg (by rw [wanted_no rfl (yielded_slot (t := 88) rfl t88) (by decide)]; simp)]
              exact rfl
            · intro a W hC _ _ he hdep
              obtain ⟨_, t94, rfl⟩ : ∃ v, a.tmps[94]? = some v ∧ v = undef := hdep ⟨28, .data⟩ (by simp) (by rfl) _ _ rfl rfl
              obtain ⟨_, t88, rfl⟩ : ∃ v, a.tmps[88]? = some v ∧ v = .bool true := hdep ⟨22, .guard⟩ (by simp) (by rfl) _ _ rfl rfl
              rw [if_neg (by rw [wanted_no rfl (yielded_slot (t := 88) rfl t88) (by decide)]; simp)]
              exact rfl
            · intro a W hC _ _ he hdep
              obtain ⟨_, t88, rfl⟩ : ∃ v, a.tmps[88]? = some v ∧ v = .bool true := hdep ⟨22, .data⟩ (by simp) (by rfl) _ _ rfl rfl
              obtain ⟨_, t95, rfl⟩ : ∃ v, a.tmps[95]? = some v ∧ v = undef := hdep ⟨29, .data⟩ (by simp) (by rfl) _ _ rfl rfl
              rw [if_pos (wanted_free rfl)]
              unfold Oper.wp
              simp [execOp, go_sem, t88, t95]
              first | done | exact hC | exact ⟨hC, rfl⟩ | (refine ⟨hC, ?_⟩; simp [Act.put])
          · intro vs W hC hS
            have h30 : vs 30 = .bool true := hS 30 (by simp)
            simp [over, h30, Act.put]
            clear b0 b1 b2 b3 b4 b5 b6 r1 r2 r3 r4 n0 m0 hS h30
            go_wp2
            go_ret
            rw [HV.out]
            exact ⟨rfl, HBr.out.trans (hC.mono HBr.out.size)⟩
        | false =>
          rw [hso] at HSO
          go_wp2
          refine wp_region_free (C := fun W => Below wr.heap.size wr W) (S := fun i v => match i with | 0 => v = .pointer (some ⟨w.heap.size, 4, none⟩) | 1 => v = .slice (some ⟨g, off, none⟩) p.rs.length cr | 2 => v = .int .i64 k | 3 => v = .pointer (some ⟨g, off + k * 4, none⟩) | 4 => v = .pointer (some ⟨g, off + k * 4 + 1, none⟩) | 5 => v = .agg #[us k, .int .i64 (p.at k).y] | 6 => v = .int .i64 (lft (p.at k).l (p.at k).y) | 7 => v = .bool true | 8 => v = .bool true | 9 => v = undef | 10 => v = undef | 11 => v = undef | 12 => v = undef | 13 => v = undef | 14 => v = undef | 15 => v = undef | 16 => v = undef | 17 => v = undef | 18 => v = undef | 19 => v = undef | 20 => v = undef | 21 => v = .bool true | 22 => v = .bool true | 23 => v = undef | 24 => v = undef | 25 => v = undef | 26 => v = undef | 27 => v = undef | 28 => v = undef | 29 => v = undef | 30 => v = .bool true | _ => True) (by kernel_rfl) (regionB_spec (n := 120) (by kernel_rfl)).1 (regionB_spec (n := 120) (by kernel_rfl)).2.1 (free_of (regionB_spec (n := 120) (by kernel_rfl)).2.2) ((Below.refl _ _).drew) (each_at ?_) ?_
          · refine ⟨?_, ?_, ?_, ?_, ?_, ?_, ?_, ?_, ?_, ?_, ?_, ?_, ?_, ?_, ?_, ?_, ?_, ?_, ?_, ?_, ?_, ?_, ?_, ?_, ?_, ?_, ?_, ?_, ?_, ?_, ?_, trivial⟩
            · intro a W hC _ _ he hdep
              rw [if_pos (wanted_free rfl)]
              have t1 := slot_else (t := 1) he (by kernel_rfl) rfl
              unfold Oper.wp
              simp [execOp, go_sem, t1]
              first | done | exact hC | exact ⟨hC, rfl⟩ | (refine ⟨hC, ?_⟩; simp [Act.put])
            · intro a W hC _ _ he hdep
              obtain ⟨_, t66, rfl⟩ : ∃ v, a.tmps[66]? = some v ∧ v = .pointer (some ⟨w.heap.size, 4, none⟩) := hdep ⟨0, .data⟩ (by simp) (by rfl) _ _ rfl rfl
              rw [if_pos (wanted_free rfl)]
              have c4 := (hC.cell (p := ⟨w.heap.size, 4, none⟩) hwr).trans b4
              unfold Oper.wp
              simp [execOp, go_sem, t66, c4]
              first | done | exact hC | exact ⟨hC, rfl⟩ | (refine ⟨hC, ?_⟩; simp [Act.put])
            · intro a W hC _ _ he hdep
              rw [if_pos (wanted_free rfl)]
              have t5 := slot_else (t := 5) he (by kernel_rfl) rfl
              unfold Oper.wp
              simp [execOp, go_sem, t5]
              first | done | exact hC | exact ⟨hC, rfl⟩ | (refine ⟨hC, ?_⟩; simp [Act.put])
            · intro a W hC _ _ he hdep
              obtain ⟨_, t67, rfl⟩ : ∃ v, a.tmps[67]? = some v ∧ v = .slice (some ⟨g, off, none⟩) p.rs.length cr := hdep ⟨1, .data⟩ (by simp) (by rfl) _ _ rfl rfl
              obtain ⟨_, t68, rfl⟩ : ∃ v, a.tmps[68]? = some v ∧ v = .int .i64 k := hdep ⟨2, .data⟩ (by simp) (by rfl) _ _ rfl rfl
              rw [if_pos (wanted_free rfl)]
              unfold Oper.wp
              simp [execOp, go_sem, t67, t68, hlt]
              first | done | exact hC | exact ⟨hC, rfl⟩ | (refine ⟨hC, ?_⟩; simp [Act.put])
            · intro a W hC _ _ he hdep
              obtain ⟨_, t69, rfl⟩ : ∃ v, a.tmps[69]? = some v ∧ v = .pointer (some ⟨g, off + k * 4, none⟩) := hdep ⟨3, .data⟩ (by simp) (by rfl) _ _ rfl rfl
              rw [if_pos (wanted_free rfl)]
              unfold Oper.wp
              simp [execOp, go_sem, t69]
              first | done | exact hC | exact ⟨hC, rfl⟩ | (refine ⟨hC, ?_⟩; simp [Act.put])
            · intro a W hC _ _ he hdep
              obtain ⟨_, t70, rfl⟩ : ∃ v, a.tmps[70]? = some v ∧ v = .pointer (some ⟨g, off + k * 4 + 1, none⟩) := hdep ⟨4, .data⟩ (by simp) (by rfl) _ _ rfl rfl
              rw [if_pos (wanted_free rfl)]
              have d1 := (hC.cell (p := ⟨g, off + k * 4 + 1, none⟩) hgw).trans r2
              have d2 := (hC.cell (p := ⟨g, off + k * 4 + 2, none⟩) hgw).trans r3
              unfold Oper.wp
              simp [execOp, go_sem, t70, d1, d2]
              first | done | exact hC | exact ⟨hC, rfl⟩ | (refine ⟨hC, ?_⟩; simp [Act.put])
            · intro a W hC _ _ he hdep
              obtain ⟨_, t71, rfl⟩ : ∃ v, a.tmps[71]? = some v ∧ v = .agg #[us k, .int .i64 (p.at k).y] := hdep ⟨5, .data⟩ (by simp) (by rfl) _ _ rfl rfl
              rw [if_pos (wanted_free rfl)]
              unfold Oper.wp
              simp [execOp, go_sem, t71]
              refine (logFault_any _ _ _ _ HSM (Rd.below HR0.out (Nat.le_refl _) hC)).mono ?_
              rintro e W2 ⟨rfl, hb2⟩
              exact ⟨bstep hC hb2, rfl⟩
            · intro a W hC _ _ he hdep
              obtain ⟨_, t72, rfl⟩ : ∃ v, a.tmps[72]? = some v ∧ v = .int .i64 (lft (p.at k).l (p.at k).y) := hdep ⟨6, .data⟩ (by simp) (by rfl) _ _ rfl rfl
              rw [if_pos (wanted_free rfl)]
              unfold Oper.wp
              simp [execOp, go_sem, t72, hl0x]
              first | done | exact hC | exact ⟨hC, rfl⟩ | (refine ⟨hC, ?_⟩; simp [Act.put])
            · intro a W hC _ _ he hdep
              obtain ⟨_, t73, rfl⟩ : ∃ v, a.tmps[73]? = some v ∧ v = .bool true := hdep ⟨7, .data⟩ (by simp) (by rfl) _ _ rfl rfl
              obtain ⟨_, t72, rfl⟩ : ∃ v, a.tmps[72]? = some v ∧ v = .int .i64 (lft (p.at k).l (p.at k).y) := hdep ⟨6, .chain⟩ (by simp) (by rfl) _ _ rfl rfl
              rw [if_pos (wanted_free rfl)]
              unfold Oper.wp
              simp [execOp, go_sem, t72, t73]
              first | done | exact hC | exact ⟨hC, rfl⟩ | (refine ⟨hC, ?_⟩; simp [Act.put])
            · intro a W hC _ _ he hdep
              obtain ⟨_, t74, rfl⟩ : ∃ v, a.tmps[74]? = some v ∧ v = .bool true := hdep ⟨8, .guard⟩ (by simp) (by rfl) _ _ rfl rfl
              rw [if_neg (by rw [wanted_no rfl (yielded_slot (t := 74) rfl t74) (by decide)]; simp)]
              exact rfl
            · intro a W hC _ _ he hdep
              obtain ⟨_, t75, rfl⟩ : ∃ v, a.tmps[75]? = some v ∧ v = undef := hdep ⟨9, .data⟩ (by simp) (by rfl) _ _ rfl rfl
              obtain ⟨_, t74, rfl⟩ : ∃ v, a.tmps[74]? = some v ∧ v = .bool true := hdep ⟨8, .guard⟩ (by simp) (by rfl) _ _ rfl rfl
              rw [if_neg (by rw [wanted_no rfl (yielded_slot (t := 74) rfl t74) (by decide)]; simp)]
              exact rfl
            · intro a W hC _ _ he hdep
              obtain ⟨_, t74, rfl⟩ : ∃ v, a.tmps[74]? = some v ∧ v = .bool true := hdep ⟨8, .guard⟩ (by simp) (by rfl) _ _ rfl rfl
              rw [if_neg (by rw [wanted_no rfl (yielded_slot (t := 74) rfl t74) (by decide)]; simp)]
              exact rfl
            · intro a W hC _ _ he hdep
              obtain ⟨_, t76, rfl⟩ : ∃ v, a.tmps[76]? = some v ∧ v = undef := hdep ⟨10, .data⟩ (by simp) (by rfl) _ _ rfl rfl
              obtain ⟨_, t77, rfl⟩ : ∃ v, a.tmps[77]? = some v ∧ v = undef := hdep ⟨11, .data⟩ (by simp) (by rfl) _ _ rfl rfl
              obtain ⟨_, t74, rfl⟩ : ∃ v, a.tmps[74]? = some v ∧ v = .bool true := hdep ⟨8, .guard⟩ (by simp) (by rfl) _ _ rfl rfl
              rw [if_neg (by rw [wanted_no rfl (yielded_slot (t := 74) rfl t74) (by decide)]; simp)]
              exact rfl
            · intro a W hC _ _ he hdep
              obtain ⟨_, t78, rfl⟩ : ∃ v, a.tmps[78]? = some v ∧ v = undef := hdep ⟨12, .data⟩ (by simp) (by rfl) _ _ rfl rfl
              obtain ⟨_, t74, rfl⟩ : ∃ v, a.tmps[74]? = some v ∧ v = .bool true := hdep ⟨8, .guard⟩ (by simp) (by rfl) _ _ rfl rfl
              rw [if_neg (by rw [wanted_no rfl (yielded_slot (t := 74) rfl t74) (by decide)]; simp)]
              exact rfl
            · intro a W hC _ _ he hdep
              obtain ⟨_, t79, rfl⟩ : ∃ v, a.tmps[79]? = some v ∧ v = undef := hdep ⟨13, .data⟩ (by simp) (by rfl) _ _ rfl rfl
              obtain ⟨_, t74, rfl⟩ : ∃ v, a.tmps[74]? = some v ∧ v = .bool true := hdep ⟨8, .guard⟩ (by simp) (by rfl) _ _ rfl rfl
              rw [if_neg (by rw [wanted_no rfl (yielded_slot (t := 74) rfl t74) (by decide)]; simp)]
              exact rfl
            · intro a W hC _ _ he hdep
              obtain ⟨_, t74, rfl⟩ : ∃ v, a.tmps[74]? = some v ∧ v = .bool true := hdep ⟨8, .guard⟩ (by simp) (by rfl) _ _ rfl rfl
              rw [if_neg (by rw [wanted_no rfl (yielded_slot (t := 74) rfl t74) (by decide)]; simp)]
              exact rfl
            · intro a W hC _ _ he hdep
              obtain ⟨_, t74, rfl⟩ : ∃ v, a.tmps[74]? = some v ∧ v = .bool true := hdep ⟨8, .guard⟩ (by simp) (by rfl) _ _ rfl rfl
              rw [if_neg (by rw [wanted_no rfl (yielded_slot (t := 74) rfl t74) (by decide)]; simp)]
              exact rfl
            · intro a W hC _ _ he hdep
              obtain ⟨_, t81, rfl⟩ : ∃ v, a.tmps[81]? = some v ∧ v = undef := hdep ⟨15, .data⟩ (by simp) (by rfl) _ _ rfl rfl
              obtain ⟨_, t82, rfl⟩ : ∃ v, a.tmps[82]? = some v ∧ v = undef := hdep ⟨16, .data⟩ (by simp) (by rfl) _ _ rfl rfl
              obtain ⟨_, t74, rfl⟩ : ∃ v, a.tmps[74]? = some v ∧ v = .bool true := hdep ⟨8, .chain⟩ (by simp) (by rfl) _ _ rfl rfl
              rw [if_neg (by rw [wanted_no rfl (yielded_slot (t := 74) rfl t74) (by decide)]; simp)]
              exact rfl
            · intro a W hC _ _ he hdep
              obtain ⟨_, t83, rfl⟩ : ∃ v, a.tmps[83]? = some v ∧ v = undef := hdep ⟨17, .data⟩ (by simp) (by rfl) _ _ rfl rfl
              obtain ⟨_, t74, rfl⟩ : ∃ v, a.tmps[74]? = some v ∧ v = .bool true := hdep ⟨8, .guard⟩ (by simp) (by rfl) _ _ rfl rfl
              rw [if_neg (by rw [wanted_no rfl (yielded_slot (t := 74) rfl t74) (by decide)]; simp)]
              exact rfl
            · intro a W hC _ _ he hdep
              obtain ⟨_, t80, rfl⟩ : ∃ v, a.tmps[80]? = some v ∧ v = undef := hdep ⟨14, .data⟩ (by simp) (by rfl) _ _ rfl rfl
              obtain ⟨_, t84, rfl⟩ : ∃ v, a.tmps[84]? = some v ∧ v = undef := hdep ⟨18, .data⟩ (by simp) (by rfl) _ _ rfl rfl
              obtain ⟨_, t83, rfl⟩ : ∃ v, a.tmps[83]? = some v ∧ v = undef := hdep ⟨17, .chain⟩ (by simp) (by rfl) _ _ rfl rfl
              obtain ⟨_, t74, rfl⟩ : ∃ v, a.tmps[74]? = some v ∧ v = .bool true := hdep ⟨8, .guard⟩ (by simp) (by rfl) _ _ rfl rfl
              rw [if_neg (by rw [wanted_no rfl (yielded_slot (t := 74) rfl t74) (by decide)]; simp)]
              exact rfl
            · intro a W hC _ _ he hdep
              obtain ⟨_, t85, rfl⟩ : ∃ v, a.tmps[85]? = some v ∧ v = undef := hdep ⟨19, .data⟩ (by simp) (by rfl) _ _ rfl rfl
              obtain ⟨_, t74, rfl⟩ : ∃ v, a.tmps[74]? = some v ∧ v = .bool true := hdep ⟨8, .guard⟩ (by simp) (by rfl) _ _ rfl rfl
              rw [if_neg (by rw [wanted_no rfl (yielded_slot (t := 74) rfl t74) (by decide)]; simp)]
              exact rfl
            · intro a W hC _ _ he hdep
              obtain ⟨_, t74, rfl⟩ : ∃ v, a.tmps[74]? = some v ∧ v = .bool true := hdep ⟨8, .data⟩ (by simp) (by rfl) _ _ rfl rfl
              obtain ⟨_, t86, rfl⟩ : ∃ v, a.tmps[86]? = some v ∧ v = undef := hdep ⟨20, .data⟩ (by simp) (by rfl) _ _ rfl rfl
              rw [if_pos (wanted_free rfl)]
              unfold Oper.wp
              simp [execOp, go_sem, t74, t86]
              first | done | exact hC | exact ⟨hC, rfl⟩ | (refine ⟨hC, ?_⟩; simp [Act.put])
            · intro a W hC _ _ he hdep
              obtain ⟨_, t87, rfl⟩ : ∃ v, a.tmps[87]? = some v ∧ v = .bool true := hdep ⟨21, .data⟩ (by simp) (by rfl) _ _ rfl rfl
              obtain ⟨_, t85, rfl⟩ : ∃ v, a.tmps[85]? = some v ∧ v = undef := hdep ⟨19, .chain⟩ (by simp) (by rfl) _ _ rfl rfl
              rw [if_pos (wanted_free rfl)]
              unfold Oper.wp
              simp [execOp, go_sem, t85, t87]
              first | done | exact hC | exact ⟨hC, rfl⟩ | (refine ⟨hC, ?_⟩; simp [Act.put])
            · intro a W hC _ _ he hdep
              obtain ⟨_, t88, rfl⟩ : ∃ v, a.tmps[88]? = some v ∧ v = .bool true := hdep ⟨22, .guard⟩ (by simp) (by rfl) _ _ rfl rfl
              rw [if_neg (by rw [wanted_no rfl (yielded_slot (t := 88) rfl t88) (by decide)]; simp)]
              exact rfl
            · intro a W hC _ _ he hdep
              obtain ⟨_, t89, rfl⟩ : ∃ v, a.tmps[89]? = some v ∧ v = undef := hdep ⟨23, .data⟩ (by simp) (by rfl) _ _ rfl rfl
              obtain ⟨_, t88, rfl⟩ : ∃ v, a.tmps[88]? = some v ∧ v = .bool true := hdep ⟨22, .guard⟩ (by simp) (by rfl) _ _ rfl rfl
              rw [if_neg (by rw [wanted_no rfl (yielded_slot (t := 88) rfl t88) (by decide)]; simp)]
              exact rfl
            · intro a W hC _ _ he hdep
              obtain ⟨_, t88, rfl⟩ : ∃ v, a.tmps[88]? = some v ∧ v = .bool true := hdep ⟨22, .guard⟩ (by simp) (by rfl) _ _ rfl rfl
              rw [if_neg (by rw [wanted_no rfl (yielded_slot (t := 88) rfl t88) (by decide)]; simp)]
              exact rfl
            · intro a W hC _ _ he hdep
              obtain ⟨_, t90, rfl⟩ : ∃ v, a.tmps[90]? = some v ∧ v = undef := hdep ⟨24, .data⟩ (by simp) (by rfl) _ _ rfl rfl
              obtain ⟨_, t91, rfl⟩ : ∃ v, a.tmps[91]? = some v ∧ v = undef := hdep ⟨25, .data⟩ (by simp) (by rfl) _ _ rfl rfl
              obtain ⟨_, t88, rfl⟩ : ∃ v, a.tmps[88]? = some v ∧ v = .bool true := hdep ⟨22, .guard⟩ (by simp) (by rfl) _ _ rfl rfl
              rw [if_neg (by rw [wanted_no rfl (yielded_slot (t := 88) rfl t88) (by decide)]; simp)]
              exact rfl
            · intro a W hC _ _ he hdep
              obtain ⟨_, t92, rfl⟩ : ∃ v, a.tmps[92]? = some v ∧ v = undef := hdep ⟨26, .data⟩ (by simp) (by rfl) _ _ rfl rfl
              obtain ⟨_, t88, rfl⟩ : ∃ v, a.tmps[88]? = some v ∧ v = .bool true := hdep ⟨22, .guard⟩ (by simp) (by rfl) _ _ rfl rfl
              rw [if_neg (by rw [wanted_no rfl (yielded_slot (t := 88) rfl t88) (by decide)]; simp)]
              exact rfl
            · intro a W hC _ _ he hdep
              obtain ⟨_, t93, rfl⟩ : ∃ v, a.tmps[93]? = some v ∧ v = undef := hdep ⟨27, .data⟩ (by simp) (by rfl) _ _ rfl rfl
              obtain ⟨_, t88, rfl⟩ : ∃ v, a.tmps[88]? = some v ∧ v = .bool true := hdep ⟨22, .chain⟩ (by simp) (by rfl) _ _ rfl rfl
              rw [if_neg (by rw [wanted_no rfl (yielded_slot (t := 88) rfl t88) (by decide)]; simp)]
              exact rfl
            · intro a W hC _ _ he hdep
              obtain ⟨_, t94, rfl⟩ : ∃ v, a.tmps[94]? = some v ∧ v = undef := hdep ⟨28, .data⟩ (by simp) (by rfl) _ _ rfl rfl
              obtain ⟨_, t88, rfl⟩ : ∃ v, a.tmps[88]? = some v ∧ v = .bool true := hdep ⟨22, .guard⟩ (by simp) (by rfl) _ _ rfl rfl
              rw [if_neg (by rw [wanted_no rfl (yielded_slot (t := 88) rfl t88) (by decide)]; simp)]
              exact rfl
            · intro a W hC _ _ he hdep
              obtain ⟨_, t88, rfl⟩ : ∃ v, a.tmps[88]? = some v ∧ v = .bool true := hdep ⟨22, .data⟩ (by simp) (by rfl) _ _ rfl rfl
              obtain ⟨_, t95, rfl⟩ : ∃ v, a.tmps[95]? = some v ∧ v = undef := hdep ⟨29, .data⟩ (by simp) (by rfl) _ _ rfl rfl
              rw [if_pos (wanted_free rfl)]
              unfold Oper.wp
              simp [execOp, go_sem, t88, t95]
              first | done | exact hC | exact ⟨hC, rfl⟩ | (refine ⟨hC, ?_⟩; simp [Act.put])
          · intro vs W hC hS
            have h30 : vs 30 = .bool true := hS 30 (by simp)
            simp [over, h30, Act.put]
            clear b0 b1 b2 b3 b4 b5 b6 r1 r2 r3 r4 n0 m0 hS h30
            go_wp2
            go_ret
            rw [HV.out]
            exact ⟨rfl, HBr.out.trans (hC.mono HBr.out.size)⟩
    · have hke : k = p.rs.length := by omega
      subst hke
      have HVM : Hid (p.mayB = (p.ledB && p.some p.rs.length)) := show _ = _ by rw [HM.out, HO.out]; rfl
      obtain ⟨b0, b1, b2, b3, b4, b5, b6⟩ := hbx
      by_cases hL : p.ld < 0
      · have hE : p.ledB = true := by unfold Prt.ledB; simp [hL]
        rw [hE] at HVM
        have hg0 : decide (p.ld ≥ 0) = false := by simp; omega
        clear hld hE c5
        go_wp2
        go_ret
        rw [HVM.out]
        exact ⟨by simp, HBr.out⟩
      · obtain ⟨d, hd⟩ := Int.eq_ofNat_of_zero_le (show 0 ≤ p.ld by omega)
        have hdn : d < p.rs.length := by omega
        have hdi : d < p.isr.length := by rw [HE1.out]; exact hdn
        have hE : p.ledB = (p.isr.getD d false && (p.at d).up) := by
          have h0 : ¬ ((d : Int) < 0) := by omega
          unfold Prt.ledB; rw [hd]; simp [h0]
        rw [hE] at HVM
        have hg0 : decide ((d : Int) ≥ 0) = true := by simp
        have hdn' : (d : Int) < p.rs.length := by omega
        have hdi' : (d : Int) < p.isr.length := by omega
        obtain ⟨g, off, rfl, _, r0, r1, r2, r3, r4⟩ := hRr.2.2.cells d hdn
        obtain ⟨gi, oi, rfl, m0⟩ := RdP.isrAt hRr.1 d hdi
        rw [hd] at b1
        generalize p.isr.getD d false = bi at *
        generalize (p.at d).up = ud at *
        clear hd hL hE hld c5 r0 r2 r3 r4
        cases bi with
        | true =>
          cases ud with
          | true =>
            go_wp2
            go_ret
            rw [HVM.out]
            exact ⟨by simp, HBr.out⟩
          | false =>
            go_wp2
            go_ret
            rw [HVM.out]
            exact ⟨by simp, HBr.out⟩
        | false =>
          go_wp2
          go_ret
          rw [HVM.out]
          exact ⟨by simp, HBr.out⟩

theorem partMay_any (p : Prt) (vi vk vr : Value) (us : Nat → Value) (w : World) (h : RdP w p vi vk vr us) (hs : p.small) :
    Calls Try.prog 28 #[.agg #[.int .i64 p.ep, .int .i64 p.ld, vi, vk, vr, .int .i64 p.fw, .int .i64 p.bs]] w fun e w' => e = .returned (.bool p.mayB) ∧ Below w.heap.size w w' := by
  cases hf : p.formB with
  | true => exact partMay_main p vi vk vr us w h hs hf
  | false =>
    have : p.mayB = false := by unfold Prt.mayB; rw [hf]; rfl
    rw [this]
    exact partMay_form p vi vk vr us w h hf

end Go.Proofs.Ytkolelpdedmkeaa
