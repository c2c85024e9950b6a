/-
  The walk of coord.Check.
-/
import Derived.Test.YtjhpfnogdjpbmaaCcheck
import Derived.Test.YtjhpfnogdjpbmaaRfree
namespace Go.Proofs.Ytjhpfnogdjpbmaa
open Go.RowKit
set_option linter.unusedVariables false
set_option linter.unusedSimpArgs false

/-- A box that holds a coordinator, and may be stored to. -/
def CBox (w : World) (b : Nat) (c : Crd) (vt : Value) : Prop := w.cell? ⟨b, 0, none⟩ = some (.int .i64 c.ck) ∧ w.cell? ⟨b, 1, none⟩ = some (.int .i64 c.nx) ∧ w.cell? ⟨b, 2, none⟩ = some (.int .i64 c.wt) ∧ w.cell? ⟨b, 3, none⟩ = some vt
def CB (w : World) (b : Nat) (c : Crd) (vt : Value) : Prop := b < w.heap.size ∧ CBox w b c vt ∧ ∀ o, w.frozen? ⟨b, o, none⟩ = false
theorem CB.below {w w' : World} {b C : Nat} {c : Crd} {vt : Value} (h : CB w b c vt) (hg : b < C) (hb : Below C w w') : CB w' b c vt := by
  obtain ⟨s, ⟨a0, a1, a2, a3⟩, f⟩ := h
  exact ⟨Nat.lt_of_lt_of_le s hb.size, ⟨(hb.cell (p := ⟨b, 0, none⟩) hg).trans a0, (hb.cell (p := ⟨b, 1, none⟩) hg).trans a1, (hb.cell (p := ⟨b, 2, none⟩) hg).trans a2, (hb.cell (p := ⟨b, 3, none⟩) hg).trans a3⟩, fun o => (hb.frozen (p := ⟨b, o, none⟩) hg).trans (f o)⟩
theorem cb_new (w : World) (c : Crd) (vt : Value) (T : TypeId) (g : Nat) (hg : g = w.heap.size) : CB (w.alloc (.cells #[.int .i64 c.ck, .int .i64 c.nx, .int .i64 c.wt, vt] T)) g c vt := by
  subst hg
  exact ⟨by simp, ⟨by simp, by simp, by simp, by simp⟩, fun o => by simp [go_sem]⟩

set_option maxRecDepth 100000 in
set_option maxHeartbeats 2000000 in
theorem ccheck_any (c : Crd) (vt : Value) (us : Nat → Value) (w : World) (h : RdC w c vt us) (hs : c.small) :
    Calls Try.prog 20 #[.agg #[.int .i64 c.ck, .int .i64 c.nx, .int .i64 c.wt, vt]] w fun e w' => e = .returned (.int .i64 c.cfl) ∧ Below w.heap.size w w' := by
  obtain ⟨av, cv, rfl, hl1, hl2⟩ := h.shape
  unfold maxLen at hl2
  have hll : (c.ts.length : Int) ≤ 9223372036854775807 := by omega
  have hlc : (c.ts.length : Int) ≤ cv := by omega
  have hlv : (cv : Int) ≤ 9223372036854775807 := by omega
  have HM : Hid (c.mayB = (c.numB && decide (c.ts.length ≤ 8) && allN (fun i => c.okB (c.at i) && c.freeB i) c.ts.length)) := show _ = _ from rfl
  have HB0 : Hid (Below w.heap.size w _) := bbox w (.cells #[.int .i64 c.ck, .int .i64 c.nx, .int .i64 c.wt, .slice av c.ts.length cv] 24)
  have HC0 : Hid (CB _ w.heap.size c _) := cb_new w c (.slice av c.ts.length cv) 24 w.heap.size rfl
  have HR : Hid (∀ W, Below w.heap.size w W → RdC W c (.slice av c.ts.length cv) us) := fun W hW => h.below (Nat.le_refl _) hW
  have HS : Hid c.small := hs
  clear h hs hl1 hl2
  go_enter Try.func20, Try.ntmps20
  go_wp2_with fail
  generalize w.alloc (.cells #[.int .i64 c.ck, .int .i64 c.nx, .int .i64 c.wt, .slice av c.ts.length cv] 24) = w0 at *
  refine (cfitsNumbers_any c _ _).mono ?_
  rintro e w1 ⟨rfl, hb1⟩
  have HB1 : Hid (Below w.heap.size w w1) := bstep HB0.out hb1
  have HC1 : Hid (CB w1 w.heap.size c _) := HC0.out.below HC0.out.1 hb1
  obtain ⟨s1, ⟨a0, a1, a2, a3⟩, f1⟩ := HC1.out
  clear hb1 HB0 HC0
  cases hn : c.numB with
  | false =>
    have HF : Hid (c.cfl = 12) := show _ = _ from ccfl_no (by rw [HM.out, hn]; rfl)
    go_wp2
    go_ret
    exact ⟨by rw [HF.out]; rfl, HB1.out⟩
  | true =>
    have HNB : Hid (c.numB = true) := hn
    have hx : 1 ≤ c.nx ∧ c.nx ≤ 1073741824 := by
      unfold Crd.numB at hn
      simp only [Bool.and_eq_true, inR_iff] at hn
      exact hn.1.2
    obtain ⟨hx0, hx1⟩ := hx
    clear hn
    by_cases h8 : c.ts.length ≤ 8
    rotate_left
    · have HF : Hid (c.cfl = 12) := show _ = _ from ccfl_no (by rw [HM.out, HNB.out, decide_eq_false h8]; rfl)
      have d1 : decide (8 < (c.ts.length : Int)) = true := by simp; omega
      go_wp2
      go_ret
      exact ⟨by rw [HF.out]; rfl, HB1.out⟩
    have d1 : decide (8 < (c.ts.length : Int)) = false := by simp; omega
    have H8 : Hid (decide (c.ts.length ≤ 8) = true) := show _ = _ by simp [h8]
    go_wp2
    clear a0 a1 a2 a3 f1 s1
    go_loopw [17] (fun i wr => ∃ k : Nat, k ≤ c.ts.length ∧ i = .int .i64 k ∧ Hid (allN (fun i => c.okB (c.at i) && c.freeB i) k = true) ∧ Hid (Below w.heap.size w wr) ∧ Hid (CB wr w.heap.size c (.slice av c.ts.length cv))) (fun i _ => c.ts.length - (intOf i).toNat)
    case atStart => exact ⟨0, by omega, rfl, rfl, HB1, HC1⟩
    case round =>
      obtain ⟨k, hk, rfl, HA, HB, HC⟩ := hrel
      by_cases hlt : k < c.ts.length
      rotate_left
      · have hke : k = c.ts.length := by omega
        have HF : Hid (c.cfl = 0) := show _ = _ from ccfl_yes (by rw [HM.out, HNB.out, H8.out, ← hke, HA.out]; rfl)
        clear hke
        go_wp2
        go_ret
        exact ⟨by rw [HF.out]; rfl, HB.out⟩
      have hltv : (k : Int) < c.ts.length := by omega
      have hkc : (k : Int) ≤ cv := by omega
      obtain ⟨gg, off, rfl, hq, q0, q1, q2, q3, q4, q5, q6⟩ := (HR.out wr HB.out).txn k hlt
      have HAT : Hid (c.at k = c.ts[k]'hlt) := show _ = _ from at_txn hlt
      have HSZ : Hid ((c.ts[k]'hlt).nm.size ≤ maxLen) := HS.out _ (List.getElem_mem hlt)
      obtain ⟨s1, ⟨a0, a1, a2, a3⟩, f1⟩ := HC.out
      obtain ⟨t, ht⟩ : ∃ t, c.ts[k]'hlt = t := ⟨_, rfl⟩
      rw [ht] at hq q0 q1 q2 q3 q5 q6 HAT HSZ
      have HQ : Hid (∀ W, Below wr.heap.size wr W → RdV W (us k) (ints t.ps)) := fun W hW => hq.below (Nat.le_refl _) hW
      obtain ⟨u, hu⟩ : ∃ u, us k = u := ⟨_, rfl⟩
      rw [hu] at q4 HQ
      obtain ⟨au, cu, rfl⟩ : ∃ au cu, u = .slice au t.ps.length cu := by
        obtain ⟨au, cu, e⟩ := hq.shape
        rw [ints_len] at e
        exact ⟨au, cu, by rw [← hu, e]⟩
      clear ht hu hq
      go_wp2
      have HTB : Hid (TBox _ wr.heap.size 0 t (.slice au t.ps.length cu)) := tbox_new wr t (.slice au t.ps.length cu) 62
      have HBX : Hid (Below wr.heap.size wr _) := bbox wr (.cells #[.string t.nm, .int .i64 t.id, .int .i64 t.v, .int .i64 t.st, .slice au t.ps.length cu, .int .i64 t.sn, .int .i64 t.dn] 62)
      have hz1 : wr.heap.size < (wr.alloc (.cells #[.string t.nm, .int .i64 t.id, .int .i64 t.v, .int .i64 t.st, .slice au t.ps.length cu, .int .i64 t.sn, .int .i64 t.dn] 62)).heap.size := by simp
      generalize wr.alloc (.cells #[.string t.nm, .int .i64 t.id, .int .i64 t.v, .int .i64 t.st, .slice au t.ps.length cu, .int .i64 t.sn, .int .i64 t.dn] 62) = W0 at *
      clear a0 a1 a2 a3 f1 s1 q0 q1 q2 q3 q4 q5 q6
      obtain ⟨s1, ⟨a0, a1, a2, a3⟩, f1⟩ := HC.out.below HC.out.1 HBX.out
      obtain ⟨q0, q1, q2, q3, q4, q5, q6⟩ := HTB.out
      have HFR : Hid (c.freeB k = allN (fun j => !likeB (c.at j) t) k) := show _ = _ by unfold Crd.freeB; rw [HAT.out]
      have HTK : Hid ((c.ts.take k).length = k) := show _ = _ by rw [List.length_take]; omega
      have HTA : Hid ((!allN (fun i => !likeB ((c.ts.take k).getD i zeroT) t) (c.ts.take k).length) = !c.freeB k) := show _ = _ by
        rw [HTK.out, HFR.out]
        congr 1
        exact allN_congr fun j hj => by
          have : (c.ts.take k).getD j zeroT = c.at j := by unfold Crd.at; simp [List.getD, hj]
          rw [this]
      have HRT : Hid (∀ W, Below wr.heap.size wr W → RdW txnE W (.slice (some ⟨gg, off, none⟩) k cv) (c.ts.take k) us) := fun W hW => by
        have h1 := (HR.out W (bstep HB.out hW)).take k hk
        exact h1
      go_cut [34] (fun r W => r = .bool (!(c.okB t && c.freeB k)) ∧ Below wr.heap.size wr W)
      case first =>
        cases hok : c.okB t with
        | false =>
          have HND : Hid ((!(c.okB t && c.freeB k)) = true) := show _ = _ by rw [hok]; rfl
          clear HR HRT HM HNB H8 HA
          -- FREE
          refine wp_region_free (C := fun W => Below W0.heap.size W0 W) (S := fun i v => match i with | 0 => v = .agg #[.int .i64 c.ck, .int .i64 c.nx, .int .i64 c.wt, .slice (some ⟨gg, off, none⟩) c.ts.length cv] | 1 => v = .agg #[.string t.nm, .int .i64 t.id, .int .i64 t.v, .int .i64 t.st, .slice au t.ps.length cu, .int .i64 t.sn, .int .i64 t.dn] | 2 => v = .bool false | 3 => v = .bool true | 4 => v = .bool true | 5 => v = undef | 6 => v = undef | 7 => v = undef | 8 => v = undef | 9 => v = undef | 10 => v = undef | 11 => v = undef | 12 => v = .bool true | _ => True) (by kernel_rfl) (regionB_spec (n := 36) (by kernel_rfl)).1 (regionB_spec (n := 36) (by kernel_rfl)).2.1 (free_of (regionB_spec (n := 36) (by kernel_rfl)).2.2) ((Below.refl _ _).drew) (each_at ?_) ?_
          · refine ⟨?_, ?_, ?_, ?_, ?_, ?_, ?_, ?_, ?_, ?_, ?_, ?_, ?_, trivial⟩
            · intro a W hC _ _ he hdep
              rw [if_pos (wanted_free rfl)]
              have t1 := slot_else (t := 1) he (by kernel_rfl) rfl
              have A0 := (hC.cell (p := ⟨w.heap.size, 0, none⟩) s1).trans a0
              have A1 := (hC.cell (p := ⟨w.heap.size, 1, none⟩) s1).trans a1
              have A2 := (hC.cell (p := ⟨w.heap.size, 2, none⟩) s1).trans a2
              have A3 := (hC.cell (p := ⟨w.heap.size, 3, none⟩) s1).trans a3
              unfold Oper.wp
              simp [execOp, go_sem, t1, A0, A1, A2, A3]
              first | done | exact hC | exact ⟨hC, rfl⟩ | (refine ⟨hC, ?_⟩; simp [Act.put])
            · intro a W hC _ _ he hdep
              rw [if_pos (wanted_free rfl)]
              have t4 := slot_else (t := 4) he (by kernel_rfl) rfl
              have Q0 := (hC.cell (p := ⟨wr.heap.size, 0, none⟩) hz1).trans q0
              have Q1 := (hC.cell (p := ⟨wr.heap.size, 1, none⟩) hz1).trans q1
              have Q2 := (hC.cell (p := ⟨wr.heap.size, 2, none⟩) hz1).trans q2
              have Q3 := (hC.cell (p := ⟨wr.heap.size, 3, none⟩) hz1).trans q3
              have Q4 := (hC.cell (p := ⟨wr.heap.size, 4, none⟩) hz1).trans q4
              have Q5 := (hC.cell (p := ⟨wr.heap.size, 5, none⟩) hz1).trans q5
              have Q6 := (hC.cell (p := ⟨wr.heap.size, 6, none⟩) hz1).trans q6
              unfold Oper.wp
              simp [execOp, go_sem, t4, Q0, Q1, Q2, Q3, Q4, Q5, Q6]
              first | done | exact hC | exact ⟨hC, rfl⟩ | (refine ⟨hC, ?_⟩; simp [Act.put])
            · intro a W hC _ _ he hdep
              obtain ⟨_, t22, rfl⟩ : ∃ v, a.tmps[22]? = some v ∧ v = .agg #[.int .i64 c.ck, .int .i64 c.nx, .int .i64 c.wt, .slice (some ⟨gg, off, none⟩) c.ts.length cv] := hdep ⟨0, .data⟩ (by simp) (by rfl) _ _ rfl rfl
              obtain ⟨_, t23, rfl⟩ : ∃ v, a.tmps[23]? = some v ∧ v = .agg #[.string t.nm, .int .i64 t.id, .int .i64 t.v, .int .i64 t.st, .slice au t.ps.length cu, .int .i64 t.sn, .int .i64 t.dn] := hdep ⟨1, .data⟩ (by simp) (by rfl) _ _ rfl rfl
              rw [if_pos (wanted_free rfl)]
              unfold Oper.wp
              simp [execOp, go_sem, t22, t23]
              refine (fitsTxn_any c _ t _ _ hx0 hx1 HSZ.out (HQ.out _ (bstep HBX.out hC))).mono ?_
              rintro e W2 ⟨rfl, hb2⟩
              rw [hok]
              exact ⟨bstep hC hb2, rfl⟩
            · intro a W hC _ _ he hdep
              obtain ⟨_, t24, rfl⟩ : ∃ v, a.tmps[24]? = some v ∧ v = .bool false := hdep ⟨2, .data⟩ (by simp) (by rfl) _ _ rfl rfl
              rw [if_pos (wanted_free rfl)]
              unfold Oper.wp
              simp [execOp, go_sem, t24]
              first | done | exact hC | exact ⟨hC, rfl⟩ | (refine ⟨hC, ?_⟩; simp [Act.put])
            · intro a W hC _ _ he hdep
              obtain ⟨_, t25, rfl⟩ : ∃ v, a.tmps[25]? = some v ∧ v = .bool true := hdep ⟨3, .data⟩ (by simp) (by rfl) _ _ rfl rfl
              obtain ⟨_, t24, rfl⟩ : ∃ v, a.tmps[24]? = some v ∧ v = .bool false := hdep ⟨2, .chain⟩ (by simp) (by rfl) _ _ rfl rfl
              rw [if_pos (wanted_free rfl)]
              unfold Oper.wp
              simp [execOp, go_sem, t24, t25]
              first | done | exact hC | exact ⟨hC, rfl⟩ | (refine ⟨hC, ?_⟩; simp [Act.put])
            · intro a W hC _ _ he hdep
              obtain ⟨_, t26, rfl⟩ : ∃ v, a.tmps[26]? = some v ∧ v = .bool true := hdep ⟨4, .guard⟩ (by simp) (by rfl) _ _ rfl rfl
              rw [if_neg (by rw [wanted_no rfl (yielded_slot (t := 26) rfl t26) (by decide)]; simp)]
              exact rfl
            · intro a W hC _ _ he hdep
              obtain ⟨_, t27, rfl⟩ : ∃ v, a.tmps[27]? = some v ∧ v = undef := hdep ⟨5, .data⟩ (by simp) (by rfl) _ _ rfl rfl
              obtain ⟨_, t26, rfl⟩ : ∃ v, a.tmps[26]? = some v ∧ v = .bool true := hdep ⟨4, .guard⟩ (by simp) (by rfl) _ _ rfl rfl
              rw [if_neg (by rw [wanted_no rfl (yielded_slot (t := 26) rfl t26) (by decide)]; simp)]
              exact rfl
            · intro a W hC _ _ he hdep
              obtain ⟨_, t26, rfl⟩ : ∃ v, a.tmps[26]? = some v ∧ v = .bool true := hdep ⟨4, .guard⟩ (by simp) (by rfl) _ _ rfl rfl
              rw [if_neg (by rw [wanted_no rfl (yielded_slot (t := 26) rfl t26) (by decide)]; simp)]
              exact rfl
            · intro a W hC _ _ he hdep
              obtain ⟨_, t28, rfl⟩ : ∃ v, a.tmps[28]? = some v ∧ v = undef := hdep ⟨6, .data⟩ (by simp) (by rfl) _ _ rfl rfl
              obtain ⟨_, t29, rfl⟩ : ∃ v, a.tmps[29]? = some v ∧ v = undef := hdep ⟨7, .data⟩ (by simp) (by rfl) _ _ rfl rfl
              obtain ⟨_, t26, rfl⟩ : ∃ v, a.tmps[26]? = some v ∧ v = .bool true := hdep ⟨4, .guard⟩ (by simp) (by rfl) _ _ rfl rfl
              rw [if_neg (by rw [wanted_no rfl (yielded_slot (t := 26) rfl t26) (by decide)]; simp)]
              exact rfl
            · intro a W hC _ _ he hdep
              obtain ⟨_, t26, rfl⟩ : ∃ v, a.tmps[26]? = some v ∧ v = .bool true := hdep ⟨4, .guard⟩ (by simp) (by rfl) _ _ rfl rfl
              rw [if_neg (by rw [wanted_no rfl (yielded_slot (t := 26) rfl t26) (by decide)]; simp)]
              exact rfl
            · intro a W hC _ _ he hdep
              obtain ⟨_, t31, rfl⟩ : ∃ v, a.tmps[31]? = some v ∧ v = undef := hdep ⟨9, .data⟩ (by simp) (by rfl) _ _ rfl rfl
              obtain ⟨_, t26, rfl⟩ : ∃ v, a.tmps[26]? = some v ∧ v = .bool true := hdep ⟨4, .chain⟩ (by simp) (by rfl) _ _ rfl rfl
              rw [if_neg (by rw [wanted_no rfl (yielded_slot (t := 26) rfl t26) (by decide)]; simp)]
              exact rfl
            · intro a W hC _ _ he hdep
              obtain ⟨_, t30, rfl⟩ : ∃ v, a.tmps[30]? = some v ∧ v = undef := hdep ⟨8, .data⟩ (by simp) (by rfl) _ _ rfl rfl
              obtain ⟨_, t32, rfl⟩ : ∃ v, a.tmps[32]? = some v ∧ v = undef := hdep ⟨10, .data⟩ (by simp) (by rfl) _ _ rfl rfl
              obtain ⟨_, t26, rfl⟩ : ∃ v, a.tmps[26]? = some v ∧ v = .bool true := hdep ⟨4, .guard⟩ (by simp) (by rfl) _ _ rfl rfl
              rw [if_neg (by rw [wanted_no rfl (yielded_slot (t := 26) rfl t26) (by decide)]; simp)]
              exact rfl
            · intro a W hC _ _ he hdep
              obtain ⟨_, t26, rfl⟩ : ∃ v, a.tmps[26]? = some v ∧ v = .bool true := hdep ⟨4, .data⟩ (by simp) (by rfl) _ _ rfl rfl
              obtain ⟨_, t33, rfl⟩ : ∃ v, a.tmps[33]? = some v ∧ v = undef := hdep ⟨11, .data⟩ (by simp) (by rfl) _ _ rfl rfl
              rw [if_pos (wanted_free rfl)]
              unfold Oper.wp
              simp [execOp, go_sem, t26, t33]
              first | done | exact hC | exact ⟨hC, rfl⟩ | (refine ⟨hC, ?_⟩; simp [Act.put])
          · intro vs W hC hS
            have h12 : vs 12 = .bool true := hS 12 (by simp)
            simp [over, h12, Act.put]
            go_wp2_with fail
            go_meet
            exact ⟨by rw [HND.out], bstep HBX.out hC⟩
          -- END
        | true =>
          have HND : Hid ((!(c.okB t && c.freeB k)) = !c.freeB k) := show _ = _ by rw [hok]; rfl
          go_region_with (first | (go_at_call 45; refine (fitsTxn_any c _ t _ _ hx0 hx1 HSZ.out (HQ.out _ (bstep HBX.out (by repeat (first | exact Below.refl _ _ | refine Below.drew ?_))))).mono ?_; rintro e w5 ⟨rfl, hb5⟩; rw [hok]; have hB5 : Below W0.heap.size W0 w5 := bstep (by repeat (first | exact Below.refl _ _ | refine Below.drew ?_)) hb5; obtain ⟨m1, m2⟩ := bcell hB5; clear hb5) | (go_at_call 47; refine (like_any t _ _).mono ?_; rintro e w6 ⟨rfl, hl6, ht6, hb6⟩; have hB6 : Below W0.heap.size W0 w6 := bstep (by repeat (first | exact Below.refl _ _ | exact hB5 | refine Below.drew ?_)) hb6; obtain ⟨m3, m4⟩ := bcell hB6; clear hb6) | (go_at_call 46; go_must (refine (containsT_any _ _ (fun y => likeB y t) (enters_of Try.func74 (by kernel_rfl) rfl) (c.ts.take k) _ us _ (HRT.out _ (bstep HBX.out (by repeat (first | exact Below.refl _ _ | exact hB6 | refine Below.drew ?_)))) (like_fn _ t _ _ hl6 ht6)).mono ?_; rintro e w7 ⟨rfl, hb7⟩; rw [HTA.out])))
          all_goals
            go_wp2_with fail
            go_meet
            exact ⟨by rw [HND.out], bstep HBX.out (hB6.trans (hb7.mono hB6.size))⟩
      case rest =>
        obtain ⟨hv, hbl⟩ := hcut
        subst hv
        rename World => W6
        have HBW : Hid (Below w.heap.size w W6) := bstep HB.out hbl
        have HCW : Hid (CB W6 w.heap.size c _) := HC.out.below HC.out.1 hbl
        have HOK : Hid ((c.okB (c.at k) && c.freeB k) = (c.okB t && c.freeB k)) := show _ = _ by rw [HAT.out]
        cases hd : (c.okB t && c.freeB k) with
        | false =>
          have HF : Hid (c.cfl = 12) := show _ = _ from ccfl_no (by rw [HM.out, allN_no hlt (by rw [HOK.out, hd])]; simp)
          go_at_K
          go_wp2
          go_ret
          exact ⟨by rw [HF.out]; rfl, HBW.out⟩
        | true =>
          have HN : Hid (allN (fun i => c.okB (c.at i) && c.freeB i) (k + 1) = true) := show _ = _ by
            simp only [allN, HA.out, Bool.true_and]
            rw [HOK.out, hd]
          go_at_K
          go_wp2
          go_roundw
          case rel => exact ⟨k + 1, by omega, by go_num, HN, HBW, HCW⟩
          case measure => simp [intOf]; omega

end Go.Proofs.Ytjhpfnogdjpbmaa
