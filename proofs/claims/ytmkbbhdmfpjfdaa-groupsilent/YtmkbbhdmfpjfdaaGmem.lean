/-
  group.fitsMembers and group.Check, walked.
-/
import Derived.Test.YtmkbbhdmfpjfdaaGfn
import Derived.Test.YtmkbbhdmfpjfdaaGoffs
import Derived.Test.YtmkbbhdmfpjfdaaRfree
namespace Go.Proofs.Ytmkbbhdmfpjfdaa
open Go.RowKit
set_option linter.unusedVariables false
set_option linter.unusedSimpArgs false

def Grp.memB (g : Grp) : Bool := decide (g.ms.length ≤ 6) && allN (fun i => g.okM (g.at i) && g.freeM i) g.ms.length
def Grp.gfl (g : Grp) : Int := if g.mayB then 0 else 12
theorem gfl_yes {g : Grp} (h : g.mayB = true) : g.gfl = 0 := by unfold Grp.gfl; rw [h]; rfl
theorem gfl_no {g : Grp} (h : g.mayB = false) : g.gfl = 12 := by unfold Grp.gfl; rw [h]; rfl
theorem ofsB_eq (g : Grp) : g.ofsB = ofsL g.os := rfl
theorem mayB_eq (g : Grp) : g.mayB = (g.numB && g.memB && (decide (g.os.length ≤ 4) && ofsL g.os)) := by
  unfold Grp.mayB Grp.memB
  rw [ofsB_eq]
  cases g.numB <;> cases decide (g.ms.length ≤ 6) <;> cases decide (g.os.length ≤ 4) <;> simp
theorem okM_eq (g : Grp) (m : Mem) : g.okM m = (nameB m.nm && inR m.hd 0 g.ck && riseB m.ps) := rfl

set_option maxRecDepth 100000 in
set_option maxHeartbeats 4000000 in
theorem gfitsMembers_any (g : Grp) (vm vo : Value) (us : Nat → Value) (w : World) (h : RdG w g vm vo us) (hs : g.small) :
    Calls Try.prog 53 #[.agg #[.int .i64 g.ck, .int .i64 g.wt, .int .i64 g.gn, vm, vo]] w fun e w' => e = .returned (.bool g.memB) ∧ Below w.heap.size w w' := by
  obtain ⟨av, cv, rfl, hl1, hl2⟩ := h.m.shape
  unfold maxLen at hl2
  have hll : (g.ms.length : Int) ≤ 9223372036854775807 := by omega
  have hlc : (g.ms.length : Int) ≤ cv := by omega
  have hlv : (cv : Int) ≤ 9223372036854775807 := by omega
  have HM : Hid (g.memB = (decide (g.ms.length ≤ 6) && allN (fun i => g.okM (g.at i) && g.freeM i) g.ms.length)) := show _ = _ from rfl
  have HB0 : Hid (Below w.heap.size w _) := bbox w (.cells #[.int .i64 g.ck, .int .i64 g.wt, .int .i64 g.gn, .slice av g.ms.length cv, vo] 25)
  have HC0 : Hid (GB _ w.heap.size g _ _) := gb_new w g (.slice av g.ms.length cv) vo w.heap.size rfl
  have HR : Hid (∀ W, Below w.heap.size w W → RdG W g (.slice av g.ms.length cv) vo us) := fun W hW => h.below (Nat.le_refl _) hW
  have HS : Hid g.small := hs
  clear h hs hl1 hl2
  go_enter Try.func53, Try.ntmps53
  go_upto_region 1 with fail
  generalize w.alloc (.cells #[.int .i64 g.ck, .int .i64 g.wt, .int .i64 g.gn, .slice av g.ms.length cv, vo] 25) = w0 at *
  obtain ⟨s1, ⟨a0, a1, a2, a3, a4⟩, f1⟩ := HC0.out
  by_cases h8 : g.ms.length ≤ 6
  rotate_left
  · have HF : Hid (g.memB = false) := show _ = _ from by rw [HM.out, decide_eq_false h8]; rfl
    have d1 : decide (6 < (g.ms.length : Int)) = true := by simp; omega
    go_wp2
    go_ret
    exact ⟨by rw [HF.out]; rfl, HB0.out⟩
  have d1 : decide (6 < (g.ms.length : Int)) = false := by simp; omega
  have H8 : Hid (decide (g.ms.length ≤ 6) = true) := show _ = _ by simp [h8]
  go_wp2
  clear a0 a1 a2 a3 a4 f1 s1
  go_loopw [12] (fun i wr => ∃ k : Nat, k ≤ g.ms.length ∧ i = .int .i64 k ∧ Hid (allN (fun i => g.okM (g.at i) && g.freeM i) k = true) ∧ Hid (Below w.heap.size w wr) ∧ Hid (GB wr w.heap.size g (.slice av g.ms.length cv) vo)) (fun i _ => g.ms.length - (intOf i).toNat)
  case atStart => exact ⟨0, by omega, rfl, rfl, HB0, HC0⟩
  case round =>
    obtain ⟨k, hk, rfl, HA, HB, HC⟩ := hrel
    by_cases hlt : k < g.ms.length
    rotate_left
    · have hke : k = g.ms.length := by omega
      have HF : Hid (g.memB = true) := show _ = _ from by rw [HM.out, H8.out, ← hke, HA.out]; rfl
      clear hke
      go_wp2
      go_ret
      exact ⟨by rw [HF.out]; rfl, HB.out⟩
    have hltv : (k : Int) < g.ms.length := by omega
    have hkc : (k : Int) ≤ cv := by omega
    obtain ⟨gg, off, m, au, cu, rfl, HAT, -, HQR, -, HME, q0, q1, q2⟩ := (HR.out wr HB.out).memAt k hlt
    have HSZ : Hid (m.nm.size ≤ maxLen) := HS.out _ HME.out
    obtain ⟨s1, ⟨a0, a1, a2, a3, a4⟩, f1⟩ := HC.out
    have HQ : Hid (∀ W, Below wr.heap.size wr W → RdV W (.slice au m.ps.length cu) (ints m.ps)) := fun W hW => HQR.out.below (Nat.le_refl _) hW
    clear HQR
    go_wp2
    have HTB : Hid (MBox _ wr.heap.size 0 m (.slice au m.ps.length cu)) := mbox_new wr m (.slice au m.ps.length cu) wr.heap.size rfl
    have HBX : Hid (Below wr.heap.size wr _) := bbox wr (.cells #[.string m.nm, .int .i64 m.hd, .slice au m.ps.length cu] 55)
    have hz1 : wr.heap.size < (wr.alloc (.cells #[.string m.nm, .int .i64 m.hd, .slice au m.ps.length cu] 55)).heap.size := by simp
    generalize wr.alloc (.cells #[.string m.nm, .int .i64 m.hd, .slice au m.ps.length cu] 55) = W0 at *
    clear a0 a1 a2 a3 a4 f1 s1 q0 q1 q2
    obtain ⟨s1, ⟨a0, a1, a2, a3, a4⟩, f1⟩ := HC.out.below HC.out.1 HBX.out
    obtain ⟨q0, q1, q2⟩ := HTB.out
    have HFR : Hid (g.freeM k = allN (fun j => !sameN (g.at j).nm m.nm) k) := show _ = _ by unfold Grp.freeM; rw [HAT.out]
    have HTK : Hid ((g.ms.take k).length = k) := show _ = _ by rw [List.length_take]; omega
    have HTA : Hid ((!allN (fun i => !sameN ((g.ms.take k).getD i zeroM).nm m.nm) (g.ms.take k).length) = !g.freeM k) := show _ = _ by
      rw [HTK.out, HFR.out]
      congr 1
      exact allN_congr fun j hj => by
        have : (g.ms.take k).getD j zeroM = g.at j := by unfold Grp.at; simp [List.getD, hj]
        rw [this]
    have HRT : Hid (∀ W, Below wr.heap.size wr W → RdW memE W (.slice (some ⟨gg, off, none⟩) k cv) (g.ms.take k) us) := fun W hW => by
      have h1 := (HR.out W (bstep HB.out hW)).m.take k hk
      exact h1
    go_cut [30] (fun r W => r = .bool (!(nameB m.nm && g.freeM k)) ∧ Below W0.heap.size W0 W)
    case first =>
      cases hok : nameB m.nm with
      | false =>
        have HND : Hid ((!(nameB m.nm && g.freeM k)) = true) := show _ = _ by rw [hok]; rfl
        clear HR HRT HM H8 HA
        refine wp_region_free (C := fun W => Below W0.heap.size W0 W) (S := fun i v => match i with | 0 => v = .pointer (some ⟨wr.heap.size, 0, none⟩) | 1 => v = .string m.nm | 2 => v = .bool false | 3 => v = .bool true | 4 => v = .bool true | 5 => v = undef | 6 => v = undef | 7 => v = undef | 8 => v = undef | 9 => v = undef | 10 => v = undef | 11 => v = undef | 12 => v = undef | 13 => v = .bool true | _ => True) (by kernel_rfl) (regionB_spec (n := 44) (by kernel_rfl)).1 (regionB_spec (n := 44) (by kernel_rfl)).2.1 (free_of (regionB_spec (n := 44) (by kernel_rfl)).2.2) ((Below.refl _ _).drew) (each_at ?_) ?_
        · refine ⟨?_, ?_, ?_, ?_, ?_, ?_, ?_, ?_, ?_, ?_, ?_, ?_, ?_, ?_, trivial⟩
          · intro a W hC _ _ he hdep
            rw [if_pos (wanted_free rfl)]
            have t4 := slot_else (t := 4) he (by kernel_rfl) rfl
            unfold Oper.wp
            simp [execOp, go_sem, t4]
            first | done | exact hC | exact ⟨hC, rfl⟩ | (refine ⟨hC, ?_⟩; simp [Act.put])
          · intro a W hC _ _ he hdep
            obtain ⟨_, t17, rfl⟩ : ∃ v, a.tmps[17]? = some v ∧ v = .pointer (some ⟨wr.heap.size, 0, none⟩) := hdep ⟨0, .data⟩ (by simp) (by rfl) _ _ rfl rfl
            rw [if_pos (wanted_free rfl)]
            have Q0 := (hC.cell (p := ⟨wr.heap.size, 0, none⟩) hz1).trans q0
            unfold Oper.wp
            simp [execOp, go_sem, t17, Q0]
            first | done | exact hC | exact ⟨hC, rfl⟩ | (refine ⟨hC, ?_⟩; simp [Act.put])
          · intro a W hC _ _ he hdep
            obtain ⟨_, t18, rfl⟩ : ∃ v, a.tmps[18]? = some v ∧ v = .string m.nm := hdep ⟨1, .data⟩ (by simp) (by rfl) _ _ rfl rfl
            rw [if_pos (wanted_free rfl)]
            unfold Oper.wp
            simp [execOp, go_sem, t18]
            refine (isName_any _ _ HSZ.out).mono ?_
            rintro e W2 ⟨rfl, rfl⟩
            rw [hok]
            exact ⟨hC, rfl⟩
          · intro a W hC _ _ he hdep
            obtain ⟨_, t19, rfl⟩ : ∃ v, a.tmps[19]? = some v ∧ v = .bool false := hdep ⟨2, .data⟩ (by simp) (by rfl) _ _ rfl rfl
            rw [if_pos (wanted_free rfl)]
            unfold Oper.wp
            simp [execOp, go_sem, t19]
            first | done | exact hC | exact ⟨hC, rfl⟩ | (refine ⟨hC, ?_⟩; simp [Act.put])
          · intro a W hC _ _ he hdep
            obtain ⟨_, t20, rfl⟩ : ∃ v, a.tmps[20]? = some v ∧ v = .bool true := hdep ⟨3, .data⟩ (by simp) (by rfl) _ _ rfl rfl
            obtain ⟨_, t19, rfl⟩ : ∃ v, a.tmps[19]? = some v ∧ v = .bool false := hdep ⟨2, .chain⟩ (by simp) (by rfl) _ _ rfl rfl
            rw [if_pos (wanted_free rfl)]
            unfold Oper.wp
            simp [execOp, go_sem, t19, t20]
            first | done | exact hC | exact ⟨hC, rfl⟩ | (refine ⟨hC, ?_⟩; simp [Act.put])
          · intro a W hC _ _ he hdep
            obtain ⟨_, t21, rfl⟩ : ∃ v, a.tmps[21]? = some v ∧ v = .bool true := hdep ⟨4, .guard⟩ (by simp) (by rfl) _ _ rfl rfl
            rw [if_neg (by rw [wanted_no rfl (yielded_slot (t := 21) rfl t21) (by decide)]; simp)]
            exact rfl
          · intro a W hC _ _ he hdep
            obtain ⟨_, t22, rfl⟩ : ∃ v, a.tmps[22]? = some v ∧ v = undef := hdep ⟨5, .data⟩ (by simp) (by rfl) _ _ rfl rfl
            obtain ⟨_, t21, rfl⟩ : ∃ v, a.tmps[21]? = some v ∧ v = .bool true := hdep ⟨4, .guard⟩ (by simp) (by rfl) _ _ rfl rfl
            rw [if_neg (by rw [wanted_no rfl (yielded_slot (t := 21) rfl t21) (by decide)]; simp)]
            exact rfl
          · intro a W hC _ _ he hdep
            obtain ⟨_, t21, rfl⟩ : ∃ v, a.tmps[21]? = some v ∧ v = .bool true := hdep ⟨4, .guard⟩ (by simp) (by rfl) _ _ rfl rfl
            rw [if_neg (by rw [wanted_no rfl (yielded_slot (t := 21) rfl t21) (by decide)]; simp)]
            exact rfl
          · intro a W hC _ _ he hdep
            obtain ⟨_, t23, rfl⟩ : ∃ v, a.tmps[23]? = some v ∧ v = undef := hdep ⟨6, .data⟩ (by simp) (by rfl) _ _ rfl rfl
            obtain ⟨_, t24, rfl⟩ : ∃ v, a.tmps[24]? = some v ∧ v = undef := hdep ⟨7, .data⟩ (by simp) (by rfl) _ _ rfl rfl
            obtain ⟨_, t21, rfl⟩ : ∃ v, a.tmps[21]? = some v ∧ v = .bool true := hdep ⟨4, .guard⟩ (by simp) (by rfl) _ _ rfl rfl
            rw [if_neg (by rw [wanted_no rfl (yielded_slot (t := 21) rfl t21) (by decide)]; simp)]
            exact rfl
          · intro a W hC _ _ he hdep
            obtain ⟨_, t21, rfl⟩ : ∃ v, a.tmps[21]? = some v ∧ v = .bool true := hdep ⟨4, .guard⟩ (by simp) (by rfl) _ _ rfl rfl
            rw [if_neg (by rw [wanted_no rfl (yielded_slot (t := 21) rfl t21) (by decide)]; simp)]
            exact rfl
          · intro a W hC _ _ he hdep
            obtain ⟨_, t26, rfl⟩ : ∃ v, a.tmps[26]? = some v ∧ v = undef := hdep ⟨9, .data⟩ (by simp) (by rfl) _ _ rfl rfl
            obtain ⟨_, t21, rfl⟩ : ∃ v, a.tmps[21]? = some v ∧ v = .bool true := hdep ⟨4, .guard⟩ (by simp) (by rfl) _ _ rfl rfl
            rw [if_neg (by rw [wanted_no rfl (yielded_slot (t := 21) rfl t21) (by decide)]; simp)]
            exact rfl
          · intro a W hC _ _ he hdep
            obtain ⟨_, t27, rfl⟩ : ∃ v, a.tmps[27]? = some v ∧ v = undef := hdep ⟨10, .data⟩ (by simp) (by rfl) _ _ rfl rfl
            obtain ⟨_, t21, rfl⟩ : ∃ v, a.tmps[21]? = some v ∧ v = .bool true := hdep ⟨4, .chain⟩ (by simp) (by rfl) _ _ rfl rfl
            rw [if_neg (by rw [wanted_no rfl (yielded_slot (t := 21) rfl t21) (by decide)]; simp)]
            exact rfl
          · intro a W hC _ _ he hdep
            obtain ⟨_, t25, rfl⟩ : ∃ v, a.tmps[25]? = some v ∧ v = undef := hdep ⟨8, .data⟩ (by simp) (by rfl) _ _ rfl rfl
            obtain ⟨_, t28, rfl⟩ : ∃ v, a.tmps[28]? = some v ∧ v = undef := hdep ⟨11, .data⟩ (by simp) (by rfl) _ _ rfl rfl
            obtain ⟨_, t21, rfl⟩ : ∃ v, a.tmps[21]? = some v ∧ v = .bool true := hdep ⟨4, .guard⟩ (by simp) (by rfl) _ _ rfl rfl
            rw [if_neg (by rw [wanted_no rfl (yielded_slot (t := 21) rfl t21) (by decide)]; simp)]
            exact rfl
          · intro a W hC _ _ he hdep
            obtain ⟨_, t21, rfl⟩ : ∃ v, a.tmps[21]? = some v ∧ v = .bool true := hdep ⟨4, .data⟩ (by simp) (by rfl) _ _ rfl rfl
            obtain ⟨_, t29, rfl⟩ : ∃ v, a.tmps[29]? = some v ∧ v = undef := hdep ⟨12, .data⟩ (by simp) (by rfl) _ _ rfl rfl
            rw [if_pos (wanted_free rfl)]
            unfold Oper.wp
            simp [execOp, go_sem, t21, t29]
            first | done | exact hC | exact ⟨hC, rfl⟩ | (refine ⟨hC, ?_⟩; simp [Act.put])
        · intro vs W hC hS
          have h12 : vs 13 = .bool true := hS 13 (by simp)
          simp [over, h12, Act.put]
          go_wp2_with fail
          go_meet
          exact ⟨by rw [HND.out], hC⟩
      | true =>
        have HND : Hid ((!(nameB m.nm && g.freeM k)) = !g.freeM k) := show _ = _ by rw [hok]; rfl
        go_region_with (first | (go_at_call 83; refine (isName_any _ _ HSZ.out).mono ?_; rintro e w5 ⟨rfl, rfl⟩; rw [hok]) | (go_at_call 85; refine (named_any m.nm _).mono ?_; rintro e w6 ⟨rfl, hl6, ht6, hb6⟩; have hB6 : Below W0.heap.size W0 w6 := bstep (by repeat (first | exact Below.refl _ _ | refine Below.drew ?_)) hb6; obtain ⟨m3, m4⟩ := bcell hB6; clear hb6) | (go_at_call 84; go_must (refine (containsM_any _ _ (fun y => sameN y.nm m.nm) (enters_of Try.func95 (by kernel_rfl) rfl) (g.ms.take k) _ us _ (HRT.out _ (bstep HBX.out (by repeat (first | exact Below.refl _ _ | exact hB6 | refine Below.drew ?_)))) (named_fn _ m.nm _ hl6 ht6)).mono ?_; rintro e w7 ⟨rfl, hb7⟩; rw [HTA.out])))
        all_goals
          go_wp2_with fail
          go_meet
          exact ⟨by rw [HND.out], hB6.trans (hb7.mono hB6.size)⟩
    case rest =>
      obtain ⟨hv, hbl⟩ := hcut
      subst hv
      rename World => W6
      have HBR : Hid (Below wr.heap.size wr W6) := bstep HBX.out hbl
      have HBW : Hid (Below w.heap.size w W6) := bstep HB.out HBR.out
      have HCW : Hid (GB W6 w.heap.size g _ _) := HC.out.below HC.out.1 HBR.out
      have HMW : Hid (MBox W6 wr.heap.size 0 m (.slice au m.ps.length cu)) := HTB.out.below hz1 hbl
      have HOK : Hid ((g.okM (g.at k) && g.freeM k) = ((nameB m.nm && g.freeM k) && (inR m.hd 0 g.ck && riseB m.ps))) := show _ = _ by
        rw [HAT.out, okM_eq]
        cases nameB m.nm <;> cases g.freeM k <;> simp
      cases hd : (nameB m.nm && g.freeM k) with
      | false =>
        have HF : Hid (g.memB = false) := show _ = _ from by rw [HM.out, allN_no hlt (by rw [HOK.out, hd]; rfl)]; simp
        go_at_K
        go_wp2
        go_ret
        exact ⟨by rw [HF.out]; rfl, HBW.out⟩
      | true =>
        have HD : Hid ((nameB m.nm && g.freeM k) = true) := hd
        have hz6 : wr.heap.size < W6.heap.size := Nat.lt_of_lt_of_le hz1 hbl.size
        clear a0 a1 a2 a3 a4 f1 s1 q0 q1 q2 hbl hd
        obtain ⟨s1, ⟨a0, a1, a2, a3, a4⟩, f1⟩ := HCW.out
        obtain ⟨q0, q1, q2⟩ := HMW.out
        rw [Bool.not_true]
        go_at_K
        go_upto_region 8 with fail
        go_cut [42] (fun r W => r = .bool (!(inR m.hd 0 g.ck && riseB m.ps)) ∧ W = W6)
        case first =>
          go_wp2_with (first | (go_at_call 47; refine (cwithin_any _ _ _ _).mono ?_; rintro e w' ⟨rfl, rfl⟩) | (go_at_call 86; refine (partsRise_any m.ps _ _ (HQ.out _ HBR.out)).mono ?_; rintro e w' ⟨rfl, rfl⟩))
          all_goals
            go_meet
            exact ⟨by simp [*], rfl⟩
        case rest =>
          obtain ⟨hv, hw⟩ := hcut
          subst hw
          rename World => W6
          subst hv
          cases hd2 : (inR m.hd 0 g.ck && riseB m.ps) with
          | false =>
            have HF : Hid (g.memB = false) := show _ = _ from by rw [HM.out, allN_no hlt (by rw [HOK.out, hd2, Bool.and_false])]; simp
            go_at_K
            go_wp2
            go_ret
            exact ⟨by rw [HF.out]; rfl, HBW.out⟩
          | true =>
            have HN : Hid (allN (fun i => g.okM (g.at i) && g.freeM i) (k + 1) = true) := show _ = _ by
              simp only [allN, HA.out, Bool.true_and]
              rw [HOK.out, HD.out, hd2]; rfl
            go_at_K
            go_wp2
            go_roundw
            case rel => exact ⟨k + 1, by omega, by go_num, HN, HBW, HCW⟩
            case measure => simp [intOf]; omega

set_option maxRecDepth 100000 in
set_option maxHeartbeats 2000000 in
theorem gcheck_any (g : Grp) (vm vo : Value) (us : Nat → Value) (w : World) (h : RdG w g vm vo us) (hs : g.small) (hf : g.os.length * 16 ≤ 140737488355328) :
    Calls Try.prog 24 #[.agg #[.int .i64 g.ck, .int .i64 g.wt, .int .i64 g.gn, vm, vo]] w fun e w' => e = .returned (.int .i64 g.gfl) ∧ Below w.heap.size w w' := by
  have HR : Hid (∀ W, Below w.heap.size w W → RdG W g vm vo us) := fun W hW => h.below (Nat.le_refl _) hW
  have HS : Hid g.small := hs
  have HF : Hid (g.os.length * 16 ≤ 140737488355328) := hf
  obtain ⟨av, cv, rfl, _, _⟩ := h.m.shape
  obtain ⟨ao, co, rfl, _, _⟩ := h.o.shape
  have HC0 : Hid (GB _ w.heap.size g _ _) := gb_new w g (.slice av g.ms.length cv) (.slice ao g.os.length co) w.heap.size rfl
  have HB0 : Hid (Below w.heap.size w _) := bbox w (.cells #[.int .i64 g.ck, .int .i64 g.wt, .int .i64 g.gn, .slice av g.ms.length cv, .slice ao g.os.length co] 25)
  clear h hs hf
  go_enter Try.func24, Try.ntmps24
  go_upto_region 1 with fail
  generalize w.alloc (.cells #[.int .i64 g.ck, .int .i64 g.wt, .int .i64 g.gn, .slice av g.ms.length cv, .slice ao g.os.length co] 25) = w0 at *
  obtain ⟨s1, ⟨a0, a1, a2, a3, a4⟩, f1⟩ := HC0.out
  go_cut [16] (fun r W => r = .bool (!g.mayB) ∧ Below w.heap.size w W)
  case first =>
    go_wp2_with fail
    refine (gfitsNumbers_any g _ _ _).mono ?_
    rintro e w1 ⟨rfl, hb1⟩
    have HB1 : Hid (Below w.heap.size w w1) := bstep HB0.out hb1
    have HC1 : Hid (GB w1 w.heap.size g _ _) := HC0.out.below HC0.out.1 hb1
    clear a0 a1 a2 a3 a4 f1 s1 hb1
    obtain ⟨s1, ⟨a0, a1, a2, a3, a4⟩, f1⟩ := HC1.out
    cases hn : g.numB with
    | false =>
      have HE : Hid (g.mayB = false) := show _ = _ by rw [mayB_eq, hn]; rfl
      go_wp2_with fail
      go_meet
      exact ⟨by rw [HE.out]; rfl, HB1.out⟩
    | true =>
      have HN : Hid (g.mayB = (g.memB && (decide (g.os.length ≤ 4) && ofsL g.os))) := show _ = _ by rw [mayB_eq, hn]; rfl
      clear hn
      go_wp2_with fail
      refine (gfitsMembers_any g _ _ us _ (HR.out _ HB1.out) HS.out).mono ?_
      rintro e w2 ⟨rfl, hb2⟩
      have HB2 : Hid (Below w.heap.size w w2) := bstep HB1.out hb2
      have HC2 : Hid (GB w2 w.heap.size g _ _) := HC1.out.below HC1.out.1 hb2
      clear a0 a1 a2 a3 a4 f1 s1 hb2
      obtain ⟨s1, ⟨a0, a1, a2, a3, a4⟩, f1⟩ := HC2.out
      cases hm : g.memB with
      | false =>
        have HE : Hid (g.mayB = false) := show _ = _ by rw [HN.out, hm]; rfl
        go_wp2_with fail
        go_meet
        exact ⟨by rw [HE.out]; rfl, HB2.out⟩
      | true =>
        have HN2 : Hid (g.mayB = (decide (g.os.length ≤ 4) && ofsL g.os)) := show _ = _ by rw [HN.out, hm]; rfl
        clear hm
        go_wp2_with fail
        refine (gfitsOffsets_any g.os _ nilS _ (HR.out _ HB2.out).o HF.out).mono ?_
        rintro e w3 ⟨rfl, hb3⟩
        have HB3 : Hid (Below w.heap.size w w3) := bstep HB2.out hb3
        rw [← HN2.out]
        clear hb3
        go_wp2_with fail
        go_meet
        exact ⟨rfl, HB3.out⟩
  case rest =>
    obtain ⟨hv, hbl⟩ := hcut
    subst hv
    have HBL : Hid (Below w.heap.size w _) := hbl
    cases hm : g.mayB with
    | false =>
      have HF : Hid (g.gfl = 12) := gfl_no hm
      go_at_K
      go_wp2
      go_ret
      exact ⟨by rw [HF.out]; rfl, HBL.out⟩
    | true =>
      have HF : Hid (g.gfl = 0) := gfl_yes hm
      go_at_K
      go_wp2
      go_ret
      exact ⟨by rw [HF.out]; rfl, HBL.out⟩

end Go.Proofs.Ytmkbbhdmfpjfdaa
