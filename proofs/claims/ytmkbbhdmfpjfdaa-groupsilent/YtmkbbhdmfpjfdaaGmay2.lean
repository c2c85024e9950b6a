/-
  The document's GroupMay, walked.
-/
import Derived.Test.YtmkbbhdmfpjfdaaGmay
namespace Go.Proofs.Ytmkbbhdmfpjfdaa
open Go.RowKit
set_option linter.unusedVariables false
set_option linter.unusedSimpArgs false

theorem gt6 (n : Nat) : decide (6 < (n : Int)) = !decide (n ≤ 6) := by rw [Bool.eq_iff_iff]; simp; omega
theorem gt4 (n : Nat) : decide (4 < (n : Int)) = !decide (n ≤ 4) := by rw [Bool.eq_iff_iff]; simp; omega
def Grp.preB (g : Grp) : Bool := inR g.ck 0 1073741824 && inR g.wt 1 1000 && inR g.gn 0 1073741824 && decide (g.ms.length ≤ 6) && decide (g.os.length ≤ 4)
theorem mayB_pre (g : Grp) : g.mayB = (g.preB && allN (fun i => g.okM (g.at i) && g.freeM i) g.ms.length && ofsL g.os) := by
  unfold Grp.mayB Grp.numB Grp.preB
  rw [ofsB_eq]

set_option maxRecDepth 100000 in
set_option maxHeartbeats 4000000 in
theorem groupMay_any (g : Grp) (vm vo : Value) (us : Nat → Value) (w : World) (h : RdG w g vm vo us) (hs : g.small) (hf : g.os.length * 16 ≤ 140737488355328) :
    Calls Try.prog 25 #[.agg #[.int .i64 g.ck, .int .i64 g.wt, .int .i64 g.gn, vm, vo]] w fun e w' => e = .returned (.bool g.mayB) ∧ Below w.heap.size w w' := by
  obtain ⟨av, cv, rfl, hl1, hl2⟩ := h.m.shape
  obtain ⟨ao, co, rfl, ho1, ho2⟩ := h.o.shape
  unfold maxLen at hl2 ho2
  have hll : (g.ms.length : Int) ≤ 9223372036854775807 := by omega
  have hlo : (g.os.length : Int) ≤ 9223372036854775807 := by omega
  have HF0 : Hid (g.os.length * 16 ≤ 140737488355328) := hf
  have HM : Hid (g.mayB = (g.preB && allN (fun i => g.okM (g.at i) && g.freeM i) g.ms.length && ofsL g.os)) := mayB_pre g
  have HB0 : Hid (Below w.heap.size w _) := bbox w (.cells #[.int .i64 g.ck, .int .i64 g.wt, .int .i64 g.gn, .slice av g.ms.length cv, .slice ao g.os.length co] 25)
  have HC0 : Hid (GB _ w.heap.size g _ _) := gb_new w g (.slice av g.ms.length cv) (.slice ao g.os.length co) w.heap.size rfl
  have HR : Hid (∀ W, Below w.heap.size w W → RdG W g (.slice av g.ms.length cv) (.slice ao g.os.length co) us) := fun W hW => h.below (Nat.le_refl _) hW
  have HS : Hid g.small := hs
  clear h hs hl1 hl2 ho1 ho2 hf
  go_enter Try.func25, Try.ntmps25
  go_upto_region 1 with fail
  generalize w.alloc (.cells #[.int .i64 g.ck, .int .i64 g.wt, .int .i64 g.gn, .slice av g.ms.length cv, .slice ao g.os.length co] 25) = w0 at *
  obtain ⟨s1, ⟨a0, a1, a2, a3, a4⟩, f1⟩ := HC0.out
  go_cut [35] (fun r W => r = .bool (!g.preB) ∧ W = w0)
  case first =>
    have HE : Hid (g.preB = (inR g.ck 0 1073741824 && inR g.wt 1 1000 && inR g.gn 0 1073741824 && decide (g.ms.length ≤ 6) && decide (g.os.length ≤ 4))) := show _ = _ from rfl
    go_wp2_with (go_at_call 48; refine (In_any _ _ _ _).mono ?_; rintro e w' ⟨rfl, rfl⟩)
    all_goals
      go_meet
      refine ⟨?_, rfl⟩
      rw [HE.out]
      first | (simp [*, gt6, gt4]; done) | (simp [*, gt6, gt4]; omega)
  case rest =>
    obtain ⟨hv, hw⟩ := hcut
    subst hw
    rename World => w0
    subst hv
    cases hn : g.preB with
    | false =>
      have HF : Hid (g.mayB = false) := show _ = _ by rw [HM.out, hn]; rfl
      go_at_K
      go_wp2
      go_ret
      exact ⟨by rw [HF.out]; rfl, HB0.out⟩
    | true =>
      have HN : Hid (g.mayB = (allN (fun i => g.okM (g.at i) && g.freeM i) g.ms.length && ofsL g.os)) := show _ = _ by rw [HM.out, hn]; rfl
      clear hn HM
      rw [Bool.not_true]
      go_at_K
      go_wp2
      clear a0 a1 a2 a3 a4 f1 s1
      go_loopw [3] (fun i wr => ∃ k : Nat, k ≤ g.ms.length ∧ i = .int .i64 k ∧ Hid (allN (fun i => g.okM (g.at i) && g.freeM i) k = true) ∧ Hid (Below w.heap.size w wr) ∧ Hid (GB wr w.heap.size g (.slice av g.ms.length cv) (.slice ao g.os.length co))) (fun i _ => g.ms.length - (intOf i).toNat)
      case atStart => exact ⟨0, by omega, rfl, rfl, HB0, HC0⟩
      case round =>
        obtain ⟨k, hk, rfl, HA, HB, HC⟩ := hrel
        rename World => wo
        obtain ⟨s1, ⟨a0, a1, a2, a3, a4⟩, f1⟩ := HC.out
        by_cases hlt : k < g.ms.length
        rotate_left
        · have hke : k = g.ms.length := by omega
          have HF : Hid (g.mayB = ofsL g.os) := show _ = _ by rw [HN.out, ← hke, HA.out, Bool.true_and]
          clear hke
          obtain ⟨ps, hps⟩ : ∃ ps, g.os.map Ofs.pt = ps := ⟨_, rfl⟩
          have HP : Hid (g.os.map Ofs.pt = ps) := hps
          have HPL : Hid (ps.length = g.os.length) := show _ = _ by rw [← hps, List.length_map]
          clear hps
          have hknot : ¬ (k : Int) < g.ms.length := by omega
          go_wp2
          clear a0 a1 a2 a3 a4 f1 s1
          go_loopw [6, 7] (fun out i W => ∃ n : Nat, n ≤ g.os.length ∧ i = .int .i64 n ∧ Hid (∀ j, j < n → inR (g.os.getD j zeroO).pl 0 400 = true) ∧ Hid (OwnV wo.heap.size 3 1 out n (ints (ps.take n)) W) ∧ Hid (Below wo.heap.size wo W)) (fun _ i _ => g.os.length - (intOf i).toNat)
          case atStart => exact ⟨0, by omega, rfl, fun j hj => by omega, ownV_nil _ _ _ _ (Nat.le_refl _), Below.refl _ _⟩
          case round =>
            obtain ⟨n, hn, rfl, HAn, HO, HBn⟩ := hrel
            obtain ⟨a5, c5, rfl⟩ := HO.out.shape
            have HCn : Hid (GB wr w.heap.size g (.slice av g.ms.length cv) (.slice ao g.os.length co)) := HC.out.below HC.out.1 HBn.out
            have HBw : Hid (Below w.heap.size w wr) := bstep HB.out HBn.out
            obtain ⟨s1, ⟨a0, a1, a2, a3, a4⟩, f1⟩ := HCn.out
            by_cases hnl : n < g.os.length
            · have hnv : (n : Int) < g.os.length := by omega
              obtain ⟨bx, ox, x, rfl, HX, -, q0, q1⟩ := (HR.out wr HBw.out).ofsAt n hnl
              have HE : Hid (ints (ps.take (n + 1)) = ints (ps.take n) ++ [.int .i64 x.pt]) := show _ = _ by
                unfold ints
                have hl : n < ps.length := by rw [HPL.out]; exact hnl
                have e : ps[n]'hl = x.pt := by have := HP.out; subst this; rw [List.getElem_map, ← at_off_g hnl, HX.out]
                rw [List.take_succ_eq_append_getElem hl, List.map_append, e]; rfl
              go_upto_region 18 with fail
              cases hin : inR x.pl 0 400 with
              | false =>
                have HFF : Hid (ofsL g.os = false) := show _ = _ by
                  unfold ofsL
                  rw [Bool.and_eq_false_iff]
                  left
                  cases e : allN (fun i => inR (g.os.getD i zeroO).pl 0 400) g.os.length with
                  | false => rfl
                  | true => have := allN_iff.1 e n hnl; rw [show g.os.getD n zeroO = x from HX.out, hin] at this; cases this
                go_wp2_with fail
                refine (In_any _ _ _ _).mono ?_
                rintro e w' ⟨rfl, rfl⟩
                rw [hin]
                go_wp2
                go_ret
                exact ⟨by rw [HF.out, HFF.out]; rfl, HBw.out⟩
              | true =>
                have HA' : Hid (∀ j, j < n + 1 → inR (g.os.getD j zeroO).pl 0 400 = true) := fun j hj => by
                  by_cases e : j = n
                  · subst e; rw [show g.os.getD j zeroO = x from HX.out]; exact hin
                  · exact HAn.out j (by omega)
                have HL8 : Hid ((n + 1) * 8 ≤ 140737488355328) := show (n + 1) * 8 ≤ 140737488355328 by have := HF0.out; omega
                go_wp2_with fail
                refine (In_any _ _ _ _).mono ?_
                rintro e w' ⟨rfl, rfl⟩
                rw [hin]
                clear hin
                go_wp2_with (at_builtin; refine wp_rowI rfl _ _ rfl wo.heap.size _ n _ rfl (HO.out.below (Nat.le_refl _) (bbox _ _)) w'.heap.size rfl x.pt (by simp) HL8.out _ rfl ?_)
                intro g' cap' w6 ho' hg hat hlt'
                have HO' : Hid (OwnV wo.heap.size 3 1 (.slice (some ⟨g', 0, none⟩) (n + 1) cap') (n + 1) (ints (ps.take (n + 1))) w6) := show OwnV _ _ _ _ _ _ _ by rw [HE.out]; exact ho'
                have HB' : Hid (Below wo.heap.size wo w6) := below_grown (bstep HBn.out (bbox w' (.cells #[.int .i64 x.pt] 3))) hg (Nat.le_trans HBn.out.size (bbox _ _).size) (fun j e => (HO.out.blk j e).1)
                clear ho' hg hat hlt' q0 q1 a0 a1 a2 a3 a4 f1 s1
                go_wp2
                go_roundw
                case rel => exact ⟨n + 1, by omega, by go_num, HA', HO', HB'⟩
                case measure => simp [intOf]; omega
            · have hne : n = g.os.length := by omega
              have HV : Hid (RdV wr (.slice a5 n c5) (ints ps)) := show RdV _ _ _ by have := HO.out.rdv; rwa [hne, ← HPL.out, List.take_length, HPL.out, ← hne] at this
              have HFF : Hid (ofsL g.os = riseB ps) := show _ = _ by
                unfold ofsL
                rw [allN_iff.2 (fun j hj => HAn.out j (by omega)), Bool.true_and, HP.out]
              have hlv : ¬ (n : Int) < g.os.length := by omega
              clear hne HAn HO HBn
              go_wp2_with fail
              refine (rises_any ps _ _ HV.out).mono ?_
              rintro e W6 ⟨rfl, h6⟩
              go_wp2
              go_ret
              exact ⟨by rw [HF.out, HFF.out]; rfl, bstep HBw.out h6⟩
        have hltv : (k : Int) < g.ms.length := by omega
        obtain ⟨gg, off, m, au, cu, rfl, HAT, -, HQR, -, HME, q0, q1, q2⟩ := (HR.out wo HB.out).memAt k hlt
        have HSZ : Hid (m.nm.size ≤ maxLen) := HS.out _ HME.out
        have HNO : Hid (∀ b, g.okM m = b → b = false → g.mayB = false) := fun b e h => by
          rw [HN.out, allN_no hlt (by rw [HAT.out, e, h]; rfl)]; rfl
        have HQ : Hid (∀ W, Below wo.heap.size wo W → RdV W (.slice au m.ps.length cu) (ints m.ps)) := fun W hW => HQR.out.below (Nat.le_refl _) hW
        clear HQR
        go_upto_region 7 with fail
        have HTB : Hid (MBox _ wo.heap.size 0 m (.slice au m.ps.length cu)) := mbox_new wo m (.slice au m.ps.length cu) wo.heap.size rfl
        have HBX : Hid (Below wo.heap.size wo _) := bbox wo (.cells #[.string m.nm, .int .i64 m.hd, .slice au m.ps.length cu] 55)
        have hz1 : wo.heap.size < (wo.alloc (.cells #[.string m.nm, .int .i64 m.hd, .slice au m.ps.length cu] 55)).heap.size := by simp
        generalize wo.alloc (.cells #[.string m.nm, .int .i64 m.hd, .slice au m.ps.length cu] 55) = W0 at *
        clear a0 a1 a2 a3 a4 f1 s1 q0 q1 q2
        have HCW : Hid (GB W0 w.heap.size g _ _) := HC.out.below HC.out.1 HBX.out
        have HBW : Hid (Below w.heap.size w W0) := bstep HB.out HBX.out
        obtain ⟨s1, ⟨a0, a1, a2, a3, a4⟩, f1⟩ := HCW.out
        obtain ⟨q0, q1, q2⟩ := HTB.out
        go_cut [65] (fun r W => r = .bool (!g.okM m) ∧ Below W0.heap.size W0 W)
        case first =>
          have HE : Hid (g.okM m = (nameB m.nm && inR m.hd 0 g.ck && riseB m.ps)) := show _ = _ from rfl
          have HRF : Hid (Below W0.heap.size W0 W0) := Below.refl _ _
          go_wp2_with (first | (go_at_call 55; refine (nameMay_any _ _ HSZ.out).mono ?_; rintro e w' ⟨rfl, rfl⟩) | (go_at_call 48; refine (In_any _ _ _ _).mono ?_; rintro e w' ⟨rfl, rfl⟩) | (go_at_call 56; refine (rises_any m.ps _ _ (HQ.out _ HBX.out)).mono ?_; rintro e w' ⟨rfl, hb5⟩; have HRF : Hid (Below _ _ w') := hb5; clear hb5))
          all_goals
            go_meet
            exact ⟨by rw [HE.out]; simp [*], HRF.out⟩
        case rest =>
          obtain ⟨hv, hbl⟩ := hcut
          subst hv
          rename World => W6
          have HBR : Hid (Below wo.heap.size wo W6) := bstep HBX.out hbl
          have HBW6 : Hid (Below w.heap.size w W6) := bstep HB.out HBR.out
          have HCW6 : Hid (GB W6 w.heap.size g _ _) := HC.out.below HC.out.1 HBR.out
          have HMW : Hid (MBox W6 wo.heap.size 0 m (.slice au m.ps.length cu)) := HTB.out.below hz1 hbl
          have hz6 : wo.heap.size < W6.heap.size := Nat.lt_of_lt_of_le hz1 hbl.size
          clear a0 a1 a2 a3 a4 f1 s1 q0 q1 q2 hbl
          cases hp : g.okM m with
          | false =>
            have HF : Hid (g.mayB = false) := show _ = _ from HNO.out _ rfl hp
            go_at_K
            go_wp2
            go_ret
            exact ⟨by rw [HF.out]; rfl, HBW6.out⟩
          | true =>
            have HP : Hid (g.okM m = true) := hp
            clear hp
            rw [Bool.not_true]
            go_at_K
            go_wp2
            go_loopw [5] (fun i wr => ∃ n : Nat, n ≤ k ∧ i = .int .i64 n ∧ Hid (allN (fun j => !sameN (g.at j).nm m.nm) n = true) ∧ Hid (Below W6.heap.size W6 wr)) (fun i _ => k - (intOf i).toNat)
            case atStart => exact ⟨0, by omega, rfl, rfl, Below.refl _ _⟩
            case round =>
              obtain ⟨n, hn, rfl, HLn, HBn⟩ := hrel
              have HCn : Hid (GB wr w.heap.size g _ _) := HCW6.out.below HCW6.out.1 HBn.out
              have HMn : Hid (MBox wr wo.heap.size 0 m (.slice au m.ps.length cu)) := HMW.out.below hz6 HBn.out
              have HBw : Hid (Below w.heap.size w wr) := bstep HBW6.out HBn.out
              have HBrx : Hid (Below wo.heap.size wo wr) := bstep HBR.out HBn.out
              by_cases hnk : n < k
              · have hnkv : (n : Int) < k := by omega
                have hnlv : (n : Int) < g.ms.length := by omega
                have hnl : n < g.ms.length := by omega
                obtain ⟨gx, ox, x, ax, cx, ex, HX, -, -, -, -, x0, -⟩ := (HR.out wr HBw.out).memAt n hnl
                simp only [Option.some.injEq, Addr.mk.injEq, and_true] at ex
                obtain ⟨rfl, rfl⟩ := ex
                obtain ⟨s1, ⟨a0, a1, a2, a3, a4⟩, f1⟩ := HCn.out
                obtain ⟨q0, q1, q2⟩ := HMn.out
                have HLK : Hid (sameN (g.at n).nm m.nm = (x.nm.toList == m.nm.toList)) := show _ = _ by rw [HX.out]; rfl
                cases hb : (x.nm.toList == m.nm.toList) with
                | true =>
                  have HF : Hid (g.mayB = false) := show _ = _ from by
                    rw [HN.out, allN_no hlt ?_]; rfl
                    have : g.freeM k = false := allN_no hnk (by rw [HAT.out, HLK.out, hb]; rfl)
                    rw [this]; simp
                  go_wp2
                  go_quiet (fail)
                  go_wp2
                  go_ret
                  exact ⟨by rw [HF.out]; rfl, below_drewN HBw.out _⟩
                | false =>
                  have HNX : Hid (allN (fun j => !sameN (g.at j).nm m.nm) (n + 1) = true) := show _ = _ by
                    simp only [allN, HLn.out, Bool.true_and]
                    rw [HLK.out, hb]; rfl
                  go_wp2
                  go_quiet (fail)
                  go_wp2
                  go_roundw
                  case rel => exact ⟨n + 1, by omega, by go_num, HNX, below_drewN HBn.out _⟩
                  case measure => simp [intOf]; omega
              · have hne : n = k := by omega
                have HNX : Hid (allN (fun i => g.okM (g.at i) && g.freeM i) (k + 1) = true) := show _ = _ by
                  simp only [allN, HA.out, Bool.true_and]
                  have : g.freeM k = true := by unfold Grp.freeM; rw [HAT.out, ← hne]; exact HLn.out
                  rw [HAT.out, HP.out, this]; rfl
                clear hne
                have hnkv : ¬ (n : Int) < k := by omega
                go_wp2
                go_roundw
                case rel => exact ⟨k + 1, by omega, by go_num, HNX, HBw, HCn⟩
                case measure => simp [intOf]; omega

end Go.Proofs.Ytmkbbhdmfpjfdaa
