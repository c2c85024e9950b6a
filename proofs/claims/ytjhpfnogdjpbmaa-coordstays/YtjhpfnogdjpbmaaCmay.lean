/-
  The walk of the document's CoordMay.
-/
import Derived.Test.YtjhpfnogdjpbmaaCcheck2
namespace Go.Proofs.Ytjhpfnogdjpbmaa
open Go.RowKit
set_option linter.unusedVariables false
set_option linter.unusedSimpArgs false

def Crd.preB (c : Crd) (t : Txn) : Bool := nameB t.nm && inR t.id 1 (c.nx - 1) && inR t.v 0 1073741824 && inR t.st 1 4 && inR t.sn 0 c.ck
def Txn.emB (t : Txn) : Bool := decide (t.ps.length = 0) == decide (t.st = 1)
theorem gt8 (n : Nat) : decide (8 < (n : Int)) = !decide (n ≤ 8) := by rw [Bool.eq_iff_iff]; simp; omega
/-- The least that the k-th part may be. -/
def loOf (l : List Int) (k : Nat) : Int := if k = 0 then 0 else l.getD (k - 1) 0 + 1
theorem okAt_eq (l : List Int) (k : Nat) : okAt l k = inR (l.getD k 0) (loOf l k) 3 := rfl
theorem okB_eq (c : Crd) (t : Txn) : c.okB t = (c.preB t && doneB t.dn && riseB t.ps && t.emB) := rfl

set_option maxRecDepth 100000 in
set_option maxHeartbeats 4000000 in
theorem coordMay_any (c : Crd) (vt : Value) (us : Nat → Value) (w : World) (h : RdC w c vt us) (hs : c.small) :
    Calls Try.prog 21 #[.agg #[.int .i64 c.ck, .int .i64 c.nx, .int .i64 c.wt, vt]] w fun e w' => e = .returned (.bool c.mayB) ∧ Below w.heap.size w w' := by
  obtain ⟨av, cv, rfl, hl1, hl2⟩ := h.shape
  unfold maxLen at hl2
  have hll : (c.ts.length : Int) ≤ 9223372036854775807 := by omega
  have hlc : (c.ts.length : Int) ≤ cv := by omega
  have HM : Hid (c.mayB = (inR c.ck 0 1073741824 && inR c.nx 1 1073741824 && inR c.wt 1 1000 && decide (c.ts.length ≤ 8) && allN (fun i => c.okB (c.at i) && c.freeB i) c.ts.length)) := show _ = _ from rfl
  have HB0 : Hid (Below w.heap.size w _) := bbox w (.cells #[.int .i64 c.ck, .int .i64 c.nx, .int .i64 c.wt, .slice av c.ts.length cv] 24)
  have HC0 : Hid (CB _ w.heap.size c _) := cb_new w c (.slice av c.ts.length cv) 24 w.heap.size rfl
  have HR : Hid (∀ W, Below w.heap.size w W → RdC W c (.slice av c.ts.length cv) us) := fun W hW => h.below (Nat.le_refl _) hW
  have HS : Hid c.small := hs
  clear h hs hl1 hl2
  go_enter Try.func21, Try.ntmps21
  go_upto_region 1 with fail
  generalize w.alloc (.cells #[.int .i64 c.ck, .int .i64 c.nx, .int .i64 c.wt, .slice av c.ts.length cv] 24) = w0 at *
  obtain ⟨s1, ⟨a0, a1, a2, a3⟩, f1⟩ := HC0.out
  go_cut [29] (fun r W => r = .bool (!(inR c.ck 0 1073741824 && inR c.nx 1 1073741824 && inR c.wt 1 1000 && decide (c.ts.length ≤ 8))) ∧ W = w0)
  case first =>
    go_wp2_with (go_at_call 42; refine (In_any _ _ _ _).mono ?_; rintro e w' ⟨rfl, rfl⟩)
    all_goals
      go_meet
      exact ⟨by simp [*, gt8], rfl⟩
  case rest =>
    obtain ⟨hv, hw⟩ := hcut
    subst hw
    rename World => w0
    subst hv
    cases hn : (inR c.ck 0 1073741824 && inR c.nx 1 1073741824 && inR c.wt 1 1000 && decide (c.ts.length ≤ 8)) with
    | false =>
      have HF : Hid (c.mayB = false) := show _ = _ by rw [HM.out, hn]; rfl
      go_at_K
      go_wp2
      go_ret
      exact ⟨by rw [HF.out]; rfl, HB0.out⟩
    | true =>
      have HN : Hid (c.mayB = allN (fun i => c.okB (c.at i) && c.freeB i) c.ts.length) := show _ = _ by rw [HM.out, hn]; rfl
      obtain ⟨hx0, hx1⟩ : 1 ≤ c.nx ∧ c.nx ≤ 1073741824 := by
        simp only [Bool.and_eq_true, inR_iff] at hn
        exact hn.1.1.2
      clear hn HM
      rw [Bool.not_true]
      go_at_K
      go_wp2
      clear a0 a1 a2 a3 f1 s1
      go_loopw [3] (fun i wr => ∃ k : Nat, k ≤ c.ts.length ∧ i = .int .i64 k ∧ Hid (allN (fun i => c.okB (c.at i) && c.freeB i) k = true) ∧ Hid (Below w.heap.size w wr) ∧ Hid (CB wr w.heap.size c (.slice av c.ts.length cv))) (fun i _ => c.ts.length - (intOf i).toNat)
      case atStart => exact ⟨0, by omega, rfl, rfl, HB0, HC0⟩
      case round =>
        obtain ⟨k, hk, rfl, HA, HB, HC⟩ := hrel
        obtain ⟨s1, ⟨a0, a1, a2, a3⟩, f1⟩ := HC.out
        by_cases hlt : k < c.ts.length
        rotate_left
        · have hke : k = c.ts.length := by omega
          have HF : Hid (c.mayB = true) := show _ = _ by rw [HN.out, ← hke]; exact HA.out
          clear hke
          go_wp2
          go_ret
          exact ⟨by rw [HF.out]; rfl, HB.out⟩
        have hltv : (k : Int) < c.ts.length := by omega
        obtain ⟨gg, off, rfl, hq, q0, q1, q2, q3, q4, q5, q6⟩ := (HR.out wr HB.out).txn k hlt
        have HAT : Hid (c.at k = c.ts[k]'hlt) := show _ = _ from at_txn hlt
        have HSZ : Hid ((c.ts[k]'hlt).nm.size ≤ maxLen) := HS.out _ (List.getElem_mem hlt)
        obtain ⟨t, ht⟩ : ∃ t, c.ts[k]'hlt = t := ⟨_, rfl⟩
        rw [ht] at hq q0 q1 q2 q3 q5 q6 HAT HSZ
        obtain ⟨u, hu⟩ : ∃ u, us k = u := ⟨_, rfl⟩
        rw [hu] at q4 hq
        have HNO : Hid (∀ b, c.okB t = b → b = false → c.mayB = false) := fun b e h => by
          rw [HN.out]
          exact allN_no hlt (by rw [HAT.out, e, h]; rfl)
        obtain ⟨au, cu, rfl⟩ : ∃ au cu, u = .slice au t.ps.length cu := by
          obtain ⟨au, cu, e⟩ := hq.shape
          rw [ints_len] at e
          exact ⟨au, cu, e⟩
        have HQ : Hid (∀ W, Below wr.heap.size wr W → RdV W (.slice au t.ps.length cu) (ints t.ps)) := fun W hW => hq.below (Nat.le_refl _) hW
        clear ht hu hq
        go_upto_region 7 with fail
        have HTB : Hid (TBox _ wr.heap.size 0 t (.slice au t.ps.length cu)) := tbox_new wr t (.slice au t.ps.length cu) 62
        have HBX : Hid (Below wr.heap.size wr _) := bbox wr (.cells #[.string t.nm, .int .i64 t.id, .int .i64 t.v, .int .i64 t.st, .slice au t.ps.length cu, .int .i64 t.sn, .int .i64 t.dn] 62)
        have hz1 : wr.heap.size < (wr.alloc (.cells #[.string t.nm, .int .i64 t.id, .int .i64 t.v, .int .i64 t.st, .slice au t.ps.length cu, .int .i64 t.sn, .int .i64 t.dn] 62)).heap.size := by simp
        generalize wr.alloc (.cells #[.string t.nm, .int .i64 t.id, .int .i64 t.v, .int .i64 t.st, .slice au t.ps.length cu, .int .i64 t.sn, .int .i64 t.dn] 62) = W0 at *
        clear a0 a1 a2 a3 f1 s1 q0 q1 q2 q3 q4 q5 q6
        have HCW : Hid (CB W0 w.heap.size c _) := HC.out.below HC.out.1 HBX.out
        obtain ⟨s1, ⟨a0, a1, a2, a3⟩, f1⟩ := HCW.out
        obtain ⟨q0, q1, q2, q3, q4, q5, q6⟩ := HTB.out
        have HBW : Hid (Below w.heap.size w W0) := bstep HB.out HBX.out
        go_cut [74] (fun r W => r = .bool (!c.preB t) ∧ W = W0)
        case first =>
          have HE : Hid (c.preB t = (nameB t.nm && inR t.id 1 (c.nx - 1) && inR t.v 0 1073741824 && inR t.st 1 4 && inR t.sn 0 c.ck)) := show _ = _ from rfl
          go_wp2_with (first | (go_at_call 48; refine (nameMay_any _ _ HSZ.out).mono ?_; rintro e w' ⟨rfl, rfl⟩) | (go_at_call 42; refine (In_any _ _ _ _).mono ?_; rintro e w' ⟨rfl, rfl⟩))
          all_goals
            go_meet
            exact ⟨by rw [HE.out]; simp [*], rfl⟩
        case rest =>
          obtain ⟨hv, hw⟩ := hcut
          subst hw
          rename World => W0
          subst hv
          cases hp : c.preB t with
          | false =>
            have HF : Hid (c.mayB = false) := show _ = _ from HNO.out _ rfl (by rw [okB_eq, hp]; rfl)
            go_at_K
            go_wp2
            go_ret
            exact ⟨by rw [HF.out]; rfl, HBW.out⟩
          | true =>
            have HP : Hid (c.preB t = true) := hp
            clear hp
            rw [Bool.not_true]
            go_at_K
            go_upto_region 9 with fail
            go_cut [87] (fun r W => r = .bool (!doneB t.dn) ∧ W = W0)
            case first =>
              have HE : Hid (doneB t.dn = (t.dn == 0 || t.dn == 3 || t.dn == 4)) := show _ = _ from rfl
              go_wp2_with fail
              all_goals
                go_meet
                exact ⟨by rw [HE.out]; simp [*, bne], rfl⟩
            case rest =>
              obtain ⟨hv, hw⟩ := hcut
              subst hw
              rename World => W0
              subst hv
              cases hd : doneB t.dn with
              | false =>
                have HF : Hid (c.mayB = false) := show _ = _ from HNO.out _ rfl (by rw [okB_eq, HP.out, hd]; rfl)
                go_at_K
                go_wp2
                go_ret
                exact ⟨by rw [HF.out]; rfl, HBW.out⟩
              | true =>
                have HD : Hid (doneB t.dn = true) := hd
                clear hd
                rw [Bool.not_true]
                go_at_K
                go_wp2
                have HRI : Hid (RdV W0 (.slice au t.ps.length cu) (ints t.ps)) := HQ.out W0 HBX.out
                have hll2 : (t.ps.length : Int) ≤ 9223372036854775807 := by
                  obtain ⟨_, _, e, h1, h2, _⟩ := HRI.out
                  rw [ints_len] at h1
                  unfold maxLen at h2
                  omega
                go_loop [5, 6] (fun la i => ∃ (m : Nat), m ≤ t.ps.length ∧ i = .int .i64 m ∧ la = .int .i64 (loOf t.ps m - 1) ∧ Hid (allN (okAt t.ps) m = true) ∧ Hid (0 ≤ loOf t.ps m ∧ loOf t.ps m ≤ 4)) (fun _ i => t.ps.length - (intOf i).toNat)
                case atStart => exact ⟨0, by omega, rfl, rfl, rfl, (by decide : (0 : Int) ≤ 0 ∧ (0 : Int) ≤ 4)⟩
                case round =>
                  obtain ⟨m, hm, rfl, rfl, HAm, HLB⟩ := hrel
                  obtain ⟨lo, hlo⟩ : ∃ lo, loOf t.ps m = lo := ⟨_, rfl⟩
                  have HL : Hid (loOf t.ps m = lo) := hlo
                  rw [hlo] at HLB ⊢
                  obtain ⟨hlo0, hlo4⟩ := HLB.out
                  clear hlo
                  by_cases hm2 : m < t.ps.length
                  · have hm2v : (m : Int) < t.ps.length := by omega
                    obtain ⟨gp, op, rfl, -, c0⟩ := HRI.out.cellAt m (by rw [ints_len]; exact hm2)
                    have hgd : t.ps.getD m 0 = t.ps[m]'hm2 := by simp [List.getD, hm2]
                    have hc0 : (ints t.ps)[m]'(by rw [ints_len]; exact hm2) = .int .i64 (t.ps[m]'hm2) := by simp [ints]
                    rw [hc0] at c0
                    obtain ⟨p, hp⟩ : ∃ p, t.ps[m]'hm2 = p := ⟨_, rfl⟩
                    rw [hp] at c0 hgd
                    have HG : Hid (t.ps.getD m 0 = p) := hgd
                    have HO : Hid (okAt t.ps m = inR p lo 3) := show _ = _ by rw [okAt_eq, HG.out, HL.out]
                    have hlo : lo - 1 + 1 = lo := by omega
                    have HLO : Hid (lo - 1 + 1 = lo) := hlo
                    clear hp hgd hc0 hlo
                    cases h0 : inR p lo 3 with
                    | false =>
                      have HF : Hid (c.mayB = false) := show _ = _ from HNO.out _ rfl (by
                        rw [okB_eq]
                        have : riseB t.ps = false := allN_no hm2 (by rw [HO.out, h0])
                        rw [this]; simp)
                      go_wp2_with fail
                      refine (In_any _ _ _ _).mono ?_
                      rintro e w' ⟨rfl, rfl⟩
                      first | rw [HLO.out, h0] | rw [h0]
                      go_wp2
                      go_ret
                      exact ⟨by rw [HF.out]; rfl, HBW.out⟩
                    | true =>
                      have HNx : Hid (allN (okAt t.ps) (m + 1) = true) := show _ = _ by
                        simp only [allN, HAm.out, Bool.true_and]
                        rw [HO.out, h0]
                      obtain ⟨p0, p1⟩ := inR_iff.1 h0
                      have HLN : Hid (loOf t.ps (m + 1) = p + 1) := show _ = _ by unfold loOf; rw [if_neg (by omega), Nat.add_sub_cancel, HG.out]
                      go_wp2_with fail
                      refine (In_any _ _ _ _).mono ?_
                      rintro e w' ⟨rfl, rfl⟩
                      first | rw [HLO.out, h0] | rw [h0]
                      clear h0
                      go_wp2
                      go_round
                      case rel => exact ⟨m + 1, by omega, by go_num, by rw [HLN.out, Int.add_sub_cancel], HNx, (show _ ∧ _ by rw [HLN.out]; omega)⟩
                      case measure => simp [intOf]; omega
                  · have hme : m = t.ps.length := by omega
                    have HRB : Hid (riseB t.ps = true) := show allN (okAt t.ps) t.ps.length = true by rw [← hme]; exact HAm.out
                    clear hme
                    go_upto_region 18 with fail
                    go_cut [128] (fun r W => r = .bool (!t.emB) ∧ W = W0)
                    case first =>
                      obtain ⟨b0, h0⟩ : ∃ b, ((t.ps.length : Int) == 0) = b := ⟨_, rfl⟩
                      obtain ⟨b1, h1⟩ : ∃ b, decide (0 < (t.ps.length : Int)) = b := ⟨_, rfl⟩
                      obtain ⟨b2, h2⟩ : ∃ b, (t.st == 1) = b := ⟨_, rfl⟩
                      obtain ⟨b3, h3⟩ : ∃ b, (t.st != 1) = b := ⟨_, rfl⟩
                      have HE : Hid (t.emB = (b0 == b2)) := show _ = _ by rw [← h0, ← h2]; exact em_eq _ _
                      have H1 : Hid (b1 = !b0) := show _ = _ by
                        rw [← h0, ← h1, Bool.eq_iff_iff]
                        simp
                        exact List.length_pos_iff
                      have H3 : Hid (b3 = !b2) := show _ = _ by rw [← h2, ← h3]; rfl
                      go_wp2_with fail
                      all_goals
                        go_meet
                        refine ⟨?_, rfl⟩
                        rw [HE.out]
                        have H1' := H1.out
                        have H3' := H3.out
                        cases b0 <;> cases b2 <;> simp_all
                    case rest =>
                      obtain ⟨hv, hw⟩ := hcut
                      subst hw
                      rename World => W0
                      subst hv
                      cases he : t.emB with
                      | false =>
                        have HF : Hid (c.mayB = false) := show _ = _ from HNO.out _ rfl (by rw [okB_eq, he]; simp)
                        go_at_K
                        go_wp2
                        go_ret
                        exact ⟨by rw [HF.out]; rfl, HBW.out⟩
                      | true =>
                        have HOK : Hid (c.okB t = true) := show _ = _ by rw [okB_eq, HP.out, HD.out, HRB.out, he]; rfl
                        clear he
                        rw [Bool.not_true]
                        go_at_K
                        go_wp2
                        go_loopw [7] (fun i wx => ∃ m : Nat, m ≤ k ∧ i = .int .i64 m ∧ Hid (allN (fun j => !likeB (c.at j) t) m = true) ∧ ∃ q, wx = W0.drewN q) (fun i _ => k - (intOf i).toNat)
                        case atStart => exact ⟨0, by omega, rfl, rfl, 0, rfl⟩
                        case round =>
                          obtain ⟨m, hm, rfl, HLm, q, rfl⟩ := hrel
                          by_cases hmk : m < k
                          · have hmkv : (m : Int) < k := by omega
                            have hmlv : (m : Int) < c.ts.length := by omega
                            have hml : m < c.ts.length := by omega
                            obtain ⟨gx, ox, ex, -, x0, x1, -⟩ := (HR.out W0 HBW.out).txn m hml
                            simp only [Option.some.injEq, Addr.mk.injEq, and_true] at ex
                            obtain ⟨rfl, rfl⟩ := ex
                            have HX : Hid (c.at m = c.ts[m]'hml) := show _ = _ from at_txn hml
                            obtain ⟨x, hx⟩ : ∃ x, c.ts[m]'hml = x := ⟨_, rfl⟩
                            rw [hx] at x0 x1 HX
                            clear hx
                            have HLK : Hid (likeB (c.at m) t = ((x.nm.toList == t.nm.toList) || x.id == t.id)) := show _ = _ by rw [HX.out]; rfl
                            have HFF : Hid (likeB (c.at m) t = true → c.mayB = false) := fun h => by
                              rw [HN.out]
                              refine allN_no hlt ?_
                              have : c.freeB k = false := allN_no hmk (by rw [HAT.out, h]; rfl)
                              rw [this]; simp
                            cases hb : (x.nm.toList == t.nm.toList) with
                            | true =>
                              have HF : Hid (c.mayB = false) := show _ = _ from HFF.out (by rw [HLK.out, hb]; rfl)
                              go_wp2
                              go_quiet (fail)
                              go_wp2
                              go_ret
                              exact ⟨by rw [HF.out]; rfl, below_drewN (below_drewN HBW.out _) _⟩
                            | false =>
                              rw [hb] at HLK
                              cases hb2 : (x.id == t.id) with
                              | true =>
                                have HF : Hid (c.mayB = false) := show _ = _ from HFF.out (by rw [HLK.out, hb2]; rfl)
                                go_wp2
                                go_quiet (fail)
                                go_wp2
                                go_ret
                                exact ⟨by rw [HF.out]; rfl, below_drewN (below_drewN HBW.out _) _⟩
                              | false =>
                                have HNX : Hid (allN (fun j => !likeB (c.at j) t) (m + 1) = true) := show _ = _ by
                                  simp only [allN, HLm.out, Bool.true_and]
                                  rw [HLK.out, hb2]; rfl
                                go_wp2
                                go_quiet (fail)
                                go_wp2
                                go_roundw
                                case rel => exact ⟨m + 1, by omega, by go_num, HNX, _, rfl⟩
                                case measure => simp [intOf]; omega
                          · have hme : m = k := by omega
                            have HNX : Hid (allN (fun i => c.okB (c.at i) && c.freeB i) (k + 1) = true) := show _ = _ by
                              simp only [allN, HA.out, Bool.true_and]
                              have : c.freeB k = true := by unfold Crd.freeB; rw [HAT.out, ← hme]; exact HLm.out
                              rw [HAT.out, HOK.out, this]; rfl
                            have HBQ : Hid (Below w.heap.size w (W0.drewN q)) := bstep HBW.out (below_drewN (Below.refl _ _) q)
                            have HCQ : Hid (CB (W0.drewN q) w.heap.size c (.slice (some ⟨gg, off, none⟩) c.ts.length cv)) := HC.out.below HC.out.1 (below_drewN HBX.out q)
                            clear hme
                            go_wp2
                            go_roundw
                            case rel => exact ⟨k + 1, by omega, by go_num, HNX, HBQ, HCQ⟩
                            case measure => simp [intOf]; omega

end Go.Proofs.Ytjhpfnogdjpbmaa
