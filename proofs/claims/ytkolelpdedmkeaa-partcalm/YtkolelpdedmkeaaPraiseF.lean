/-
  The walk of part.raiseHigh once more: no other block than the replicas' is stored to.
-/
import Derived.Test.YtkolelpdedmkeaaPres
import Derived.Test.YtkolelpdedmkeaaPst
import Derived.Test.YtkolelpdedmkeaaAapp
import Derived.Deep.RegionWith
namespace Go.Proofs.Ytkolelpdedmkeaa
open Go.RowKit
set_option linter.unusedVariables false
set_option linter.unusedSimpArgs false

set_option maxRecDepth 100000 in
set_option maxHeartbeats 4000000 in
theorem raiseHigh_far (p : Prt) (B gi gk gr ci ck cr : Nat) (us : Nat → Value) (w : World) (h : OwnP B w p gi gk gr ci ck cr us) (hB : B ≤ w.heap.size) (h0 : 0 ≤ p.ld) (h1 : p.ld < p.rs.length) (hi : p.isr.length = p.rs.length) (hk : p.kn.length = p.rs.length) (hl : lft (p.at p.ld.toNat).l (p.at p.ld.toNat).y = 0) (hn : (p.rs.length : Int) ≤ 5) :
    Calls Try.prog 84 #[.agg #[.int .i64 p.ep, .int .i64 p.ld, .slice (some ⟨gi, 0, none⟩) p.isr.length ci, .slice (some ⟨gk, 0, none⟩) p.kn.length ck, .slice (some ⟨gr, 0, none⟩) p.rs.length cr, .int .i64 p.fw, .int .i64 p.bs]] w fun e w' => e = .returned (.tuple #[]) ∧ OwnP B w' p.raised gi gk gr ci ck cr us ∧ Below B w w' ∧ ∀ b o, b < w.heap.size → b ≠ gr → w'.cell? ⟨b, o, none⟩ = w.cell? ⟨b, o, none⟩ := by
  have hBx := bbox w (.cells #[.int .i64 p.ep, .int .i64 p.ld, .slice (some ⟨gi, 0, none⟩) p.isr.length ci, .slice (some ⟨gk, 0, none⟩) p.kn.length ck, .slice (some ⟨gr, 0, none⟩) p.rs.length cr, .int .i64 p.fw, .int .i64 p.bs] 26)
  have HB : Hid (Below w.heap.size w _) := hBx
  have HP : Hid (PBox _ w.heap.size p _ _ _) := pbox_new w p (.slice (some ⟨gi, 0, none⟩) p.isr.length ci) (.slice (some ⟨gk, 0, none⟩) p.kn.length ck) (.slice (some ⟨gr, 0, none⟩) p.rs.length cr) 26
  have HSZ : Hid (w.heap.size < _) := show w.heap.size < (w.alloc (.cells #[.int .i64 p.ep, .int .i64 p.ld, .slice (some ⟨gi, 0, none⟩) p.isr.length ci, .slice (some ⟨gk, 0, none⟩) p.kn.length ck, .slice (some ⟨gr, 0, none⟩) p.rs.length cr, .int .i64 p.fw, .int .i64 p.bs] 26)).heap.size by simp
  have HO : Hid (OwnP B _ p gi gk gr ci ck cr us) := h.below (Nat.le_refl _) hBx
  have HL : Hid _ := hl
  have HI : Hid _ := hi
  have HK : Hid _ := hk
  have HBB : Hid _ := hB
  have HE : Hid _ := raised_eq h0 h1
  have hgi : gi < w.heap.size := h.2.si
  have hgk : gk < w.heap.size := h.2.sk
  have hgr : gr < w.heap.size := h.2.sr
  obtain ⟨b0, b1, b2, b3, b4, b5, b6⟩ := HP.out
  clear h hl hi hk hBx hB
  go_enter Try.func84, Try.ntmps84
  go_wp2_with fail
  refine (entriesOf_int p p.ld _ _ _ us _ HO.out.1 h0 h1 HL.out).mono ?_
  rintro e w1 ⟨v, rfl, hv, hb1⟩
  have HB1 : Hid (Below w.heap.size w w1) := HB.out.trans (hb1.mono HB.out.size)
  have HO1 : Hid (OwnP B w1 p gi gk gr ci ck cr us) := OwnP.below HO.out (Nat.le_refl _) hb1
  have HP1 : Hid (PBox w1 w.heap.size p _ _ _) := PBox.below HP.out HSZ.out hb1
  have hwr : w.heap.size < w1.heap.size := Nat.lt_of_lt_of_le HSZ.out hb1.size
  obtain ⟨ae, ce, rfl⟩ := hv.shape
  clear hv hb1 b0 b1 b2 b3 b4 b5 b6 HO HP HB HSZ
  obtain ⟨b0, b1, b2, b3, b4, b5, b6⟩ := HP1.out
  generalize (p.at p.ld.toNat).es.length = L at *
  go_wp2
  go_loop [4, 19] (fun kp i => ∃ k : Nat, k ≤ p.kn.length ∧ i = .int .i64 k ∧ kp = .int .i64 (p.low L k)) (fun _ i => p.kn.length - (intOf i).toNat)
  case atStart => exact ⟨0, by omega, rfl, rfl⟩
  case round =>
    obtain ⟨k, hk, rfl, rfl⟩ := hrel
    by_cases hlt : k < p.kn.length
    · have hlt' : (k : Int) < p.kn.length := by omega
      have hki : k < p.isr.length := by rw [HI.out, ← HK.out]; exact hlt
      have hki' : (k : Int) < p.isr.length := by omega
      have m0 := OwnP.isrCell HO1.out k hki
      have m1 := OwnP.knCell HO1.out k hlt
      have HM : Hid _ := low_min p L k
      have hl5 : (k : Int) ≤ 5 := by have := HK.out; omega
      generalize p.isr.getD k false = bi at *
      generalize p.kn.getD k 0 = kk at *
      generalize p.low L k = lw at *
      cases bi with
      | true =>
        go_wp2
        go_round
        case rel => exact ⟨k + 1, by omega, by go_num, by rw [HM.out, if_pos rfl]; exact congrArg _ (by split <;> omega)⟩
        case measure => simp [intOf]; omega
      | false =>
        go_wp2
        go_round
        case rel => exact ⟨k + 1, by omega, by go_num, by rw [HM.out]; simp⟩
        case measure => simp [intOf]; omega
    · have hke : k = p.kn.length := by omega
      subst hke
      have hd : p.ld.toNat < p.rs.length := by omega
      obtain ⟨_, q0, q1, q2, q3⟩ := OwnP.cellsAt HO1.out p.ld.toNat hd
      have f1 := (OwnP.setH HO1.out p.ld.toNat hd (if (p.at p.ld.toNat).h < p.low L p.kn.length then p.low L p.kn.length else (p.at p.ld.toNat).h))
      have f2 := HO1.out.2.fr
      have HF1 : Hid (OwnP B (w1.setCell ⟨gr, p.ld.toNat * 4 + 3, none⟩ (.int .i64 (if (p.at p.ld.toNat).h < p.low L p.kn.length then p.low L p.kn.length else (p.at p.ld.toNat).h))) p.raised gi gk gr ci ck cr us) := show OwnP _ _ _ _ _ _ _ _ _ _ by
        rw [HE.out, show p.isr.length = p.kn.length by rw [HI.out, HK.out]]
        have e : max (p.at p.ld.toNat).h (p.low L p.kn.length) = if (p.at p.ld.toNat).h < p.low L p.kn.length then p.low L p.kn.length else (p.at p.ld.toNat).h := by split <;> omega
        rw [e]
        exact f1
      have HF2 : Hid (Below B w (w1.setCell ⟨gr, p.ld.toNat * 4 + 3, none⟩ (.int .i64 (if (p.at p.ld.toNat).h < p.low L p.kn.length then p.low L p.kn.length else (p.at p.ld.toNat).h)))) := (HB1.out.mono HBB.out).setCell (p := ⟨gr, p.ld.toNat * 4 + 3, none⟩) HO1.out.2.br _
      have HF3 : Hid (∀ b o, b < w.heap.size → b ≠ gr → (w1.setCell ⟨gr, p.ld.toNat * 4 + 3, none⟩ (.int .i64 (if (p.at p.ld.toNat).h < p.low L p.kn.length then p.low L p.kn.length else (p.at p.ld.toNat).h))).cell? ⟨b, o, none⟩ = w.cell? ⟨b, o, none⟩) := fun b o hb hne => (by
        have e1 : (w1.setCell ⟨gr, p.ld.toNat * 4 + 3, none⟩ (.int .i64 (if (p.at p.ld.toNat).h < p.low L p.kn.length then p.low L p.kn.length else (p.at p.ld.toNat).h))).cell? ⟨b, o, none⟩ = w1.cell? ⟨b, o, none⟩ := by simp [go_sem, hne, Ne.symm hne]
        exact e1.trans (HB1.out.cell (p := ⟨b, o, none⟩) hb))
      clear f1 HE
      go_wp2
      go_region
      all_goals
        exact bodyPost_end (v := .tuple #[]) (by simp [results, Try.results84, go_sem]) rfl ⟨rfl, OwnP.drew HF1.out, HF2.out.drew, HF3.out⟩

theorem raiseHigh_atF (q : Prt) (B gi gk gr ci ck cr li lk lr : Nat) (ep ld fw bs : Int) (us : Nat → Value) (w : World) (h : OwnP B w q gi gk gr ci ck cr us) (hB : B ≤ w.heap.size) (h0 : 0 ≤ ld) (h1 : ld < lr) (hi : li = lr) (hk : lk = lr) (hl : lft (q.at ld.toNat).l (q.at ld.toNat).y = 0) (hn : (lr : Int) ≤ 5) (e1 : q.isr.length = li) (e2 : q.kn.length = lk) (e3 : q.rs.length = lr) (e4 : q.ep = ep) (e5 : q.ld = ld) (e6 : q.fw = fw) (e7 : q.bs = bs) :
    Calls Try.prog 84 #[.agg #[.int .i64 ep, .int .i64 ld, .slice (some ⟨gi, 0, none⟩) li ci, .slice (some ⟨gk, 0, none⟩) lk ck, .slice (some ⟨gr, 0, none⟩) lr cr, .int .i64 fw, .int .i64 bs]] w fun e w' => e = .returned (.tuple #[]) ∧ OwnP B w' q.raised gi gk gr ci ck cr us ∧ Below B w w' ∧ ∀ b o, b < w.heap.size → b ≠ gr → w'.cell? ⟨b, o, none⟩ = w.cell? ⟨b, o, none⟩ := by
  subst e1 e2 e3 e4 e5 e6 e7
  exact raiseHigh_far q B gi gk gr ci ck cr us w h hB h0 h1 hi hk hl hn
/-- Entries whose block is not stored to read as they did. -/
theorem RdX.keep {w w' : World} {v : Value} {es : List Ent} (h : RdX w v es) (hc : ∀ b o, v.ownBlock = some b → w'.cell? ⟨b, o, none⟩ = w.cell? ⟨b, o, none⟩) : RdX w' v es := by
  obtain ⟨ao, cap, rfl, h1, h2, h4, h3⟩ := h
  refine ⟨ao, cap, rfl, h1, h2, h4, fun h0 => ?_⟩
  obtain ⟨g, off, rfl, hg⟩ := h3 h0
  exact ⟨g, off, rfl, fun i hi j hj => (hc g _ rfl).trans (hg i hi j hj)⟩
/-- Where the entries lie that are owned. -/
theorem OwnE.blk {B : Nat} {v : Value} {es : List Ent} {w : World} (h : OwnE B v es w) (k : Nat) (hk : v.ownBlock = some k) : B ≤ k ∧ k < w.heap.size := h.1.lt k hk
theorem own_shape {B : Nat} {v : Value} {es : List Ent} {w : World} (h : OwnE B v es w) : v = .slice none 0 0 ∧ es.length = 0 ∨ ∃ g c, v = .slice (some ⟨g, 0, none⟩) es.length c ∧ es.length ≤ c ∧ c ≤ maxLen := by
  have h9 := h.rdX
  obtain ⟨⟨h1, h2⟩, h4⟩ := h
  rcases h2 with h2 | ⟨g, cap, cur, rfl, r2⟩
  · exact .inl h2
  · obtain ⟨ao, cap', e, a1, a2, a3, a4⟩ := h9
    simp only [Value.slice.injEq] at e
    obtain ⟨rfl, -, rfl⟩ := e
    exact .inr ⟨g, _, rfl, a1, a2⟩

end Go.Proofs.Ytkolelpdedmkeaa
