/-
  The walk of the document's PartRead.
-/
import Derived.Test.YtkolelpdedmkeaaPopD0
import Derived.Test.YtkolelpdedmkeaaPmay2
import Derived.Test.YtkolelpdedmkeaaVlawR
import Derived.Test.YtkolelpdedmkeaaPrefR
import Derived.Test.YtkolelpdedmkeaaAapp
import Derived.Deep.RegionHeld3
namespace Go.Proofs.Ytkolelpdedmkeaa
open Go.RowKit
set_option linter.unusedVariables false
set_option linter.unusedSimpArgs false

set_option maxRecDepth 100000 in
set_option maxHeartbeats 2000000 in
theorem partReadOf_any (p : Prt) (fr ms : Int) (vi vk vr : Value) (us : Nat → Value) (w : World) (h : RdP w p vi vk vr us) (hs : p.small) :
    Calls Try.prog 50 #[.agg #[.int .i64 p.ep, .int .i64 p.ld, vi, vk, vr, .int .i64 p.fw, .int .i64 p.bs], .int .i64 fr, .int .i64 ms] w fun e w' => ∃ u, e = .returned (.tuple #[u, .int .i64 (p.readP fr ms).2.1, .int .i64 (p.readP fr ms).2.2]) ∧ OwnS w.heap.size u (p.readP fr ms).1 w' ∧ Below w.heap.size w w' := by
  obtain ⟨ai, ci, ak, ck, ar, cr, rfl, rfl, rfl, l1, l2, l3⟩ := h.lens
  have hB := bbox w (.cells #[.int .i64 p.ep, .int .i64 p.ld, .slice ai p.isr.length ci, .slice ak p.kn.length ck, .slice ar p.rs.length cr, .int .i64 p.fw, .int .i64 p.bs] 26)
  have HB : Hid (Below w.heap.size w _) := hB
  have HP : Hid (PBox _ w.heap.size p _ _ _) := pbox_new w p (.slice ai p.isr.length ci) (.slice ak p.kn.length ck) (.slice ar p.rs.length cr) 26
  have HR : Hid (RdP _ p _ _ _ us) := h.below (Nat.le_refl _) hB
  have HSZ : Hid (w.heap.size < _) := show w.heap.size < (w.alloc (.cells #[.int .i64 p.ep, .int .i64 p.ld, .slice ai p.isr.length ci, .slice ak p.kn.length ck, .slice ar p.rs.length cr, .int .i64 p.fw, .int .i64 p.bs] 26)).heap.size by simp
  have HS : Hid p.small := hs
  clear h hB hs
  go_enter Try.func50, Try.ntmps50
  go_wp2_with fail
  refine (partMay_any p _ _ _ us _ HR.out HS.out).mono ?_
  rintro e w1 ⟨rfl, hb⟩
  have HB1 : Hid (Below w.heap.size w w1) := HB.out.trans (hb.mono HB.out.size)
  have HR1 : Hid (RdP w1 p _ _ _ us) := RdP.below HR.out (Nat.le_refl _) hb
  have HP1 : Hid (PBox w1 w.heap.size p _ _ _) := PBox.below HP.out HSZ.out hb
  have hw1 : w.heap.size < w1.heap.size := Nat.lt_of_lt_of_le HSZ.out hb.size
  obtain ⟨b0, b1, b2, b3, b4, b5, b6⟩ := HP1.out
  clear hb
  cases hm : p.mayB with
  | false =>
    have HE : Hid _ := readP_may hm fr ms
    clear hm
    go_wp2
    exact bodyPost_ret (v := .tuple #[.slice none 0 0, .int .i64 0, .int .i64 12]) (by simp [results, Try.results50, go_sem]) rfl (by rw [HE.out]; exact ⟨_, rfl, ownS_nil _ _ HB1.out.size, HB1.out⟩)
  | true =>
    have HM : Hid (May p) := may_iff.1 hm
    have HMB : Hid (p.mayB = true) := hm
    clear hm
    by_cases h0 : p.ld < 0
    · have HE : Hid _ := readP_lead HMB.out h0 fr ms
      have d0 : decide (p.ld < 0) = true := by simp [h0]
      clear h0
      go_wp2
      exact bodyPost_ret (v := .tuple #[.slice none 0 0, .int .i64 0, .int .i64 8]) (by simp [results, Try.results50, go_sem]) rfl (by rw [HE.out]; exact ⟨_, rfl, ownS_nil _ _ HB1.out.size, HB1.out⟩)
    · have h0' : 0 ≤ p.ld := by omega
      have HE : Hid _ := readP_ok HMB.out h0' fr ms
      have d0 : decide (p.ld < 0) = false := by simp; omega
      have hd : p.ld.toNat < p.rs.length := by have := HM.out.ld; omega
      have hd1 : p.ld < p.rs.length := by omega
      obtain ⟨g, off, rfl, -, y0, y1, y2, y3, y4⟩ := HR1.out.2.2.cells p.ld.toNat hd
      have HLL : Hid (((p.at p.ld.toNat).es.length : Int) ≤ 2199023255552) := show _ ≤ _ by have := may_es HM.out hd; omega
      have HLB : Hid ((p.at p.ld.toNat).l.length ≤ 1099511627775) := show _ ≤ _ by have := may_len HM.out hd; omega
      have hgl : g < w1.heap.size := cell_lt y4
      have HRP : Hid (∀ W, Below w1.heap.size w1 W → RdP W p _ _ _ us) := fun W hW => RdP.below HR1.out (Nat.le_refl _) hW
      clear y0 y1 y2 y3 h0
      go_wp2
      go_region_held3 (fun W => W.cell? ⟨w.heap.size, 0, none⟩ = some (.int .i64 p.ep) ∧ W.cell? ⟨w.heap.size, 1, none⟩ = some (.int .i64 p.ld) ∧ W.cell? ⟨w.heap.size, 2, none⟩ = some (.slice ai p.isr.length ci) ∧ W.cell? ⟨w.heap.size, 3, none⟩ = some (.slice ak p.kn.length ck) ∧ W.cell? ⟨w.heap.size, 4, none⟩ = some (.slice (some ⟨g, off, none⟩) p.rs.length cr) ∧ W.cell? ⟨w.heap.size, 5, none⟩ = some (.int .i64 p.fw) ∧ W.cell? ⟨w.heap.size, 6, none⟩ = some (.int .i64 p.bs) ∧ W.cell? ⟨g, off + p.ld.toNat * 4 + 3, none⟩ = some (.int .i64 (p.at p.ld.toNat).h)) (first | exact ⟨by assumption, by assumption, by assumption, by assumption, by assumption, by assumption, by assumption, by assumption⟩ | go_keep) (first | (go_at_call 68; refine (logOf_int p p.ld _ _ _ us _ (HRP.out _ (by repeat (first | exact Below.refl _ _ | refine Below.drew ?_))) h0' hd1 HLB.out l3).mono ?_; rintro e w6 ⟨v6, rfl, ho6, hb6⟩; have hB6 : Below w1.heap.size w1 w6 := bstep (by repeat (first | exact Below.refl _ _ | refine Below.drew ?_)) hb6; obtain ⟨c0, c1, c2, c3, c4, c5, c6⟩ := PBox.below HP1.out hw1 hB6; have y5 := (hB6.cell (p := ⟨g, off + p.ld.toNat * 4 + 3, none⟩) hgl).trans y4; obtain ⟨av6, cv6, rfl⟩ := ho6.shape) | (go_at_call 97; refine (readOf_any _ _ (p.at p.ld.toNat).h fr ms _ HLL.out (RdX.below ho6.rdX (Nat.le_refl _) (by repeat (first | exact Below.refl _ _ | refine Below.drew ?_)))).mono ?_; rintro e w7 ⟨u, rfl, hu, hb7⟩; have hB7 : Below w1.heap.size w1 w7 := bstep (bstep hB6 (by repeat (first | exact Below.refl _ _ | refine Below.drew ?_))) hb7; obtain ⟨d0, d1, d2, d3, d4, d5, d6⟩ := PBox.below HP1.out hw1 hB7; have y6 := (hB7.cell (p := ⟨g, off + p.ld.toNat * 4 + 3, none⟩) hgl).trans y4))
      all_goals
        have HB3 : Hid (Below w.heap.size w w7) := HB1.out.trans (hB7.mono HB1.out.size)
        have HU : Hid _ := OwnS.mono hu (C := w.heap.size) (by have h1 := HB1.out.size; have h2 := hB6.size; simp; omega)
        clear b0 b1 b2 b3 b4 b5 b6 c0 c1 c2 c3 c4 c5 c6 d0 d1 d2 d3 d4 d5 d6 hu hb7 hb6 hB6 hB7 ho6 y4 y5 y6
        generalize rdA (p.at p.ld.toNat).es (p.at p.ld.toNat).h fr ms = RR at *
        go_wp2
        exact bodyPost_ret (v := .tuple #[u, .int .i64 RR.2.1, .int .i64 RR.2.2]) (by simp [results, Try.results50, go_sem]) rfl (by rw [HE.out]; exact ⟨_, rfl, HU.out, HB3.out⟩)

end Go.Proofs.Ytkolelpdedmkeaa
