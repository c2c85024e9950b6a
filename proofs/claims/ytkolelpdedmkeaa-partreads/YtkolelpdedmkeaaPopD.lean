/-
  The walk of part.Read.
-/
import Derived.Test.YtkolelpdedmkeaaPopD0
import Derived.Test.YtkolelpdedmkeaaApch
import Derived.Test.YtkolelpdedmkeaaPraise
import Derived.Test.YtkolelpdedmkeaaVdread
import Derived.Test.YtkolelpdedmkeaaAapp
namespace Go.Proofs.Ytkolelpdedmkeaa
open Go.RowKit
set_option linter.unusedVariables false
set_option linter.unusedSimpArgs false

set_option maxRecDepth 100000 in
set_option maxHeartbeats 2000000 in
theorem partRead_any (p : Prt) (fr ms : Int) (vi vk vr : Value) (us : Nat → Value) (w : World) (h : RdP w p vi vk vr us) (hs : p.small) :
    Calls Try.prog 49 #[.agg #[.int .i64 p.ep, .int .i64 p.ld, vi, vk, vr, .int .i64 p.fw, .int .i64 p.bs], .int .i64 fr, .int .i64 ms] w fun e w' => ∃ u, e = .returned (.tuple #[u, .int .i64 (p.readP fr ms).2.1, .int .i64 (p.readP fr ms).2.2]) ∧ OwnS w.heap.size u (p.readP fr ms).1 w' ∧ Below w.heap.size w w' := by
  obtain ⟨ai, ci, ak, ck, ar, cr, rfl, rfl, rfl, l1, l2, l3⟩ := h.lens
  have hB := bbox w (.cells #[.int .i64 p.ep, .int .i64 p.ld, .slice ai p.isr.length ci, .slice ak p.kn.length ck, .slice ar p.rs.length cr, .int .i64 p.fw, .int .i64 p.bs] 26)
  have HB : Hid (Below w.heap.size w _) := hB
  have HP : Hid (PBox _ w.heap.size p _ _ _) := pbox_new w p (.slice ai p.isr.length ci) (.slice ak p.kn.length ck) (.slice ar p.rs.length cr) 26
  have HR : Hid (RdP _ p _ _ _ us) := h.below (Nat.le_refl _) hB
  have HSZ : Hid (w.heap.size < _) := show w.heap.size < (w.alloc (.cells #[.int .i64 p.ep, .int .i64 p.ld, .slice ai p.isr.length ci, .slice ak p.kn.length ck, .slice ar p.rs.length cr, .int .i64 p.fw, .int .i64 p.bs] 26)).heap.size by simp
  have HS : Hid p.small := hs
  clear h hB hs
  go_enter Try.func49, Try.ntmps49
  go_wp2_with fail
  refine (partCheck_any p _ _ _ us _ HR.out HS.out).mono ?_
  rintro e w1 ⟨rfl, hb⟩
  have HB1 : Hid (Below w.heap.size w w1) := HB.out.trans (hb.mono HB.out.size)
  have HR1 : Hid (RdP w1 p _ _ _ us) := RdP.below HR.out (Nat.le_refl _) hb
  have HP1 : Hid (PBox w1 w.heap.size p _ _ _) := PBox.below HP.out HSZ.out hb
  have hw1 : w.heap.size < w1.heap.size := Nat.lt_of_lt_of_le HSZ.out hb.size
  obtain ⟨b0, b1, b2, b3, b4, b5, b6⟩ := HP1.out
  clear hb
  cases hm : p.mayB with
  | false =>
    have HE : Hid _ := readP_may hm fr ms
    rw [cfl_no hm]
    clear hm
    go_wp2
    exact bodyPost_ret (v := .tuple #[.slice none 0 0, .int .i64 0, .int .i64 12]) (by simp [results, Try.results49, go_sem]) rfl (by rw [HE.out]; exact ⟨_, rfl, ownS_nil _ _ HB1.out.size, HB1.out⟩)
  | true =>
    have HM : Hid (May p) := may_iff.1 hm
    have HMB : Hid (p.mayB = true) := hm
    rw [cfl_yes hm]
    clear hm
    by_cases h0 : p.ld < 0
    · have HE : Hid _ := readP_lead HMB.out h0 fr ms
      have d0 : (p.ld == -1) = true := by have := HM.out.ld; simp; omega
      clear h0
      go_wp2
      exact bodyPost_ret (v := .tuple #[.slice none 0 0, .int .i64 0, .int .i64 8]) (by simp [results, Try.results49, go_sem]) rfl (by rw [HE.out]; exact ⟨_, rfl, ownS_nil _ _ HB1.out.size, HB1.out⟩)
    · have h0' : 0 ≤ p.ld := by omega
      have HE : Hid _ := readP_ok HMB.out h0' fr ms
      have d0 : (p.ld == -1) = false := by simp; omega
      have hd : p.ld.toNat < p.rs.length := by have := HM.out.ld; omega
      have hd1 : p.ld < p.rs.length := by omega
      have HL : Hid (lft (p.at p.ld.toNat).l (p.at p.ld.toNat).y = 0) := show _ = _ from (HM.out.ok _ hd).1
      obtain ⟨g, off, rfl, -, y0, y1, y2, y3, y4⟩ := HR1.out.2.2.cells p.ld.toNat hd
      have HPL : Hid (Plain (p.at p.ld.toNat).es ∧ NoTx (p.at p.ld.toNat).es) := show _ ∧ _ from es_plain y0.1
      have HLL : Hid (((p.at p.ld.toNat).es.length : Int) ≤ 2199023255552) := show _ ≤ _ by have := may_es HM.out hd; omega
      have hgl : g < w1.heap.size := cell_lt y4
      clear y0 y1 y2 y3 h0
      go_wp2_with fail
      refine (entriesOf_int p p.ld _ _ _ us _ HR1.out h0' hd1 HL.out).mono ?_
      rintro e w2 ⟨v, rfl, hv, hb2⟩
      have HB2 : Hid (Below w.heap.size w w2) := HB1.out.trans (hb2.mono HB1.out.size)
      have HX2 : Hid (RdX w2 v _) := hv.rdX
      obtain ⟨ae, ce, rfl⟩ := hv.shape
      have y4' : w2.cell? ⟨g, off + p.ld.toNat * 4 + 3, none⟩ = some (.int .i64 (p.at p.ld.toNat).h) := (hb2.cell (p := ⟨g, off + p.ld.toNat * 4 + 3, none⟩) hgl).trans y4
      clear b0 b1 b2 b3 b4 b5 b6 hv y4
      obtain ⟨b0, b1, b2, b3, b4, b5, b6⟩ := PBox.below HP1.out hw1 hb2
      clear hb2
      go_wp2_with fail
      refine (read_c _ _ (p.at p.ld.toNat).h fr ms _ HLL.out HPL.out.1 HPL.out.2 HX2.out).mono ?_
      rintro e w3 ⟨u, rfl, hu, hb3⟩
      have HB3 : Hid (Below w.heap.size w w3) := HB2.out.trans (hb3.mono HB2.out.size)
      have HU : Hid _ := OwnS.mono hu HB2.out.size
      clear b0 b1 b2 b3 b4 b5 b6 hu hb3 y4'
      generalize rdA (p.at p.ld.toNat).es (p.at p.ld.toNat).h fr ms = RR at *
      go_wp2
      exact bodyPost_ret (v := .tuple #[u, .int .i64 RR.2.1, .int .i64 RR.2.2]) (by simp [results, Try.results49, go_sem]) rfl (by rw [HE.out]; exact ⟨_, rfl, HU.out, HB3.out⟩)

end Go.Proofs.Ytkolelpdedmkeaa
