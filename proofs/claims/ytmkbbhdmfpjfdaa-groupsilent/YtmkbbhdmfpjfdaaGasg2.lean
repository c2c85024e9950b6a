/-
  group.Assign, walked.
-/
import Derived.Test.YtmkbbhdmfpjfdaaGasg
namespace Go.Proofs.Ytmkbbhdmfpjfdaa
open Go.RowKit
set_option linter.unusedVariables false
set_option linter.unusedSimpArgs false

/-- A row of lists. -/
def listE : El (List Int) where
  z := 1
  cs := fun _ u => [u]
  ns := fun l => l
  len := fun _ _ => rfl
  one := fun _ u hu c hc => by
    simp only [List.mem_cons, List.not_mem_nil, or_false] at hc
    subst hc
    exact hu
theorem listE_nil (ls : List (List Int)) (k : Nat) : listE.row nilS ls k = List.replicate ls.length (.slice none 0 0) := by
  induction ls generalizing k with
  | nil => rfl
  | cons x ls ih =>
    simp only [El.row, List.length_cons, List.replicate_succ]
    rw [ih (k + 1)]
    rfl
theorem lists_new {B : Nat} {w : World} {v : Value} (n : Nat) (h : OwnV B 53 1 v n (List.replicate n (.slice none 0 0)) w) : OwnW listE 53 B w v (List.replicate n []) nilS := by
  refine ⟨?_, fun i hi => ?_, (fun i hi b e => by cases e), (fun i j hi hj hne b e => by cases e)⟩
  · rw [listE_nil, List.length_replicate]
    exact h
  · rw [List.getElem_replicate]
    exact ownV_nil _ _ _ _ h.2

theorem grown_trans {w a b : World} {r : Option Nat} (h : w.grownBy a r) (k : a.grownBy b r) : w.grownBy b r :=
  ⟨k.os.trans h.os, k.tape.trans h.tape, k.output.trans h.output, Nat.le_trans h.size k.size, fun j hj hr => (k.block j (Nat.lt_of_lt_of_le hj h.size) hr).trans (h.block j hj hr)⟩

set_option maxRecDepth 100000 in
set_option maxHeartbeats 2000000 in
theorem assign_small (ns : List ByteArray) (p : Int) (v : Value) (w : World) (hr : RdV w v (strs ns)) (hn : ns.length < 20) (hp0 : -1000 ≤ p) (hp1 : p ≤ 1000) :
    Calls Try.prog 21 #[v, .int .i64 p] w fun e w' => ∃ v' us, e = .returned v' ∧ OwnW listE 53 w.heap.size w' v' (asg ns p) us ∧ Below w.heap.size w w' := by
  obtain ⟨ao, cap, rfl⟩ := hr.shape
  rw [strs_len] at *
  have HR : Hid (∀ W, Below w.heap.size w W → RdV W (.slice ao ns.length cap) (strs ns)) := fun W hW => hr.below (Nat.le_refl _) hW
  have HP : Hid (-1000 ≤ p ∧ p ≤ 1000) := ⟨hp0, hp1⟩
  clear hr hp0 hp1
  go_enter Try.func21, Try.ntmps21
  go_wp2_with (at_make; refine wp_mkRow 53 32 (.slice none 0 0) 24 infoSl Try.underlying32 rfl rfl _ _ rfl .i64 .i64 _ _ ns.length rfl rfl rfl rfl (by omega) (by unfold maxLen; omega) ?_)
  intro w1 ho1 hb1
  have HO1 : Hid (OwnW listE 53 w.heap.size w1 (.slice (some ⟨w.heap.size, 0, none⟩) ns.length ns.length) (asgTo ns p 0) nilS) := by
    rw [asgTo_zero]
    exact lists_new _ ho1
  have HB1 : Hid (Below w.heap.size w w1) := hb1
  clear ho1 hb1
  go_wp2_with fail
  refine (inOrder_small ns _ _ (HR.out _ HB1.out) hn).mono ?_
  rintro e w2 ⟨g2, l, rfl, hg2, hg3, hc2, hl1, hl2, hb2⟩
  have HLL : Hid (l.length = ns.length) := show _ = _ by rw [hl1.length_eq, List.length_range]
  have HO2 : Hid (OwnW listE 53 w.heap.size w2 (.slice (some ⟨w.heap.size, 0, none⟩) ns.length ns.length) (asgTo ns p 0) nilS) := HO1.out.below (Nat.le_refl _) hb2
  have HB2 : Hid (Below w.heap.size w w2) := bstep HB1.out hb2
  have hw1 : w.heap.size < w1.heap.size := (HO1.out.o.blk _ rfl).2
  have hgw : g2 ≠ w.heap.size := by omega
  have HCC : Hid (∀ W, w2.grownBy W (some w.heap.size) → ∀ k, (h : k < l.length) → W.cell? ⟨g2, k, none⟩ = some (.int .i64 ((l[k]'h : Nat) : Int))) := fun W hW k hk => (hW.cell_far (a := ⟨g2, k, none⟩) hg3 (by intro e; simp at e; omega)).trans (hc2 k hk)
  have HPM : Hid _ := hl1
  have HPW : Hid _ := hl2
  clear hc2 hl1 hl2 hb2 hg2
  go_wp2
  go_loopw [14] (fun iv W => ∃ k : Nat, k ≤ ns.length ∧ iv = .int .i64 k ∧ Hid (∃ us, OwnW listE 53 w.heap.size W (.slice (some ⟨w.heap.size, 0, none⟩) ns.length ns.length) (asgTo ns p k) us) ∧ Hid (w2.grownBy W (some w.heap.size))) (fun iv _ => ns.length - (intOf iv).toNat)
  case atStart => exact ⟨0, by omega, rfl, ⟨_, HO2.out⟩, grown_below (Below.refl _ _) _⟩
  case round =>
    obtain ⟨k, hk, rfl, HO, HG⟩ := hrel
    have HBW : Hid (Below w.heap.size w wr) := below_grown (v := .slice (some ⟨w.heap.size, 0, none⟩) ns.length ns.length) HB2.out HG.out HB2.out.size (fun k e => by simp [Value.ownBlock] at e; omega)
    by_cases hlt : k < ns.length
    · have hkv : (k : Int) < ns.length := by omega
      have HKL : Hid (k < l.length) := show k < l.length by rw [HLL.out]; exact hlt
      have hcx := HCC.out wr HG.out k HKL.out
      have HST : Hid ((asgTo ns p k).set (l[k]'HKL.out) (dealt k ns.length p) = asgTo ns p (k + 1)) := asgTo_set HPM.out HPW.out HKL.out p
      have hxn : l[k]'HKL.out < ns.length := List.mem_range.1 (HPM.out.mem_iff.1 (List.getElem_mem HKL.out))
      obtain ⟨x, hx⟩ : ∃ x, l[k]'HKL.out = x := ⟨_, rfl⟩
      rw [hx] at hcx HST hxn
      have hxv : (x : Int) < ns.length := by omega
      clear hx
      go_wp2_with fail
      refine (partsOfTurn_any k ns.length p _ hlt (by omega) HP.out.1 HP.out.2).mono ?_
      rintro e w5 ⟨u, rfl, hu, hb5⟩
      obtain ⟨au, cu, rfl⟩ := hu.shape
      obtain ⟨us, ho⟩ := HO.out
      have hlen : x < (asgTo ns p k).length := by rw [asgTo_len]; exact hxn
      have ho5 := ho.below (Nat.le_refl _) hb5
      obtain ⟨g4, cap4, e4, -, hgl, -, -, hfz, hc⟩ := ho5.o.form (by rw [asgTo_len]; omega)
      simp only [Value.slice.injEq, Option.some.injEq, Addr.mk.injEq, and_true] at e4
      obtain ⟨rfl, -, rfl⟩ := e4
      have hz : listE.z = 1 := rfl
      have HN : Hid (∃ us, OwnW listE 53 w.heap.size (w5.setCell ⟨w.heap.size, x, none⟩ (.slice au (dealt k ns.length p).length cu)) (.slice (some ⟨w.heap.size, 0, none⟩) ns.length ns.length) (asgTo ns p (k + 1)) us) := by
        have h1 := ho5.setIn x 0 hlen (by decide) (dealt k ns.length p) (.slice au (dealt k ns.length p).length cu) rfl (hu.mono HBW.out.size) (fun e => by
          have h8 : wr.heap.size ≤ w.heap.size := (hu.blk w.heap.size e).1
          have h9 : w.heap.size < wr.heap.size := (ho.o.blk w.heap.size rfl).2
          omega) (fun i hi hne b e e2 => by
          have h2 := (hu.blk b e2).1
          have h3 := ((ho.i i hi).blk b e).2
          omega)
        rw [HST.out, hz, Nat.mul_one, Nat.add_zero] at h1
        exact ⟨_, h1⟩
      have HGN : Hid (w2.grownBy (w5.setCell ⟨w.heap.size, x, none⟩ (.slice au (dealt k ns.length p).length cu)) (some w.heap.size)) := grown_set (grown_trans HG.out (grown_below hb5 _)) _ _
      have hcell : ∃ y, w5.cell? ⟨w.heap.size, x, none⟩ = some y := by
        have := hc x (by rw [hz, Nat.mul_one, asgTo_len]; exact hxn)
        rw [this]
        have hl : x < (listE.row us (asgTo ns p k) 0).length := by rw [row_len, hz, Nat.mul_one]; exact hlen
        rw [List.getElem?_eq_getElem hl]
        exact ⟨_, rfl⟩
      obtain ⟨y, hcell⟩ := hcell
      have hfx := hfz x
      clear hc hfz ho ho5 hu hb5 hcx
      go_wp2
      go_roundw
      case rel => exact ⟨k + 1, by omega, by go_num, HN, HGN⟩
      case measure => simp [intOf]; omega
    · have hke : k = ns.length := by omega
      have hkv : ¬ (k : Int) < ns.length := by omega
      have HF : Hid (∃ us, OwnW listE 53 w.heap.size wr (.slice (some ⟨w.heap.size, 0, none⟩) ns.length ns.length) (asg ns p) us) := by
        have := HO.out
        rw [hke, asgTo_all] at this
        exact this
      clear hke
      go_wp2
      go_ret
      obtain ⟨us, h⟩ := HF.out
      exact ⟨_, rfl, ⟨us, h⟩, HBW.out⟩

end Go.Proofs.Ytmkbbhdmfpjfdaa
