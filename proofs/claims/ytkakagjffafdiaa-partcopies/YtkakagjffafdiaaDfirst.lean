/-
  The walk of wire.decodeFirst: the entry that bytes begin with.
-/
import Derived.Test.YtkakagjffafdiaaDbody
namespace Go.Proofs.Ytkakagjffafdiaa
open Go.RowKit
set_option linter.unusedVariables false
set_option linter.unusedSimpArgs false

theorem bytes_eq (l r : List Int) (hl : Bytes l) (hr : Bytes r) : ((strOfNums l).toList == (strOfNums r).toList) = decide (l = r) := by
  rw [Lib.toList_data, Lib.toList_data, strOfNums_data, strOfNums_data, Bool.eq_iff_iff, beq_iff_eq, decide_eq_true_iff]
  constructor
  · intro h
    have h1 := strL_strOfNums l hl
    have h2 := strL_strOfNums r hr
    unfold strL at h1 h2
    rw [strOfNums_data] at h1 h2
    rw [h] at h1
    exact h1.symm.trans h2
  · intro h
    rw [h]

set_option maxRecDepth 100000 in
set_option maxHeartbeats 400000 in
theorem equal_any (l r : List Int) (v u : Value) (w : World) (h1 : Rd w v l) (h2 : Rd w u r) :
    Calls Try.prog 134 #[v, u] w fun e w' => e = .returned (.bool (decide (l = r))) ∧ w' = w := by
  have c1 := conv_str h1
  have c2 := conv_str h2
  have E : Hid (((strOfNums l).toList == (strOfNums r).toList) = decide (l = r)) := bytes_eq l r h1.1 h2.1
  clear h1 h2
  go_enter Try.func134, Try.ntmps134
  go_wp2
  go_ret
  rw [← E.out]
  exact ⟨rfl, rfl⟩

theorem rd_cut {w : World} {l : List Int} {b off cap : Nat} (hb : Bytes l) (hcap : l.length ≤ cap) (hm : cap ≤ maxLen) (hc : ∀ i, i < l.length → w.cell? ⟨b, off + i, none⟩ = some (.int .u8 (l.getD i 0))) (k n : Nat) (hk : k + n ≤ l.length) :
    Rd w (.slice (if cap = k then some ⟨b, off, none⟩ else some ⟨b, off + k, none⟩) n (cap - k)) ((l.drop k).take n) := by
  have hl : ((l.drop k).take n).length = n := by simp; omega
  refine ⟨bytes_take (bytes_drop hb k) n, _, cap - k, by rw [hl], by omega, by omega, ?_, fun h => ?_⟩
  · intro h
    split at h <;> simp at h
  · rw [hl] at h
    refine ⟨b, off + k, by rw [if_neg (by omega)], fun i hi => ?_⟩
    rw [hl] at hi
    have := hc (k + i) (by omega)
    rw [← Nat.add_assoc] at this
    rw [this]
    simp [List.getD, hi]

theorem box_free {w wi : World} {cs : Array Value} {T : TypeId} (hb : Below (w.heap.size + 1) (w.alloc (.cells cs T)) wi) (o : Nat) : wi.frozen? ⟨w.heap.size, o, none⟩ = false := by
  rw [hb.frozen (p := ⟨w.heap.size, o, none⟩) (by show w.heap.size < _; omega)]
  simp

theorem below_stores {w wi : World} {o : Obj} {v0 v1 v2 v3 v4 v5 v6 : Value} (hb : Below w.heap.size w wi) : Below w.heap.size w ((((((((wi.setCell ⟨w.heap.size, 0, none⟩ v0).setCell ⟨w.heap.size, 1, none⟩ v1).setCell ⟨w.heap.size, 2, none⟩ v2).setCell ⟨w.heap.size, 3, none⟩ v3).setCell ⟨w.heap.size, 4, none⟩ v4).setCell ⟨w.heap.size, 5, none⟩ v5).setCell ⟨w.heap.size, 6, none⟩ v6).alloc o) := by
  have h := (((((((hb.setCell (p := ⟨w.heap.size, 0, none⟩) (Nat.le_refl _) v0).setCell (p := ⟨w.heap.size, 1, none⟩) (Nat.le_refl _) v1).setCell (p := ⟨w.heap.size, 2, none⟩) (Nat.le_refl _) v2).setCell (p := ⟨w.heap.size, 3, none⟩) (Nat.le_refl _) v3).setCell (p := ⟨w.heap.size, 4, none⟩) (Nat.le_refl _) v4).setCell (p := ⟨w.heap.size, 5, none⟩) (Nat.le_refl _) v5).setCell (p := ⟨w.heap.size, 6, none⟩) (Nat.le_refl _) v6)
  exact h.alloc h.size o

theorem below_stores' {w wi : World} {v0 v1 v2 v3 v4 v5 v6 : Value} (hb : Below w.heap.size w wi) : Below w.heap.size w (((((((wi.setCell ⟨w.heap.size, 0, none⟩ v0).setCell ⟨w.heap.size, 1, none⟩ v1).setCell ⟨w.heap.size, 2, none⟩ v2).setCell ⟨w.heap.size, 3, none⟩ v3).setCell ⟨w.heap.size, 4, none⟩ v4).setCell ⟨w.heap.size, 5, none⟩ v5).setCell ⟨w.heap.size, 6, none⟩ v6) :=
  (((((((hb.setCell (p := ⟨w.heap.size, 0, none⟩) (Nat.le_refl _) v0).setCell (p := ⟨w.heap.size, 1, none⟩) (Nat.le_refl _) v1).setCell (p := ⟨w.heap.size, 2, none⟩) (Nat.le_refl _) v2).setCell (p := ⟨w.heap.size, 3, none⟩) (Nat.le_refl _) v3).setCell (p := ⟨w.heap.size, 4, none⟩) (Nat.le_refl _) v4).setCell (p := ⟨w.heap.size, 5, none⟩) (Nat.le_refl _) v5).setCell (p := ⟨w.heap.size, 6, none⟩) (Nat.le_refl _) v6)

def firstV (l : List Int) : Ent × Nat := match firstP l with
  | none => (zeroE, 0)
  | some p => p
theorem firstV_none {l : List Int} (h : firstP l = none) : firstV l = (zeroE, 0) := by simp [firstV, h]
theorem firstV_some {l : List Int} {e : Ent} {z : Nat} (h : firstP l = some (e, z)) : firstV l = (e, z) := by simp [firstV, h]

set_option maxRecDepth 100000 in
set_option maxHeartbeats 1000000 in
theorem decodeFirst_some (l : List Int) (b off cap : Nat) (w : World) (h0 : 0 < l.length) (hl : l.length ≤ 140737488355328) (hcap : l.length ≤ cap) (hm : cap ≤ maxLen) (hb : Bytes l) (hc : ∀ i, i < l.length → w.cell? ⟨b, off + i, none⟩ = some (.int .u8 (l.getD i 0))) :
    Calls Try.prog 125 #[.slice (some ⟨b, off, none⟩) l.length cap] w fun e w' => e = .returned (.tuple #[(firstV l).1.val, .int .i64 (firstV l).2]) ∧ Below w.heap.size w w' := by
  have hcx := hc 0 h0
  have hx := bytes_getD hb 0
  generalize hcd : l.getD 0 0 = c at hcx hx
  have HL : l = c :: l.drop 1 := by (have := drop_cons_getD l 0 h0; rw [hcd] at this; simpa using this)
  have hW := wfirst_eq l hb
  simp only [Nat.add_zero] at hcx
  have hz' : (1 : Int) ≤ l.length := by omega
  have hblt := cell_lt hcx
  obtain ⟨m, rfl⟩ := Int.eq_ofNat_of_zero_le hx.1
  have hr1 := fun h => rd_cut hb hcap hm hc 1 m h
  have hr2 := fun h => rd_cut hb hcap hm hc 0 (m + 3) h
  unfold maxLen at hm
  by_cases hs : m + 3 ≤ l.length
  · have HL' : Hid _ := HL
    have HW : Hid _ := hW
    have hR1 := hr1 (by omega)
    have hR2 := hr2 (by omega)
    clear hr1 hr2 HL hW hcd hc
    rw [if_neg (by omega)] at hR1 hR2
    simp only [Nat.add_zero, Nat.sub_zero, List.drop_zero] at hR2
    have hm3 : m + 3 = 1 + m + 2 := by omega
    rw [hm3] at hR2
    have HF : Hid (∀ x, rawB ((l.drop 1).take m) = x → firstP l = match x with
        | none => none
        | some e => if e.flt = 0 ∧ e.enc = l.take (1 + m + 2) then some (e, 1 + m + 2) else none) := by
      intro x hx
      rw [← HW.out]
      rw [HL'.out] at hx ⊢
      simp only [List.drop_succ_cons, List.drop_zero] at hx
      simp only [wfirst, List.drop_succ_cons, List.drop_zero]
      rw [if_neg (by simp; omega)]
      have e1 : ((m : Nat) : Int).toNat = m := by omega
      rw [e1, hx, hm3]
      cases x <;> rfl
    generalize (l.drop 1).take m = L at *
    clear HW HL' hm3 hb
    go_enter Try.func125, Try.ntmps125
    go_wp2_with fail
    refine (decodeBody_any L _ _ ?_).mono ?_
    · exact hR1.below (Nat.le_refl _) (bbox _ _)
    rintro e w1 ⟨rfl, hb1⟩
    have hB1 := (by simpa using hb1 : Below (w.heap.size + 1) _ w1)
    have hc1 := box_cells hB1
    have hbel1 := bstep (bbox _ _) hb1
    have hf1 : ∀ o, w1.frozen? ⟨w.heap.size, o, none⟩ = false := box_free (by simpa using hb1)
    have hz1 : w.heap.size < w1.heap.size := by (have := hb1.size; simp at this; omega)
    clear hb1
    rcases hraw : rawB L with _ | e
    · rw [rawV_none hraw]
      have E : Hid (firstV l = (zeroE, 0)) := firstV_none (HF.out _ hraw)
      simp only [zeroE, Ent.val]
      go_wp2
      refine bodyPost_ret (v := .tuple #[zeroE.val, .int .i64 0]) (by simp [results, Try.results125, go_sem, zeroE, Ent.val, hc1, hf1, hz1, Nat.ne_of_lt hz1]) rfl ⟨by rw [E.out]; rfl, ?_⟩
      exact below_stores hbel1
    · rw [rawV_some hraw]
      obtain ⟨ea, eb, ec, ed, ek, et, es⟩ := e
      have HF2 := HF.out _ hraw
      simp only at HF2
      have HF3 : Hid _ := HF2
      clear HF HF2
      simp only [Ent.val]
      by_cases hflt : flt ea eb ec ed ek et es.size = 0
      · go_wp2_with fail
        refine (encode_ok ea eb ec ed ek et es _ hflt).mono ?_
        rintro e w2 ⟨ve, rfl, hve, hb2⟩
        have hB2 := (hB1.alloc hz1 _).trans (hb2.mono (by simp only [World.size_alloc]; omega))
        have hc2 := box_cells hB2
        have hf2 : ∀ o, w2.frozen? ⟨w.heap.size, o, none⟩ = false := box_free hB2
        have hc3 := box_cells (by simpa using hb2 : Below (w1.heap.size + 1) _ w2)
        have hbel2 := bstep (bstep hbel1 (bbox _ _)) hb2
        have hz2 : w1.heap.size < w2.heap.size := by (have := hb2.size; simp at this; omega)
        have hR3 := hR2.below (Nat.le_refl _) hbel2
        clear hb2 hB2 hB1 hbel1 hc1 hf1 hR2 hR1
        by_cases henc : encL ea eb ec ed ek et es = l.take (1 + m + 2)
        · have hdec : decide (encL ea eb ec ed ek et es = l.take (1 + m + 2)) = true := by simp [henc]
          have E : Hid (firstV l = (⟨ea, eb, ec, ed, ek, et, es⟩, 1 + m + 2)) := firstV_some (by rw [HF3.out, if_pos ⟨hflt, henc⟩])
          clear henc HF3 hflt
          go_wp2_with fail
          refine (equal_any _ _ _ _ _ hve.rd hR3).mono ?_
          rintro e w3 ⟨rfl, rfl⟩
          rw [hdec]
          clear hdec hve hR3
          go_wp2
          refine bodyPost_ret (v := .tuple #[(Ent.mk ea eb ec ed ek et es).val, .int .i64 (1 + m + 2)]) (by simp [results, Try.results125, go_sem, Ent.val, hc2, hf2, hc3, hz1, hz2, Nat.ne_of_lt hz1, Nat.ne_of_lt hz2]) rfl ⟨by rw [E.out]; rfl, ?_⟩
          exact below_stores' hbel2
        · have hdec : decide (encL ea eb ec ed ek et es = l.take (1 + m + 2)) = false := by simp [henc]
          have E : Hid (firstV l = (zeroE, 0)) := firstV_none (by rw [HF3.out, if_neg]; exact fun h => henc h.2)
          clear henc HF3 hflt
          go_wp2_with fail
          refine (equal_any _ _ _ _ _ hve.rd hR3).mono ?_
          rintro e w3 ⟨rfl, rfl⟩
          rw [hdec]
          clear hdec hve hR3
          go_wp2
          refine bodyPost_ret (v := .tuple #[zeroE.val, .int .i64 0]) (by simp [results, Try.results125, go_sem, zeroE, Ent.val, hc2, hf2, hc3, hz1, hz2, Nat.ne_of_lt hz1, Nat.ne_of_lt hz2]) rfl ⟨by rw [E.out]; rfl, ?_⟩
          exact below_stores' hbel2
      · have E : Hid (firstV l = (zeroE, 0)) := firstV_none (by rw [HF3.out, if_neg]; exact fun h => hflt h.1)
        go_wp2_with fail
        refine (encode_bad ea eb ec ed ek et es _ _ rfl (by simp [hflt])).mono ?_
        rintro e w2 ⟨rfl, hb2⟩
        have hr0 : (flt ea eb ec ed ek et es.size != 0) = true := by simp [hflt]
        have hB2 := (hB1.alloc hz1 _).trans (hb2.mono (by simp only [World.size_alloc]; omega))
        have hc2 := box_cells hB2
        have hf2 : ∀ o, w2.frozen? ⟨w.heap.size, o, none⟩ = false := box_free hB2
        have hbel2 := bstep (bstep hbel1 (bbox _ _)) hb2
        have hz2 : w1.heap.size < w2.heap.size := by (have := hb2.size; simp at this; omega)
        clear hb2 hB2 hB1 hbel1 hc1 hf1 hR2 hR1 hflt
        go_wp2
        refine bodyPost_ret (v := .tuple #[zeroE.val, .int .i64 0]) (by simp [results, Try.results125, go_sem, zeroE, Ent.val, hc2, hf2, hz1, hz2, Nat.ne_of_lt hz1, Nat.ne_of_lt hz2]) rfl ⟨by rw [E.out]; rfl, ?_⟩
        exact below_stores' hbel2
  · have e : firstP l = none := by
      rw [← hW, HL]
      simp only [wfirst]
      rw [if_pos (by simp; omega)]
    have E : Hid (firstV l = (zeroE, 0)) := firstV_none e
    clear e hW HL hr1 hr2 hcd
    go_enter Try.func125, Try.ntmps125
    go_wp2
    refine bodyPost_ret (v := .tuple #[zeroE.val, .int .i64 0]) (by simp [results, Try.results125, go_sem, zeroE, Ent.val]) rfl ⟨by rw [E.out]; rfl, ?_⟩
    repeat (first | exact Below.refl _ _ | refine Below.drew ?_ | refine Below.setCell ?_ (by simp) _ | refine Below.alloc ?_ (by simp) _)

end Go.Proofs.Ytkakagjffafdiaa
