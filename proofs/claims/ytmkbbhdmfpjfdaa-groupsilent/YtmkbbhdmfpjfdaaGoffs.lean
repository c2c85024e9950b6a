/-
  group.fitsOffsets, walked.
-/
import Derived.Test.YtmkbbhdmfpjfdaaGcheck
import Derived.Test.YtmkbbhdmfpjfdaaGbase
namespace Go.Proofs.Ytmkbbhdmfpjfdaa
open Go.RowKit
set_option linter.unusedVariables false
set_option linter.unusedSimpArgs false

def ofsL (os : List Ofs) : Bool := allN (fun i => inR (os.getD i zeroO).pl 0 400) os.length && riseB (os.map Ofs.pt)
set_option maxRecDepth 100000 in
set_option maxHeartbeats 2000000 in
theorem gfitsOffsets_any (os : List Ofs) (v : Value) (us : Nat → Value) (w : World) (h : RdW ofsE w v os us) (hf : os.length * 16 ≤ 140737488355328) :
    Calls Try.prog 54 #[v] w fun e w' => e = .returned (.bool (decide (os.length ≤ 4) && ofsL os)) ∧ Below w.heap.size w w' := by
  obtain ⟨ao, cap, rfl, h1, h2⟩ := h.shape
  have H : Hid _ := h
  clear h
  obtain ⟨ps, hps⟩ : ∃ ps, os.map Ofs.pt = ps := ⟨_, rfl⟩
  have HP : Hid (os.map Ofs.pt = ps) := hps
  have HPL : Hid (ps.length = os.length) := show _ = _ by rw [← hps, List.length_map]
  clear hps
  go_enter Try.func54, Try.ntmps54
  by_cases h4 : 4 < os.length
  · have h4v : (4 : Int) < os.length := by omega
    have HE : Hid (decide (os.length ≤ 4) = false) := show _ = _ by simp; omega
    go_wp2
    go_ret
    exact ⟨by rw [HE.out]; rfl, Below.refl _ _⟩
  have h4v : ¬ (4 : Int) < os.length := by omega
  have HD : Hid (decide (os.length ≤ 4) = true) := show _ = _ by simp; omega
  go_upto_region 5 with fail
  go_loopw [3, 11] (fun out i W => ∃ k : Nat, k ≤ os.length ∧ i = .int .i64 k ∧ Hid (∀ j, j < k → inR (os.getD j zeroO).pl 0 400 = true) ∧ Hid (OwnV w.heap.size 3 1 out k (ints (ps.take k)) W) ∧ Hid (Below w.heap.size w W)) (fun _ i _ => os.length - (intOf i).toNat)
  case atStart => exact ⟨0, by omega, rfl, fun j hj => by omega, ownV_nil _ _ _ _ (Nat.le_refl _), Below.refl _ _⟩
  case round =>
    obtain ⟨k, hk, rfl, HA, HO, HB⟩ := hrel
    obtain ⟨a0, c0, rfl⟩ := HO.out.shape
    by_cases hlt : k < os.length
    · have hltv : (k : Int) < os.length := by omega
      obtain ⟨g, off, rfl, q0, q1⟩ := RdW.ofs (RdW.below (E := ofsE) (by decide) H.out (Nat.le_refl _) HB.out) k hlt
      obtain ⟨x, hx⟩ : ∃ x, os[k]'hlt = x := ⟨_, rfl⟩
      rw [hx] at q0 q1
      have HX : Hid (os.getD k zeroO = x) := show _ = _ by rw [← hx]; simp [List.getD, hlt]
      have HE : Hid (ints (ps.take (k + 1)) = ints (ps.take k) ++ [.int .i64 x.pt]) := show _ = _ by
        unfold ints
        have hl : k < ps.length := by rw [HPL.out]; exact hlt
        have e : ps[k]'hl = x.pt := by have := HP.out; subst this; rw [List.getElem_map, hx]
        rw [List.take_succ_eq_append_getElem hl, List.map_append, e]; rfl
      clear hx
      have HO5 : Hid (OwnV w.heap.size 3 1 (.slice a0 k c0) k (ints (ps.take k)) (wr.alloc (.cells #[.int .i64 x.pt, .int .i64 x.pl] 63))) := HO.out.below (Nat.le_refl _) (bbox _ _)
      have HB5 : Hid (Below w.heap.size w (wr.alloc (.cells #[.int .i64 x.pt, .int .i64 x.pl] 63))) := bstep HB.out (bbox _ _)
      obtain ⟨x0, x1⟩ := obox_new wr x wr.heap.size rfl
      go_upto_region 7 with fail
      generalize wr.alloc (.cells #[.int .i64 x.pt, .int .i64 x.pl] 63) = W5 at *
      generalize wr.heap.size = b5 at *
      clear q0 q1 HO HB
      go_wp2_with fail
      refine (cwithin_any _ _ _ _).mono ?_
      rintro e w' ⟨rfl, rfl⟩
      cases hin : inR x.pl 0 400 with
      | false =>
        have HF : Hid (ofsL os = false) := show _ = _ by
          unfold ofsL
          rw [Bool.and_eq_false_iff]
          left
          cases e : allN (fun i => inR (os.getD i zeroO).pl 0 400) os.length with
          | false => rfl
          | true => have := allN_iff.1 e k hlt; rw [HX.out, hin] at this; cases this
        go_wp2
        go_ret
        exact ⟨by rw [HF.out, Bool.and_false]; rfl, HB5.out⟩
      | true =>
        have HA' : Hid (∀ j, j < k + 1 → inR (os.getD j zeroO).pl 0 400 = true) := fun j hj => by
          by_cases e : j = k
          · subst e; rw [HX.out]; exact hin
          · exact HA.out j (by omega)
        clear hin
        go_wp2_with (at_builtin; refine wp_rowI rfl _ _ rfl w.heap.size _ k _ rfl (HO5.out.below (Nat.le_refl _) (bbox _ _)) w'.heap.size rfl x.pt (by simp) (by omega) _ rfl ?_)
        intro g' cap' w6 ho' hg hat hlt'
        have HO' : Hid (OwnV w.heap.size 3 1 (.slice (some ⟨g', 0, none⟩) (k + 1) cap') (k + 1) (ints (ps.take (k + 1))) w6) := show OwnV _ _ _ _ _ _ _ by rw [HE.out]; exact ho'
        have HB' : Hid (Below w.heap.size w w6) := below_grown (bstep HB5.out (bbox w' (.cells #[.int .i64 x.pt] 3))) hg (by simp; have := HB5.out.size; omega) (fun j e => (HO5.out.blk j e).1)
        clear ho' hg hat hlt' x0 x1
        go_wp2
        go_roundw
        case rel => exact ⟨k + 1, by omega, by go_num, HA', HO', HB'⟩
        case measure => simp [intOf]; omega
    · have hke : k = os.length := by omega
      have HV : Hid (RdV wr (.slice a0 k c0) (ints ps)) := show RdV _ _ _ by have := HO.out.rdv; rwa [hke, ← HPL.out, List.take_length, HPL.out, ← hke] at this
      have HF : Hid (ofsL os = riseB (os.map Ofs.pt)) := show _ = _ by
        unfold ofsL
        rw [allN_iff.2 (fun j hj => HA.out j (by omega)), Bool.true_and]
      have hlv : ¬ (k : Int) < os.length := by omega
      have HB6 : Hid (Below w.heap.size w wr) := HB
      clear hke HA HO HB
      go_wp2_with fail
      refine (partsRise_any ps _ _ HV.out).mono ?_
      rintro e W6 ⟨rfl, h6⟩
      subst h6
      go_wp2
      go_ret
      exact ⟨by rw [HD.out, HF.out, Bool.true_and, HP.out]; rfl, HB6.out⟩

end Go.Proofs.Ytmkbbhdmfpjfdaa
