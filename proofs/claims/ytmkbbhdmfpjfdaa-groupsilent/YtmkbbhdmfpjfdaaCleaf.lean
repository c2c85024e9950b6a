/-
  The walks of the small tests: numbers within bounds, names, parts that rise; the code's and the document's.
-/
import Derived.Test.YtmkbbhdmfpjfdaaCpure
import Derived.Deep.QuietTactic
import Derived.BigQuiet
namespace Go.Proofs.Ytmkbbhdmfpjfdaa
open Go.RowKit
set_option linter.unusedVariables false
set_option linter.unusedSimpArgs false

set_option maxRecDepth 100000 in
set_option maxHeartbeats 400000 in
theorem cwithin_any (n l h : Int) (w : World) :
    Calls Try.prog 47 #[.int .i64 n, .int .i64 l, .int .i64 h] w fun e w' => e = .returned (.bool (inR n l h)) ∧ w' = w := by
  by_cases h0 : l ≤ n
  · by_cases h1 : n ≤ h
    · have hr : inR n l h = true := by simp [inR]; omega
      rw [hr]
      go_enter Try.func47, Try.ntmps47
      go_wp2
      go_ret
      exact ⟨rfl, rfl⟩
    · have hr : inR n l h = false := by simp [inR]; omega
      rw [hr]
      go_enter Try.func47, Try.ntmps47
      go_wp2
      go_ret
      exact ⟨rfl, rfl⟩
  · have hr : inR n l h = false := by simp [inR]; omega
    rw [hr]
    go_enter Try.func47, Try.ntmps47
    go_wp2
    go_ret
    exact ⟨rfl, rfl⟩

theorem strL_get (s : ByteArray) (k : Nat) (h : k < s.size) : (strL s).getD k 0 = (s[k].toNat : Int) := by
  have : k < s.data.toList.length := by simpa using h
  have e : s.data[k]? = some (s.data[k]'(by simpa using this)) := Array.getElem?_eq_getElem _
  simp only [strL, List.getD, List.getElem?_map, Array.getElem?_toList, e]
  rfl
theorem let_no {n : Int} : letB n = false ↔ n < 97 ∨ 122 < n := by
  unfold letB
  rw [inR_no]
  omega
theorem let_yes {n : Int} : letB n = true ↔ 97 ≤ n ∧ n ≤ 122 := by
  unfold letB
  rw [inR_iff]
def nmOk (s : ByteArray) (k : Nat) : Bool := letB ((strL s).getD k 0)
theorem nameB_eq (s : ByteArray) : nameB s = (inR s.size 1 8 && allN (nmOk s) s.size) := rfl

set_option maxRecDepth 100000 in
set_option maxHeartbeats 1000000 in
theorem isName_any (s : ByteArray) (w : World) (hs : s.size ≤ maxLen) :
    Calls Try.prog 83 #[.string s] w fun e w' => e = .returned (.bool (nameB s)) ∧ w' = w := by
  unfold maxLen at hs
  have HE : Hid (nameB s = (inR s.size 1 8 && allN (nmOk s) s.size)) := show _ = _ from nameB_eq s
  go_enter Try.func83, Try.ntmps83
  go_wp2_with fail
  refine (cwithin_any _ _ _ _).mono ?_
  rintro e w' ⟨rfl, rfl⟩
  cases h0 : inR s.size 1 8 with
  | false =>
    rw [h0] at HE
    go_wp2
    go_ret
    exact ⟨by rw [HE.out]; rfl, rfl⟩
  | true =>
    rw [h0] at HE
    clear h0
    go_wp2
    go_loop [3, 10] (fun u i => ∃ k : Nat, k ≤ s.size ∧ i = .int .i64 k ∧ Hid (allN (nmOk s) k = true)) (fun _ i => s.size - (intOf i).toNat)
    case atStart => exact ⟨0, by omega, rfl, rfl⟩
    case round =>
      obtain ⟨k, hk, rfl, HA⟩ := hrel
      by_cases hlt : k < s.size
      · have HG : Hid ((strL s).getD k 0 = (s[k].toNat : Int)) := show _ = _ from strL_get s k hlt
        have hb := s[k].toNat_lt
        by_cases hlo : s[k].toNat < 97
        · have HF : Hid (allN (nmOk s) s.size = false) := show _ = _ from allN_no hlt (let_no.2 (by rw [HG.out]; omega))
          have d1 : decide ((s[k].toNat : Int) < 97) = true := by simp; omega
          go_wp2
          go_ret
          exact ⟨by rw [HE.out, HF.out]; rfl, rfl⟩
        · have d1 : decide ((s[k].toNat : Int) < 97) = false := by simp; omega
          by_cases hhi : s[k].toNat ≤ 122
          · have HN : Hid (allN (nmOk s) (k + 1) = true) := show _ = _ by
              simp only [allN, HA.out, Bool.true_and]
              exact let_yes.2 (by rw [HG.out]; omega)
            have d2 : decide (122 < (s[k].toNat : Int)) = false := by simp; omega
            go_wp2
            go_round
            case rel => exact ⟨k + 1, by omega, by go_num, HN⟩
            case measure => simp [intOf]; omega
          · have HF : Hid (allN (nmOk s) s.size = false) := show _ = _ from allN_no hlt (let_no.2 (by rw [HG.out]; omega))
            have d2 : decide (122 < (s[k].toNat : Int)) = true := by simp; omega
            go_wp2
            go_ret
            exact ⟨by rw [HE.out, HF.out]; rfl, rfl⟩
      · have hke : k = s.size := by omega
        have HF : Hid (allN (nmOk s) s.size = true) := show _ = _ by rw [← hke]; exact HA.out
        clear hke
        go_wp2
        go_ret
        exact ⟨by rw [HE.out, HF.out]; rfl, rfl⟩

set_option maxRecDepth 100000 in
set_option maxHeartbeats 1000000 in
theorem nameMay_any (s : ByteArray) (w : World) (hs : s.size ≤ maxLen) :
    Calls Try.prog 55 #[.string s] w fun e w' => e = .returned (.bool (nameB s)) ∧ w' = w := by
  unfold maxLen at hs
  have HE : Hid (nameB s = (inR s.size 1 8 && allN (nmOk s) s.size)) := show _ = _ from nameB_eq s
  go_enter Try.func55, Try.ntmps55
  go_wp2
  go_loop [3] (fun i => ∃ k : Nat, k ≤ s.size ∧ i = .int .i64 k ∧ Hid (allN (nmOk s) k = true)) (fun i => s.size - (intOf i).toNat)
  case atStart => exact ⟨0, by omega, rfl, rfl⟩
  case round =>
    obtain ⟨k, hk, rfl, HA⟩ := hrel
    by_cases hlt : k < s.size
    · have HG : Hid ((strL s).getD k 0 = (s[k].toNat : Int)) := show _ = _ from strL_get s k hlt
      have hb := s[k].toNat_lt
      by_cases hlo : s[k].toNat < 97
      · have HF : Hid (allN (nmOk s) s.size = false) := show _ = _ from allN_no hlt (let_no.2 (by rw [HG.out]; omega))
        have d1 : decide ((s[k].toNat : Int) < 97) = true := by simp; omega
        go_wp2
        go_ret
        exact ⟨by rw [HE.out, HF.out]; simp, rfl⟩
      · have d1 : decide ((s[k].toNat : Int) < 97) = false := by simp; omega
        by_cases hhi : s[k].toNat ≤ 122
        · have HN : Hid (allN (nmOk s) (k + 1) = true) := show _ = _ by
            simp only [allN, HA.out, Bool.true_and]
            exact let_yes.2 (by rw [HG.out]; omega)
          have d2 : decide (122 < (s[k].toNat : Int)) = false := by simp; omega
          go_wp2
          go_round
          case rel => exact ⟨k + 1, by omega, by go_num, HN⟩
          case measure => simp [intOf]; omega
        · have HF : Hid (allN (nmOk s) s.size = false) := show _ = _ from allN_no hlt (let_no.2 (by rw [HG.out]; omega))
          have d2 : decide (122 < (s[k].toNat : Int)) = true := by simp; omega
          go_wp2
          go_ret
          exact ⟨by rw [HE.out, HF.out]; simp, rfl⟩
    · have hke : k = s.size := by omega
      have HF : Hid (allN (nmOk s) s.size = true) := show _ = _ by rw [← hke]; exact HA.out
      clear hke
      go_wp2_with fail
      refine (In_any _ _ _ _).mono ?_
      rintro e w' ⟨rfl, rfl⟩
      go_wp2
      go_ret
      exact ⟨by rw [HE.out, HF.out]; simp, rfl⟩

set_option maxRecDepth 100000 in
set_option maxHeartbeats 1000000 in
theorem partsRise_some (l : List Int) (b off cap : Nat) (w : World) (hl : (l.length : Int) ≤ 9223372036854775807) (hc : ∀ i, (h : i < l.length) → w.cell? ⟨b, off + i, none⟩ = some (.int .i64 (l[i]'h))) :
    Calls Try.prog 86 #[.slice (some ⟨b, off, none⟩) l.length cap] w fun e w' => e = .returned (.bool (riseB l)) ∧ w' = w := by
  have HC : Hid _ := hc
  have HE : Hid (riseB l = allN (okAt l) l.length) := show _ = _ from rfl
  clear hc
  go_enter Try.func86, Try.ntmps86
  go_wp2
  go_loop [3, 8] (fun m i => ∃ (k : Nat) (lo : Int), k ≤ l.length ∧ i = .int .i64 k ∧ m = .int .i64 lo ∧ Hid (allN (okAt l) k = true) ∧ Hid (lo = if k = 0 then 0 else l.getD (k - 1) 0 + 1) ∧ 0 ≤ lo ∧ lo ≤ 4) (fun _ i => l.length - (intOf i).toNat)
  case atStart => exact ⟨0, 0, by omega, rfl, rfl, rfl, rfl, by omega, by omega⟩
  case round =>
    obtain ⟨k, lo, hk, rfl, rfl, HA, HL, hlo0, hlo4⟩ := hrel
    by_cases hlt : k < l.length
    · have c0 := HC.out k hlt
      have hgd : l.getD k 0 = l[k]'hlt := by simp [List.getD, hlt]
      obtain ⟨p, hp⟩ : ∃ p, l[k]'hlt = p := ⟨_, rfl⟩
      rw [hp] at c0 hgd
      have HG : Hid (l.getD k 0 = p) := hgd
      have HO : Hid (okAt l k = inR p lo 3) := show _ = _ by unfold okAt; rw [HG.out, HL.out]
      clear hp hgd
      cases h0 : inR p lo 3 with
      | false =>
        have HF : Hid (allN (okAt l) l.length = false) := show _ = _ from allN_no hlt (by rw [HO.out, h0])
        go_wp2_with fail
        refine (cwithin_any _ _ _ _).mono ?_
        rintro e w' ⟨rfl, rfl⟩
        rw [h0]
        go_wp2
        go_ret
        exact ⟨by rw [HE.out, HF.out]; rfl, rfl⟩
      | true =>
        have HN : Hid (allN (okAt l) (k + 1) = true) := show _ = _ by
          simp only [allN, HA.out, Bool.true_and]
          rw [HO.out, h0]
        obtain ⟨p0, p1⟩ := inR_iff.1 h0
        go_wp2_with fail
        refine (cwithin_any _ _ _ _).mono ?_
        rintro e w' ⟨rfl, rfl⟩
        rw [h0]
        clear h0
        go_wp2
        go_round
        case rel => exact ⟨k + 1, p + 1, by omega, by go_num, rfl, HN, (show _ = _ by rw [if_neg (by omega), Nat.add_sub_cancel, HG.out]), by omega, by omega⟩
        case measure => simp [intOf]; omega
    · have hke : k = l.length := by omega
      have HF : Hid (allN (okAt l) l.length = true) := show _ = _ by rw [← hke]; exact HA.out
      clear hke
      go_wp2
      go_ret
      exact ⟨by rw [HE.out, HF.out]; rfl, rfl⟩

set_option maxRecDepth 100000 in
set_option maxHeartbeats 400000 in
theorem partsRise_none (ao : Option Addr) (cap : Nat) (w : World) :
    Calls Try.prog 86 #[.slice ao 0 cap] w fun e w' => e = .returned (.bool true) ∧ w' = w := by
  go_enter Try.func86, Try.ntmps86
  go_wp2
  refine wp_loop_rounds 1 ?_
  rw [rounds_succ]
  go_wp2
  go_ret
  exact ⟨rfl, rfl⟩

theorem partsRise_any (l : List Int) (v : Value) (w : World) (h : RdV w v (ints l)) :
    Calls Try.prog 86 #[v] w fun e w' => e = .returned (.bool (riseB l)) ∧ w' = w := by
  obtain ⟨ao, cap, rfl, h1, h2, h4, h3⟩ := h
  rw [ints_len] at *
  by_cases h0 : 0 < l.length
  · obtain ⟨g, off, rfl, hg⟩ := h3 (by rw [ints_len]; exact h0)
    refine partsRise_some l g off cap w (by unfold maxLen at h2; omega) (fun i hi => ?_)
    rw [hg i (by rw [ints_len]; exact hi)]
    simp [ints]
  · have : l = [] := List.eq_nil_of_length_eq_zero (by omega)
    subst this
    exact partsRise_none ao cap w

end Go.Proofs.Ytmkbbhdmfpjfdaa
