/-
  The walk of the document's EntriesIn: the same entries and the same number of bytes as wire.Decode gives.
-/
import Derived.Test.YtkakagjffafdiaaRin
import Derived.Test.YtkakagjffafdiaaKeq
import Derived.Deep.QuietTactic
import Derived.BigQuiet
namespace Go.Proofs.Ytkakagjffafdiaa
open Go.RowKit
set_option linter.unusedVariables false
set_option linter.unusedSimpArgs false

theorem entryIn_any (l : List Int) (v : Value) (w : World) (h0 : 0 < l.length) (hl : l.length ≤ 300) (h : Rd w v l) :
    Calls Try.prog 126 #[v] w fun e w' => ∃ (x : Ent) (ok : Bool), e = .returned (.tuple #[x.val, .bool ok]) ∧ InSays l x ok ∧ Below w.heap.size w w' := by
  obtain ⟨hb, ao, cap, rfl, h1, h2, h3, hc⟩ := h
  obtain ⟨b, off, rfl, hc'⟩ := hc h0
  exact entryIn_some l b off cap w h0 hl h1 h2 hb hc'

theorem first_at (l : List Int) (k m : Nat) (hk : k < l.length) (hm : l.getD k 0 = (m : Int)) :
    firstP (l.drop k) = if m < 1 ∨ l.length < k + m + 3 then none else match minB ((l.drop (k + 1)).take m) with
      | none => none
      | some e => if sumL ((l.drop (k + 1)).take m) = 256 * l.getD (k + m + 1) 0 + l.getD (k + m + 2) 0 then some (e, m + 3) else none := by
  rw [drop_cons_getD l k hk, hm]
  simp only [firstP]
  have e1 : ((m : Nat) : Int).toNat = m := by omega
  have e2 : (l.drop (k + 1)).getD m 0 = l.getD (k + m + 1) 0 := by simp [List.getD, show k + 1 + m = k + m + 1 by omega]
  have e3 : (l.drop (k + 1)).getD (m + 1) 0 = l.getD (k + m + 2) 0 := by simp [List.getD, show k + 1 + (m + 1) = k + m + 2 by omega]
  rw [e1, e2, e3]
  by_cases h : m < 1 ∨ l.length < k + m + 3
  · rw [if_pos h, if_pos (by simp; omega)]
  · rw [if_neg h, if_neg (by simp; omega)]
    cases minB ((l.drop (k + 1)).take m) <;> rfl

set_option maxRecDepth 100000 in
set_option maxHeartbeats 2000000 in
theorem entriesIn_some (l : List Int) (b off cap : Nat) (w : World) (hl : l.length ≤ 1099511627775) (hcap : l.length ≤ cap) (hm : cap ≤ maxLen) (hb : Bytes l) (hc : ∀ i, i < l.length → w.cell? ⟨b, off + i, none⟩ = some (.int .u8 (l.getD i 0))) :
    Calls Try.prog 102 #[.slice (some ⟨b, off, none⟩) l.length cap] w fun e w' => ∃ v, e = .returned (.tuple #[v, .int .i64 (decL l).2]) ∧ OwnE w.heap.size v (decL l).1 w' ∧ Below w.heap.size w w' := by
  have HR : Hid (∀ k n, k + n ≤ l.length → _) := fun k n h => rd_cut hb hcap hm hc k n h
  have HC : Hid (∀ i, i < l.length → w.cell? ⟨b, off + i, none⟩ = some (.int .u8 (l.getD i 0))) := hc
  unfold maxLen at hm
  clear hc
  go_enter Try.func102, Try.ntmps102
  go_wp2
  go_loopw [4, 5] (fun v a wr => ∃ (k : Nat) (es : List Ent), k ≤ l.length ∧ a = .int .i64 k ∧ Hid (DecSt l k es) ∧ OwnE w.heap.size v es wr ∧ Below w.heap.size w wr) (fun _ a _ => l.length - (intOf a).toNat)
  case atStart => exact ⟨0, [], by omega, rfl, decSt_0 l, ownE_nil _ _ (Nat.le_refl _), Below.refl _ _⟩
  case round =>
    obtain ⟨k, es, hk, rfl, H, hown, hbel⟩ := hrel
    have hes := H.out.2.1
    by_cases hlt : k < l.length
    · have hx := bytes_getD hb k
      obtain ⟨m, hmk⟩ := Int.eq_ofNat_of_zero_le hx.1
      have HF := first_at l k m hlt hmk
      have hblt := cell_lt (HC.out k hlt)
      have hcx : wr.cell? ⟨b, off + k, none⟩ = some (.int .u8 m) := (hbel.cell (p := ⟨b, off + k, none⟩) hblt).trans (by rw [HC.out k hlt, hmk])
      have hm255 : (m : Int) ≤ 255 := by omega
      clear hx
      by_cases hbad : m < 1 ∨ l.length < k + m + 3
      · rw [if_pos hbad] at HF
        have E : Hid (decL l = (es, k)) := decSt_stop H.out HF
        clear HF hmk
        by_cases h1 : m < 1
        all_goals
          go_wp2
          go_ret2
          rw [E.out]
          exact ⟨_, rfl, hown, hbel⟩
      · rw [if_neg hbad] at HF
        have hm1 : 1 ≤ m := by omega
        have hkm : k + m + 3 ≤ l.length := by omega
        have hR := (HR.out (k + 1) m (by omega)).below (Nat.le_refl _) hbel
        rw [if_neg (by omega)] at hR
        clear hbad hmk
        have hXl : ((l.drop (k + 1)).take m).length = m := by simp; omega
        have hy1 := bytes_getD hb (k + m + 1)
        have hy2 := bytes_getD hb (k + m + 2)
        have hcy1 := (hbel.cell (p := ⟨b, off + (k + m + 1), none⟩) hblt).trans (HC.out (k + m + 1) (by omega))
        have hcy2 := (hbel.cell (p := ⟨b, off + (k + m + 2), none⟩) hblt).trans (HC.out (k + m + 2) (by omega))
        have hSM := sumL_bd ((l.drop (k + 1)).take m)
        generalize (l.drop (k + 1)).take m = X at *
        generalize l.getD (k + m + 1) 0 = c1 at *
        generalize l.getD (k + m + 2) 0 = c2 at *
        have hkk : k + m + 1 - (k + 1) = m := by omega
        have HF' : Hid _ := HF
        clear HF HR HC
        go_wp2_with fail
        refine (entryIn_any X _ _ (by omega) (by omega) hR).mono ?_
        rintro e w1 ⟨x, ok, rfl, hsay, hb1⟩
        simp only [hkk]
        have hown1 := hown.below (Nat.le_refl _) hb1
        have hbel1 := bstep hbel hb1
        have hR1 := hR.below (Nat.le_refl _) hb1
        have hblt' := Nat.lt_of_lt_of_le hblt hbel.size
        have hcz1 : w1.cell? ⟨b, off + (k + m + 1), none⟩ = some (.int .u8 c1) := (hb1.cell (p := ⟨b, off + (k + m + 1), none⟩) hblt').trans hcy1
        have hcz2 : w1.cell? ⟨b, off + (k + m + 2), none⟩ = some (.int .u8 c2) := (hb1.cell (p := ⟨b, off + (k + m + 2), none⟩) hblt').trans hcy2
        have hblt1 := Nat.lt_of_lt_of_le hblt' hb1.size
        clear hb1 hown hbel hR hcy1 hcy2 hcx hblt hblt' hkk
        simp only [Ent.val]
        rcases hmb : minB X with _ | e'
        · obtain rfl : ok = false := by simpa [InSays, hmb] using hsay
          have E : Hid (decL l = (es, k)) := decSt_stop H.out (by rw [HF'.out, hmb])
          clear hsay hmb H HF'
          go_wp2
          go_quiet (fail)
          go_wp2
          go_ret2
          rw [E.out]
          exact ⟨_, rfl, (hown1.alloc _).drewN _, below_drewN (hbel1.alloc hown1.2 _) _⟩
        · obtain ⟨rfl, rfl⟩ : x = e' ∧ ok = true := by simpa [InSays, hmb] using hsay
          have HF2 := HF'.out
          rw [hmb] at HF2
          simp only at HF2
          have HF3 : Hid _ := HF2
          clear HF' HF2 hsay hmb
          have h256 : 0 ≤ 256 * c1 + c2 := by omega
          have h256' : 256 * c1 + c2 ≤ 65535 := by omega
          by_cases hsm : sumL X = 256 * c1 + c2
          · have hne : (sumL X != 256 * c1 + c2) = false := by simp [hsm]
            go_wp2
            go_quiet ((go_at_call 127; exact Calls.quiet_of_same (sumOf_any X _ _ (by omega) ((hR1.below (Nat.le_refl _) (bbox _ _)).drewN _))))
            obtain ⟨hn, hz, hkz⟩ := decSt_next H.out hb (by rw [HF3.out, if_pos hsm])
            have HN : Hid _ := hn
            have HK : Hid _ := hkz
            clear hn hsm hne h256 h256' HF3 H hR1 hcz1 hcz2 hSM hkz hz hy1 hy2 hXl hm
            go_wp2_with (at_builtin; refine wp_appE rfl _ _ rfl _ _ es rfl x ((hown1.alloc _).drewN _) _ rfl (by simp) (by omega) ?_)
            intro v2 w2 hown2 hb2
            have hbel2 := (below_drewN (hbel1.alloc hown1.2 _) _).trans hb2
            clear hb2 hown1 hbel1
            have hl' : (l.length : Int) ≤ 1099511627775 := by omega
            have hkm' : (k : Int) + m + 3 ≤ l.length := by omega
            have HL : Hid (l.length ≤ 1099511627775) := hl
            clear hl hkm
            go_wp2
            go_roundw
            case rel => exact ⟨k + (m + 3), es ++ [x], HK.out, by go_num, HN, hown2, hbel2⟩
            case measure => simp [intOf]; omega
          · have hne : (sumL X != 256 * c1 + c2) = true := by simp [hsm]
            have E : Hid (decL l = (es, k)) := decSt_stop H.out (by rw [HF3.out, if_neg hsm])
            go_wp2
            go_quiet ((go_at_call 127; exact Calls.quiet_of_same (sumOf_any X _ _ (by omega) ((hR1.below (Nat.le_refl _) (bbox _ _)).drewN _))))
            go_wp2
            go_ret2
            rw [E.out]
            exact ⟨_, rfl, (hown1.alloc _).drewN _, below_drewN (hbel1.alloc hown1.2 _) _⟩
    · have hkl : k = l.length := by omega
      have E : Hid (decL l = (es, k)) := by (rw [hkl] at H ⊢; exact decSt_end H.out)
      clear hkl H
      go_wp2
      go_ret2
      rw [E.out]
      exact ⟨_, rfl, hown, hbel⟩

set_option maxRecDepth 100000 in
set_option maxHeartbeats 400000 in
theorem entriesIn_none (ao : Option Addr) (cap : Nat) (w : World) :
    Calls Try.prog 102 #[.slice ao 0 cap] w fun e w' => ∃ v, e = .returned (.tuple #[v, .int .i64 0]) ∧ OwnE w.heap.size v [] w' ∧ Below w.heap.size w w' := by
  go_enter Try.func102, Try.ntmps102
  go_wp2
  refine wp_loop_rounds 1 ?_
  rw [rounds_succ]
  go_wp2
  go_ret2
  exact ⟨_, rfl, ownE_nil _ _ (Nat.le_refl _), Below.refl _ _⟩

theorem entriesIn_any (l : List Int) (v : Value) (w : World) (hl : l.length ≤ 1099511627775) (h : Rd w v l) :
    Calls Try.prog 102 #[v] w fun e w' => ∃ v, e = .returned (.tuple #[v, .int .i64 (decL l).2]) ∧ OwnE w.heap.size v (decL l).1 w' ∧ Below w.heap.size w w' := by
  obtain ⟨hb, ao, cap, rfl, h1, h2, h3, hc⟩ := h
  by_cases h0 : 0 < l.length
  · obtain ⟨b, off, rfl, hc'⟩ := hc h0
    exact entriesIn_some l b off cap w hl h1 h2 hb hc'
  · have hl : l = [] := List.eq_nil_of_length_eq_zero (by omega)
    subst hl
    exact entriesIn_none ao cap w

end Go.Proofs.Ytkakagjffafdiaa
