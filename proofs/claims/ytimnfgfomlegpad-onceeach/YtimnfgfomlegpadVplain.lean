/-
  The walk of the law's own test 'plain'.
-/
import Derived.Test.YtimnfgfomlegpadVapp
namespace Go.Proofs.Ytimnfgfomlegpad
open Go.RowKit
set_option linter.unusedVariables false
set_option linter.unusedSimpArgs false

abbrev plainE (e : Ent) : Prop := 1 ≤ e.k ∧ e.k ≤ 3 ∧ 0 ≤ e.b ∧ e.b ≤ 1073741824 ∧ 0 ≤ e.c ∧ e.c ≤ 1073741824 ∧ 0 ≤ e.d ∧ e.d ≤ 1073741824
theorem plain_iff (es : List Ent) : Plain es ↔ ∀ i, i < es.length → plainE (Ent.at es i) := by
  constructor
  · intro h i hi
    rw [at_get hi]
    exact h _ (List.getElem_mem hi)
  · intro h e he
    obtain ⟨i, hi, rfl⟩ := List.getElem_of_mem he
    have := h i hi
    rw [at_get hi] at this
    exact this

set_option maxRecDepth 100000 in
set_option maxHeartbeats 4000000 in
theorem plain_some (es : List Ent) (g off cap : Nat) (w : World) (hl : (es.length : Int) ≤ 2199023255552)
    (hc : ∀ i, (h : i < es.length) → ∀ j, j < 7 → w.cell? ⟨g, off + i * 7 + j, none⟩ = (es[i]'h).cells[j]?) :
    Calls Try.prog 9 #[.slice (some ⟨g, off, none⟩) es.length cap] w fun e w' => ((Plain es ∧ e = .returned (.bool true)) ∨ (¬ Plain es ∧ e = .returned (.bool false))) ∧ w' = w := by
  have HC : Hid _ := hc
  have HP : Hid _ := plain_iff es
  clear hc
  go_enter Try.func9, Try.ntmps9
  go_wp2
  go_loop [3] (fun i => ∃ k : Nat, k ≤ es.length ∧ i = .int .i64 k ∧ Hid (∀ j, j < k → plainE (Ent.at es j))) (fun i => es.length - (intOf i).toNat)
  case atStart => exact ⟨0, by omega, rfl, fun j h => by omega⟩
  case round =>
    obtain ⟨k, hk, rfl, HN⟩ := hrel
    by_cases hlt : k < es.length
    · obtain ⟨q0, q1, q2, q3, q4, q5, q6⟩ := RdX.cells HC.out k hlt
      have HB : Hid (¬ plainE (Ent.at es k) → ¬ Plain es) := fun h hp => h (HP.out.1 hp k hlt)
      have HG : Hid (plainE (Ent.at es k) → ∀ j, j < k + 1 → plainE (Ent.at es j)) := fun h j hj => by
        by_cases e : j = k
        · subst e; exact h
        · exact HN.out j (by omega)
      generalize Ent.at es k = x at HB HG q0 q1 q2 q3 q4 q5 q6
      clear HN HP
      by_cases c0 : x.k < 1
      · have HX : Hid _ := HB.out (fun h => by unfold plainE at h; omega)
        clear HB HG
        go_wp2
        go_ret
        exact ⟨.inr ⟨HX.out, rfl⟩, rfl⟩
      have d0 : 1 ≤ x.k := by omega
      clear c0
      by_cases c1 : 3 < x.k
      · have HX : Hid _ := HB.out (fun h => by unfold plainE at h; omega)
        clear HB HG
        go_wp2
        go_ret
        exact ⟨.inr ⟨HX.out, rfl⟩, rfl⟩
      have d1 : x.k ≤ 3 := by omega
      clear c1
      by_cases c2 : x.b < 0
      · have HX : Hid _ := HB.out (fun h => by unfold plainE at h; omega)
        clear HB HG
        go_wp2
        go_ret
        exact ⟨.inr ⟨HX.out, rfl⟩, rfl⟩
      have d2 : 0 ≤ x.b := by omega
      clear c2
      by_cases c3 : x.c < 0
      · have HX : Hid _ := HB.out (fun h => by unfold plainE at h; omega)
        clear HB HG
        go_wp2
        go_ret
        exact ⟨.inr ⟨HX.out, rfl⟩, rfl⟩
      have d3 : 0 ≤ x.c := by omega
      clear c3
      by_cases c4 : x.d < 0
      · have HX : Hid _ := HB.out (fun h => by unfold plainE at h; omega)
        clear HB HG
        go_wp2
        go_ret
        exact ⟨.inr ⟨HX.out, rfl⟩, rfl⟩
      have d4 : 0 ≤ x.d := by omega
      clear c4
      by_cases c5 : 1073741824 < x.b
      · have HX : Hid _ := HB.out (fun h => by unfold plainE at h; omega)
        clear HB HG
        go_wp2
        go_ret
        exact ⟨.inr ⟨HX.out, rfl⟩, rfl⟩
      have d5 : x.b ≤ 1073741824 := by omega
      clear c5
      by_cases c6 : 1073741824 < x.c
      · have HX : Hid _ := HB.out (fun h => by unfold plainE at h; omega)
        clear HB HG
        go_wp2
        go_ret
        exact ⟨.inr ⟨HX.out, rfl⟩, rfl⟩
      have d6 : x.c ≤ 1073741824 := by omega
      clear c6
      by_cases c7 : 1073741824 < x.d
      · have HX : Hid _ := HB.out (fun h => by unfold plainE at h; omega)
        clear HB HG
        go_wp2
        go_ret
        exact ⟨.inr ⟨HX.out, rfl⟩, rfl⟩
      have d7 : x.d ≤ 1073741824 := by omega
      clear c7
      have HX : Hid _ := HG.out ⟨d0, d1, d2, d5, d3, d6, d4, d7⟩
      clear HB HG
      go_wp2
      go_round
      case rel => exact ⟨k + 1, by omega, by go_num, HX⟩
      case measure => simp [intOf]; omega
    · have hke : k = es.length := by omega
      subst hke
      have HX : Hid _ := HP.out.2 HN.out
      clear HN HP
      go_wp2
      go_ret
      exact ⟨.inl ⟨HX.out, rfl⟩, rfl⟩

set_option maxHeartbeats 400000 in
theorem plain_none (ao : Option Addr) (cap : Nat) (w : World) :
    Calls Try.prog 9 #[.slice ao 0 cap] w fun e w' => e = .returned (.bool true) ∧ w' = w := by
  go_enter Try.func9, Try.ntmps9
  go_wp2
  refine wp_loop_rounds 1 ?_
  rw [rounds_succ]
  go_wp2
  go_ret
  exact ⟨rfl, rfl⟩

theorem plain_any (es : List Ent) (v : Value) (w : World) (hl : (es.length : Int) ≤ 2199023255552) (h : RdX w v es) :
    Calls Try.prog 9 #[v] w fun e w' => ((Plain es ∧ e = .returned (.bool true)) ∨ (¬ Plain es ∧ e = .returned (.bool false))) ∧ w' = w := by
  obtain ⟨ao, cap, rfl, _, _, _, h1⟩ := h
  by_cases h0 : 0 < es.length
  · obtain ⟨g, off, rfl, h1'⟩ := h1 h0
    exact plain_some es g off cap w hl h1'
  · have hl : es = [] := List.eq_nil_of_length_eq_zero (by omega)
    subst hl
    refine (plain_none ao cap w).mono ?_
    rintro e w' ⟨h1, h2⟩
    exact ⟨.inl ⟨fun e he => by simp at he, h1⟩, h2⟩

end Go.Proofs.Ytimnfgfomlegpad
