/-
  slices.IndexFunc and ContainsFunc over members; the function that looks for a name.
-/
import Derived.Test.YtmkbbhdmfpjfdaaGbase
import Derived.Shelf.Abstract
namespace Go.Proofs.Ytmkbbhdmfpjfdaa
open Go.RowKit
set_option linter.unusedVariables false
set_option linter.unusedSimpArgs false

set_option maxRecDepth 100000 in
set_option maxHeartbeats 1000000 in
/-- slices.IndexFunc, for whatever function: b says what it answers at each place, I what holds ahead of each, F where it says yes. -/
theorem indexM (g : Nat) (lb : Array Value) (eg : ∀ args w, (callFunc g args).run Try.prog w = .ok (.enter g args) w) (b : Nat → Bool) (ts : List Mem) (vt : Value) (us : Nat → Value) (w : World) (I F : Nat → World → Prop) (hl : (ts.length : Int) ≤ 9223372036854775807) (h0 : I 0 w)
    (hr : ∀ k W, I k W → RdW memE W vt ts us)
    (hs : ∀ k, (hk : k < ts.length) → ∀ W, I k W → Calls Try.prog g (#[.agg #[.string (ts[k]'hk).nm, .int .i64 (ts[k]'hk).hd, us k]] ++ lb) W fun e W' => e = .returned (.bool (b k)) ∧ (b k = true → F k W') ∧ (b k = false → I (k + 1) W')) :
    Calls Try.prog 43 #[vt, .func (.func g) #[] lb] w fun e w' => e = .returned (.int .i64 (scan (fun i => b i = true) ts.length 0)) ∧ ((∃ k, k < ts.length ∧ b k = true ∧ (∀ j, j < k → b j = false) ∧ scan (fun i => b i = true) ts.length 0 = k ∧ F k w') ∨ ((∀ j, j < ts.length → b j = false) ∧ scan (fun i => b i = true) ts.length 0 = -1 ∧ I ts.length w')) := by
  obtain ⟨ao, cap, rfl, h1, h2⟩ := (hr 0 w h0).shape
  have HR : Hid _ := hr
  have HS : Hid _ := hs
  clear h1 h2 hr hs
  go_enter Try.func43, Try.ntmps43
  go_wp2
  go_loopw [8] (fun i wr => ∃ k : Nat, k ≤ ts.length ∧ i = .int .i64 k ∧ Hid (∀ j, j < k → b j = false) ∧ Hid (I k wr)) (fun i _ => ts.length - (intOf i).toNat)
  case atStart => exact ⟨0, by omega, rfl, (fun j hj => by omega), h0⟩
  case round =>
    obtain ⟨k, hk, rfl, HN, HI⟩ := hrel
    by_cases hlt : k < ts.length
    · obtain ⟨gg, off, rfl, -, q0, q1, q2⟩ := (HR.out k wr HI.out).mem k hlt
      cases hq : b k with
      | true =>
        have HV : Hid (scan (fun i => b i = true) ts.length 0 = k) := scan_some (by omega) (by omega) hq (fun j _ hj => by rw [HN.out j hj]; decide)
        have HQ : Hid (b k = true) := hq
        have hcall := (HS.out k hlt wr HI.out).mono (fun e W' h => (⟨h.1.trans (by rw [hq]), h.2.1 hq⟩ : e = .returned (.bool true) ∧ Hid (F k W')))
        generalize ts[k] = x at *
        clear hq
        go_wp2_with (go_at_fn g; refine hcall.mono ?_; rintro e w' ⟨rfl, HF⟩)
        go_ret
        exact ⟨by rw [HV.out]; rfl, .inl ⟨k, hlt, HQ.out, HN.out, HV.out, HF.out⟩⟩
      | false =>
        have HQ : Hid (∀ j, j < k + 1 → b j = false) := fun j hj => by
          by_cases e : j = k
          · rw [e]; exact hq
          · exact HN.out j (by omega)
        have hcall := (HS.out k hlt wr HI.out).mono (fun e W' h => (⟨h.1.trans (by rw [hq]), h.2.2 hq⟩ : e = .returned (.bool false) ∧ Hid (I (k + 1) W')))
        generalize ts[k] = x at *
        clear hq
        go_wp2_with (go_at_fn g; refine hcall.mono ?_; rintro e w' ⟨rfl, HF⟩)
        go_roundw
        case rel => exact ⟨k + 1, by omega, by go_num, HQ, HF⟩
        case measure => simp [intOf]; omega
    · have hke : k = ts.length := by omega
      have HN' : Hid (∀ j, j < ts.length → b j = false) := show ∀ j, _ by rw [← hke]; exact HN.out
      have HI' : Hid (I ts.length wr) := show I _ _ by rw [← hke]; exact HI.out
      have HV : Hid (scan (fun i => b i = true) ts.length 0 = -1) := by
        rcases scan_cases (P := fun i => b i = true) ts.length 0 with h0 | ⟨j, _, j2, j3, _⟩
        · exact h0
        · exact absurd j3 (by rw [HN'.out j (by omega)]; decide)
      clear hke
      go_wp2
      go_ret
      exact ⟨by rw [HV.out]; rfl, .inr ⟨HN'.out, HV.out, HI'.out⟩⟩

/-- The function g, with what it holds, answers p of a producer, and changes nothing that lay there. -/
def PredM (g : Nat) (lb : Array Value) (p : Mem → Bool) (w : World) : Prop :=
  ∀ (W : World) (x : Mem) (u : Value), Below w.heap.size w W → Calls Try.prog g (#[.agg #[.string x.nm, .int .i64 x.hd, u]] ++ lb) W fun e w' => e = .returned (.bool (p x)) ∧ Below w.heap.size w w'

theorem indexM_any (g : Nat) (lb : Array Value) (p : Mem → Bool) (eg : ∀ args w, (callFunc g args).run Try.prog w = .ok (.enter g args) w) (ts : List Mem) (vt : Value) (us : Nat → Value) (w : World) (hr : RdW memE w vt ts us) (hp : PredM g lb p w) :
    Calls Try.prog 43 #[vt, .func (.func g) #[] lb] w fun e w' => e = .returned (.int .i64 (scan (fun i => p (ts.getD i zeroM) = true) ts.length 0)) ∧ Below w.heap.size w w' := by
  have hl : (ts.length : Int) ≤ 9223372036854775807 := by
    obtain ⟨ao, cap, _, h1, h2⟩ := hr.shape
    unfold maxLen at h2
    omega
  refine (indexM g lb eg (fun i => p (ts.getD i zeroM)) ts vt us w (fun _ W => Below w.heap.size w W) (fun _ W => Below w.heap.size w W) hl (Below.refl _ _) (fun _ W hW => RdW.below (E := memE) (by decide) hr (Nat.le_refl _) hW) (fun k hk W hW => ?_)).mono ?_
  · have e : ts.getD k zeroM = ts[k]'hk := by simp [List.getD, hk]
    rw [e]
    exact (hp W (ts[k]'hk) (us k) hW).mono fun e w' ⟨h1, h2⟩ => ⟨h1, fun _ => h2, fun _ => h2⟩
  · rintro e w' ⟨h1, ⟨k, _, _, _, _, h2⟩ | ⟨_, _, h2⟩⟩
    · exact ⟨h1, h2⟩
    · exact ⟨h1, h2⟩

set_option maxRecDepth 100000 in
set_option maxHeartbeats 400000 in
theorem containsM_any (g : Nat) (lb : Array Value) (p : Mem → Bool) (eg : ∀ args w, (callFunc g args).run Try.prog w = .ok (.enter g args) w) (ts : List Mem) (vt : Value) (us : Nat → Value) (w : World) (hr : RdW memE w vt ts us) (hp : PredM g lb p w) :
    Calls Try.prog 84 #[vt, .func (.func g) #[] lb] w fun e w' => e = .returned (.bool (!allN (fun i => !p (ts.getD i zeroM)) ts.length)) ∧ Below w.heap.size w w' := by
  have HI := indexM_any g lb p eg ts vt us w hr hp
  have HE : Hid ((!allN (fun i => !p (ts.getD i zeroM)) ts.length) = decide (0 ≤ scan (fun i => p (ts.getD i zeroM) = true) ts.length 0)) := show _ = _ by
    cases h : allN (fun i => !p (ts.getD i zeroM)) ts.length with
    | true =>
      rw [allN_iff] at h
      have : scan (fun i => p (ts.getD i zeroM) = true) ts.length 0 < 0 := scan_none.2 fun j _ hj hp => by
        have := h j (by omega)
        rw [hp] at this
        cases this
      rw [decide_eq_false (fun h => by omega)]
      rfl
    | false =>
      have : ¬ scan (fun i => p (ts.getD i zeroM) = true) ts.length 0 < 0 := fun hc => by
        rw [scan_none] at hc
        rw [allN_iff.2 (fun j hj => by have := hc j (by omega) (by omega); simpa using this)] at h
        cases h
      rw [decide_eq_true (by omega)]
      rfl
  clear hr hp
  generalize scan (fun i => p (ts.getD i zeroM) = true) ts.length 0 = n at *
  go_enter Try.func84, Try.ntmps84
  go_wp2_with fail
  refine HI.mono ?_
  rintro e w' ⟨rfl, hb⟩
  by_cases h : 0 ≤ n
  · go_wp2
    go_ret
    exact ⟨by rw [HE.out]; simp [h], hb⟩
  · go_wp2
    go_ret
    exact ⟨by rw [HE.out]; simp [h], hb⟩

set_option maxRecDepth 100000 in
set_option maxHeartbeats 1000000 in
theorem named_fn (B : Nat) (s : ByteArray) (w : World) (hB : B < w.heap.size) (hx : w.cell? ⟨B, 0, none⟩ = some (.string s)) : PredM 95 #[.pointer (some ⟨B, 0, none⟩)] (fun y => sameN y.nm s) w := by
  intro W y u hbel
  have x0 := (hbel.cell (p := ⟨B, 0, none⟩) hB).trans hx
  have hBW : B < W.heap.size := Nat.lt_of_lt_of_le hB hbel.size
  have hne := Nat.ne_of_lt hBW
  clear hx
  have HE : Hid (sameN y.nm s = (y.nm.toList == s.toList)) := show _ = _ from rfl
  show Calls Try.prog 95 #[.agg #[.string y.nm, .int .i64 y.hd, u], .pointer (some ⟨B, 0, none⟩)] W fun e w' => e = .returned (.bool (sameN y.nm s)) ∧ Below w.heap.size w w'
  go_enter Try.func95, Try.ntmps95
  go_wp2
  all_goals
    go_ret
    exact ⟨by rw [HE.out]; simp [*], hbel.alloc hbel.size _⟩

set_option maxRecDepth 100000 in
set_option maxHeartbeats 1000000 in
theorem named_any (s : ByteArray) (w : World) :
    Calls Try.prog 85 #[.string s] w fun e w' => e = .returned (.func (.func 95) #[] #[.pointer (some ⟨w.heap.size, 0, none⟩)]) ∧ w.heap.size < w'.heap.size ∧ w'.cell? ⟨w.heap.size, 0, none⟩ = some (.string s) ∧ Below w.heap.size w w' := by
  go_enter Try.func85, Try.ntmps85
  go_wp2
  go_ret
  exact ⟨rfl, by simp, by simp, bbox _ _⟩

end Go.Proofs.Ytmkbbhdmfpjfdaa
