/-
  slices.IndexFunc and slices.ContainsFunc of entries, for whatever function that only looks.
-/
import Derived.Test.YtdpiijndnefahaaAview
import Derived.Shelf.Abstract
namespace Go.Proofs.Ytdpiijndnefahaa
open Go.RowKit
set_option linter.unusedVariables false
set_option linter.unusedSimpArgs false

/-- The function g, with what it holds, answers p, and changes nothing that lay there. -/
def PredE (g : Nat) (lb : Array Value) (p : Ent → Bool) (w : World) : Prop :=
  ∀ (W : World) (x : Ent), Below w.heap.size w W → Calls Try.prog g (#[.agg #[.int .i64 x.a, .int .i64 x.b, .int .i64 x.c, .int .i64 x.d, .int .i64 x.k, .bool x.t, .string x.s]] ++ lb) W fun e w' => e = .returned (.bool (p x)) ∧ Below w.heap.size w w'

set_option maxRecDepth 100000 in
set_option maxHeartbeats 1000000 in
theorem indexFunc_any (g : Nat) (lb : Array Value) (p : Ent → Bool) (eg : ∀ args w, (callFunc g args).run Try.prog w = .ok (.enter g args) w) (es : List Ent) (v : Value) (w : World) (hl : (es.length : Int) ≤ 2199023255552) (hr : RdX w v es) (hp : PredE g lb p w) :
    Calls Try.prog 29 #[v, .func (.func g) #[] lb] w fun e w' => e = .returned (.int .i64 (scan (fun i => p (Ent.at es i) = true) es.length 0)) ∧ Below w.heap.size w w' := by
  obtain ⟨ao, cap, rfl, h1, h2, h4, h3⟩ := hr
  have H3 : Hid _ := h3
  have HP : Hid (PredE g lb p w) := hp
  clear h1 h2 h4 h3 hp
  go_enter Try.func29, Try.ntmps29
  go_wp2
  go_loopw [8] (fun i wr => ∃ k : Nat, k ≤ es.length ∧ i = .int .i64 k ∧ (∀ j, j < k → p (Ent.at es j) = false) ∧ Below w.heap.size w wr) (fun i _ => es.length - (intOf i).toNat)
  case atStart => exact ⟨0, by omega, rfl, fun j hj => by omega, Below.refl _ _⟩
  case round =>
    obtain ⟨k, hk, rfl, hno, hbel⟩ := hrel
    have HN : Hid _ := hno
    clear hno
    by_cases hlt : k < es.length
    · obtain ⟨gg, off, rfl, hg⟩ := H3.out (by omega)
      obtain ⟨a0, a1, a2, a3, a4, a5, a6⟩ := RdX.cells hg k hlt
      have hgl := cell_lt a0
      have q0 := (hbel.cell (p := ⟨gg, off + k * 7, none⟩) hgl).trans a0
      have q1 := (hbel.cell (p := ⟨gg, off + k * 7 + 1, none⟩) hgl).trans a1
      have q2 := (hbel.cell (p := ⟨gg, off + k * 7 + 2, none⟩) hgl).trans a2
      have q3 := (hbel.cell (p := ⟨gg, off + k * 7 + 3, none⟩) hgl).trans a3
      have q4 := (hbel.cell (p := ⟨gg, off + k * 7 + 4, none⟩) hgl).trans a4
      have q5 := (hbel.cell (p := ⟨gg, off + k * 7 + 5, none⟩) hgl).trans a5
      have q6 := (hbel.cell (p := ⟨gg, off + k * 7 + 6, none⟩) hgl).trans a6
      clear a0 a1 a2 a3 a4 a5 a6 hg
      have hcall := HP.out wr (Ent.at es k) hbel
      have HE : Hid (scan (fun i => p (Ent.at es i) = true) es.length 0 = scan (fun i => p (Ent.at es i) = true) es.length 0) := rfl
      cases hq : p (Ent.at es k) with
      | true =>
        have HR : Hid (scan (fun i => p (Ent.at es i) = true) es.length 0 = k) := scan_some (by omega) (by omega) hq (fun j _ hj => by rw [HN.out j hj]; decide)
        rw [hq] at hcall
        generalize Ent.at es k = x at *
        clear HE hq
        go_wp2_with (go_at_fn g; refine hcall.mono ?_; rintro e w' ⟨rfl, hb'⟩)
        go_ret
        rw [HR.out]
        exact ⟨rfl, hb'⟩
      | false =>
        have HR : Hid (∀ j, j < k + 1 → p (Ent.at es j) = false) := fun j hj => by
          by_cases e : j = k
          · rw [e]; exact hq
          · exact HN.out j (by omega)
        rw [hq] at hcall
        generalize Ent.at es k = x at *
        clear HE hq
        go_wp2_with (go_at_fn g; refine hcall.mono ?_; rintro e w' ⟨rfl, hb'⟩)
        go_roundw
        case rel => exact ⟨k + 1, by omega, by go_num, HR.out, hb'⟩
        case measure => simp [intOf]; omega
    · have HR : Hid (scan (fun i => p (Ent.at es i) = true) es.length 0 = -1) := by
        rcases scan_cases (P := fun i => p (Ent.at es i) = true) es.length 0 with h0 | ⟨j, _, j2, j3, _⟩
        · exact h0
        · exact absurd j3 (by rw [HN.out j (by omega)]; decide)
      go_wp2
      go_ret
      rw [HR.out]
      exact ⟨rfl, hbel⟩

end Go.Proofs.Ytdpiijndnefahaa
