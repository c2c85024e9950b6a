/-
  slices.ContainsFunc of entries; the functions that TwiceSame and StableAhead hand it.
-/
import Derived.Test.YtdpiijndnefahaaVfunc
import Derived.Test.YtdpiijndnefahaaAlaw
namespace Go.Proofs.Ytdpiijndnefahaa
open Go.RowKit
set_option linter.unusedVariables false
set_option linter.unusedSimpArgs false

set_option maxRecDepth 100000 in
set_option maxHeartbeats 400000 in
theorem containsFunc_any (g : Nat) (lb : Array Value) (p : Ent → Bool) (eg : ∀ args w, (callFunc g args).run Try.prog w = .ok (.enter g args) w) (es : List Ent) (v : Value) (w : World) (hl : (es.length : Int) ≤ 2199023255552) (hr : RdX w v es) (hp : PredE g lb p w) :
    Calls Try.prog 25 #[v, .func (.func g) #[] lb] w fun e w' => e = .returned (.bool (decide (0 ≤ scan (fun i => p (Ent.at es i) = true) es.length 0))) ∧ Below w.heap.size w w' := by
  have HI := indexFunc_any g lb p eg es v w hl hr hp
  clear hr hp
  generalize scan (fun i => p (Ent.at es i) = true) es.length 0 = n at *
  go_enter Try.func25, Try.ntmps25
  go_wp2_with fail
  refine HI.mono ?_
  rintro e w' ⟨rfl, hb⟩
  by_cases h : 0 ≤ n
  · go_wp2
    go_ret
    exact ⟨by simp [h], hb⟩
  · go_wp2
    go_ret
    exact ⟨by simp [h], hb⟩

set_option maxRecDepth 100000 in
set_option maxHeartbeats 1000000 in
/-- Is it a mark of the same producer? -/
theorem stableAhead_fn (B : Nat) (x : Ent) (w : World) (hB : B < w.heap.size) (hx : Seven w B x) : PredE 27 #[.pointer (some ⟨B, 0, none⟩)] (fun y => y.b == x.b && y.k != 1) w := by
  intro W y hbel
  have hx' := hx.below hB hbel
  have hBW : B < W.heap.size := Nat.lt_of_lt_of_le hB hbel.size
  have hne := Nat.ne_of_lt hBW
  obtain ⟨x0, x1, x2, x3, x4, x5, x6⟩ := hx'
  clear x0 x2 x3 x4 x5 x6 hx
  show Calls Try.prog 27 #[.agg #[.int .i64 y.a, .int .i64 y.b, .int .i64 y.c, .int .i64 y.d, .int .i64 y.k, .bool y.t, .string y.s], .pointer (some ⟨B, 0, none⟩)] W fun e w' => e = .returned (.bool (y.b == x.b && y.k != 1)) ∧ Below w.heap.size w w'
  by_cases h1 : y.b = x.b
  · by_cases h2 : y.k = 1
    · have e : (y.b == x.b && y.k != 1) = false := by simp [h2]
      rw [e]
      go_enter Try.func27, Try.ntmps27
      go_wp2
      go_ret
      exact ⟨by first | rfl | (simp [h2]; done) | (simp; omega), hbel.alloc hbel.size _⟩
    · have e : (y.b == x.b && y.k != 1) = true := by simp [h1, h2]
      rw [e]
      go_enter Try.func27, Try.ntmps27
      go_wp2
      go_ret
      exact ⟨by first | rfl | (simp [h2]; done) | (simp; omega), hbel.alloc hbel.size _⟩
  · have e : (y.b == x.b && y.k != 1) = false := by simp [h1]
    rw [e]
    go_enter Try.func27, Try.ntmps27
    go_wp2
    go_ret
    exact ⟨by first | rfl | (simp [h2]; done) | (simp; omega), hbel.alloc hbel.size _⟩

set_option maxRecDepth 100000 in
set_option maxHeartbeats 1000000 in
/-- Is it of a later version of the same producer? -/
theorem twiceSame_fn (B : Nat) (x : Ent) (w : World) (hB : B < w.heap.size) (hx : Seven w B x) : PredE 26 #[.pointer (some ⟨B, 0, none⟩)] (fun y => y.b == x.b && decide (x.c < y.c)) w := by
  intro W y hbel
  have hx' := hx.below hB hbel
  have hBW : B < W.heap.size := Nat.lt_of_lt_of_le hB hbel.size
  have hne := Nat.ne_of_lt hBW
  obtain ⟨x0, x1, x2, x3, x4, x5, x6⟩ := hx'
  clear x0 x3 x4 x5 x6 hx
  show Calls Try.prog 26 #[.agg #[.int .i64 y.a, .int .i64 y.b, .int .i64 y.c, .int .i64 y.d, .int .i64 y.k, .bool y.t, .string y.s], .pointer (some ⟨B, 0, none⟩)] W fun e w' => e = .returned (.bool (y.b == x.b && decide (x.c < y.c))) ∧ Below w.heap.size w w'
  by_cases h1 : y.b = x.b
  · by_cases h2 : y.c ≤ x.c
    · have h3 : ¬ x.c < y.c ↔ y.c ≤ x.c := by omega
      have e : (y.b == x.b && decide (x.c < y.c)) = false := by simp; omega
      rw [e]
      go_enter Try.func26, Try.ntmps26
      go_wp2
      go_ret
      exact ⟨by first | rfl | (simp [h2]; done) | (simp; omega), hbel.alloc hbel.size _⟩
    · have h3 : ¬ x.c < y.c ↔ y.c ≤ x.c := by omega
      have e : (y.b == x.b && decide (x.c < y.c)) = true := by simp [h1]; omega
      rw [e]
      go_enter Try.func26, Try.ntmps26
      go_wp2
      go_ret
      exact ⟨by first | rfl | (simp [h2]; done) | (simp; omega), hbel.alloc hbel.size _⟩
  · have e : (y.b == x.b && decide (x.c < y.c)) = false := by simp [h1]
    rw [e]
    go_enter Try.func26, Try.ntmps26
    go_wp2
    go_ret
    exact ⟨by first | rfl | (simp [h2]; done) | (simp; omega), hbel.alloc hbel.size _⟩

end Go.Proofs.Ytdpiijndnefahaa
