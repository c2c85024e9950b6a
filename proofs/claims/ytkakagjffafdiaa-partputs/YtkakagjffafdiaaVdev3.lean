/-
  Package view: checkMarker, checkData, Check.
-/
import Derived.Test.YtkakagjffafdiaaVdev2
namespace Go.Proofs.Ytkakagjffafdiaa
open Go.RowKit Go.Maps
set_option linter.unusedVariables false
set_option linter.unusedSimpArgs false

set_option maxRecDepth 100000 in
set_option maxHeartbeats 1000000 in
theorem checkMarker_any (es : List Ent) (v : Value) (x : Ent) (p : Prd) (w : World) (hl : (es.length : Int) ≤ 2199023255552) (hr : RdX w v es) (hm0 : -1 ≤ p.m) (hm1 : p.m < es.length) :
    Calls Try.prog 110 #[v, .agg #[.int .i64 x.a, .int .i64 x.b, .int .i64 x.c, .int .i64 x.d, .int .i64 x.k, .bool x.t, .string x.s], p.val] w fun e w' => e = .returned (.tuple #[.int .i64 (markA es x p).1, .int .i64 (markA es x p).2]) ∧ Below w.heap.size w w' := by
  show Calls Try.prog 110 #[v, _, .agg #[.int .i64 p.v, .int .i64 p.n, .int .i64 p.b, .int .i64 p.m]] _ _
  have B2 : ∀ o1 o2, Below w.heap.size w ((w.alloc o1).alloc o2) := fun o1 o2 => ((Below.refl _ _).alloc (Nat.le_refl _) _).alloc (by simp) _
  have B3 : ∀ o1 o2 o3, Below w.heap.size w (((w.alloc o1).alloc o2).alloc o3) := fun o1 o2 o3 => (B2 o1 o2).alloc (by simp <;> omega) _
  by_cases h1 : p.b = -1
  · have h1' : (p.b != -1) = false := by simp [h1]
    by_cases h2 : p.m = -1
    · have h2' : (p.m == -1) = true := by simp [h2]
      have E : Hid (markA es x p = (-1, 0)) := show _ = _ by unfold markA; rw [if_pos (.inr h2)]
      rw [E.out]
      clear h1 h2 E hm0 hm1 hr
      go_enter Try.func110, Try.ntmps110
      go_wp2
      go_ret2
      exact ⟨rfl, B2 _ _⟩
    · have h2' : (p.m == -1) = false := by simp [h2]
      have EM : Hid (markA es x p = if (Ent.at es p.m.toNat).k ≠ x.k ∨ (Ent.at es p.m.toNat).c ≠ x.c then (-1, 0) else (p.m, 0)) := show _ = _ by unfold markA; rw [if_neg (by omega)]
      obtain ⟨n, hn⟩ := Int.eq_ofNat_of_zero_le (show 0 ≤ p.m by omega)
      rw [hn] at h2' EM ⊢
      rw [Int.toNat_natCast] at EM
      have hnl : n < es.length := by omega
      have hn' : (n : Int) < es.length := by omega
      obtain ⟨ao, cap, rfl, hc1, hc2, hc3, h3⟩ := hr
      obtain ⟨g, off, rfl, hc⟩ := h3 (by omega)
      obtain ⟨q0, q1, q2, q3, q4, q5, q6⟩ := RdX.cells hc n hnl
      have hgl := cell_lt q0
      have hgl1 : g < w.heap.size + 1 := by omega
      generalize Ent.at es n = y at *
      clear h1 h2 hn hm0 hm1 h3 hc hc3
      by_cases g1 : y.k = x.k
      · have g1' : (y.k != x.k) = false := by simp [g1]
        by_cases g2 : y.c = x.c
        · have g2' : (y.c != x.c) = false := by simp [g2]
          rw [if_neg (by omega)] at EM
          rw [EM.out]
          clear g1 g2 EM
          go_enter Try.func110, Try.ntmps110
          go_wp2
          go_ret2
          exact ⟨rfl, B3 _ _ _⟩
        · have g2' : (y.c != x.c) = true := by simp [g2]
          rw [if_pos (.inr g2)] at EM
          rw [EM.out]
          clear g1 g2 EM
          go_enter Try.func110, Try.ntmps110
          go_wp2
          go_ret2
          exact ⟨rfl, B3 _ _ _⟩
      · have g1' : (y.k != x.k) = true := by simp [g1]
        rw [if_pos (.inl g1)] at EM
        rw [EM.out]
        clear g1 EM
        go_enter Try.func110, Try.ntmps110
        go_wp2
        go_ret2
        exact ⟨rfl, B3 _ _ _⟩
  · have h1' : (p.b != -1) = true := by simp [h1]
    have E : Hid (markA es x p = (-1, 0)) := show _ = _ by unfold markA; rw [if_pos (.inl h1)]
    rw [E.out]
    clear h1 E hm0 hm1 hr
    go_enter Try.func110, Try.ntmps110
    go_wp2
    go_ret2
    exact ⟨rfl, B2 _ _⟩

set_option maxRecDepth 100000 in
set_option maxHeartbeats 400000 in
theorem checkData_eq (es : List Ent) (v : Value) (x : Ent) (n : Int) (w : World) (h : x.d = n) :
    Calls Try.prog 111 #[v, .agg #[.int .i64 x.a, .int .i64 x.b, .int .i64 x.c, .int .i64 x.d, .int .i64 x.k, .bool x.t, .string x.s], .int .i64 n] w fun e w' => e = .returned (.tuple #[.int .i64 (-1), .int .i64 0]) ∧ Below w.heap.size w w' := by
  have h' : (x.d == n) = true := by simp [h]
  clear h
  go_enter Try.func111, Try.ntmps111
  go_wp2
  go_ret2
  exact ⟨rfl, bbox _ _⟩
set_option maxRecDepth 100000 in
set_option maxHeartbeats 400000 in
theorem checkData_gt (es : List Ent) (v : Value) (x : Ent) (n : Int) (w : World) (h : n < x.d) :
    Calls Try.prog 111 #[v, .agg #[.int .i64 x.a, .int .i64 x.b, .int .i64 x.c, .int .i64 x.d, .int .i64 x.k, .bool x.t, .string x.s], .int .i64 n] w fun e w' => e = .returned (.tuple #[.int .i64 0, .int .i64 11]) ∧ Below w.heap.size w w' := by
  have h' : (x.d == n) = false := by simp; omega
  have h2' : decide (x.d < n) = false := by simp; omega
  clear h
  go_enter Try.func111, Try.ntmps111
  go_wp2
  go_ret2
  exact ⟨rfl, bbox _ _⟩
set_option maxRecDepth 100000 in
set_option maxHeartbeats 400000 in
theorem checkData_none (ao : Option Addr) (cap : Nat) (x : Ent) (n : Int) (w : World) (h : x.d < n) :
    Calls Try.prog 111 #[.slice ao 0 cap, .agg #[.int .i64 x.a, .int .i64 x.b, .int .i64 x.c, .int .i64 x.d, .int .i64 x.k, .bool x.t, .string x.s], .int .i64 n] w fun e w' => e = .returned (.tuple #[.int .i64 0, .int .i64 11]) ∧ Below w.heap.size w w' := by
  have h' : (x.d == n) = false := by simp; omega
  have h2' : decide (x.d < n) = true := by simp; omega
  clear h
  go_enter Try.func111, Try.ntmps111
  go_wp2
  refine wp_loop_rounds 1 ?_
  rw [rounds_succ]
  go_wp2
  go_ret2
  exact ⟨rfl, bbox _ _⟩

set_option maxRecDepth 100000 in
set_option maxHeartbeats 2000000 in
theorem checkData_some (es : List Ent) (g off cap : Nat) (x : Ent) (n : Int) (w : World) (hl : (es.length : Int) ≤ 2199023255552) (h : x.d < n) (h0 : 0 < es.length)
    (hc : ∀ i, (h : i < es.length) → ∀ j, j < 7 → w.cell? ⟨g, off + i * 7 + j, none⟩ = (es[i]'h).cells[j]?) :
    Calls Try.prog 111 #[.slice (some ⟨g, off, none⟩) es.length cap, .agg #[.int .i64 x.a, .int .i64 x.b, .int .i64 x.c, .int .i64 x.d, .int .i64 x.k, .bool x.t, .string x.s], .int .i64 n] w fun e w' => e = .returned (.tuple #[.int .i64 (dataA es x n).1, .int .i64 (dataA es x n).2]) ∧ Below w.heap.size w w' := by
  have h' : (x.d == n) = false := by simp; omega
  have h2' : decide (x.d < n) = true := by simp; omega
  have ED : Hid (∀ s, scan (isTwin es x) es.length 0 = s → dataA es x n = if 0 ≤ s then (s, 0) else (0, 11)) := fun s hs => by
    unfold dataA
    rw [if_neg (by omega), hs]
    by_cases h1 : 0 ≤ s
    · rw [if_pos ⟨h, h1⟩, if_pos h1]
    · rw [if_neg (fun h => h1 h.2), if_neg h1]
  clear h
  have hglt : g < w.heap.size := by
    have := hc 0 h0 0 (by omega)
    exact cell_lt (v := .int .i64 (es[0]'h0).a) (by simpa [Ent.cells] using this)
  have HC : Hid _ := hc
  clear hc
  have HB0 : Hid (Below w.heap.size w (w.alloc (.cells #[.int .i64 x.a, .int .i64 x.b, .int .i64 x.c, .int .i64 x.d, .int .i64 x.k, .bool x.t, .string x.s] 36))) := bbox _ _
  have HX0 : Hid (Box7 (w.alloc (.cells #[.int .i64 x.a, .int .i64 x.b, .int .i64 x.c, .int .i64 x.d, .int .i64 x.k, .bool x.t, .string x.s] 36)) w.heap.size x) := box7_new _ _ _
  go_enter Try.func111, Try.ntmps111
  go_wp2
  go_loopw [20] (fun i wr => ∃ k : Nat, k ≤ es.length ∧ i = .int .i64 k ∧ Hid (∀ j, 0 ≤ j → j < k → ¬ isTwin es x j) ∧ Below (w.heap.size + 1) (w.alloc (.cells #[.int .i64 x.a, .int .i64 x.b, .int .i64 x.c, .int .i64 x.d, .int .i64 x.k, .bool x.t, .string x.s] 36)) wr) (fun i _ => es.length - (intOf i).toNat)
  case atStart => exact ⟨0, by omega, rfl, fun j _ h => by omega, Below.refl _ _⟩
  case round =>
    obtain ⟨k, hk, rfl, HN, hb⟩ := hrel
    have HBW : Hid (Below w.heap.size w wr) := HB0.out.trans (hb.mono (by omega))
    have hsz : w.heap.size + 1 ≤ wr.heap.size := by have := hb.size; simpa using this
    by_cases hlt : k < es.length
    · obtain ⟨q0, q1, q2, q3, q4, q5, q6⟩ := RdX.cells HC.out k hlt
      have hcc : ∀ j, wr.cell? ⟨g, j, none⟩ = w.cell? ⟨g, j, none⟩ := fun j => HBW.out.cell (p := ⟨g, j, none⟩) hglt
      rw [← hcc] at q0 q1 q2 q3 q4 q5 q6
      obtain ⟨x0, x1, x2, x3, x4, x5, x6⟩ := Box7.below HX0.out (Nat.lt_succ_self _) hb
      have HT : Hid (isTwin es x k ↔ (Ent.at es k).k = 1 ∧ (Ent.at es k).b = x.b ∧ (Ent.at es k).c = x.c ∧ (Ent.at es k).d = x.d) := Iff.rfl
      generalize Ent.at es k = y at *
      have HB : Hid (Below (w.heap.size + 1) _ wr) := hb
      have hxl : w.heap.size < wr.heap.size := by omega
      have hne : w.heap.size ≠ wr.heap.size := by omega
      have HSZ : Hid (w.heap.size + 1 ≤ wr.heap.size) := hsz
      clear hcc hb hsz
      by_cases hx : y.k = 1 ∧ y.b = x.b ∧ y.c = x.c ∧ y.d = x.d
      · have E : Hid (dataA es x n = ((k : Int), 0)) := show _ = _ by rw [ED.out k (scan_some (Nat.zero_le _) (by omega) (HT.out.2 hx) HN.out), if_pos (by omega)]
        obtain ⟨g1, g2, g3, g4⟩ := hx
        have g1' : (y.k == 1) = true := by simp [g1]
        have g2' : (y.b == x.b) = true := by simp [g2]
        have g3' : (y.c == x.c) = true := by simp [g3]
        have g4' : (y.d == x.d) = true := by simp [g4]
        clear g1 g2 g3 g4 HT HN ED
        go_wp2
        go_ret2
        rw [E.out]
        exact ⟨rfl, HBW.out.alloc HBW.out.size _⟩
      · have HNN : Hid (∀ j, 0 ≤ j → j < k + 1 → ¬ isTwin es x j) := fun j j1 j2 => by
          by_cases e : j = k
          · subst e; exact fun h => hx (HT.out.1 h)
          · exact HN.out j j1 (by omega)
        clear HN HT
        have BN : ∀ o, Below (w.heap.size + 1) (w.alloc (.cells #[.int .i64 x.a, .int .i64 x.b, .int .i64 x.c, .int .i64 x.d, .int .i64 x.k, .bool x.t, .string x.s] 36)) (wr.alloc o) := fun o => HB.out.alloc HSZ.out o
        have HBN : Hid _ := BN
        clear BN
        by_cases g1 : y.k = 1
        · have g1' : (y.k == 1) = true := by simp [g1]
          by_cases g2 : y.b = x.b
          · have g2' : (y.b == x.b) = true := by simp [g2]
            by_cases g3 : y.c = x.c
            · have g3' : (y.c == x.c) = true := by simp [g3]
              have g4' : (y.d == x.d) = false := by
                rw [beq_eq_false_iff_ne]
                exact fun h => hx ⟨g1, g2, g3, h⟩
              clear hx g1 g2 g3
              go_wp2
              go_roundw
              case rel => exact ⟨k + 1, by omega, by go_num, HNN, HBN.out _⟩
              case measure => simp [intOf]; omega
            · have g3' : (y.c == x.c) = false := by simp [g3]
              clear hx g1 g2 g3
              go_wp2
              go_roundw
              case rel => exact ⟨k + 1, by omega, by go_num, HNN, HBN.out _⟩
              case measure => simp [intOf]; omega
          · have g2' : (y.b == x.b) = false := by simp [g2]
            clear hx g1 g2
            go_wp2
            go_roundw
            case rel => exact ⟨k + 1, by omega, by go_num, HNN, HBN.out _⟩
            case measure => simp [intOf]; omega
        · have g1' : (y.k == 1) = false := by simp [g1]
          clear hx g1
          go_wp2
          go_roundw
          case rel => exact ⟨k + 1, by omega, by go_num, HNN, HBN.out _⟩
          case measure => simp [intOf]; omega
    · have hke : k = es.length := by omega
      subst hke
      have E : Hid (dataA es x n = (0, 11)) := show _ = _ by
        have hs : scan (isTwin es x) es.length 0 = -1 := by
          rcases scan_cases (P := isTwin es x) es.length 0 with e | ⟨k, k1, k2, k3, _, _⟩
          · exact e
          · exact absurd k3 (HN.out k k1 (by omega))
        rw [ED.out _ hs, if_neg (by omega)]
      clear HN ED hb hsz
      go_wp2
      go_ret2
      rw [E.out]
      exact ⟨rfl, HBW.out⟩

theorem checkData_any (es : List Ent) (v : Value) (x : Ent) (n : Int) (w : World) (hl : (es.length : Int) ≤ 2199023255552) (hr : RdX w v es) :
    Calls Try.prog 111 #[v, .agg #[.int .i64 x.a, .int .i64 x.b, .int .i64 x.c, .int .i64 x.d, .int .i64 x.k, .bool x.t, .string x.s], .int .i64 n] w fun e w' => e = .returned (.tuple #[.int .i64 (dataA es x n).1, .int .i64 (dataA es x n).2]) ∧ Below w.heap.size w w' := by
  by_cases h1 : x.d = n
  · have E : dataA es x n = (-1, 0) := by unfold dataA; rw [if_pos h1]
    rw [E]
    exact checkData_eq es v x n w h1
  · by_cases h2 : x.d < n
    · obtain ⟨ao, cap, rfl, _, _, _, h3⟩ := hr
      by_cases h0 : 0 < es.length
      · obtain ⟨g, off, rfl, h3'⟩ := h3 h0
        exact checkData_some es g off cap x n w hl h2 h0 h3'
      · have hl : es = [] := List.eq_nil_of_length_eq_zero (by omega)
        subst hl
        have E : dataA [] x n = (0, 11) := by unfold dataA; rw [if_neg h1, if_neg (fun h => by simp [scan] at h)]
        rw [E]
        exact checkData_none ao cap x n w h2
    · have E : dataA es x n = (0, 11) := by unfold dataA; rw [if_neg h1, if_neg (fun h => h2 h.1)]
      rw [E]
      exact checkData_gt es v x n w (by omega)

end Go.Proofs.Ytkakagjffafdiaa
