/-
  The walk of the document's CheckedOf.
-/
import Derived.Test.YtkakagjffafdiaaVref
import Derived.Deep.QuietTactic
import Derived.BigQuiet
namespace Go.Proofs.Ytkakagjffafdiaa
open Go.RowKit
set_option linter.unusedVariables false
set_option linter.unusedSimpArgs false

theorem RdX.drewN {w : World} {v : Value} {es : List Ent} (h : RdX w v es) (n : Nat) : RdX (w.drewN n) v es := h

set_option maxRecDepth 100000 in
set_option maxHeartbeats 2000000 in
theorem checkedOf_mark (es : List Ent) (ao : Option Addr) (cap : Nat) (x : Ent) (w : World) (hl : (es.length : Int) ≤ 2199023255552) (hr : RdX w (.slice ao es.length cap) es)
    (hb : x.b ≠ 0) (hv : ¬ x.c < verK es x.b es.length) (hk : x.k ≠ 1) :
    Calls Try.prog 80 #[.slice ao es.length cap, .agg #[.int .i64 x.a, .int .i64 x.b, .int .i64 x.c, .int .i64 x.d, .int .i64 x.k, .bool x.t, .string x.s]] w fun e w' => e = .returned (.tuple #[.int .i64 (chk es x).1, .int .i64 (chk es x).2]) ∧ Below w.heap.size w w' := by
  have HE1 : Hid (0 ≤ markK es x.b es.length → openN es x.b es.length < 0 → (Ent.at es (markK es x.b es.length).toNat).k = x.k → (Ent.at es (markK es x.b es.length).toNat).c = x.c → chk es x = (markK es x.b es.length, 0)) := fun h1 h2 h3 h4 => by
    unfold chk
    rw [if_neg hb, if_neg hv, if_pos hk, if_pos ⟨h1, h2, h3, h4⟩]
  have HE2 : Hid (¬ (0 ≤ markK es x.b es.length ∧ openN es x.b es.length < 0 ∧ (Ent.at es (markK es x.b es.length).toNat).k = x.k ∧ (Ent.at es (markK es x.b es.length).toNat).c = x.c) → chk es x = (-1, 0)) := fun h => by
    unfold chk
    rw [if_neg hb, if_neg hv, if_pos hk, if_neg h]
  have hb' : (x.b == 0) = false := by simp [hb]
  have hk' : (x.k != 1) = true := by simp [hk]
  have hv' : verK es x.b es.length ≤ x.c := by omega
  have HR : Hid (RdX (w.alloc (.cells #[.int .i64 x.a, .int .i64 x.b, .int .i64 x.c, .int .i64 x.d, .int .i64 x.k, .bool x.t, .string x.s] 36)) (.slice ao es.length cap) es) := hr.below (Nat.le_refl _) (bbox _ _)
  have hmb := markK_bd es x.b es.length
  clear hr hb hv hk
  go_enter Try.func80, Try.ntmps80
  go_wp2_with fail
  refine (verOf_any es _ x.b _ hl HR.out).mono ?_
  rintro e w' ⟨rfl, hw⟩
  rw [hw]
  clear hw
  go_wp2_with fail
  refine (markOf_any es _ x.b _ hl HR.out).mono ?_
  rintro e w' ⟨rfl, hw⟩
  rw [hw]
  clear hw
  generalize verK es x.b es.length = vv at *
  by_cases hm0 : 0 ≤ markK es x.b es.length
  · obtain ⟨m, hm⟩ := Int.eq_ofNat_of_zero_le hm0
    rw [hm] at hmb HE1 HE2 ⊢
    simp only [Int.toNat_natCast] at HE1 HE2
    have hml : m < es.length := by omega
    have hml' : (m : Int) < es.length := by omega
    obtain ⟨ao', cap', e0, _, _, _, h3⟩ := HR.out
    simp only [Value.slice.injEq] at e0
    obtain ⟨rfl, _, rfl⟩ := e0
    obtain ⟨g, off, rfl, hc⟩ := h3 (by omega)
    obtain ⟨q0, q1, q2, q3, q4, q5, q6⟩ := RdX.cells hc m hml
    have HOP : Hid (∀ q, _) := fun q => openOf_any es _ x.b ((w.alloc (.cells #[.int .i64 x.a, .int .i64 x.b, .int .i64 x.c, .int .i64 x.d, .int .i64 x.k, .bool x.t, .string x.s] 36)).drewN q) hl (HR.out.drewN q)
    clear hc h3 hmb hm hm0
    generalize Ent.at es m = y at HE1 HE2 q0 q1 q2 q3 q4 q5 q6
    generalize openN es x.b es.length = op at HE1 HE2 HOP
    by_cases ho : op < 0
    · have ho' : decide (op < 0) = true := by simp [ho]
      by_cases hky : y.k = x.k
      · have hky' : (y.k == x.k) = true := by simp [hky]
        by_cases hcy : y.c = x.c
        · have hcy' : (y.c == x.c) = true := by simp [hcy]
          have HE : Hid _ := HE1.out (by omega) ho hky hcy
          clear hky hcy
          go_wp2
          go_quiet ((go_at_call 116; exact Calls.quiet_of_same (HOP.out _)))
          go_wp2
          go_ret2
          rw [HE.out]
          exact ⟨rfl, below_drewN (bbox _ _) _⟩
        · have hcy' : (y.c == x.c) = false := by simp [hcy]
          have HE : Hid _ := HE2.out (fun h => hcy h.2.2.2)
          clear hky hcy
          go_wp2
          go_quiet ((go_at_call 116; exact Calls.quiet_of_same (HOP.out _)))
          go_wp2
          go_ret2
          rw [HE.out]
          exact ⟨rfl, below_drewN (bbox _ _) _⟩
      · have hky' : (y.k == x.k) = false := by simp [hky]
        have HE : Hid _ := HE2.out (fun h => hky h.2.2.1)
        clear hky
        go_wp2
        go_quiet ((go_at_call 116; exact Calls.quiet_of_same (HOP.out _)))
        go_wp2
        go_ret2
        rw [HE.out]
        exact ⟨rfl, below_drewN (bbox _ _) _⟩
    · have ho' : decide (op < 0) = false := by simp; omega
      have HE : Hid _ := HE2.out (fun h => ho h.2.1)
      go_wp2
      go_quiet ((go_at_call 116; exact Calls.quiet_of_same (HOP.out _)))
      go_wp2
      go_ret2
      rw [HE.out]
      exact ⟨rfl, below_drewN (bbox _ _) _⟩
  · have HE : Hid _ := HE2.out (fun h => hm0 h.1)
    clear HE1 HE2
    generalize markK es x.b es.length = mm at *
    have hm0' : decide (0 ≤ mm) = false := by simp; omega
    clear hm0 hmb
    go_wp2
    go_quiet (fail)
    go_wp2
    go_ret2
    rw [HE.out]
    exact ⟨rfl, below_drewN (bbox _ _) _⟩

set_option maxRecDepth 100000 in
set_option maxHeartbeats 2000000 in
theorem checkedOf_nobody (es : List Ent) (ao : Option Addr) (cap : Nat) (x : Ent) (w : World) (hb : x.b = 0) :
    Calls Try.prog 80 #[.slice ao es.length cap, .agg #[.int .i64 x.a, .int .i64 x.b, .int .i64 x.c, .int .i64 x.d, .int .i64 x.k, .bool x.t, .string x.s]] w fun e w' => e = .returned (.tuple #[.int .i64 (chk es x).1, .int .i64 (chk es x).2]) ∧ Below w.heap.size w w' := by
  have HE : Hid (chk es x = (-1, 0)) := show _ = _ by unfold chk; rw [if_pos hb]
  have hb' : (x.b == 0) = true := by simp [hb]
  clear hb
  go_enter Try.func80, Try.ntmps80
  go_wp2
  go_ret2
  rw [HE.out]
  exact ⟨rfl, bbox _ _⟩

set_option maxRecDepth 100000 in
set_option maxHeartbeats 2000000 in
theorem checkedOf_fence (es : List Ent) (ao : Option Addr) (cap : Nat) (x : Ent) (w : World) (hl : (es.length : Int) ≤ 2199023255552) (hr : RdX w (.slice ao es.length cap) es) (hb : x.b ≠ 0) (hv : x.c < verK es x.b es.length) :
    Calls Try.prog 80 #[.slice ao es.length cap, .agg #[.int .i64 x.a, .int .i64 x.b, .int .i64 x.c, .int .i64 x.d, .int .i64 x.k, .bool x.t, .string x.s]] w fun e w' => e = .returned (.tuple #[.int .i64 (chk es x).1, .int .i64 (chk es x).2]) ∧ Below w.heap.size w w' := by
  have HE : Hid (chk es x = (0, 10)) := show _ = _ by unfold chk; rw [if_neg hb, if_pos hv]
  have hb' : (x.b == 0) = false := by simp [hb]
  have HR : Hid (RdX (w.alloc (.cells #[.int .i64 x.a, .int .i64 x.b, .int .i64 x.c, .int .i64 x.d, .int .i64 x.k, .bool x.t, .string x.s] 36)) (.slice ao es.length cap) es) := hr.below (Nat.le_refl _) (bbox _ _)
  clear hr hb
  go_enter Try.func80, Try.ntmps80
  go_wp2_with fail
  refine (verOf_any es _ x.b _ hl HR.out).mono ?_
  rintro e w' ⟨rfl, hw⟩
  rw [hw]
  clear hw
  generalize verK es x.b es.length = vv at *
  go_wp2
  go_ret2
  rw [HE.out]
  exact ⟨rfl, bbox _ _⟩

set_option maxRecDepth 100000 in
set_option maxHeartbeats 2000000 in
theorem checkedOf_data (es : List Ent) (ao : Option Addr) (cap : Nat) (x : Ent) (w : World) (hl : (es.length : Int) ≤ 2199023255552) (hr : RdX w (.slice ao es.length cap) es) (hb : x.b ≠ 0) (hv : ¬ x.c < verK es x.b es.length) (hk : x.k = 1) (hs : -1 ≤ (seqK es x.b es.length).1 ∧ (seqK es x.b es.length).1 ≤ 1073741824) :
    Calls Try.prog 80 #[.slice ao es.length cap, .agg #[.int .i64 x.a, .int .i64 x.b, .int .i64 x.c, .int .i64 x.d, .int .i64 x.k, .bool x.t, .string x.s]] w fun e w' => e = .returned (.tuple #[.int .i64 (chk es x).1, .int .i64 (chk es x).2]) ∧ Below w.heap.size w w' := by
  have HE : Hid (∀ s, (if x.c = verK es x.b es.length then (seqK es x.b es.length).1 else -1) = s → chk es x = if x.d = s + 1 then (-1, 0) else if s + 1 < x.d then (0, 11) else if scan (isTwin es x) es.length 0 < 0 then (0, 11) else (scan (isTwin es x) es.length 0, 0)) := fun s h => by
    unfold chk
    rw [if_neg hb, if_neg hv, if_neg (by simp [hk])]
    simp only [h]
  have hb' : (x.b == 0) = false := by simp [hb]
  have hk' : (x.k != 1) = false := by simp [hk]
  have hv' : verK es x.b es.length ≤ x.c := by omega
  have HR : Hid (RdX (w.alloc (.cells #[.int .i64 x.a, .int .i64 x.b, .int .i64 x.c, .int .i64 x.d, .int .i64 x.k, .bool x.t, .string x.s] 36)) (.slice ao es.length cap) es) := hr.below (Nat.le_refl _) (bbox _ _)
  clear hr hb hv hk
  go_enter Try.func80, Try.ntmps80
  go_wp2_with fail
  refine (verOf_any es _ x.b _ hl HR.out).mono ?_
  rintro e w' ⟨rfl, hw⟩
  rw [hw]
  clear hw
  by_cases hvv : x.c = verK es x.b es.length
  · have HE1 : Hid _ := HE.out (seqK es x.b es.length).1 (by rw [if_pos hvv])
    have hvv' : (x.c == verK es x.b es.length) = true := by simp [hvv]
    generalize verK es x.b es.length = vv at hv' hvv' ⊢
    clear hvv HE
    go_wp2_with fail
    refine (seqOf_any es _ x.b _ hl HR.out).mono ?_
    rintro e w' ⟨rfl, hw⟩
    rw [hw]
    clear hw
    generalize (seqK es x.b es.length).1 = ss at *
    by_cases h1 : x.d = ss + 1
    · have h1' : (x.d == ss + 1) = true := by simp [h1]
      rw [if_pos h1] at HE1
      clear h1
      go_wp2
      go_ret2
      rw [HE1.out]
      exact ⟨rfl, bbox _ _⟩
    · have h1' : (x.d == ss + 1) = false := by simp [h1]
      rw [if_neg h1] at HE1
      by_cases h2 : ss + 1 < x.d
      · rw [if_pos h2] at HE1
        clear h1
        go_wp2
        go_ret2
        rw [HE1.out]
        exact ⟨rfl, bbox _ _⟩
      · rw [if_neg h2] at HE1
        have h2' : x.d ≤ ss + 1 := by omega
        clear h1 h2
        by_cases h0 : 0 < es.length
        · obtain ⟨ao', cap', e0, _, _, _, h3⟩ := HR.out
          simp only [Value.slice.injEq] at e0
          obtain ⟨rfl, _, rfl⟩ := e0
          obtain ⟨g, off, rfl, hc⟩ := h3 h0
          have HC : Hid _ := hc
          clear hc h3
          go_wp2
          go_loopw [9] (fun i wr => ∃ k : Nat, k ≤ es.length ∧ i = .int .i64 k ∧ Hid (∀ j, 0 ≤ j → j < k → ¬ isTwin es x j) ∧ ∃ q, wr = (w.alloc (.cells #[.int .i64 x.a, .int .i64 x.b, .int .i64 x.c, .int .i64 x.d, .int .i64 x.k, .bool x.t, .string x.s] 36)).drewN q) (fun i _ => es.length - (intOf i).toNat)
          case atStart => exact ⟨0, by omega, rfl, fun j _ h => by omega, 0, rfl⟩
          case round =>
            obtain ⟨k, hk, rfl, HN, q, rfl⟩ := hrel
            by_cases hlt : k < es.length
            · obtain ⟨q0, q1, q2, q3, q4, q5, q6⟩ := RdX.cells HC.out k hlt
              have HT : Hid (isTwin es x k ↔ (Ent.at es k).k = 1 ∧ (Ent.at es k).b = x.b ∧ (Ent.at es k).c = x.c ∧ (Ent.at es k).d = x.d) := Iff.rfl
              generalize Ent.at es k = z at HT q0 q1 q2 q3 q4 q5 q6
              by_cases hz : z.k = 1 ∧ z.b = x.b ∧ z.c = x.c ∧ z.d = x.d
              · have hsc : scan (isTwin es x) es.length 0 = k := scan_some (Nat.zero_le _) (by omega) (HT.out.2 hz) HN.out
                rw [hsc, if_neg (by omega)] at HE1
                obtain ⟨z1, z2, z3, z4⟩ := hz
                have z1' : (z.k == 1) = true := by simp [z1]
                have z2' : (z.b == x.b) = true := by simp [z2]
                have z3' : (z.c == x.c) = true := by simp [z3]
                have z4' : (z.d == x.d) = true := by simp [z4]
                clear z1 z2 z3 z4 HT HN hsc
                go_wp2
                go_quiet (fail)
                go_wp2
                go_ret2
                rw [HE1.out]
                exact ⟨rfl, below_drewN (below_drewN (bbox _ _) _) _⟩
              · have HNN : Hid (∀ j, 0 ≤ j → j < k + 1 → ¬ isTwin es x j) := fun j j1 j2 => by
                  by_cases e : j = k
                  · subst e; exact fun h => hz (HT.out.1 h)
                  · exact HN.out j j1 (by omega)
                clear HN HT
                by_cases z1 : z.k = 1
                · have z1' : (z.k == 1) = true := by simp [z1]
                  by_cases z2 : z.b = x.b
                  · have z2' : (z.b == x.b) = true := by simp [z2]
                    by_cases z3 : z.c = x.c
                    · have z3' : (z.c == x.c) = true := by simp [z3]
                      have z4' : (z.d == x.d) = false := by
                        rw [beq_eq_false_iff_ne]
                        exact fun h => hz ⟨z1, z2, z3, h⟩
                      clear z1 z2 z3 hz
                      go_wp2
                      go_quiet (fail)
                      go_wp2
                      go_roundw
                      case rel => exact ⟨k + 1, by omega, by go_num, HNN, q + nq, rfl⟩
                      case measure => simp [intOf]; omega
                    · have z3' : (z.c == x.c) = false := by simp [z3]
                      clear z1 z2 z3 hz
                      go_wp2
                      go_quiet (fail)
                      go_wp2
                      go_roundw
                      case rel => exact ⟨k + 1, by omega, by go_num, HNN, q + nq, rfl⟩
                      case measure => simp [intOf]; omega
                  · have z2' : (z.b == x.b) = false := by simp [z2]
                    clear z1 z2 hz
                    go_wp2
                    go_quiet (fail)
                    go_wp2
                    go_roundw
                    case rel => exact ⟨k + 1, by omega, by go_num, HNN, q + nq, rfl⟩
                    case measure => simp [intOf]; omega
                · have z1' : (z.k == 1) = false := by simp [z1]
                  clear z1 hz
                  go_wp2
                  go_quiet (fail)
                  go_wp2
                  go_roundw
                  case rel => exact ⟨k + 1, by omega, by go_num, HNN, q + nq, rfl⟩
                  case measure => simp [intOf]; omega
            · have hke : k = es.length := by omega
              subst hke
              have hsc : scan (isTwin es x) es.length 0 < 0 := scan_none.2 (fun j j1 j2 => HN.out j j1 (by omega))
              rw [if_pos hsc] at HE1
              clear HN hsc
              go_wp2
              go_ret2
              rw [HE1.out]
              exact ⟨rfl, below_drewN (bbox _ _) _⟩
        · have hle : es.length = 0 := by omega
          have hsc : scan (isTwin es x) es.length 0 < 0 := by rw [hle]; show (-1 : Int) < 0; omega
          rw [if_pos hsc] at HE1
          have hle' : (es.length : Int) ≤ 0 := by omega
          clear hsc h0 hle
          go_wp2
          refine wp_loop_rounds 1 ?_
          rw [rounds_succ]
          go_wp2
          go_ret2
          rw [HE1.out]
          exact ⟨rfl, bbox _ _⟩
  · have HE0 := HE.out (-1) (by rw [if_neg hvv])
    have hz1 : (-1 : Int) + 1 = 0 := by omega
    rw [hz1] at HE0
    have HE1 : Hid _ := HE0
    clear HE0 hz1
    have hvv' : (x.c == verK es x.b es.length) = false := by simp [hvv]
    generalize verK es x.b es.length = vv at hv' hvv' ⊢
    clear hvv HE
    by_cases h1 : x.d = 0
    · have h1' : (x.d == 0) = true := by simp [h1]
      rw [if_pos h1] at HE1
      clear h1
      go_wp2
      go_ret2
      rw [HE1.out]
      exact ⟨rfl, bbox _ _⟩
    · have h1' : (x.d == 0) = false := by simp [h1]
      rw [if_neg h1] at HE1
      by_cases h2 : 0 < x.d
      · rw [if_pos h2] at HE1
        clear h1
        go_wp2
        go_ret2
        rw [HE1.out]
        exact ⟨rfl, bbox _ _⟩
      · rw [if_neg h2] at HE1
        have h2' : x.d ≤ 0 := by omega
        clear h1 h2
        by_cases h0 : 0 < es.length
        · obtain ⟨ao', cap', e0, _, _, _, h3⟩ := HR.out
          simp only [Value.slice.injEq] at e0
          obtain ⟨rfl, _, rfl⟩ := e0
          obtain ⟨g, off, rfl, hc⟩ := h3 h0
          have HC : Hid _ := hc
          clear hc h3
          go_wp2
          go_loopw [9] (fun i wr => ∃ k : Nat, k ≤ es.length ∧ i = .int .i64 k ∧ Hid (∀ j, 0 ≤ j → j < k → ¬ isTwin es x j) ∧ ∃ q, wr = (w.alloc (.cells #[.int .i64 x.a, .int .i64 x.b, .int .i64 x.c, .int .i64 x.d, .int .i64 x.k, .bool x.t, .string x.s] 36)).drewN q) (fun i _ => es.length - (intOf i).toNat)
          case atStart => exact ⟨0, by omega, rfl, fun j _ h => by omega, 0, rfl⟩
          case round =>
            obtain ⟨k, hk, rfl, HN, q, rfl⟩ := hrel
            by_cases hlt : k < es.length
            · obtain ⟨q0, q1, q2, q3, q4, q5, q6⟩ := RdX.cells HC.out k hlt
              have HT : Hid (isTwin es x k ↔ (Ent.at es k).k = 1 ∧ (Ent.at es k).b = x.b ∧ (Ent.at es k).c = x.c ∧ (Ent.at es k).d = x.d) := Iff.rfl
              generalize Ent.at es k = z at HT q0 q1 q2 q3 q4 q5 q6
              by_cases hz : z.k = 1 ∧ z.b = x.b ∧ z.c = x.c ∧ z.d = x.d
              · have hsc : scan (isTwin es x) es.length 0 = k := scan_some (Nat.zero_le _) (by omega) (HT.out.2 hz) HN.out
                rw [hsc, if_neg (by omega)] at HE1
                obtain ⟨z1, z2, z3, z4⟩ := hz
                have z1' : (z.k == 1) = true := by simp [z1]
                have z2' : (z.b == x.b) = true := by simp [z2]
                have z3' : (z.c == x.c) = true := by simp [z3]
                have z4' : (z.d == x.d) = true := by simp [z4]
                clear z1 z2 z3 z4 HT HN hsc
                go_wp2
                go_quiet (fail)
                go_wp2
                go_ret2
                rw [HE1.out]
                exact ⟨rfl, below_drewN (below_drewN (bbox _ _) _) _⟩
              · have HNN : Hid (∀ j, 0 ≤ j → j < k + 1 → ¬ isTwin es x j) := fun j j1 j2 => by
                  by_cases e : j = k
                  · subst e; exact fun h => hz (HT.out.1 h)
                  · exact HN.out j j1 (by omega)
                clear HN HT
                by_cases z1 : z.k = 1
                · have z1' : (z.k == 1) = true := by simp [z1]
                  by_cases z2 : z.b = x.b
                  · have z2' : (z.b == x.b) = true := by simp [z2]
                    by_cases z3 : z.c = x.c
                    · have z3' : (z.c == x.c) = true := by simp [z3]
                      have z4' : (z.d == x.d) = false := by
                        rw [beq_eq_false_iff_ne]
                        exact fun h => hz ⟨z1, z2, z3, h⟩
                      clear z1 z2 z3 hz
                      go_wp2
                      go_quiet (fail)
                      go_wp2
                      go_roundw
                      case rel => exact ⟨k + 1, by omega, by go_num, HNN, q + nq, rfl⟩
                      case measure => simp [intOf]; omega
                    · have z3' : (z.c == x.c) = false := by simp [z3]
                      clear z1 z2 z3 hz
                      go_wp2
                      go_quiet (fail)
                      go_wp2
                      go_roundw
                      case rel => exact ⟨k + 1, by omega, by go_num, HNN, q + nq, rfl⟩
                      case measure => simp [intOf]; omega
                  · have z2' : (z.b == x.b) = false := by simp [z2]
                    clear z1 z2 hz
                    go_wp2
                    go_quiet (fail)
                    go_wp2
                    go_roundw
                    case rel => exact ⟨k + 1, by omega, by go_num, HNN, q + nq, rfl⟩
                    case measure => simp [intOf]; omega
                · have z1' : (z.k == 1) = false := by simp [z1]
                  clear z1 hz
                  go_wp2
                  go_quiet (fail)
                  go_wp2
                  go_roundw
                  case rel => exact ⟨k + 1, by omega, by go_num, HNN, q + nq, rfl⟩
                  case measure => simp [intOf]; omega
            · have hke : k = es.length := by omega
              subst hke
              have hsc : scan (isTwin es x) es.length 0 < 0 := scan_none.2 (fun j j1 j2 => HN.out j j1 (by omega))
              rw [if_pos hsc] at HE1
              clear HN hsc
              go_wp2
              go_ret2
              rw [HE1.out]
              exact ⟨rfl, below_drewN (bbox _ _) _⟩
        · have hle : es.length = 0 := by omega
          have hsc : scan (isTwin es x) es.length 0 < 0 := by rw [hle]; show (-1 : Int) < 0; omega
          rw [if_pos hsc] at HE1
          have hle' : (es.length : Int) ≤ 0 := by omega
          clear hsc h0 hle
          go_wp2
          refine wp_loop_rounds 1 ?_
          rw [rounds_succ]
          go_wp2
          go_ret2
          rw [HE1.out]
          exact ⟨rfl, bbox _ _⟩

/-- Entries whose numbers are within the bounds (P3.1). -/
def Plain (es : List Ent) : Prop := ∀ e ∈ es, 1 ≤ e.k ∧ e.k ≤ 3 ∧ 0 ≤ e.b ∧ e.b ≤ 1073741824 ∧ 0 ≤ e.c ∧ e.c ≤ 1073741824 ∧ 0 ≤ e.d ∧ e.d ≤ 1073741824
theorem seqK_bd {es : List Ent} (h : Plain es) (p : Int) (k : Nat) (hk : k ≤ es.length) : -1 ≤ (seqK es p k).1 ∧ (seqK es p k).1 ≤ 1073741824 := by
  induction k with
  | zero => simp [seqK]
  | succ k ih =>
    have hlt : k < es.length := by omega
    have hx := h es[k] (List.getElem_mem hlt)
    have ih := ih (by omega)
    simp only [seqK, at_get hlt]
    split
    · simp only
      split
      · omega
      · split <;> omega
    · exact ih
theorem verK_bd {es : List Ent} (h : Plain es) (p : Int) (k : Nat) (hk : k ≤ es.length) : -1 ≤ verK es p k ∧ verK es p k ≤ 1073741824 := by
  induction k with
  | zero => simp [verK]
  | succ k ih =>
    have hlt : k < es.length := by omega
    have hx := h es[k] (List.getElem_mem hlt)
    have ih := ih (by omega)
    simp only [verK, at_get hlt]
    split <;> omega

theorem checkedOf_any (es : List Ent) (v : Value) (x : Ent) (w : World) (hl : (es.length : Int) ≤ 2199023255552) (hp : Plain es) (h : RdX w v es) :
    Calls Try.prog 80 #[v, .agg #[.int .i64 x.a, .int .i64 x.b, .int .i64 x.c, .int .i64 x.d, .int .i64 x.k, .bool x.t, .string x.s]] w fun e w' => e = .returned (.tuple #[.int .i64 (chk es x).1, .int .i64 (chk es x).2]) ∧ Below w.heap.size w w' := by
  obtain ⟨ao, cap, rfl⟩ : ∃ ao cap, v = .slice ao es.length cap := by obtain ⟨ao, cap, e, _⟩ := h; exact ⟨ao, cap, e⟩
  by_cases hb : x.b = 0
  · exact checkedOf_nobody es ao cap x w hb
  · by_cases hv : x.c < verK es x.b es.length
    · exact checkedOf_fence es ao cap x w hl h hb hv
    · by_cases hk : x.k = 1
      · exact checkedOf_data es ao cap x w hl h hb hv hk (seqK_bd hp x.b es.length (Nat.le_refl _))
      · exact checkedOf_mark es ao cap x w hl h hb hv hk

end Go.Proofs.Ytkakagjffafdiaa
