/-
  The walks of the document's verOf, seqOf, markOf, openOf.
-/
import Derived.Test.YtkakagjffafdiaaVmath
namespace Go.Proofs.Ytkakagjffafdiaa
open Go.RowKit
set_option linter.unusedVariables false
set_option linter.unusedSimpArgs false

/-- A slice of entries, wherever it begins, that reads as es. -/
def RdX (w : World) (v : Value) (es : List Ent) : Prop :=
  ∃ ao cap, v = .slice ao es.length cap ∧ es.length ≤ cap ∧ cap ≤ maxLen ∧ (ao = none → cap = 0) ∧ (0 < es.length → ∃ g off, ao = some ⟨g, off, none⟩ ∧ ∀ i, (h : i < es.length) → ∀ j, j < 7 → w.cell? ⟨g, off + i * 7 + j, none⟩ = (es[i]'h).cells[j]?)
theorem RdX.below {C : Nat} {v : Value} {es : List Ent} {w w' : World} (h : RdX w v es) (hC : w.heap.size ≤ C) (hb : Below C w w') : RdX w' v es := by
  obtain ⟨ao, cap, rfl, h1, h2, h4, h3⟩ := h
  refine ⟨ao, cap, rfl, h1, h2, h4, fun h0 => ?_⟩
  obtain ⟨g, off, rfl, hg⟩ := h3 h0
  have hlt : g < w.heap.size := by
    have := hg 0 h0 0 (by omega)
    exact cell_lt (v := .int .i64 (es[0]'h0).a) (by simpa [Ent.cells] using this)
  exact ⟨g, off, rfl, fun i hi j hj => by rw [hb.cell (p := ⟨g, off + i * 7 + j, none⟩) (by show g < C; omega)]; exact hg i hi j hj⟩
theorem RdX.cells {w : World} {g off : Nat} {es : List Ent} (hg : ∀ i, (h : i < es.length) → ∀ j, j < 7 → w.cell? ⟨g, off + i * 7 + j, none⟩ = (es[i]'h).cells[j]?) (i : Nat) (h : i < es.length) :
    w.cell? ⟨g, off + i * 7, none⟩ = some (.int .i64 (Ent.at es i).a) ∧ w.cell? ⟨g, off + i * 7 + 1, none⟩ = some (.int .i64 (Ent.at es i).b) ∧ w.cell? ⟨g, off + i * 7 + 2, none⟩ = some (.int .i64 (Ent.at es i).c) ∧ w.cell? ⟨g, off + i * 7 + 3, none⟩ = some (.int .i64 (Ent.at es i).d) ∧ w.cell? ⟨g, off + i * 7 + 4, none⟩ = some (.int .i64 (Ent.at es i).k) ∧ w.cell? ⟨g, off + i * 7 + 5, none⟩ = some (.bool (Ent.at es i).t) ∧ w.cell? ⟨g, off + i * 7 + 6, none⟩ = some (.string (Ent.at es i).s) := by
  rw [at_get h]
  exact seven (hg i h)

set_option maxRecDepth 100000 in
set_option maxHeartbeats 1000000 in
theorem verOf_some (es : List Ent) (g off cap : Nat) (p : Int) (w : World) (hl : (es.length : Int) ≤ 2199023255552)
    (hc : ∀ i, (h : i < es.length) → ∀ j, j < 7 → w.cell? ⟨g, off + i * 7 + j, none⟩ = (es[i]'h).cells[j]?) :
    Calls Try.prog 114 #[.slice (some ⟨g, off, none⟩) es.length cap, .int .i64 p] w fun e w' => e = .returned (.int .i64 (verK es p es.length)) ∧ w' = w := by
  have HC : Hid _ := hc
  clear hc
  go_enter Try.func114, Try.ntmps114
  go_wp2
  go_loop [5, 6] (fun v i => ∃ k : Nat, k ≤ es.length ∧ i = .int .i64 k ∧ v = .int .i64 (verK es p k)) (fun _ i => es.length - (intOf i).toNat)
  case atStart => exact ⟨0, by omega, rfl, rfl⟩
  case round =>
    obtain ⟨k, hk, rfl, rfl⟩ := hrel
    by_cases hlt : k < es.length
    · obtain ⟨q0, q1, q2, q3, q4, q5, q6⟩ := RdX.cells HC.out k hlt
      have HS : Hid (verK es p (k + 1) = if (Ent.at es k).b = p then (Ent.at es k).c else verK es p k) := show _ = _ from rfl
      generalize Ent.at es k = x at *
      by_cases hp : x.b = p
      · have hp' : (x.b == p) = true := by simp [hp]
        rw [if_pos hp] at HS
        have HP : Hid _ := hp
        clear hp
        go_wp2
        go_round
        case rel => exact ⟨k + 1, by omega, by go_num, by rw [HS.out]⟩
        case measure => simp [intOf]; omega
      · have hp' : (x.b == p) = false := by simp [hp]
        rw [if_neg hp] at HS
        clear hp
        go_wp2
        go_round
        case rel => exact ⟨k + 1, by omega, by go_num, by rw [HS.out]⟩
        case measure => simp [intOf]; omega
    · have hke : k = es.length := by omega
      subst hke
      go_wp2
      go_ret
      exact ⟨rfl, rfl⟩

set_option maxRecDepth 100000 in
set_option maxHeartbeats 400000 in
theorem verOf_none (ao : Option Addr) (cap : Nat) (p : Int) (w : World) :
    Calls Try.prog 114 #[.slice ao 0 cap, .int .i64 p] w fun e w' => e = .returned (.int .i64 (-1)) ∧ w' = w := by
  go_enter Try.func114, Try.ntmps114
  go_wp2
  refine wp_loop_rounds 1 ?_
  rw [rounds_succ]
  go_wp2
  go_ret
  exact ⟨rfl, rfl⟩

theorem verOf_any (es : List Ent) (v : Value) (p : Int) (w : World) (hl : (es.length : Int) ≤ 2199023255552) (h : RdX w v es) :
    Calls Try.prog 114 #[v, .int .i64 p] w fun e w' => e = .returned (.int .i64 (verK es p es.length)) ∧ w' = w := by
  obtain ⟨ao, cap, rfl, _, _, _, h1⟩ := h
  by_cases h0 : 0 < es.length
  · obtain ⟨g, off, rfl, h1'⟩ := h1 h0
    exact verOf_some es g off cap p w hl h1'
  · have hl : es = [] := List.eq_nil_of_length_eq_zero (by omega)
    subst hl
    exact verOf_none ao cap p w

set_option maxRecDepth 100000 in
set_option maxHeartbeats 1000000 in
theorem markOf_some (es : List Ent) (g off cap : Nat) (p : Int) (w : World) (hl : (es.length : Int) ≤ 2199023255552)
    (hc : ∀ i, (h : i < es.length) → ∀ j, j < 7 → w.cell? ⟨g, off + i * 7 + j, none⟩ = (es[i]'h).cells[j]?) :
    Calls Try.prog 115 #[.slice (some ⟨g, off, none⟩) es.length cap, .int .i64 p] w fun e w' => e = .returned (.int .i64 (markK es p es.length)) ∧ w' = w := by
  have HC : Hid _ := hc
  clear hc
  go_enter Try.func115, Try.ntmps115
  go_wp2
  go_loop [5, 6] (fun v i => ∃ k : Nat, k ≤ es.length ∧ i = .int .i64 k ∧ v = .int .i64 (markK es p k)) (fun _ i => es.length - (intOf i).toNat)
  case atStart => exact ⟨0, by omega, rfl, rfl⟩
  case round =>
    obtain ⟨k, hk, rfl, rfl⟩ := hrel
    by_cases hlt : k < es.length
    · obtain ⟨q0, q1, q2, q3, q4, q5, q6⟩ := RdX.cells HC.out k hlt
      have HS : Hid (markK es p (k + 1) = if (Ent.at es k).b = p ∧ (Ent.at es k).k ≠ 1 then (k : Int) else markK es p k) := show _ = _ from rfl
      generalize Ent.at es k = x at *
      have hpb : (x.b == p) = decide (x.b = p) := rfl
      have hkb : (x.k != 1) = decide (x.k ≠ 1) := by simp [bne]; rfl
      by_cases hp : x.b = p
      · have hp' : (x.b == p) = true := by simp [hp]
        by_cases hk1 : x.k = 1
        · have hk' : (x.k != 1) = false := by simp [hk1]
          rw [if_neg (fun h => h.2 hk1)] at HS
          clear hp hk1 hpb hkb
          go_wp2
          go_round
          case rel => exact ⟨k + 1, by omega, by go_num, by rw [HS.out]⟩
          case measure => simp [intOf]; omega
        · have hk' : (x.k != 1) = true := by simp [hk1]
          rw [if_pos ⟨hp, hk1⟩] at HS
          clear hp hk1 hpb hkb
          go_wp2
          go_round
          case rel => exact ⟨k + 1, by omega, by go_num, by rw [HS.out]⟩
          case measure => simp [intOf]; omega
      · have hp' : (x.b == p) = false := by simp [hp]
        rw [if_neg (fun h => hp h.1)] at HS
        clear hp hpb hkb
        go_wp2
        go_round
        case rel => exact ⟨k + 1, by omega, by go_num, by rw [HS.out]⟩
        case measure => simp [intOf]; omega
    · have hke : k = es.length := by omega
      subst hke
      go_wp2
      go_ret
      exact ⟨rfl, rfl⟩

set_option maxRecDepth 100000 in
set_option maxHeartbeats 400000 in
theorem markOf_none (ao : Option Addr) (cap : Nat) (p : Int) (w : World) :
    Calls Try.prog 115 #[.slice ao 0 cap, .int .i64 p] w fun e w' => e = .returned (.int .i64 (-1)) ∧ w' = w := by
  go_enter Try.func115, Try.ntmps115
  go_wp2
  refine wp_loop_rounds 1 ?_
  rw [rounds_succ]
  go_wp2
  go_ret
  exact ⟨rfl, rfl⟩

theorem markOf_any (es : List Ent) (v : Value) (p : Int) (w : World) (hl : (es.length : Int) ≤ 2199023255552) (h : RdX w v es) :
    Calls Try.prog 115 #[v, .int .i64 p] w fun e w' => e = .returned (.int .i64 (markK es p es.length)) ∧ w' = w := by
  obtain ⟨ao, cap, rfl, _, _, _, h1⟩ := h
  by_cases h0 : 0 < es.length
  · obtain ⟨g, off, rfl, h1'⟩ := h1 h0
    exact markOf_some es g off cap p w hl h1'
  · have hl : es = [] := List.eq_nil_of_length_eq_zero (by omega)
    subst hl
    exact markOf_none ao cap p w

set_option maxRecDepth 100000 in
set_option maxHeartbeats 2000000 in
theorem seqOf_some (es : List Ent) (g off cap : Nat) (p : Int) (w : World) (hl : (es.length : Int) ≤ 2199023255552)
    (hc : ∀ i, (h : i < es.length) → ∀ j, j < 7 → w.cell? ⟨g, off + i * 7 + j, none⟩ = (es[i]'h).cells[j]?) :
    Calls Try.prog 117 #[.slice (some ⟨g, off, none⟩) es.length cap, .int .i64 p] w fun e w' => e = .returned (.int .i64 (seqK es p es.length).1) ∧ w' = w := by
  have HC : Hid _ := hc
  clear hc
  go_enter Try.func117, Try.ntmps117
  go_wp2
  go_loop [5, 6, 7] (fun s v i => ∃ k : Nat, k ≤ es.length ∧ i = .int .i64 k ∧ s = .int .i64 (seqK es p k).1 ∧ v = .int .i64 (seqK es p k).2) (fun _ _ i => es.length - (intOf i).toNat)
  case atStart => exact ⟨0, by omega, rfl, rfl, rfl⟩
  case round =>
    obtain ⟨k, hk, rfl, rfl, rfl⟩ := hrel
    by_cases hlt : k < es.length
    · obtain ⟨q0, q1, q2, q3, q4, q5, q6⟩ := RdX.cells HC.out k hlt
      have HS : Hid (seqK es p (k + 1) = if (Ent.at es k).b = p then (if (Ent.at es k).k = 1 then (Ent.at es k).d else if (Ent.at es k).c = (seqK es p k).2 then (seqK es p k).1 else -1, (Ent.at es k).c) else seqK es p k) := show _ = _ from rfl
      generalize Ent.at es k = x at *
      generalize hss : (seqK es p k).1 = s at *
      generalize hvv : (seqK es p k).2 = v at *
      have HSV : Hid (seqK es p k = (s, v)) := show _ = _ from Prod.ext hss hvv
      clear hss hvv
      by_cases hp : x.b = p
      · have hp' : (x.b != p) = false := by simp [hp]
        rw [if_pos hp] at HS
        clear hp
        by_cases hc1 : x.c = v
        · have hc' : (x.c != v) = false := by simp [hc1]
          by_cases hk1 : x.k = 1
          · have hk' : (x.k == 1) = true := by simp [hk1]
            rw [if_pos hk1] at HS
            have HCV : Hid _ := hc1
            clear hk1 hc1
            go_wp2
            go_round
            case rel => exact ⟨k + 1, by omega, by go_num, by rw [HS.out], by rw [HS.out, HCV.out]⟩
            case measure => simp [intOf]; omega
          · have hk' : (x.k == 1) = false := by simp [hk1]
            rw [if_neg hk1, if_pos hc1] at HS
            have HCV : Hid _ := hc1
            clear hk1 hc1
            go_wp2
            go_round
            case rel => exact ⟨k + 1, by omega, by go_num, by rw [HS.out], by rw [HS.out, HCV.out]⟩
            case measure => simp [intOf]; omega
        · have hc' : (x.c != v) = true := by simp [hc1]
          by_cases hk1 : x.k = 1
          · have hk' : (x.k == 1) = true := by simp [hk1]
            rw [if_pos hk1] at HS
            clear hk1 hc1
            go_wp2
            go_round
            case rel => exact ⟨k + 1, by omega, by go_num, by rw [HS.out], by rw [HS.out]⟩
            case measure => simp [intOf]; omega
          · have hk' : (x.k == 1) = false := by simp [hk1]
            rw [if_neg hk1, if_neg hc1] at HS
            clear hk1 hc1
            go_wp2
            go_round
            case rel => exact ⟨k + 1, by omega, by go_num, by rw [HS.out], by rw [HS.out]⟩
            case measure => simp [intOf]; omega
      · have hp' : (x.b != p) = true := by simp [hp]
        rw [if_neg hp] at HS
        clear hp
        go_wp2
        go_round
        case rel => exact ⟨k + 1, by omega, by go_num, by rw [HS.out, HSV.out], by rw [HS.out, HSV.out]⟩
        case measure => simp [intOf]; omega
    · have hke : k = es.length := by omega
      subst hke
      go_wp2
      go_ret
      exact ⟨rfl, rfl⟩

set_option maxRecDepth 100000 in
set_option maxHeartbeats 400000 in
theorem seqOf_none (ao : Option Addr) (cap : Nat) (p : Int) (w : World) :
    Calls Try.prog 117 #[.slice ao 0 cap, .int .i64 p] w fun e w' => e = .returned (.int .i64 (-1)) ∧ w' = w := by
  go_enter Try.func117, Try.ntmps117
  go_wp2
  refine wp_loop_rounds 1 ?_
  rw [rounds_succ]
  go_wp2
  go_ret
  exact ⟨rfl, rfl⟩

theorem seqOf_any (es : List Ent) (v : Value) (p : Int) (w : World) (hl : (es.length : Int) ≤ 2199023255552) (h : RdX w v es) :
    Calls Try.prog 117 #[v, .int .i64 p] w fun e w' => e = .returned (.int .i64 ((seqK es p es.length).1)) ∧ w' = w := by
  obtain ⟨ao, cap, rfl, _, _, _, h1⟩ := h
  by_cases h0 : 0 < es.length
  · obtain ⟨g, off, rfl, h1'⟩ := h1 h0
    exact seqOf_some es g off cap p w hl h1'
  · have hl : es = [] := List.eq_nil_of_length_eq_zero (by omega)
    subst hl
    exact seqOf_none ao cap p w

set_option maxRecDepth 100000 in
set_option maxHeartbeats 2000000 in
theorem openOf_some (es : List Ent) (g off cap : Nat) (p : Int) (w : World) (hl : (es.length : Int) ≤ 2199023255552) (hr : RdX w (.slice (some ⟨g, off, none⟩) es.length cap) es)
    (hc : ∀ i, (h : i < es.length) → ∀ j, j < 7 → w.cell? ⟨g, off + i * 7 + j, none⟩ = (es[i]'h).cells[j]?) :
    Calls Try.prog 116 #[.slice (some ⟨g, off, none⟩) es.length cap, .int .i64 p] w fun e w' => e = .returned (.int .i64 (openN es p es.length)) ∧ w' = w := by
  have HC : Hid _ := hc
  have HR : Hid (RdX w (.slice (some ⟨g, off, none⟩) es.length cap) es) := hr
  have hmb := markK_bd es p es.length
  clear hc hr
  go_enter Try.func116, Try.ntmps116
  go_wp2_with fail
  refine (markOf_any es _ p w hl HR.out).mono ?_
  rintro e w' ⟨rfl, rfl⟩
  have HO : Hid (openN es p es.length = scan (isTxn es p) (es.length - (markK es p es.length + 1).toNat) (markK es p es.length + 1).toNat) := show _ = _ from rfl
  obtain ⟨m0, hm0⟩ := Int.eq_ofNat_of_zero_le (show 0 ≤ markK es p es.length + 1 by omega)
  have hmm : markK es p es.length = (m0 : Int) - 1 := by omega
  rw [hm0] at HO
  simp only [Int.toNat_natCast] at HO
  rw [hmm]
  have hm0l : m0 ≤ es.length := by omega
  have hm0' : (m0 : Int) ≤ es.length := by omega
  have hw0 : wrap64 ((m0 : Int) - 1 + 1) = m0 := by unfold wrap64; omega
  clear hmm hm0 hmb HR
  go_wp2
  go_loop [5] (fun i => ∃ k : Nat, m0 ≤ k ∧ k ≤ es.length ∧ i = .int .i64 k ∧ Hid (∀ j, m0 ≤ j → j < k → ¬ isTxn es p j)) (fun i => es.length - (intOf i).toNat)
  case atStart => exact ⟨m0, Nat.le_refl _, hm0l, by go_num, fun j h1 h2 => by omega⟩
  case round =>
    obtain ⟨k, hmk, hk, rfl, HN⟩ := hrel
    by_cases hlt : k < es.length
    · obtain ⟨q0, q1, q2, q3, q4, q5, q6⟩ := RdX.cells HC.out k hlt
      have HT : Hid (isTxn es p k ↔ (Ent.at es k).b = p ∧ (Ent.at es k).t = true ∧ (Ent.at es k).k = 1) := Iff.rfl
      generalize Ent.at es k = x at *
      by_cases hx : x.b = p ∧ x.t = true ∧ x.k = 1
      · have E : Hid (openN es p es.length = k) := show _ = _ by (rw [HO.out]; exact scan_some hmk (by omega) (HT.out.2 hx) HN.out)
        obtain ⟨h1, h2, h3⟩ := hx
        have h1' : (x.b == p) = true := by simp [h1]
        have h3' : (x.k == 1) = true := by simp [h3]
        clear h1 h3 HT HN HO
        go_wp2
        go_ret
        rw [E.out]
        exact ⟨rfl, rfl⟩
      · have HNN : Hid (∀ j, m0 ≤ j → j < k + 1 → ¬ isTxn es p j) := fun j j1 j2 => by
          by_cases e : j = k
          · subst e; exact fun h => hx (HT.out.1 h)
          · exact HN.out j j1 (by omega)
        clear HN HT
        by_cases h1 : x.b = p
        · have h1' : (x.b == p) = true := by simp [h1]
          by_cases h2 : x.t = true
          · have h3 : (x.k == 1) = false := by
              rw [beq_eq_false_iff_ne]
              exact fun h => hx ⟨h1, h2, h⟩
            clear hx h1
            go_wp2
            go_round
            case rel => exact ⟨k + 1, by omega, by omega, by go_num, HNN⟩
            case measure => simp [intOf]; omega
          · have h2' : x.t = false := by simpa using h2
            clear hx h1 h2
            go_wp2
            go_round
            case rel => exact ⟨k + 1, by omega, by omega, by go_num, HNN⟩
            case measure => simp [intOf]; omega
        · have h1' : (x.b == p) = false := by simp [h1]
          clear hx h1
          go_wp2
          go_round
          case rel => exact ⟨k + 1, by omega, by omega, by go_num, HNN⟩
          case measure => simp [intOf]; omega
    · have hke : k = es.length := by omega
      subst hke
      have E : Hid (openN es p es.length = -1) := show _ = _ by
        rw [HO.out]
        rcases scan_cases (P := isTxn es p) (es.length - m0) m0 with e | ⟨k, k1, k2, k3, _, _⟩
        · exact e
        · exact absurd k3 (HN.out k k1 (by omega))
      clear HN HO
      go_wp2
      go_ret
      rw [E.out]
      exact ⟨rfl, rfl⟩

set_option maxRecDepth 100000 in
set_option maxHeartbeats 400000 in
theorem openOf_none (ao : Option Addr) (cap : Nat) (p : Int) (w : World) :
    Calls Try.prog 116 #[.slice ao 0 cap, .int .i64 p] w fun e w' => e = .returned (.int .i64 (-1)) ∧ w' = w := by
  go_enter Try.func116, Try.ntmps116
  go_wp2_with fail
  refine (markOf_none ao cap p w).mono ?_
  rintro e w' ⟨rfl, rfl⟩
  go_wp2
  refine wp_loop_rounds 1 ?_
  rw [rounds_succ]
  go_wp2
  go_ret
  exact ⟨rfl, rfl⟩

theorem openOf_any (es : List Ent) (v : Value) (p : Int) (w : World) (hl : (es.length : Int) ≤ 2199023255552) (h : RdX w v es) :
    Calls Try.prog 116 #[v, .int .i64 p] w fun e w' => e = .returned (.int .i64 (openN es p es.length)) ∧ w' = w := by
  have hr := h
  obtain ⟨ao, cap, rfl, _, _, _, h1⟩ := h
  by_cases h0 : 0 < es.length
  · obtain ⟨g, off, rfl, h1'⟩ := h1 h0
    exact openOf_some es g off cap p w hl hr h1'
  · have hl : es = [] := List.eq_nil_of_length_eq_zero (by omega)
    subst hl
    exact openOf_none ao cap p w

end Go.Proofs.Ytkakagjffafdiaa
