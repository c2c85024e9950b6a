/-
  The walk of the document's StableOf.
-/
import Derived.Test.YtkakagjffafdiaaVchk
namespace Go.Proofs.Ytkakagjffafdiaa
open Go.RowKit
set_option linter.unusedVariables false
set_option linter.unusedSimpArgs false

theorem at_take (es : List Ent) (h i : Nat) (hi : i < h) : Ent.at (es.take h) i = Ent.at es i := by
  unfold Ent.at
  simp only [List.getD_eq_getElem?_getD, List.getElem?_take, if_pos hi]
theorem markK_take (es : List Ent) (p : Int) (h k : Nat) (hk : k ≤ h) : markK (es.take h) p k = markK es p k := by
  induction k with
  | zero => rfl
  | succ k ih => simp only [markK, at_take es h k (by omega), ih (by omega)]
theorem scan_congr {P Q : Nat → Prop} [DecidablePred P] [DecidablePred Q] (f i : Nat) (h : ∀ j, i ≤ j → j < i + f → (P j ↔ Q j)) : scan P f i = scan Q f i := by
  induction f generalizing i with
  | zero => rfl
  | succ f ih =>
    simp only [scan]
    rw [ih (i + 1) (fun j h1 h2 => h j (by omega) (by omega))]
    by_cases hp : P i
    · rw [if_pos hp, if_pos ((h i (Nat.le_refl _) (by omega)).1 hp)]
    · rw [if_neg hp, if_neg (fun hq => hp ((h i (Nat.le_refl _) (by omega)).2 hq))]
theorem openN_take (es : List Ent) (p : Int) (h : Nat) (hh : h ≤ es.length) : openN (es.take h) p (es.take h).length = openN es p h := by
  have hl : (es.take h).length = h := by simp; omega
  unfold openN
  rw [hl, markK_take es p h h (Nat.le_refl _)]
  have hb := markK_bd es p h
  apply scan_congr
  intro j j1 j2
  have hj : j < h := by omega
  unfold isTxn
  rw [at_take es h j hj]
theorem RdX.take {w : World} {ao : Option Addr} {n cap : Nat} {es : List Ent} (h : RdX w (.slice ao n cap) es) (k : Nat) (hk : k ≤ es.length) : RdX w (.slice ao k cap) (es.take k) := by
  obtain ⟨a1, c1, e, h1, h2, h4, h3⟩ := h
  simp only [Value.slice.injEq] at e
  obtain ⟨rfl, rfl, rfl⟩ := e
  have hl : (es.take k).length = k := by simp; omega
  refine ⟨ao, cap, by rw [hl], by omega, h2, h4, fun h0 => ?_⟩
  obtain ⟨g, off, rfl, hg⟩ := h3 (by omega)
  refine ⟨g, off, rfl, fun i hi j hj => ?_⟩
  rw [hl] at hi
  rw [hg i (by omega) j hj, List.getElem_take]

/-- What P3.4 answers. -/
def stf (es : List Ent) (h : Int) : Int × Int := if h < 0 ∨ (es.length : Int) < h then (0, 2) else (stb es h.toNat, 0)

set_option maxRecDepth 100000 in
set_option maxHeartbeats 2000000 in
theorem stableOf_any (es : List Ent) (v : Value) (h : Int) (w : World) (hl : (es.length : Int) ≤ 2199023255552) (hr : RdX w v es) :
    Calls Try.prog 124 #[v, .int .i64 h] w fun e w' => e = .returned (.tuple #[.int .i64 (stf es h).1, .int .i64 (stf es h).2]) ∧ Below w.heap.size w w' := by
  have hr' := hr
  obtain ⟨ao, cap, rfl, hc1, hc2, hc3, h3⟩ := hr'
  by_cases hh : h < 0 ∨ (es.length : Int) < h
  · have E : Hid (stf es h = (0, 2)) := show _ = _ by unfold stf; rw [if_pos hh]
    have hin : inR h 0 es.length = false := by unfold inR; simp; omega
    clear h3 hr hc1
    go_enter Try.func124, Try.ntmps124
    go_wp2_with fail
    refine (In_any _ _ _ _).mono ?_
    rintro e w' ⟨rfl, rfl⟩
    rw [hin]
    go_wp2
    go_ret2
    rw [E.out]
    exact ⟨rfl, Below.refl _ _⟩
  · obtain ⟨n, rfl⟩ := Int.eq_ofNat_of_zero_le (show 0 ≤ h by omega)
    have hn : n ≤ es.length := by omega
    have hn' : (n : Int) ≤ es.length := by omega
    have hin : inR n 0 es.length = true := by unfold inR; simp; omega
    have E1 : Hid (scan (begins es n) n 0 < 0 → stf es n = ((n : Int), 0)) := fun h => by unfold stf stb; rw [if_neg hh, Int.toNat_natCast, if_pos h]
    have E2 : Hid (∀ k : Nat, scan (begins es n) n 0 = k → stf es n = ((k : Int), 0)) := fun k h => by unfold stf stb; rw [if_neg hh, Int.toNat_natCast, h, if_neg (by omega)]; simp
    have HR : Hid (RdX w (.slice ao es.length cap) es) := hr
    have HRT : Hid (RdX w (.slice ao n cap) (es.take n)) := hr.take n hn
    have HOP : Hid (∀ p W, RdX W (.slice ao n cap) (es.take n) → _) := fun p W h => openOf_any (es.take n) (.slice ao n cap) p W (by simp; omega) h
    have HOE : Hid (∀ p, openN (es.take n) p (es.take n).length = openN es p n) := fun p => openN_take es p n hn
    have hcn : (n : Int) ≤ cap := by omega
    unfold maxLen at hc2
    clear hh hr hc1
    go_enter Try.func124, Try.ntmps124
    go_wp2_with fail
    refine (In_any _ _ _ _).mono ?_
    rintro e w' ⟨rfl, rfl⟩
    rw [hin]
    clear hin
    by_cases h0 : 0 < es.length
    · obtain ⟨g, off, rfl, hc⟩ := h3 h0
      have HC : Hid _ := hc
      clear hc h3
      go_wp2
      go_loopw [6] (fun i wr => ∃ k : Nat, k ≤ n ∧ i = .int .i64 k ∧ Hid (∀ j, 0 ≤ j → j < k → ¬ begins es n j) ∧ ∃ q, wr = w'.drewN q) (fun i _ => n - (intOf i).toNat)
      case atStart => exact ⟨0, by omega, rfl, fun j _ h => by omega, 0, rfl⟩
      case round =>
        obtain ⟨k, hk, rfl, HN, q, rfl⟩ := hrel
        by_cases hlt : k < n
        · obtain ⟨q0, q1, q2, q3, q4, q5, q6⟩ := RdX.cells HC.out k (by omega)
          have HT : Hid (begins es n k ↔ 0 < (Ent.at es k).b ∧ (Ent.at es k).k = 1 ∧ (Ent.at es k).t = true ∧ openN es (Ent.at es k).b n = k) := Iff.rfl
          generalize Ent.at es k = x at HT q0 q1 q2 q3 q4 q5 q6
          have hop := HOP.out x.b
          rw [HOE.out x.b] at hop
          have HOX : Hid _ := hop
          clear hop
          generalize openN es x.b n = op at HT HOX
          have hkl : (k : Int) < es.length := by omega
          have hkl2 : k < es.length := by omega
          have hk00 : (0 : Int) ≤ (k : Int) := by omega
          by_cases hx : 0 < x.b ∧ x.k = 1 ∧ x.t = true ∧ op = k
          · have E : Hid _ := E2.out k (scan_some (Nat.zero_le _) (by omega) (HT.out.2 hx) HN.out)
            obtain ⟨x1, x2, x3, x4⟩ := hx
            have x1' : decide (0 < x.b) = true := by simp [x1]
            have x2' : (x.k == 1) = true := by simp [x2]
            have x4' : (op == (k : Int)) = true := by simp [x4]
            clear x2 x4 HT HN E1 E2 x1
            go_wp2
            go_quiet ((go_at_call 116; exact (HOX.out _ (RdX.drewN HRT.out _)).mono fun _ _ h => ⟨h.1, _, h.2⟩))
            go_wp2
            go_ret2
            rw [E.out]
            exact ⟨rfl, below_drewN (below_drewN (Below.refl _ _) _) _⟩
          · have HNN : Hid (∀ j, 0 ≤ j → j < k + 1 → ¬ begins es n j) := fun j j1 j2 => by
              by_cases e : j = k
              · subst e; exact fun h => hx (HT.out.1 h)
              · exact HN.out j j1 (by omega)
            clear HN HT
            by_cases x1 : 0 < x.b
            · have x1' : decide (0 < x.b) = true := by simp [x1]
              by_cases x2 : x.k = 1
              · have x2' : (x.k == 1) = true := by simp [x2]
                by_cases x3 : x.t = true
                · have x4' : (op == (k : Int)) = false := by
                    rw [beq_eq_false_iff_ne]
                    exact fun h => hx ⟨x1, x2, x3, h⟩
                  clear x2 hx x1
                  go_wp2
                  go_quiet ((go_at_call 116; exact (HOX.out _ (RdX.drewN HRT.out _)).mono fun _ _ h => ⟨h.1, _, h.2⟩))
                  go_wp2
                  go_roundw
                  case rel => exact ⟨k + 1, by omega, by go_num, HNN, q + nq, rfl⟩
                  case measure => simp [intOf]; omega
                · have x3' : x.t = false := by simpa using x3
                  clear x2 x3 hx
                  go_wp2
                  go_quiet (fail)
                  go_wp2
                  go_roundw
                  case rel => exact ⟨k + 1, by omega, by go_num, HNN, q + nq, rfl⟩
                  case measure => simp [intOf]; omega
              · have x2' : (x.k == 1) = false := by simp [x2]
                clear x2 hx
                go_wp2
                go_quiet (fail)
                go_wp2
                go_roundw
                case rel => exact ⟨k + 1, by omega, by go_num, HNN, q + nq, rfl⟩
                case measure => simp [intOf]; omega
            · have x1' : decide (0 < x.b) = false := by simp; omega
              clear x1 hx
              go_wp2
              go_quiet (fail)
              go_wp2
              go_roundw
              case rel => exact ⟨k + 1, by omega, by go_num, HNN, q + nq, rfl⟩
              case measure => simp [intOf]; omega
        · have hke : k = n := by omega
          subst hke
          have E : Hid _ := E1.out (scan_none.2 (fun j j1 j2 => HN.out j j1 (by omega)))
          clear HN E1 E2
          go_wp2
          go_ret2
          rw [E.out]
          exact ⟨rfl, below_drewN (Below.refl _ _) _⟩
    · have hn0 : n = 0 := by omega
      subst hn0
      have E : Hid _ := E1.out (by show (-1 : Int) < 0; omega)
      clear E1 E2 h0 h3 HOP HOE
      go_wp2
      refine wp_loop_rounds 1 ?_
      rw [rounds_succ]
      go_wp2
      go_ret2
      rw [E.out]
      exact ⟨rfl, Below.refl _ _⟩

end Go.Proofs.Ytkakagjffafdiaa
