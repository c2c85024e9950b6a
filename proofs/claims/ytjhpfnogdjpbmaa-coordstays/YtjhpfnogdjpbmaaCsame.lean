/-
  The law's sameInts and sameCoord of what is the same.
-/
import Derived.Test.YtjhpfnogdjpbmaaCref
namespace Go.Proofs.Ytjhpfnogdjpbmaa
open Go.RowKit
set_option linter.unusedVariables false
set_option linter.unusedSimpArgs false

theorem ints_get (l : List Int) (i : Nat) (h : i < l.length) (h' : i < (ints l).length) : (ints l)[i]'h' = .int .i64 (l[i]'h) := by simp [ints]
/-- A number of a row that reads as l. -/
theorem RdV.intCell {w : World} {ao : Option Addr} {n cap : Nat} {l : List Int} (h : RdV w (.slice ao n cap) (ints l)) (i : Nat) (hi : i < l.length) : ∃ g off, ao = some ⟨g, off, none⟩ ∧ w.cell? ⟨g, off + i, none⟩ = some (.int .i64 (l[i]'hi)) := by
  obtain ⟨g, off, e, _, hc⟩ := h.cellAt i (by rw [ints_len]; exact hi)
  exact ⟨g, off, e, by rw [hc, ints_get]⟩
theorem RdV.intShape {w : World} {v : Value} {l : List Int} (h : RdV w v (ints l)) : ∃ ao cap, v = .slice ao l.length cap ∧ (l.length : Int) ≤ 9223372036854775807 := by
  obtain ⟨ao, cap, e, h1, h2, _⟩ := h
  rw [ints_len] at e h1
  unfold maxLen at h2
  exact ⟨ao, cap, e, by omega⟩

set_option maxRecDepth 100000 in
set_option maxHeartbeats 1000000 in
theorem csameInts_same (xs : List Int) (v u : Value) (w : World) (hv : RdV w v (ints xs)) (hu : RdV w u (ints xs)) :
    Calls Try.prog 43 #[v, u] w fun e w' => e = .returned (.bool true) ∧ Below w.heap.size w w' := by
  obtain ⟨a1, c1, rfl, l1⟩ := hv.intShape
  obtain ⟨a2, c2, rfl, _⟩ := hu.intShape
  have hne : ((xs.length : Int) != xs.length) = false := by simp
  have HV : Hid _ := hv
  have HU : Hid _ := hu
  clear hv hu
  go_enter Try.func43, Try.ntmps43
  go_wp2
  go_loopw [5] (fun i wr => ∃ k : Nat, k ≤ xs.length ∧ i = .int .i64 k ∧ ∃ q, wr = w.drewN q) (fun i _ => xs.length - (intOf i).toNat)
  case atStart => exact ⟨0, by omega, rfl, 0, rfl⟩
  case round =>
    obtain ⟨k, hk, rfl, q, rfl⟩ := hrel
    by_cases hlt : k < xs.length
    · obtain ⟨g1, o1, rfl, m1⟩ := RdV.intCell HV.out k hlt
      obtain ⟨g2, o2, rfl, m2⟩ := RdV.intCell HU.out k hlt
      have hlt' : (k : Int) < xs.length := by omega
      generalize xs[k]'hlt = x at *
      have hx : (x != x) = false := by simp
      go_wp2
      go_quiet (fail)
      go_wp2
      go_roundw
      case rel => exact ⟨k + 1, by omega, by go_num, q + nq, rfl⟩
      case measure => simp [intOf]; omega
    · go_wp2
      go_ret
      exact ⟨rfl, below_drewN (Below.refl _ _) _⟩

set_option maxRecDepth 100000 in
set_option maxHeartbeats 2000000 in
theorem sameCoord_same (c : Crd) (va vb : Value) (ua ub : Nat → Value) (w : World) (ha : RdC w c va ua) (hb : RdC w c vb ub) :
    Calls Try.prog 19 #[.agg #[.int .i64 c.ck, .int .i64 c.nx, .int .i64 c.wt, va], .agg #[.int .i64 c.ck, .int .i64 c.nx, .int .i64 c.wt, vb]] w fun e w' => e = .returned (.bool true) ∧ Below w.heap.size w w' := by
  obtain ⟨aa, ca, rfl, hl1, hl2⟩ := ha.shape
  obtain ⟨ab, cb, rfl, _, _⟩ := hb.shape
  unfold maxLen at hl2
  have hll : (c.ts.length : Int) ≤ 9223372036854775807 := by omega
  have HA : Hid (∀ W, Below w.heap.size w W → RdC W c (.slice aa c.ts.length ca) ua) := fun W hW => ha.below (Nat.le_refl _) hW
  have HB : Hid (∀ W, Below w.heap.size w W → RdC W c (.slice ab c.ts.length cb) ub) := fun W hW => hb.below (Nat.le_refl _) hW
  have hne : ((c.ts.length : Int) != c.ts.length) = false := by simp
  clear ha hb hl1 hl2
  go_enter Try.func19, Try.ntmps19
  go_wp2
  have HS : Hid (Below w.heap.size w ((w.alloc (.cells #[.int .i64 c.ck, .int .i64 c.nx, .int .i64 c.wt, .slice aa c.ts.length ca] 24)).alloc (.cells #[.int .i64 c.ck, .int .i64 c.nx, .int .i64 c.wt, .slice ab c.ts.length cb] 24)) ∧ CB ((w.alloc (.cells #[.int .i64 c.ck, .int .i64 c.nx, .int .i64 c.wt, .slice aa c.ts.length ca] 24)).alloc (.cells #[.int .i64 c.ck, .int .i64 c.nx, .int .i64 c.wt, .slice ab c.ts.length cb] 24)) w.heap.size c (.slice aa c.ts.length ca) ∧ CB ((w.alloc (.cells #[.int .i64 c.ck, .int .i64 c.nx, .int .i64 c.wt, .slice aa c.ts.length ca] 24)).alloc (.cells #[.int .i64 c.ck, .int .i64 c.nx, .int .i64 c.wt, .slice ab c.ts.length cb] 24)) (w.heap.size + 1) c (.slice ab c.ts.length cb)) := by
    have e1 : (w.alloc (.cells #[.int .i64 c.ck, .int .i64 c.nx, .int .i64 c.wt, .slice aa c.ts.length ca] 24)).heap.size = w.heap.size + 1 := by simp
    have s0 := cb_new w c (.slice aa c.ts.length ca) 24 w.heap.size rfl
    exact ⟨bstep (bbox _ _) (bbox _ _), s0.below s0.1 (bbox _ _), cb_new _ c (.slice ab c.ts.length cb) 24 (w.heap.size + 1) e1.symm⟩
  generalize (w.alloc (.cells #[.int .i64 c.ck, .int .i64 c.nx, .int .i64 c.wt, .slice aa c.ts.length ca] 24)).alloc (.cells #[.int .i64 c.ck, .int .i64 c.nx, .int .i64 c.wt, .slice ab c.ts.length cb] 24) = W0 at *
  go_loopw [5] (fun i wr => ∃ k : Nat, k ≤ c.ts.length ∧ i = .int .i64 k ∧ Hid (Below w.heap.size w wr ∧ CB wr w.heap.size c (.slice aa c.ts.length ca) ∧ CB wr (w.heap.size + 1) c (.slice ab c.ts.length cb))) (fun i _ => c.ts.length - (intOf i).toNat)
  case atStart => exact ⟨0, by omega, rfl, HS⟩
  case round =>
    obtain ⟨k, hk, rfl, HR⟩ := hrel
    obtain ⟨hbel, ⟨s1, ⟨a0, a1, a2, a3⟩, f1⟩, ⟨z1, ⟨e0, e1, e2, e3⟩, g1⟩⟩ := HR.out
    by_cases hlt : k < c.ts.length
    rotate_left
    · have HBL : Hid (Below w.heap.size w wr) := hbel
      clear hbel
      go_wp2
      go_ret
      exact ⟨rfl, HBL.out⟩
    have hltv : (k : Int) < c.ts.length := by omega
    obtain ⟨gx, ox, rfl, hx, x0, x1, x2, x3, x4, x5, x6⟩ := (HA.out wr hbel).txn k hlt
    obtain ⟨gy, oy, rfl, hy, y0, y1, y2, y3, y4, y5, y6⟩ := (HB.out wr hbel).txn k hlt
    have hgx := cell_lt x0
    have hgy := cell_lt y0
    obtain ⟨t, ht⟩ : ∃ t, c.ts[k]'hlt = t := ⟨_, rfl⟩
    rw [ht] at hx x0 x1 x2 x3 x5 x6 hy y0 y1 y2 y3 y5 y6
    obtain ⟨p, hp⟩ : ∃ p, ua k = p := ⟨_, rfl⟩
    obtain ⟨q, hq⟩ : ∃ q, ub k = q := ⟨_, rfl⟩
    rw [hp] at hx x4
    rw [hq] at hy y4
    obtain ⟨ap, cp, rfl, _⟩ := hx.intShape
    obtain ⟨aq, cq, rfl, _⟩ := hy.intShape
    have HX : Hid (∀ W, Below wr.heap.size wr W → RdV W (.slice ap t.ps.length cp) (ints t.ps)) := fun W hW => hx.below (Nat.le_refl _) hW
    have HY : Hid (∀ W, Below wr.heap.size wr W → RdV W (.slice aq t.ps.length cq) (ints t.ps)) := fun W hW => hy.below (Nat.le_refl _) hW
    have HRB : Hid (∀ W, Below wr.heap.size wr W → Below w.heap.size w W ∧ CB W w.heap.size c (.slice (some ⟨gx, ox, none⟩) c.ts.length ca) ∧ CB W (w.heap.size + 1) c (.slice (some ⟨gy, oy, none⟩) c.ts.length cb)) := fun W hW => ⟨bstep HR.out.1 hW, HR.out.2.1.below HR.out.2.1.1 hW, HR.out.2.2.below HR.out.2.2.1 hW⟩
    clear ht hp hq hx hy hbel
    go_wp2_with fail
    refine (csameInts_same t.ps _ _ _ (HX.out _ (bstep (bbox _ _) (bbox _ _))) (HY.out _ (bstep (bbox _ _) (bbox _ _)))).mono ?_
    rintro e w5 ⟨rfl, hb5⟩
    have HR5 : Hid _ := HRB.out w5 (bstep (bstep (bbox _ _) (bbox _ _)) hb5)
    clear hb5
    go_wp2
    go_roundw
    case rel => exact ⟨k + 1, by omega, by go_num, HR5⟩
    case measure => simp [intOf]; omega

end Go.Proofs.Ytjhpfnogdjpbmaa
