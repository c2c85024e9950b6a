/-
  The law's sameInts and sameGroup of what is the same.
-/
import Derived.Test.YtmkbbhdmfpjfdaaGref
import Derived.BigQuiet
namespace Go.Proofs.Ytmkbbhdmfpjfdaa
open Go.RowKit
set_option linter.unusedVariables false
set_option linter.unusedSimpArgs false

set_option maxRecDepth 100000 in
set_option maxHeartbeats 1000000 in
theorem csameInts_same (xs : List Int) (v u : Value) (w : World) (hv : RdV w v (ints xs)) (hu : RdV w u (ints xs)) :
    Calls Try.prog 49 #[v, u] w fun e w' => e = .returned (.bool true) ∧ Below w.heap.size w w' := by
  obtain ⟨a1, c1, rfl, l1⟩ := hv.intShape
  obtain ⟨a2, c2, rfl, _⟩ := hu.intShape
  have hne : ((xs.length : Int) != xs.length) = false := by simp
  have HV : Hid _ := hv
  have HU : Hid _ := hu
  clear hv hu
  go_enter Try.func49, Try.ntmps49
  go_wp2
  go_loopw [5] (fun i wr => ∃ k : Nat, k ≤ xs.length ∧ i = .int .i64 k ∧ ∃ q, wr = w.drewN q) (fun i _ => xs.length - (intOf i).toNat)
  case atStart => exact ⟨0, by omega, rfl, 0, rfl⟩
  case round =>
    obtain ⟨k, hk, rfl, q, rfl⟩ := hrel
    by_cases hlt : k < xs.length
    · obtain ⟨g1, o1, rfl, m1⟩ := RdV.intCell HV.out k hlt
      obtain ⟨g2, o2, rfl, m2⟩ := RdV.intCell HU.out k hlt
      have hlt' : (k : Int) < xs.length := by omega
      generalize xs[k]'hlt = x at *
      have hx : (x != x) = false := by simp
      go_wp2
      go_quiet (fail)
      go_wp2
      go_roundw
      case rel => exact ⟨k + 1, by omega, by go_num, q + nq, rfl⟩
      case measure => simp [intOf]; omega
    · go_wp2
      go_ret
      exact ⟨rfl, below_drewN (Below.refl _ _) _⟩


set_option maxRecDepth 100000 in
set_option maxHeartbeats 4000000 in
theorem sameGroup_same (g : Grp) (va oa vb ob : Value) (ua ub : Nat → Value) (w : World) (ha : RdG w g va oa ua) (hb : RdG w g vb ob ub) :
    Calls Try.prog 20 #[.agg #[.int .i64 g.ck, .int .i64 g.wt, .int .i64 g.gn, va, oa], .agg #[.int .i64 g.ck, .int .i64 g.wt, .int .i64 g.gn, vb, ob]] w fun e w' => e = .returned (.bool true) ∧ Below w.heap.size w w' := by
  obtain ⟨aa, ca, rfl, hl1, hl2⟩ := ha.m.shape
  obtain ⟨ab, cb, rfl, _, _⟩ := hb.m.shape
  obtain ⟨a7, c7, rfl, ho1, ho2⟩ := ha.o.shape
  obtain ⟨a8, c8, rfl, _, _⟩ := hb.o.shape
  unfold maxLen at hl2 ho2
  have hll : (g.ms.length : Int) ≤ 9223372036854775807 := by omega
  have hlo : (g.os.length : Int) ≤ 9223372036854775807 := by omega
  have HA : Hid (∀ W, Below w.heap.size w W → RdG W g (.slice aa g.ms.length ca) (.slice a7 g.os.length c7) ua) := fun W hW => ha.below (Nat.le_refl _) hW
  have HB : Hid (∀ W, Below w.heap.size w W → RdG W g (.slice ab g.ms.length cb) (.slice a8 g.os.length c8) ub) := fun W hW => hb.below (Nat.le_refl _) hW
  have hne : ((g.ms.length : Int) != g.ms.length) = false := by simp
  have hne2 : ((g.os.length : Int) != g.os.length) = false := by simp
  have hck : (g.ck != g.ck) = false := by simp
  have hwt : (g.wt != g.wt) = false := by simp
  have hgn : (g.gn != g.gn) = false := by simp
  clear ha hb hl1 hl2 ho1 ho2
  go_enter Try.func20, Try.ntmps20
  go_upto_region 1 with fail
  have HS : Hid (Below w.heap.size w ((w.alloc (.cells #[.int .i64 g.ck, .int .i64 g.wt, .int .i64 g.gn, .slice aa g.ms.length ca, .slice a7 g.os.length c7] 25)).alloc (.cells #[.int .i64 g.ck, .int .i64 g.wt, .int .i64 g.gn, .slice ab g.ms.length cb, .slice a8 g.os.length c8] 25)) ∧ GB ((w.alloc (.cells #[.int .i64 g.ck, .int .i64 g.wt, .int .i64 g.gn, .slice aa g.ms.length ca, .slice a7 g.os.length c7] 25)).alloc (.cells #[.int .i64 g.ck, .int .i64 g.wt, .int .i64 g.gn, .slice ab g.ms.length cb, .slice a8 g.os.length c8] 25)) w.heap.size g (.slice aa g.ms.length ca) (.slice a7 g.os.length c7) ∧ GB ((w.alloc (.cells #[.int .i64 g.ck, .int .i64 g.wt, .int .i64 g.gn, .slice aa g.ms.length ca, .slice a7 g.os.length c7] 25)).alloc (.cells #[.int .i64 g.ck, .int .i64 g.wt, .int .i64 g.gn, .slice ab g.ms.length cb, .slice a8 g.os.length c8] 25)) (w.heap.size + 1) g (.slice ab g.ms.length cb) (.slice a8 g.os.length c8)) := by
    have e1 : (w.alloc (.cells #[.int .i64 g.ck, .int .i64 g.wt, .int .i64 g.gn, .slice aa g.ms.length ca, .slice a7 g.os.length c7] 25)).heap.size = w.heap.size + 1 := by simp
    have s0 := gb_new w g (.slice aa g.ms.length ca) (.slice a7 g.os.length c7) w.heap.size rfl
    exact ⟨bstep (bbox _ _) (bbox _ _), s0.below s0.1 (bbox _ _), gb_new _ g (.slice ab g.ms.length cb) (.slice a8 g.os.length c8) (w.heap.size + 1) e1.symm⟩
  generalize (w.alloc (.cells #[.int .i64 g.ck, .int .i64 g.wt, .int .i64 g.gn, .slice aa g.ms.length ca, .slice a7 g.os.length c7] 25)).alloc (.cells #[.int .i64 g.ck, .int .i64 g.wt, .int .i64 g.gn, .slice ab g.ms.length cb, .slice a8 g.os.length c8] 25) = W0 at *
  have HBE : Hid (∀ W W', (Below w.heap.size w W ∧ GB W w.heap.size g (.slice aa g.ms.length ca) (.slice a7 g.os.length c7) ∧ GB W (w.heap.size + 1) g (.slice ab g.ms.length cb) (.slice a8 g.os.length c8)) → Below W.heap.size W W' → (Below w.heap.size w W' ∧ GB W' w.heap.size g (.slice aa g.ms.length ca) (.slice a7 g.os.length c7) ∧ GB W' (w.heap.size + 1) g (.slice ab g.ms.length cb) (.slice a8 g.os.length c8))) := fun W W' h hW => ⟨bstep h.1 hW, h.2.1.below h.2.1.1 hW, h.2.2.below h.2.2.1 hW⟩
  obtain ⟨-, ⟨s1, ⟨a0, a1, a2, a3, a4⟩, f1⟩, ⟨z1, ⟨e0, e1, e2, e3, e4⟩, g1⟩⟩ := HS.out
  go_wp2
  clear a0 a1 a2 a3 a4 f1 s1 z1 e0 e1 e2 e3 e4 g1 hck hwt hgn
  go_loopw [5] (fun i wr => ∃ k : Nat, k ≤ g.ms.length ∧ i = .int .i64 k ∧ Hid (Below w.heap.size w wr ∧ GB wr w.heap.size g (.slice aa g.ms.length ca) (.slice a7 g.os.length c7) ∧ GB wr (w.heap.size + 1) g (.slice ab g.ms.length cb) (.slice a8 g.os.length c8))) (fun i _ => g.ms.length - (intOf i).toNat)
  case atStart => exact ⟨0, by omega, rfl, HS⟩
  case round =>
    obtain ⟨k, hk, rfl, HR⟩ := hrel
    obtain ⟨hbel, ⟨s1, ⟨a0, a1, a2, a3, a4⟩, f1⟩, ⟨z1, ⟨e0, e1, e2, e3, e4⟩, g1⟩⟩ := HR.out
    by_cases hlt : k < g.ms.length
    rotate_left
    · have hkv : ¬ (k : Int) < g.ms.length := by omega
      clear hbel
      go_wp2
      clear a0 a1 a2 a3 a4 f1 s1 z1 e0 e1 e2 e3 e4 g1
      rename World => w4
      go_loopw [8] (fun i wr => ∃ n : Nat, n ≤ g.os.length ∧ i = .int .i64 n ∧ Hid (Below w.heap.size w wr ∧ GB wr w.heap.size g (.slice aa g.ms.length ca) (.slice a7 g.os.length c7) ∧ GB wr (w.heap.size + 1) g (.slice ab g.ms.length cb) (.slice a8 g.os.length c8))) (fun i _ => g.os.length - (intOf i).toNat)
      case atStart => exact ⟨0, by omega, rfl, HR⟩
      case round =>
        obtain ⟨n, hn, rfl, HR⟩ := hrel
        obtain ⟨hbel, ⟨s1, ⟨a0, a1, a2, a3, a4⟩, f1⟩, ⟨z1, ⟨e0, e1, e2, e3, e4⟩, g1⟩⟩ := HR.out
        by_cases hlt2 : n < g.os.length
        · have hltv : (n : Int) < g.os.length := by omega
          obtain ⟨gx, ox, x, rfl, HX, -, x0, x1⟩ := (HA.out wr hbel).ofsAt n hlt2
          obtain ⟨gy, oy, y, rfl, HY, -, y0, y1⟩ := (HB.out wr hbel).ofsAt n hlt2
          obtain rfl : x = y := HX.out.symm.trans HY.out
          have hx1 : (x.pt != x.pt) = false := by simp
          have hx2 : (x.pl != x.pl) = false := by simp
          clear hbel
          have HRQ : Hid (∀ q, (Below w.heap.size w (wr.drewN q) ∧ GB (wr.drewN q) w.heap.size g (.slice aa g.ms.length ca) (.slice (some ⟨gx, ox, none⟩) g.os.length c7) ∧ GB (wr.drewN q) (w.heap.size + 1) g (.slice ab g.ms.length cb) (.slice (some ⟨gy, oy, none⟩) g.os.length c8))) := fun q => HBE.out wr _ HR.out (below_drewN (Below.refl _ _) q)
          go_wp2
          go_quiet (fail)
          go_wp2
          go_roundw
          case rel => exact ⟨n + 1, by omega, by go_num, HRQ.out _⟩
          case measure => simp [intOf]; omega
        · have HBL : Hid (Below w.heap.size w wr) := hbel
          have hnv : ¬ (n : Int) < g.os.length := by omega
          clear hbel
          go_wp2
          go_ret
          exact ⟨rfl, HBL.out⟩
    have hltv : (k : Int) < g.ms.length := by omega
    obtain ⟨gx, ox, t, ap, cp, rfl, HX, -, HXR, -, -, x0, x1, x2⟩ := (HA.out wr hbel).memAt k hlt
    obtain ⟨gy, oy, t', aq, cq, rfl, HY, -, HYR, -, -, y0, y1, y2⟩ := (HB.out wr hbel).memAt k hlt
    obtain rfl : t = t' := HX.out.symm.trans HY.out
    have hgx := cell_lt x0
    have hgy := cell_lt y0
    have HX : Hid (∀ W, Below wr.heap.size wr W → RdV W (.slice ap t.ps.length cp) (ints t.ps)) := fun W hW => HXR.out.below (Nat.le_refl _) hW
    have HY : Hid (∀ W, Below wr.heap.size wr W → RdV W (.slice aq t.ps.length cq) (ints t.ps)) := fun W hW => HYR.out.below (Nat.le_refl _) hW
    have ht1 : (t.hd != t.hd) = false := by simp
    clear hbel HXR HYR
    go_wp2_with fail
    refine (csameInts_same t.ps _ _ _ (HX.out _ (bstep (bbox _ _) (bbox _ _))) (HY.out _ (bstep (bbox _ _) (bbox _ _)))).mono ?_
    rintro e w5 ⟨rfl, hb5⟩
    have HR5 : Hid _ := HBE.out wr w5 HR.out (bstep (bstep (bbox _ _) (bbox _ _)) hb5)
    clear hb5
    go_wp2
    go_roundw
    case rel => exact ⟨k + 1, by omega, by go_num, HR5⟩
    case measure => simp [intOf]; omega

end Go.Proofs.Ytmkbbhdmfpjfdaa
