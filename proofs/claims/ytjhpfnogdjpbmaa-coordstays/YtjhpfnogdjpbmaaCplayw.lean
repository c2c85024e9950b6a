/-
  The walk of coordinated: what is done to a coordinator by raw numbers; it stays one that may be.
-/
import Derived.Test.YtjhpfnogdjpbmaaCplay
import Derived.Test.YtjhpfnogdjpbmaaCtick
import Derived.Test.YtjhpfnogdjpbmaaCinit
import Derived.Test.YtjhpfnogdjpbmaaCnext2
import Derived.Test.YtjhpfnogdjpbmaaCdone
import Derived.Test.YtjhpfnogdjpbmaaClaw1
import Derived.Test.YtjhpfnogdjpbmaaEraw
import Derived.Test.YtjhpfnogdjpbmaaRmono
import Derived.Deep.CutBlock
import Derived.Deep.RegionHeld3
namespace Go.Proofs.Ytjhpfnogdjpbmaa
open Go.RowKit
set_option linter.unusedVariables false
set_option linter.unusedSimpArgs false

def EBX (W : World) (p : Nat) : Prop := p < W.heap.size ∧ (∃ x0 x1 x2 x3 x4 x5 x6, W.cell? ⟨p, 0, none⟩ = some x0 ∧ W.cell? ⟨p, 1, none⟩ = some x1 ∧ W.cell? ⟨p, 2, none⟩ = some x2 ∧ W.cell? ⟨p, 3, none⟩ = some x3 ∧ W.cell? ⟨p, 4, none⟩ = some x4 ∧ W.cell? ⟨p, 5, none⟩ = some x5 ∧ W.cell? ⟨p, 6, none⟩ = some x6) ∧ ∀ o, W.frozen? ⟨p, o, none⟩ = false
theorem EBX.below {W W' : World} {p : Nat} (h : EBX W p) (hb : Below W.heap.size W W') : EBX W' p := by
  obtain ⟨hc, hf⟩ := bcell hb
  obtain ⟨s, ⟨x0, x1, x2, x3, x4, x5, x6, a0, a1, a2, a3, a4, a5, a6⟩, f0⟩ := h
  exact ⟨Nat.lt_of_lt_of_le s hb.size, ⟨x0, x1, x2, x3, x4, x5, x6, (hc _ _ s).trans a0, (hc _ _ s).trans a1, (hc _ _ s).trans a2, (hc _ _ s).trans a3, (hc _ _ s).trans a4, (hc _ _ s).trans a5, (hc _ _ s).trans a6⟩, fun o => (hf _ _ s).trans (f0 o)⟩
theorem cell_some_set {W : World} {p q o o' : Nat} {v : Value} (x : Value) (h : W.cell? ⟨p, o', none⟩ = some v) : ∃ v', (W.setCell ⟨q, o, none⟩ x).cell? ⟨p, o', none⟩ = some v' := by
  by_cases e : p = q
  · subst e
    by_cases e2 : o' = o
    · subst e2
      exact ⟨x, by simp [go_sem, h]⟩
    · exact ⟨v, by simp [go_sem, h, e2]⟩
  · exact ⟨v, (cell_far e _ _ _).trans h⟩
theorem EBX.set {W : World} {p : Nat} (h : EBX W p) (q o : Nat) (x : Value) : EBX (W.setCell ⟨q, o, none⟩ x) p := by
  obtain ⟨s, ⟨x0, x1, x2, x3, x4, x5, x6, a0, a1, a2, a3, a4, a5, a6⟩, f0⟩ := h
  obtain ⟨y0, b0⟩ := cell_some_set (q := q) (o := o) x a0
  obtain ⟨y1, b1⟩ := cell_some_set (q := q) (o := o) x a1
  obtain ⟨y2, b2⟩ := cell_some_set (q := q) (o := o) x a2
  obtain ⟨y3, b3⟩ := cell_some_set (q := q) (o := o) x a3
  obtain ⟨y4, b4⟩ := cell_some_set (q := q) (o := o) x a4
  obtain ⟨y5, b5⟩ := cell_some_set (q := q) (o := o) x a5
  obtain ⟨y6, b6⟩ := cell_some_set (q := q) (o := o) x a6
  exact ⟨by simpa using s, ⟨y0, y1, y2, y3, y4, y5, y6, b0, b1, b2, b3, b4, b5, b6⟩, fun o' => by rw [← f0 o']; simp [go_sem]⟩
theorem ebx_new (w : World) (T : TypeId) : EBX (w.alloc (.cells #[.int .i64 0, .int .i64 0, .int .i64 0, .int .i64 0, .int .i64 0, .bool false, .string ⟨#[]⟩] T)) w.heap.size :=
  ⟨by simp, ⟨_, _, _, _, _, _, _, by simp; rfl, by simp; rfl, by simp; rfl, by simp; rfl, by simp; rfl, by simp; rfl, by simp; rfl⟩, fun o => by simp [go_sem]⟩
theorem next_nm {c : Crd} (h : c.fits) (n : Int) : (c.nextP n).1.size ≤ maxLen := by
  unfold Crd.nextP
  split
  · decide
  · split
    · decide
    · exact h.n.at _
theorem below_put4K {K : Nat} {w W : World} {b : Nat} (h : Below K w W) (hb : K ≤ b) (c : Crd) (v : Value) : Below K w (put4 W b c v) := by
  unfold put4
  exact (((h.setCell (p := ⟨b, 0, none⟩) hb _).setCell (p := ⟨b, 1, none⟩) hb _).setCell (p := ⟨b, 2, none⟩) hb _).setCell (p := ⟨b, 3, none⟩) hb _

set_option maxRecDepth 100000 in
set_option maxHeartbeats 16000000 in
theorem coordinated_any (rs : List Raw4) (most : Nat) (v : Value) (w : World) (h : RdR w v rs) (hl : (rs.length : Int) ≤ 9223372036854775807) (hm : most ≤ 100) :
    Calls Try.prog 36 #[v, .int .i64 most] w fun e w' => ∃ c vt us, e = .returned (.tuple #[.agg #[.int .i64 (Crd.ck c), .int .i64 c.nx, .int .i64 c.wt, vt], .bool true]) ∧ CoP isName3 c ∧ RdC w' c vt us ∧ Below w.heap.size w w' := by
  obtain ⟨hok, ao, cap, rfl, hcells⟩ := h
  have HOK : Hid (∀ r ∈ rs, r.ok) := hok
  have HCL : Hid (0 < rs.length → ∃ b off, ao = some ⟨b, off, none⟩ ∧ ∀ i, (h : i < rs.length) →
    w.cell? ⟨b, off + i * 4, none⟩ = some (.int .i64 (rs[i]'h).k) ∧ w.cell? ⟨b, off + i * 4 + 1, none⟩ = some (.int .i64 (rs[i]'h).a) ∧ w.cell? ⟨b, off + i * 4 + 2, none⟩ = some (.int .i64 (rs[i]'h).b) ∧ w.cell? ⟨b, off + i * 4 + 3, none⟩ = some (.int .i64 (rs[i]'h).c)) := hcells
  have hmI : (most : Int) ≤ 100 := by omega
  clear hok hcells
  go_enter Try.func36, Try.ntmps36
  go_wp2_with fail
  have HZ0 : Hid (CB (w.alloc (.cells #[.int .i64 0, .int .i64 0, .int .i64 0, .slice none 0 0] 24)) w.heap.size Crd.zero (.slice none 0 0)) := cb_new w Crd.zero (.slice none 0 0) 24 w.heap.size rfl
  have HB0 : Hid (Below w.heap.size w (w.alloc (.cells #[.int .i64 0, .int .i64 0, .int .i64 0, .slice none 0 0] 24))) := bbox _ _
  generalize w.alloc (.cells #[.int .i64 0, .int .i64 0, .int .i64 0, .slice none 0 0] 24) = W0 at *
  refine (cnew_any 10 _).mono ?_
  rintro e w1 ⟨rfl, hb1⟩
  have HN10 : Hid (newC 10 = (⟨0, 1, 10, []⟩, 0)) := show _ = _ from rfl
  rw [HN10.out]
  have HC2 : Hid (CB (w1.alloc (.cells #[.int .i64 0, .int .i64 1, .int .i64 10, .slice none 0 0] 24)) w1.heap.size ⟨0, 1, 10, []⟩ (.slice none 0 0)) := cb_new w1 ⟨0, 1, 10, []⟩ (.slice none 0 0) 24 w1.heap.size rfl
  have HZ2 : Hid (CB (w1.alloc (.cells #[.int .i64 0, .int .i64 1, .int .i64 10, .slice none 0 0] 24)) w.heap.size Crd.zero (.slice none 0 0)) := (HZ0.out.below HZ0.out.1 hb1).below (C := w1.heap.size) (Nat.lt_of_lt_of_le HZ0.out.1 hb1.size) (bbox _ _)
  have HB2 : Hid (Below w.heap.size w (w1.alloc (.cells #[.int .i64 0, .int .i64 1, .int .i64 10, .slice none 0 0] 24))) := bstep (bstep HB0.out hb1) (bbox _ _)
  have HCW := HC2
  have hwb : w.heap.size < w1.heap.size := Nat.lt_of_lt_of_le HZ0.out.1 hb1.size
  have HCO0 : Hid (CoP isName3 ⟨0, 1, 10, []⟩) := by
    refine ⟨⟨?_, ?_, ?_, ?_, ?_, ?_, ?_, fun i hi => ?_, fun i k hi => ?_⟩, fun i hi => ?_, rfl⟩
    all_goals first | (simp at hi; done) | (show (_ : Int) ≤ _; decide) | (show (_ : Nat) ≤ _; decide)
  clear hb1
  go_upto_region 3 with fail
  generalize w1.alloc (.cells #[.int .i64 0, .int .i64 1, .int .i64 10, .slice none 0 0] 24) = W2 at *
  generalize w1.heap.size = b at *
  go_wp2
  go_loopw [9] (fun i W => ∃ k : Nat, k ≤ rs.length ∧ k ≤ most ∧ i = .int .i64 k ∧ Hid (∃ c vt us, CoP isName3 c ∧ CB W b c vt ∧ FreshC W2.heap.size W c vt us ∧ CB W w.heap.size Crd.zero (.slice none 0 0) ∧ Below w.heap.size w W ∧ W2.heap.size ≤ W.heap.size)) (fun i _ => rs.length - (intOf i).toNat)
  case atStart => exact ⟨0, Nat.zero_le _, Nat.zero_le _, rfl, ⟨_, _, fun _ => .slice none 0 0, HCO0.out, HC2.out, freshC_nil' _ rfl (Nat.le_refl _), HZ2.out, HB2.out, Nat.le_refl _⟩⟩
  case round =>
    obtain ⟨k, hk, hkm, rfl, HI⟩ := hrel
    obtain ⟨c, vt, us, hC, hCB, hFC, hZB, hBB, hss⟩ := HI.out
    obtain ⟨ac, cc, rfl⟩ := hFC.shapeOf
    have HC : Hid (CoP isName3 c) := hC
    have HCB : Hid (CB wr b c (.slice ac c.ts.length cc)) := hCB
    have HFC : Hid (FreshC W2.heap.size wr c (.slice ac c.ts.length cc) us) := hFC
    have HZB : Hid (CB wr w.heap.size Crd.zero (.slice none 0 0)) := hZB
    have HBB : Hid (Below w.heap.size w wr) := hBB
    have h8 : (c.ts.length : Int) ≤ 8 := by have := hC.m.n8; omega
    have HFT : Hid c.fits := mayC_fits hC.m
    clear HI hC hCB hFC hZB hBB
    obtain ⟨s1, ⟨a0, a1, a2, a3⟩, f1⟩ := HCB.out
    obtain ⟨z1, ⟨e0, e1, e2, e3⟩, g1⟩ := HZB.out
    by_cases hc : k < rs.length ∧ k < most
    rotate_left
    · by_cases h1 : k < rs.length
      · have h1' : (k : Int) < rs.length := by omega
        have h2' : ¬ (k : Int) < most := by omega
        have d1 : decide ((k : Int) < (rs.length : Int)) = true := by simp; omega
        have d2 : decide ((k : Int) < (most : Int)) = false := by simp; omega
        clear hc
        go_wp2
        exact bodyPost_ret (v := .tuple #[.agg #[.int .i64 c.ck, .int .i64 c.nx, .int .i64 c.wt, .slice ac c.ts.length cc], .bool true]) (by simp [results, Try.results36, go_sem, e0, e1, e2, e3]) rfl ⟨c, _, rfl, HC.out, ⟨us, FreshC.rd (FreshC.put4 HFC.out HZ2.out.1 c (.slice ac c.ts.length cc))⟩, below_put4 HBB.out (Nat.le_refl _) c _⟩
      · have h1' : ¬ (k : Int) < rs.length := by omega
        have d1 : decide ((k : Int) < (rs.length : Int)) = false := by simp; omega
        clear hc
        go_wp2
        exact bodyPost_ret (v := .tuple #[.agg #[.int .i64 c.ck, .int .i64 c.nx, .int .i64 c.wt, .slice ac c.ts.length cc], .bool true]) (by simp [results, Try.results36, go_sem, e0, e1, e2, e3]) rfl ⟨c, _, rfl, HC.out, ⟨us, FreshC.rd (FreshC.put4 HFC.out HZ2.out.1 c (.slice ac c.ts.length cc))⟩, below_put4 HBB.out (Nat.le_refl _) c _⟩
    obtain ⟨hc1, hc2⟩ := hc
    have hc1' : (k : Int) < rs.length := by omega
    have hc2' : (k : Int) < most := by omega
    obtain ⟨gl, ol, rfl, hcl⟩ := HCL.out (by omega)
    obtain ⟨r0, r1, r2, r3⟩ := hcl k hc1
    obtain ⟨r, hr⟩ : ∃ r, rs[k]'hc1 = r := ⟨_, rfl⟩
    have HRO : Hid (r.ok) := HOK.out r (by rw [← hr]; exact List.getElem_mem hc1)
    rw [hr] at r0 r1 r2 r3
    have y0 := (HBB.out.cell (p := ⟨gl, ol + k * 4, none⟩) (cell_lt r0)).trans r0
    have y1 := (HBB.out.cell (p := ⟨gl, ol + k * 4 + 1, none⟩) (cell_lt r0)).trans r1
    have y2 := (HBB.out.cell (p := ⟨gl, ol + k * 4 + 2, none⟩) (cell_lt r0)).trans r2
    have y3 := (HBB.out.cell (p := ⟨gl, ol + k * 4 + 3, none⟩) (cell_lt r0)).trans r3
    clear r0 r1 r2 r3 hcl hr
    go_upto_region 8 with fail
    have HR5 : Hid (((wr.alloc (.cells #[.int .i64 r.k, .int .i64 r.a, .int .i64 r.b, .int .i64 r.c] 88)).alloc (.cells #[.int .i64 c.ck, .int .i64 c.nx, .int .i64 c.wt, .slice ac c.ts.length cc] 24)).cell? ⟨wr.heap.size, 0, none⟩ = some (.int .i64 r.k) ∧ ((wr.alloc (.cells #[.int .i64 r.k, .int .i64 r.a, .int .i64 r.b, .int .i64 r.c] 88)).alloc (.cells #[.int .i64 c.ck, .int .i64 c.nx, .int .i64 c.wt, .slice ac c.ts.length cc] 24)).cell? ⟨wr.heap.size, 1, none⟩ = some (.int .i64 r.a) ∧ ((wr.alloc (.cells #[.int .i64 r.k, .int .i64 r.a, .int .i64 r.b, .int .i64 r.c] 88)).alloc (.cells #[.int .i64 c.ck, .int .i64 c.nx, .int .i64 c.wt, .slice ac c.ts.length cc] 24)).cell? ⟨wr.heap.size, 2, none⟩ = some (.int .i64 r.b) ∧ ((wr.alloc (.cells #[.int .i64 r.k, .int .i64 r.a, .int .i64 r.b, .int .i64 r.c] 88)).alloc (.cells #[.int .i64 c.ck, .int .i64 c.nx, .int .i64 c.wt, .slice ac c.ts.length cc] 24)).cell? ⟨wr.heap.size, 3, none⟩ = some (.int .i64 r.c)) := ⟨by simp [go_sem], by simp [go_sem], by simp [go_sem], by simp [go_sem]⟩
    have HNX : Hid (CB ((wr.alloc (.cells #[.int .i64 r.k, .int .i64 r.a, .int .i64 r.b, .int .i64 r.c] 88)).alloc (.cells #[.int .i64 c.ck, .int .i64 c.nx, .int .i64 c.wt, .slice ac c.ts.length cc] 24)) (wr.heap.size + 1) c (.slice ac c.ts.length cc)) := cb_new _ c _ 24 _ (by simp)
    have HBN : Hid (Below wr.heap.size wr ((wr.alloc (.cells #[.int .i64 r.k, .int .i64 r.a, .int .i64 r.b, .int .i64 r.c] 88)).alloc (.cells #[.int .i64 c.ck, .int .i64 c.nx, .int .i64 c.wt, .slice ac c.ts.length cc] 24))) := bstep (bbox _ _) (bbox _ _)
    have HCB5 : Hid (CB ((wr.alloc (.cells #[.int .i64 r.k, .int .i64 r.a, .int .i64 r.b, .int .i64 r.c] 88)).alloc (.cells #[.int .i64 c.ck, .int .i64 c.nx, .int .i64 c.wt, .slice ac c.ts.length cc] 24)) b c (.slice ac c.ts.length cc)) := HCB.out.below HCB.out.1 HBN.out
    have hs5 : wr.heap.size + 1 < ((wr.alloc (.cells #[.int .i64 r.k, .int .i64 r.a, .int .i64 r.b, .int .i64 r.c] 88)).alloc (.cells #[.int .i64 c.ck, .int .i64 c.nx, .int .i64 c.wt, .slice ac c.ts.length cc] 24)).heap.size := by simp
    have HRC : Hid (∀ W, Below ((wr.alloc (.cells #[.int .i64 r.k, .int .i64 r.a, .int .i64 r.b, .int .i64 r.c] 88)).alloc (.cells #[.int .i64 c.ck, .int .i64 c.nx, .int .i64 c.wt, .slice ac c.ts.length cc] 24)).heap.size ((wr.alloc (.cells #[.int .i64 r.k, .int .i64 r.a, .int .i64 r.b, .int .i64 r.c] 88)).alloc (.cells #[.int .i64 c.ck, .int .i64 c.nx, .int .i64 c.wt, .slice ac c.ts.length cc] 24)) W → RdC W c (.slice ac c.ts.length cc) us) := fun W hW => RdC.below (FreshC.rd HFC.out) (Nat.le_refl _) (bstep HBN.out hW)
    have hbr : b < wr.heap.size := HCB.out.1
    generalize (wr.alloc (.cells #[.int .i64 r.k, .int .i64 r.a, .int .i64 r.b, .int .i64 r.c] 88)).alloc (.cells #[.int .i64 c.ck, .int .i64 c.nx, .int .i64 c.wt, .slice ac c.ts.length cc] 24) = W5 at *
    clear s1 a0 a1 a2 a3 f1 z1 e0 e1 e2 e3 g1 y0 y1 y2 y3
    obtain ⟨s1, ⟨a0, a1, a2, a3⟩, f1⟩ := HCB5.out
    obtain ⟨n1, ⟨n2, n3, n4, n5⟩, n6⟩ := HNX.out
    obtain ⟨r0, r1, r2, r3⟩ := HR5.out
    generalize hrb : wr.heap.size = rb at *
    generalize wr = wo at *
    have HRB : Hid (wo.heap.size = rb) := hrb
    clear hrb
    go_wp2
    clear s1 a0 a1 a2 a3 f1 n1 n2 n3 n4 n5 n6 r0 r1 r2 r3
    go_loopw [13, 48] (fun vv i W => ∃ (x : Int) (j : Nat), vv = .int .i64 x ∧ i = .int .i64 j ∧ j ≤ c.ts.length ∧ Hid (Below W5.heap.size W5 W)) (fun _ i _ => c.ts.length - (intOf i).toNat)
    case atStart => exact ⟨0, 0, rfl, rfl, Nat.zero_le _, Below.refl _ _⟩
    case round =>
      rename_i wq0
      obtain ⟨x, j, rfl, rfl, hj, HB⟩ := hrel
      have HCB5 : Hid (CB wr b c (.slice ac c.ts.length cc)) := HCB5.out.below HCB5.out.1 HB.out
      have HNX : Hid (CB wr (rb + 1) c (.slice ac c.ts.length cc)) := HNX.out.below HNX.out.1 HB.out
      have hz5 : W5.heap.size ≤ wr.heap.size := HB.out.size
      have hrb5 : rb < W5.heap.size := by omega
      obtain ⟨m0, m1⟩ := bcell HB.out
      obtain ⟨s1, ⟨a0, a1, a2, a3⟩, f1⟩ := HCB5.out
      obtain ⟨n1, ⟨n2, n3, n4, n5⟩, n6⟩ := HNX.out
      have r0 := (m0 rb 0 hrb5).trans HR5.out.1
      have r1 := (m0 rb 1 hrb5).trans HR5.out.2.1
      have r2 := (m0 rb 2 hrb5).trans HR5.out.2.2.1
      have r3 := (m0 rb 3 hrb5).trans HR5.out.2.2.2
      clear m0 m1
      by_cases hjl : j < c.ts.length
      · have hjv : (j : Int) < c.ts.length := by omega
        obtain ⟨gg, off, t, au, cu, rfl, HAT, hgg, HQ, p0, p1, p2, p3, p4, p5, p6⟩ := (HRC.out wr HB.out).txnAt j hjl
        go_upto_region 13 with fail
        have HT7 : Hid (TBox (wr.alloc (.cells #[.string t.nm, .int .i64 t.id, .int .i64 t.v, .int .i64 t.st, .slice au t.ps.length cu, .int .i64 t.sn, .int .i64 t.dn] 62)) wr.heap.size 0 t (.slice au t.ps.length cu)) := tbox_new wr t _ _
        have HB7 : Hid (Below W5.heap.size W5 (wr.alloc (.cells #[.string t.nm, .int .i64 t.id, .int .i64 t.v, .int .i64 t.st, .slice au t.ps.length cu, .int .i64 t.sn, .int .i64 t.dn] 62))) := bstep HB.out (bbox _ _)
        have hs7 : wr.heap.size < (wr.alloc (.cells #[.string t.nm, .int .i64 t.id, .int .i64 t.v, .int .i64 t.st, .slice au t.ps.length cu, .int .i64 t.sn, .int .i64 t.dn] 62)).heap.size := by simp
        have hrb7 : rb < (wr.alloc (.cells #[.string t.nm, .int .i64 t.id, .int .i64 t.v, .int .i64 t.st, .slice au t.ps.length cu, .int .i64 t.sn, .int .i64 t.dn] 62)).heap.size := by simp; omega
        have q1 := ((bbox wr (.cells #[.string t.nm, .int .i64 t.id, .int .i64 t.v, .int .i64 t.st, .slice au t.ps.length cu, .int .i64 t.sn, .int .i64 t.dn] 62)).cell (p := ⟨rb, 1, none⟩) (show rb < wr.heap.size by omega)).trans r1
        generalize wr.alloc (.cells #[.string t.nm, .int .i64 t.id, .int .i64 t.v, .int .i64 t.st, .slice au t.ps.length cu, .int .i64 t.sn, .int .i64 t.dn] 62) = W7 at *
        generalize wr.heap.size = tb at *
        clear s1 a0 a1 a2 a3 f1 n1 n2 n3 n4 n5 n6 r0 r1 r2 r3 p0 p1 p2 p3 p4 p5 p6
        obtain ⟨p0, p1, p2, p3, p4, p5, p6⟩ := HT7.out
        simp only [Nat.zero_add] at p0 p1 p2 p3 p4 p5 p6
        go_cut [57] (fun q W => ∃ bq, q = .bool bq ∧ Below W7.heap.size W7 W)
        case first =>
          go_region_with (first | (go_at_call 69; refine (name_any r.a _ HRO.out.2.1).mono ?_; rintro e w6 ⟨rfl, hb6⟩; have hB6 : Below W7.heap.size W7 w6 := bstep (by repeat (first | exact Below.refl _ _ | refine Below.drew ?_)) hb6; obtain ⟨m3, m4⟩ := bcell hB6; clear hb6))
          all_goals
            go_wp2_with fail
            go_meet
            exact ⟨_, rfl, by repeat (first | exact hB6 | refine Below.drew ?_)⟩
        case rest =>
        obtain ⟨bq, hv, hbl⟩ := hcut
        subst hv
        rename World => w7
        have HB8 : Hid (Below W5.heap.size W5 w7) := bstep HB7.out hbl
        have hp2 : w7.cell? ⟨tb, 2, none⟩ = some (.int .i64 t.v) := (hbl.cell (p := ⟨tb, 2, none⟩) hs7).trans p2
        clear p0 p1 p2 p3 p4 p5 p6 q1 hbl
        cases bq with
        | true =>
          go_at_K
          go_wp2
          go_roundw
          case rel => exact ⟨_, j + 1, rfl, by go_num, by omega, HB8⟩
          case measure => simp [intOf]; omega
        | false =>
          go_at_K
          go_wp2
          go_roundw
          case rel => exact ⟨_, j + 1, rfl, by go_num, by omega, HB8⟩
          case measure => simp [intOf]; omega
      · have hjv : ¬ (j : Int) < c.ts.length := by omega
        go_wp2_with fail
        refine (picked_any r.k 8 _ HRO.out.1 ⟨by omega, by omega⟩).mono ?_
        rintro e w9 ⟨rfl, hw9⟩
        rw [hw9]
        clear hw9
        have hkk := pick_bd r.k 8 (by omega)
        obtain ⟨kk, hkk2⟩ : ∃ kk, pick r.k 8 = kk := ⟨_, rfl⟩
        rw [hkk2] at hkk ⊢
        obtain ⟨hkk0, hkk1⟩ := hkk
        clear hkk2
        go_upto_block 4 with fail
        have HRW : Hid (∀ W, Below wr.heap.size wr W → RdC W c (.slice ac c.ts.length cc) us) := fun W hW => HRC.out W (bstep HB.out hW)
        have HBO : Hid (Below rb wo wr) := HBN.out.trans (show Below rb W5 wr from HB.out.mono (by omega))
        have hrb1 : rb < wr.heap.size := by omega
        have HRO2 : Hid (RdC wo c (.slice ac c.ts.length cc) us) := FreshC.rd HFC.out
        have hwo : wo.heap.size ≤ rb := by have := HRB.out; omega
        have HCX0 : Hid (Below rb wo wr.drew ∧ (wr.drew.cell? ⟨rb, 0, none⟩ = some (.int .i64 r.k) ∧ wr.drew.cell? ⟨rb, 1, none⟩ = some (.int .i64 r.a) ∧ wr.drew.cell? ⟨rb, 2, none⟩ = some (.int .i64 r.b) ∧ wr.drew.cell? ⟨rb, 3, none⟩ = some (.int .i64 r.c)) ∧ (∃ d v, CB wr.drew (rb + 1) d v) ∧ W5.heap.size ≤ wr.drew.heap.size) := ⟨HBO.out.drew, ⟨r0, r1, r2, r3⟩, ⟨c, _, HNX.out⟩, HB.out.size⟩
        have HTW : Hid ((Lit.int .i64 (pick r.c 6)).wf = true) := show _ = _ by have := pick_bd r.c 6 (by omega); simp [Lit.wf, IntKind.min, IntKind.max, IntKind.signed, IntKind.bits]; omega
        have HNS : Hid ((nameS r.a).size ≤ maxLen) := name3_size (nameS_3 _)
        go_cut [12] (fun f W => ∃ er d vt us2, f = .int .i64 er ∧ (er = 0 → CoP isName3 d ∧ FreshC W5.heap.size W d vt us2) ∧ CB W (rb + 1) d vt ∧ Below rb wo W)
        case first =>
          by_cases k0 : kk = 0
          · have d0 : (kk == 0) = true := by simp [k0]
            clear k0
            obtain ⟨⟨d, pid, vr, er⟩, hX⟩ : ∃ yy, c.initP (nameS r.a) = yy := ⟨_, rfl⟩
            have HX : Hid (c.initP (nameS r.a) = (d, pid, vr, er)) := hX
            have HCO : Hid (er = 0 → CoP isName3 d) := fun h0 => by have := @co_init isName3 c HC.out (nameS r.a) (nameS_3 _); rw [hX] at this; exact this h0
            clear hX
            clear s1 a0 a1 a2 a3 f1 n1 n2 n3 n4 n5 n6 r0 r1 r2 r3
            obtain ⟨y1, ⟨y2, y3, y4, y5⟩, y6⟩ := HCB.out
            go_upto_region 19 with fail
            obtain ⟨S, hS⟩ : ∃ S : Nat → Value → World → Prop, S = fun i v W => match i with | 0 => (fun v W => v = .agg #[.int .i64 c.ck, .int .i64 c.nx, .int .i64 c.wt, .slice ac c.ts.length cc]) v W | 1 => (fun v W => v = .pointer (some ⟨rb, 1, none⟩)) v W | 2 => (fun v W => v = .int .i64 r.a) v W | 3 => (fun v W => v = .string (nameS r.a)) v W | 4 => (fun v W => ∃ vt us, v = .tuple #[.agg #[.int .i64 d.ck, .int .i64 d.nx, .int .i64 d.wt, vt], .int .i64 pid, .int .i64 vr, .int .i64 er] ∧ FreshC W5.heap.size W d vt us) v W | 5 => (fun v W => ∃ vt us, v = .tuple #[.agg #[.int .i64 d.ck, .int .i64 d.nx, .int .i64 d.wt, vt], .int .i64 pid, .int .i64 vr, .int .i64 er] ∧ FreshC W5.heap.size W d vt us) v W | 6 => (fun v W => ∃ vt us, v = .agg #[.int .i64 d.ck, .int .i64 d.nx, .int .i64 d.wt, vt] ∧ FreshC W5.heap.size W d vt us) v W | 7 => (fun v W => v = .int .i64 pid) v W | 8 => (fun v W => v = .int .i64 vr) v W | 9 => (fun v W => v = .int .i64 er) v W | 10 => (fun v W => ∃ vt us, CB W (rb + 1) d vt ∧ FreshC W5.heap.size W d vt us) v W | 11 => (fun v W => v = .int .i64 er) v W | _ => True := ⟨_, rfl⟩
            have HS0 : Hid (∀ v W, S 0 v W ↔ (fun v W => v = .agg #[.int .i64 c.ck, .int .i64 c.nx, .int .i64 c.wt, .slice ac c.ts.length cc]) v W) := fun v W => by rw [hS]; exact Iff.rfl
            have HS1 : Hid (∀ v W, S 1 v W ↔ (fun v W => v = .pointer (some ⟨rb, 1, none⟩)) v W) := fun v W => by rw [hS]; exact Iff.rfl
            have HS2 : Hid (∀ v W, S 2 v W ↔ (fun v W => v = .int .i64 r.a) v W) := fun v W => by rw [hS]; exact Iff.rfl
            have HS3 : Hid (∀ v W, S 3 v W ↔ (fun v W => v = .string (nameS r.a)) v W) := fun v W => by rw [hS]; exact Iff.rfl
            have HS4 : Hid (∀ v W, S 4 v W ↔ (fun v W => ∃ vt us, v = .tuple #[.agg #[.int .i64 d.ck, .int .i64 d.nx, .int .i64 d.wt, vt], .int .i64 pid, .int .i64 vr, .int .i64 er] ∧ FreshC W5.heap.size W d vt us) v W) := fun v W => by rw [hS]; exact Iff.rfl
            have HS5 : Hid (∀ v W, S 5 v W ↔ (fun v W => ∃ vt us, v = .tuple #[.agg #[.int .i64 d.ck, .int .i64 d.nx, .int .i64 d.wt, vt], .int .i64 pid, .int .i64 vr, .int .i64 er] ∧ FreshC W5.heap.size W d vt us) v W) := fun v W => by rw [hS]; exact Iff.rfl
            have HS6 : Hid (∀ v W, S 6 v W ↔ (fun v W => ∃ vt us, v = .agg #[.int .i64 d.ck, .int .i64 d.nx, .int .i64 d.wt, vt] ∧ FreshC W5.heap.size W d vt us) v W) := fun v W => by rw [hS]; exact Iff.rfl
            have HS7 : Hid (∀ v W, S 7 v W ↔ (fun v W => v = .int .i64 pid) v W) := fun v W => by rw [hS]; exact Iff.rfl
            have HS8 : Hid (∀ v W, S 8 v W ↔ (fun v W => v = .int .i64 vr) v W) := fun v W => by rw [hS]; exact Iff.rfl
            have HS9 : Hid (∀ v W, S 9 v W ↔ (fun v W => v = .int .i64 er) v W) := fun v W => by rw [hS]; exact Iff.rfl
            have HS10 : Hid (∀ v W, S 10 v W ↔ (fun v W => ∃ vt us, CB W (rb + 1) d vt ∧ FreshC W5.heap.size W d vt us) v W) := fun v W => by rw [hS]; exact Iff.rfl
            have HS11 : Hid (∀ v W, S 11 v W ↔ (fun v W => v = .int .i64 er) v W) := fun v W => by rw [hS]; exact Iff.rfl
            have HKP : Hid (∀ W W', Below W.heap.size W W' → ∀ j u, S j u W → S j u W') := fun W W' hb j u h => by
              rw [hS] at h ⊢
              revert h
              exact match j with | 0 => fun h => h | 1 => fun h => h | 2 => fun h => h | 3 => fun h => h | 4 => fun h => by obtain ⟨vt, us, h1, h2⟩ := h; exact ⟨vt, us, h1, OwnW.below h2 (Nat.le_refl _) hb⟩ | 5 => fun h => by obtain ⟨vt, us, h1, h2⟩ := h; exact ⟨vt, us, h1, OwnW.below h2 (Nat.le_refl _) hb⟩ | 6 => fun h => by obtain ⟨vt, us, h1, h2⟩ := h; exact ⟨vt, us, h1, OwnW.below h2 (Nat.le_refl _) hb⟩ | 7 => fun h => h | 8 => fun h => h | 9 => fun h => h | 10 => fun h => by obtain ⟨vt, us, h1, h2⟩ := h; exact ⟨vt, us, h1.below h1.1 hb, OwnW.below h2 (Nat.le_refl _) hb⟩ | 11 => fun h => h | _ + 12 => fun h => h
            have HKI : Hid (∀ W W', ∀ j u, j ≠ 4 → j ≠ 5 → j ≠ 6 → j ≠ 10 → S j u W → S j u W') := fun W W' j u q4 q5 q6 q10 h => by
              rw [hS] at h ⊢
              revert h
              exact match j, q4, q5, q6, q10 with | 0, _, _, _, _ => fun h => h | 1, _, _, _, _ => fun h => h | 2, _, _, _, _ => fun h => h | 3, _, _, _, _ => fun h => h | 4, q, _, _, _ => absurd rfl q | 5, _, q, _, _ => absurd rfl q | 6, _, _, q, _ => absurd rfl q | 7, _, _, _, _ => fun h => h | 8, _, _, _, _ => fun h => h | 9, _, _, _, _ => fun h => h | 10, _, _, _, q => absurd rfl q | 11, _, _, _, _ => fun h => h | _ + 12, _, _, _, _ => fun h => h
            clear hS
            obtain ⟨CC, hCC⟩ : ∃ CC : World → Prop, CC = fun W => Below rb wo W ∧ (W.cell? ⟨rb, 0, none⟩ = some (.int .i64 r.k) ∧ W.cell? ⟨rb, 1, none⟩ = some (.int .i64 r.a) ∧ W.cell? ⟨rb, 2, none⟩ = some (.int .i64 r.b) ∧ W.cell? ⟨rb, 3, none⟩ = some (.int .i64 r.c)) ∧ (∃ d v, CB W (rb + 1) d v) ∧ W5.heap.size ≤ W.heap.size := ⟨_, rfl⟩
            have HCC : Hid (∀ W, CC W ↔ (fun W => Below rb wo W ∧ (W.cell? ⟨rb, 0, none⟩ = some (.int .i64 r.k) ∧ W.cell? ⟨rb, 1, none⟩ = some (.int .i64 r.a) ∧ W.cell? ⟨rb, 2, none⟩ = some (.int .i64 r.b) ∧ W.cell? ⟨rb, 3, none⟩ = some (.int .i64 r.c)) ∧ (∃ d v, CB W (rb + 1) d v) ∧ W5.heap.size ≤ W.heap.size) W) := fun W => by rw [hCC]
            clear hCC
            have HCM : Hid (∀ W W', CC W → Below W.heap.size W W' → CC W') := fun W W' h hb => by
              obtain ⟨h1, h2, ⟨d9, v9, h3⟩, h4⟩ := (HCC.out W).1 h
              have hlt : rb < W.heap.size := cell_lt h2.1
              exact (HCC.out W').2 ⟨h1.trans (show Below rb W W' from hb.mono (by omega)), ⟨(hb.cell (p := ⟨rb, 0, none⟩) hlt).trans h2.1, (hb.cell (p := ⟨rb, 1, none⟩) hlt).trans h2.2.1, (hb.cell (p := ⟨rb, 2, none⟩) hlt).trans h2.2.2.1, (hb.cell (p := ⟨rb, 3, none⟩) hlt).trans h2.2.2.2⟩, ⟨d9, v9, h3.below h3.1 hb⟩, Nat.le_trans h4 hb.size⟩
            refine wp_region_mono (C := CC) (S := S) (by kernel_rfl) (n := 142) (by kernel_rfl) (by kernel_rfl) ((HCC.out _).2 HCX0.out) (each_at ?_) ?_
            · refine ⟨?_, ?_, ?_, ?_, ?_, ?_, ?_, ?_, ?_, ?_, ?_, ?_, trivial⟩
              · intro a W hC0 _ _ he hdep
                have hC := (HCC.out W).1 hC0
                rw [if_pos (wanted_free rfl)]
                have t6 := slot_else (t := 6) he (by kernel_rfl) rfl
                have A0 := (hC.1.cell (p := ⟨b, 0, none⟩) hbr).trans y2
                have A1 := (hC.1.cell (p := ⟨b, 1, none⟩) hbr).trans y3
                have A2 := (hC.1.cell (p := ⟨b, 2, none⟩) hbr).trans y4
                have A3 := (hC.1.cell (p := ⟨b, 3, none⟩) hbr).trans y5
                unfold Oper.wp
                simp [execOp, go_sem, t6, A0, A1, A2, A3]
                exact MPost.same (.agg #[.int .i64 c.ck, .int .i64 c.nx, .int .i64 c.wt, .slice ac c.ts.length cc]) hC0 ((HS0.out _ _).2 rfl) rfl
              · intro a W hC0 _ _ he hdep
                have hC := (HCC.out W).1 hC0
                rw [if_pos (wanted_free rfl)]
                have t10 := slot_else (t := 10) he (by kernel_rfl) rfl
                unfold Oper.wp
                simp [execOp, go_sem, t10]
                exact MPost.same (.pointer (some ⟨rb, 1, none⟩)) hC0 ((HS1.out _ _).2 rfl) rfl
              · intro a W hC0 _ _ he hdep
                have hC := (HCC.out W).1 hC0
                obtain ⟨v76, t76, h76⟩ := hdep ⟨1, .data⟩ (by simp) (by rfl) _ _ rfl rfl
                obtain rfl : v76 = .pointer (some ⟨rb, 1, none⟩) := (HS1.out _ _).1 h76
                rw [if_pos (wanted_free rfl)]
                have R1 := hC.2.1.2.1
                unfold Oper.wp
                simp [execOp, go_sem, t76, R1]
                exact MPost.same (.int .i64 r.a) hC0 ((HS2.out _ _).2 rfl) rfl
              · intro a W hC0 _ _ he hdep
                have hC := (HCC.out W).1 hC0
                obtain ⟨v77, t77, h77⟩ := hdep ⟨2, .data⟩ (by simp) (by rfl) _ _ rfl rfl
                obtain rfl : v77 = .int .i64 r.a := (HS2.out _ _).1 h77
                rw [if_pos (wanted_free rfl)]
                unfold Oper.wp
                simp [execOp, go_sem, t77]
                refine (name_any r.a _ HRO.out.2.1).mono ?_
                rintro e W2 ⟨rfl, hb2⟩
                exact MPost.turn _ (HCM.out _ _ hC0 hb2) ((HS3.out _ _).2 rfl) (fun j u _ => HKP.out _ _ hb2 j u) rfl
              · intro a W hC0 _ _ he hdep
                have hC := (HCC.out W).1 hC0
                obtain ⟨v75, t75, h75⟩ := hdep ⟨0, .data⟩ (by simp) (by rfl) _ _ rfl rfl
                obtain rfl : v75 = .agg #[.int .i64 c.ck, .int .i64 c.nx, .int .i64 c.wt, .slice ac c.ts.length cc] := (HS0.out _ _).1 h75
                obtain ⟨v78, t78, h78⟩ := hdep ⟨3, .data⟩ (by simp) (by rfl) _ _ rfl rfl
                obtain rfl : v78 = .string (nameS r.a) := (HS3.out _ _).1 h78
                rw [if_pos (wanted_free rfl)]
                unfold Oper.wp
                simp [execOp, go_sem, t75, t78]
                refine (init_any c (nameS r.a) _ us _ (RdC.below HRO2.out (by omega) hC.1) HFT.out HNS.out).mono ?_
                rintro e W2 ⟨vt', us8, rfl, hf8, hb8⟩
                rw [HX.out] at hf8 ⊢
                exact MPost.turn _ (HCM.out _ _ hC0 hb8) ((HS4.out _ _).2 ⟨_, us8, rfl, OwnW.mono hf8 hC.2.2.2⟩) (fun j u _ => HKP.out _ _ hb8 j u) rfl
              · intro a W hC0 _ _ he hdep
                have hC := (HCC.out W).1 hC0
                obtain ⟨v79, t79, h79⟩ := hdep ⟨4, .data⟩ (by simp) (by rfl) _ _ rfl rfl
                have h79 := (HS4.out _ _).1 h79
                rw [if_pos (wanted_free rfl)]
                unfold Oper.wp
                simp [execOp, go_sem, t79]
                exact MPost.same _ hC0 ((HS5.out _ _).2 h79) rfl
              · intro a W hC0 _ _ he hdep
                have hC := (HCC.out W).1 hC0
                obtain ⟨v74, t74, h74⟩ := hdep ⟨5, .data⟩ (by simp) (by rfl) _ _ rfl rfl
                have h74 := (HS5.out _ _).1 h74
                rw [if_pos (wanted_free rfl)]
                obtain ⟨vt8, us8, rfl, hf8⟩ := h74
                unfold Oper.wp
                simp [execOp, go_sem, t74]
                exact MPost.same _ hC0 ((HS6.out _ _).2 ⟨vt8, us8, rfl, hf8⟩) rfl
              · intro a W hC0 _ _ he hdep
                have hC := (HCC.out W).1 hC0
                obtain ⟨v74, t74, h74⟩ := hdep ⟨5, .data⟩ (by simp) (by rfl) _ _ rfl rfl
                have h74 := (HS5.out _ _).1 h74
                rw [if_pos (wanted_free rfl)]
                obtain ⟨vt8, us8, rfl, -⟩ := h74
                unfold Oper.wp
                simp [execOp, go_sem, t74]
                exact MPost.same (.int .i64 pid) hC0 ((HS7.out _ _).2 rfl) rfl
              · intro a W hC0 _ _ he hdep
                have hC := (HCC.out W).1 hC0
                obtain ⟨v74, t74, h74⟩ := hdep ⟨5, .data⟩ (by simp) (by rfl) _ _ rfl rfl
                have h74 := (HS5.out _ _).1 h74
                rw [if_pos (wanted_free rfl)]
                obtain ⟨vt8, us8, rfl, -⟩ := h74
                unfold Oper.wp
                simp [execOp, go_sem, t74]
                exact MPost.same (.int .i64 vr) hC0 ((HS8.out _ _).2 rfl) rfl
              · intro a W hC0 _ _ he hdep
                have hC := (HCC.out W).1 hC0
                obtain ⟨v74, t74, h74⟩ := hdep ⟨5, .data⟩ (by simp) (by rfl) _ _ rfl rfl
                have h74 := (HS5.out _ _).1 h74
                rw [if_pos (wanted_free rfl)]
                obtain ⟨vt8, us8, rfl, -⟩ := h74
                unfold Oper.wp
                simp [execOp, go_sem, t74]
                exact MPost.same (.int .i64 er) hC0 ((HS9.out _ _).2 rfl) rfl
              · intro a W hC0 _ _ he hdep
                have hC := (HCC.out W).1 hC0
                obtain ⟨v80, t80, h80⟩ := hdep ⟨6, .data⟩ (by simp) (by rfl) _ _ rfl rfl
                have h80 := (HS6.out _ _).1 h80
                rw [if_pos (wanted_free rfl)]
                have t11 := slot_else (t := 11) he (by kernel_rfl) rfl
                obtain ⟨vt8, us8, rfl, hf8⟩ := h80
                obtain ⟨a8, c8, rfl⟩ := hf8.shapeOf
                obtain ⟨d9, v9, hcb⟩ := hC.2.2.1
                have hcb2 := hcb
                obtain ⟨n1, ⟨n2, n3, n4, n5⟩, n6⟩ := hcb
                unfold Oper.wp
                simp [execOp, go_sem, t11, t80, n2, n3, n4, n5, n6]
                refine MPost.turn undef ((HCC.out _).2 ⟨below_put4K hC.1 (by omega) d (.slice a8 d.ts.length c8), ⟨?_, ?_, ?_, ?_⟩, ⟨d, (.slice a8 d.ts.length c8), hcb2.put d (.slice a8 d.ts.length c8)⟩, by simp; exact hC.2.2.2⟩) ((HS10.out _ _).2 ⟨(.slice a8 d.ts.length c8), us8, hcb2.put d (.slice a8 d.ts.length c8), FreshC.put4 hf8 (by omega) d (.slice a8 d.ts.length c8)⟩) (fun j u hj hh => ?_) rfl
                · simp [go_sem, hC.2.1.1]
                · simp [go_sem, hC.2.1.2.1]
                · simp [go_sem, hC.2.1.2.2.1]
                · simp [go_sem, hC.2.1.2.2.2]
                · by_cases e4 : j = 4
                  · subst e4
                    obtain ⟨vt7, us7, k1, k2⟩ := (HS4.out _ _).1 hh
                    exact (HS4.out _ _).2 ⟨vt7, us7, k1, FreshC.put4 k2 (by omega) d (.slice a8 d.ts.length c8)⟩
                  by_cases e5 : j = 5
                  · subst e5
                    obtain ⟨vt7, us7, k1, k2⟩ := (HS5.out _ _).1 hh
                    exact (HS5.out _ _).2 ⟨vt7, us7, k1, FreshC.put4 k2 (by omega) d (.slice a8 d.ts.length c8)⟩
                  by_cases e6 : j = 6
                  · subst e6
                    obtain ⟨vt7, us7, k1, k2⟩ := (HS6.out _ _).1 hh
                    exact (HS6.out _ _).2 ⟨vt7, us7, k1, FreshC.put4 k2 (by omega) d (.slice a8 d.ts.length c8)⟩
                  exact HKI.out _ _ j u e4 e5 e6 hj hh
              · intro a W hC0 _ _ he hdep
                have hC := (HCC.out W).1 hC0
                obtain ⟨v83, t83, h83⟩ := hdep ⟨9, .data⟩ (by simp) (by rfl) _ _ rfl rfl
                obtain rfl : v83 = .int .i64 er := (HS9.out _ _).1 h83
                rw [if_pos (wanted_free rfl)]
                unfold Oper.wp
                simp [execOp, go_sem, t83]
                exact MPost.same (.int .i64 er) hC0 ((HS11.out _ _).2 rfl) rfl
            · intro vs W hC0 hS
              have hC := (HCC.out W).1 hC0
              obtain ⟨vt8, us8, hcb, hf8⟩ := (HS10.out _ _).1 (hS 10 (by simp))
              have g12 := (HS11.out _ _).1 (hS 11 (by simp))
              simp [over, g12, Act.put]
              go_wp2_with fail
              go_meet
              exact ⟨er, d, vt8, us8, rfl, fun h0 => ⟨HCO.out h0, hf8⟩, hcb, hC.1⟩
          have d0 : (kk == 0) = false := by simp [k0]
          by_cases k1 : kk = 1 ∨ kk = 2 ∨ kk = 3
          · rcases k1 with k1 | k1 | k1
            · have d1 : (kk == 1) = true := by simp [k1]
              clear k1 k0
              obtain ⟨⟨d, er⟩, hX⟩ : ∃ yy, c.addP (nameS r.a) x (pick r.b 4) = yy := ⟨_, rfl⟩
              have HX : Hid (c.addP (nameS r.a) x (pick r.b 4) = (d, er)) := hX
              have HCO : Hid (er = 0 → CoP isName3 d) := fun h0 => by have := @co_add isName3 c HC.out (nameS r.a) x (pick r.b 4); rw [hX] at this; exact this h0
              clear hX
              clear s1 a0 a1 a2 a3 f1 n1 n2 n3 n4 n5 n6 r0 r1 r2 r3
              obtain ⟨y1, ⟨y2, y3, y4, y5⟩, y6⟩ := HCB.out
              go_upto_region 23 with fail
              obtain ⟨S, hS⟩ : ∃ S : Nat → Value → World → Prop, S = fun i v W => match i with | 0 => (fun v W => v = .agg #[.int .i64 c.ck, .int .i64 c.nx, .int .i64 c.wt, .slice ac c.ts.length cc]) v W | 1 => (fun v W => v = .pointer (some ⟨rb, 1, none⟩)) v W | 2 => (fun v W => v = .int .i64 r.a) v W | 3 => (fun v W => v = .string (nameS r.a)) v W | 4 => (fun v W => v = .int .i64 x) v W | 5 => (fun v W => v = .pointer (some ⟨rb, 2, none⟩)) v W | 6 => (fun v W => v = .int .i64 r.b) v W | 7 => (fun v W => v = .int .i64 (pick r.b 4)) v W | 8 => (fun v W => ∃ vt us, v = .tuple #[.agg #[.int .i64 d.ck, .int .i64 d.nx, .int .i64 d.wt, vt], .int .i64 er] ∧ FreshC W5.heap.size W d vt us) v W | 9 => (fun v W => ∃ vt us, v = .tuple #[.agg #[.int .i64 d.ck, .int .i64 d.nx, .int .i64 d.wt, vt], .int .i64 er] ∧ FreshC W5.heap.size W d vt us) v W | 10 => (fun v W => ∃ vt us, v = .agg #[.int .i64 d.ck, .int .i64 d.nx, .int .i64 d.wt, vt] ∧ FreshC W5.heap.size W d vt us) v W | 11 => (fun v W => v = .int .i64 er) v W | 12 => (fun v W => ∃ vt us, CB W (rb + 1) d vt ∧ FreshC W5.heap.size W d vt us) v W | 13 => (fun v W => v = .int .i64 er) v W | _ => True := ⟨_, rfl⟩
              have HS0 : Hid (∀ v W, S 0 v W ↔ (fun v W => v = .agg #[.int .i64 c.ck, .int .i64 c.nx, .int .i64 c.wt, .slice ac c.ts.length cc]) v W) := fun v W => by rw [hS]; exact Iff.rfl
              have HS1 : Hid (∀ v W, S 1 v W ↔ (fun v W => v = .pointer (some ⟨rb, 1, none⟩)) v W) := fun v W => by rw [hS]; exact Iff.rfl
              have HS2 : Hid (∀ v W, S 2 v W ↔ (fun v W => v = .int .i64 r.a) v W) := fun v W => by rw [hS]; exact Iff.rfl
              have HS3 : Hid (∀ v W, S 3 v W ↔ (fun v W => v = .string (nameS r.a)) v W) := fun v W => by rw [hS]; exact Iff.rfl
              have HS4 : Hid (∀ v W, S 4 v W ↔ (fun v W => v = .int .i64 x) v W) := fun v W => by rw [hS]; exact Iff.rfl
              have HS5 : Hid (∀ v W, S 5 v W ↔ (fun v W => v = .pointer (some ⟨rb, 2, none⟩)) v W) := fun v W => by rw [hS]; exact Iff.rfl
              have HS6 : Hid (∀ v W, S 6 v W ↔ (fun v W => v = .int .i64 r.b) v W) := fun v W => by rw [hS]; exact Iff.rfl
              have HS7 : Hid (∀ v W, S 7 v W ↔ (fun v W => v = .int .i64 (pick r.b 4)) v W) := fun v W => by rw [hS]; exact Iff.rfl
              have HS8 : Hid (∀ v W, S 8 v W ↔ (fun v W => ∃ vt us, v = .tuple #[.agg #[.int .i64 d.ck, .int .i64 d.nx, .int .i64 d.wt, vt], .int .i64 er] ∧ FreshC W5.heap.size W d vt us) v W) := fun v W => by rw [hS]; exact Iff.rfl
              have HS9 : Hid (∀ v W, S 9 v W ↔ (fun v W => ∃ vt us, v = .tuple #[.agg #[.int .i64 d.ck, .int .i64 d.nx, .int .i64 d.wt, vt], .int .i64 er] ∧ FreshC W5.heap.size W d vt us) v W) := fun v W => by rw [hS]; exact Iff.rfl
              have HS10 : Hid (∀ v W, S 10 v W ↔ (fun v W => ∃ vt us, v = .agg #[.int .i64 d.ck, .int .i64 d.nx, .int .i64 d.wt, vt] ∧ FreshC W5.heap.size W d vt us) v W) := fun v W => by rw [hS]; exact Iff.rfl
              have HS11 : Hid (∀ v W, S 11 v W ↔ (fun v W => v = .int .i64 er) v W) := fun v W => by rw [hS]; exact Iff.rfl
              have HS12 : Hid (∀ v W, S 12 v W ↔ (fun v W => ∃ vt us, CB W (rb + 1) d vt ∧ FreshC W5.heap.size W d vt us) v W) := fun v W => by rw [hS]; exact Iff.rfl
              have HS13 : Hid (∀ v W, S 13 v W ↔ (fun v W => v = .int .i64 er) v W) := fun v W => by rw [hS]; exact Iff.rfl
              have HKP : Hid (∀ W W', Below W.heap.size W W' → ∀ j u, S j u W → S j u W') := fun W W' hb j u h => by
                rw [hS] at h ⊢
                revert h
                exact match j with | 0 => fun h => h | 1 => fun h => h | 2 => fun h => h | 3 => fun h => h | 4 => fun h => h | 5 => fun h => h | 6 => fun h => h | 7 => fun h => h | 8 => fun h => by obtain ⟨vt, us, h1, h2⟩ := h; exact ⟨vt, us, h1, OwnW.below h2 (Nat.le_refl _) hb⟩ | 9 => fun h => by obtain ⟨vt, us, h1, h2⟩ := h; exact ⟨vt, us, h1, OwnW.below h2 (Nat.le_refl _) hb⟩ | 10 => fun h => by obtain ⟨vt, us, h1, h2⟩ := h; exact ⟨vt, us, h1, OwnW.below h2 (Nat.le_refl _) hb⟩ | 11 => fun h => h | 12 => fun h => by obtain ⟨vt, us, h1, h2⟩ := h; exact ⟨vt, us, h1.below h1.1 hb, OwnW.below h2 (Nat.le_refl _) hb⟩ | 13 => fun h => h | _ + 14 => fun h => h
              have HKI : Hid (∀ W W', ∀ j u, j ≠ 8 → j ≠ 9 → j ≠ 10 → j ≠ 12 → S j u W → S j u W') := fun W W' j u q8 q9 q10 q12 h => by
                rw [hS] at h ⊢
                revert h
                exact match j, q8, q9, q10, q12 with | 0, _, _, _, _ => fun h => h | 1, _, _, _, _ => fun h => h | 2, _, _, _, _ => fun h => h | 3, _, _, _, _ => fun h => h | 4, _, _, _, _ => fun h => h | 5, _, _, _, _ => fun h => h | 6, _, _, _, _ => fun h => h | 7, _, _, _, _ => fun h => h | 8, q, _, _, _ => absurd rfl q | 9, _, q, _, _ => absurd rfl q | 10, _, _, q, _ => absurd rfl q | 11, _, _, _, _ => fun h => h | 12, _, _, _, q => absurd rfl q | 13, _, _, _, _ => fun h => h | _ + 14, _, _, _, _ => fun h => h
              clear hS
              obtain ⟨CC, hCC⟩ : ∃ CC : World → Prop, CC = fun W => Below rb wo W ∧ (W.cell? ⟨rb, 0, none⟩ = some (.int .i64 r.k) ∧ W.cell? ⟨rb, 1, none⟩ = some (.int .i64 r.a) ∧ W.cell? ⟨rb, 2, none⟩ = some (.int .i64 r.b) ∧ W.cell? ⟨rb, 3, none⟩ = some (.int .i64 r.c)) ∧ (∃ d v, CB W (rb + 1) d v) ∧ W5.heap.size ≤ W.heap.size := ⟨_, rfl⟩
              have HCC : Hid (∀ W, CC W ↔ (fun W => Below rb wo W ∧ (W.cell? ⟨rb, 0, none⟩ = some (.int .i64 r.k) ∧ W.cell? ⟨rb, 1, none⟩ = some (.int .i64 r.a) ∧ W.cell? ⟨rb, 2, none⟩ = some (.int .i64 r.b) ∧ W.cell? ⟨rb, 3, none⟩ = some (.int .i64 r.c)) ∧ (∃ d v, CB W (rb + 1) d v) ∧ W5.heap.size ≤ W.heap.size) W) := fun W => by rw [hCC]
              clear hCC
              have HCM : Hid (∀ W W', CC W → Below W.heap.size W W' → CC W') := fun W W' h hb => by
                obtain ⟨h1, h2, ⟨d9, v9, h3⟩, h4⟩ := (HCC.out W).1 h
                have hlt : rb < W.heap.size := cell_lt h2.1
                exact (HCC.out W').2 ⟨h1.trans (show Below rb W W' from hb.mono (by omega)), ⟨(hb.cell (p := ⟨rb, 0, none⟩) hlt).trans h2.1, (hb.cell (p := ⟨rb, 1, none⟩) hlt).trans h2.2.1, (hb.cell (p := ⟨rb, 2, none⟩) hlt).trans h2.2.2.1, (hb.cell (p := ⟨rb, 3, none⟩) hlt).trans h2.2.2.2⟩, ⟨d9, v9, h3.below h3.1 hb⟩, Nat.le_trans h4 hb.size⟩
              refine wp_region_mono (C := CC) (S := S) (by kernel_rfl) (n := 142) (by kernel_rfl) (by kernel_rfl) ((HCC.out _).2 HCX0.out) (each_at ?_) ?_
              · refine ⟨?_, ?_, ?_, ?_, ?_, ?_, ?_, ?_, ?_, ?_, ?_, ?_, ?_, ?_, trivial⟩
                · intro a W hC0 _ _ he hdep
                  have hC := (HCC.out W).1 hC0
                  rw [if_pos (wanted_free rfl)]
                  have t6 := slot_else (t := 6) he (by kernel_rfl) rfl
                  have A0 := (hC.1.cell (p := ⟨b, 0, none⟩) hbr).trans y2
                  have A1 := (hC.1.cell (p := ⟨b, 1, none⟩) hbr).trans y3
                  have A2 := (hC.1.cell (p := ⟨b, 2, none⟩) hbr).trans y4
                  have A3 := (hC.1.cell (p := ⟨b, 3, none⟩) hbr).trans y5
                  unfold Oper.wp
                  simp [execOp, go_sem, t6, A0, A1, A2, A3]
                  exact MPost.same (.agg #[.int .i64 c.ck, .int .i64 c.nx, .int .i64 c.wt, .slice ac c.ts.length cc]) hC0 ((HS0.out _ _).2 rfl) rfl
                · intro a W hC0 _ _ he hdep
                  have hC := (HCC.out W).1 hC0
                  rw [if_pos (wanted_free rfl)]
                  have t10 := slot_else (t := 10) he (by kernel_rfl) rfl
                  unfold Oper.wp
                  simp [execOp, go_sem, t10]
                  exact MPost.same (.pointer (some ⟨rb, 1, none⟩)) hC0 ((HS1.out _ _).2 rfl) rfl
                · intro a W hC0 _ _ he hdep
                  have hC := (HCC.out W).1 hC0
                  obtain ⟨v90, t90, h90⟩ := hdep ⟨1, .data⟩ (by simp) (by rfl) _ _ rfl rfl
                  obtain rfl : v90 = .pointer (some ⟨rb, 1, none⟩) := (HS1.out _ _).1 h90
                  rw [if_pos (wanted_free rfl)]
                  have R1 := hC.2.1.2.1
                  unfold Oper.wp
                  simp [execOp, go_sem, t90, R1]
                  exact MPost.same (.int .i64 r.a) hC0 ((HS2.out _ _).2 rfl) rfl
                · intro a W hC0 _ _ he hdep
                  have hC := (HCC.out W).1 hC0
                  obtain ⟨v91, t91, h91⟩ := hdep ⟨2, .data⟩ (by simp) (by rfl) _ _ rfl rfl
                  obtain rfl : v91 = .int .i64 r.a := (HS2.out _ _).1 h91
                  rw [if_pos (wanted_free rfl)]
                  unfold Oper.wp
                  simp [execOp, go_sem, t91]
                  refine (name_any r.a _ HRO.out.2.1).mono ?_
                  rintro e W2 ⟨rfl, hb2⟩
                  exact MPost.turn _ (HCM.out _ _ hC0 hb2) ((HS3.out _ _).2 rfl) (fun j u _ => HKP.out _ _ hb2 j u) rfl
                · intro a W hC0 _ _ he hdep
                  have hC := (HCC.out W).1 hC0
                  rw [if_pos (wanted_free rfl)]
                  have t13 := slot_else (t := 13) he (by kernel_rfl) rfl
                  unfold Oper.wp
                  simp [execOp, go_sem, t13]
                  exact MPost.same (.int .i64 x) hC0 ((HS4.out _ _).2 rfl) rfl
                · intro a W hC0 _ _ he hdep
                  have hC := (HCC.out W).1 hC0
                  rw [if_pos (wanted_free rfl)]
                  have t10 := slot_else (t := 10) he (by kernel_rfl) rfl
                  unfold Oper.wp
                  simp [execOp, go_sem, t10]
                  exact MPost.same (.pointer (some ⟨rb, 2, none⟩)) hC0 ((HS5.out _ _).2 rfl) rfl
                · intro a W hC0 _ _ he hdep
                  have hC := (HCC.out W).1 hC0
                  obtain ⟨v94, t94, h94⟩ := hdep ⟨5, .data⟩ (by simp) (by rfl) _ _ rfl rfl
                  obtain rfl : v94 = .pointer (some ⟨rb, 2, none⟩) := (HS5.out _ _).1 h94
                  rw [if_pos (wanted_free rfl)]
                  have R1 := hC.2.1.2.2.1
                  unfold Oper.wp
                  simp [execOp, go_sem, t94, R1]
                  exact MPost.same (.int .i64 r.b) hC0 ((HS6.out _ _).2 rfl) rfl
                · intro a W hC0 _ _ he hdep
                  have hC := (HCC.out W).1 hC0
                  obtain ⟨v95, t95, h95⟩ := hdep ⟨6, .data⟩ (by simp) (by rfl) _ _ rfl rfl
                  obtain rfl : v95 = .int .i64 r.b := (HS6.out _ _).1 h95
                  rw [if_pos (wanted_free rfl)]
                  unfold Oper.wp
                  simp [execOp, go_sem, t95]
                  refine (picked_any r.b 4 _ HRO.out.2.2.1 ⟨by omega, by omega⟩).mono ?_
                  rintro e W2 ⟨rfl, hW2⟩
                  subst hW2
                  exact MPost.same _ hC0 ((HS7.out _ _).2 rfl) rfl
                · intro a W hC0 _ _ he hdep
                  have hC := (HCC.out W).1 hC0
                  obtain ⟨v89, t89, h89⟩ := hdep ⟨0, .data⟩ (by simp) (by rfl) _ _ rfl rfl
                  obtain rfl : v89 = .agg #[.int .i64 c.ck, .int .i64 c.nx, .int .i64 c.wt, .slice ac c.ts.length cc] := (HS0.out _ _).1 h89
                  obtain ⟨v92, t92, h92⟩ := hdep ⟨3, .data⟩ (by simp) (by rfl) _ _ rfl rfl
                  obtain rfl : v92 = .string (nameS r.a) := (HS3.out _ _).1 h92
                  obtain ⟨v93, t93, h93⟩ := hdep ⟨4, .data⟩ (by simp) (by rfl) _ _ rfl rfl
                  obtain rfl : v93 = .int .i64 x := (HS4.out _ _).1 h93
                  obtain ⟨v96, t96, h96⟩ := hdep ⟨7, .data⟩ (by simp) (by rfl) _ _ rfl rfl
                  obtain rfl : v96 = .int .i64 (pick r.b 4) := (HS7.out _ _).1 h96
                  rw [if_pos (wanted_free rfl)]
                  unfold Oper.wp
                  simp [execOp, go_sem, t89, t92, t93, t96]
                  refine (add_any c (nameS r.a) x (pick r.b 4) _ us _ (RdC.below HRO2.out (by omega) hC.1) HFT.out HNS.out).mono ?_
                  rintro e W2 ⟨vt', us8, rfl, hf8, hb8⟩
                  rw [HX.out] at hf8 ⊢
                  exact MPost.turn _ (HCM.out _ _ hC0 hb8) ((HS8.out _ _).2 ⟨_, us8, rfl, OwnW.mono hf8 hC.2.2.2⟩) (fun j u _ => HKP.out _ _ hb8 j u) rfl
                · intro a W hC0 _ _ he hdep
                  have hC := (HCC.out W).1 hC0
                  obtain ⟨v97, t97, h97⟩ := hdep ⟨8, .data⟩ (by simp) (by rfl) _ _ rfl rfl
                  have h97 := (HS8.out _ _).1 h97
                  rw [if_pos (wanted_free rfl)]
                  unfold Oper.wp
                  simp [execOp, go_sem, t97]
                  exact MPost.same _ hC0 ((HS9.out _ _).2 h97) rfl
                · intro a W hC0 _ _ he hdep
                  have hC := (HCC.out W).1 hC0
                  obtain ⟨v88, t88, h88⟩ := hdep ⟨9, .data⟩ (by simp) (by rfl) _ _ rfl rfl
                  have h88 := (HS9.out _ _).1 h88
                  rw [if_pos (wanted_free rfl)]
                  obtain ⟨vt8, us8, rfl, hf8⟩ := h88
                  unfold Oper.wp
                  simp [execOp, go_sem, t88]
                  exact MPost.same _ hC0 ((HS10.out _ _).2 ⟨vt8, us8, rfl, hf8⟩) rfl
                · intro a W hC0 _ _ he hdep
                  have hC := (HCC.out W).1 hC0
                  obtain ⟨v88, t88, h88⟩ := hdep ⟨9, .data⟩ (by simp) (by rfl) _ _ rfl rfl
                  have h88 := (HS9.out _ _).1 h88
                  rw [if_pos (wanted_free rfl)]
                  obtain ⟨vt8, us8, rfl, -⟩ := h88
                  unfold Oper.wp
                  simp [execOp, go_sem, t88]
                  exact MPost.same (.int .i64 er) hC0 ((HS11.out _ _).2 rfl) rfl
                · intro a W hC0 _ _ he hdep
                  have hC := (HCC.out W).1 hC0
                  obtain ⟨v98, t98, h98⟩ := hdep ⟨10, .data⟩ (by simp) (by rfl) _ _ rfl rfl
                  have h98 := (HS10.out _ _).1 h98
                  rw [if_pos (wanted_free rfl)]
                  have t11 := slot_else (t := 11) he (by kernel_rfl) rfl
                  obtain ⟨vt8, us8, rfl, hf8⟩ := h98
                  obtain ⟨a8, c8, rfl⟩ := hf8.shapeOf
                  obtain ⟨d9, v9, hcb⟩ := hC.2.2.1
                  have hcb2 := hcb
                  obtain ⟨n1, ⟨n2, n3, n4, n5⟩, n6⟩ := hcb
                  unfold Oper.wp
                  simp [execOp, go_sem, t11, t98, n2, n3, n4, n5, n6]
                  refine MPost.turn undef ((HCC.out _).2 ⟨below_put4K hC.1 (by omega) d (.slice a8 d.ts.length c8), ⟨?_, ?_, ?_, ?_⟩, ⟨d, (.slice a8 d.ts.length c8), hcb2.put d (.slice a8 d.ts.length c8)⟩, by simp; exact hC.2.2.2⟩) ((HS12.out _ _).2 ⟨(.slice a8 d.ts.length c8), us8, hcb2.put d (.slice a8 d.ts.length c8), FreshC.put4 hf8 (by omega) d (.slice a8 d.ts.length c8)⟩) (fun j u hj hh => ?_) rfl
                  · simp [go_sem, hC.2.1.1]
                  · simp [go_sem, hC.2.1.2.1]
                  · simp [go_sem, hC.2.1.2.2.1]
                  · simp [go_sem, hC.2.1.2.2.2]
                  · by_cases e8 : j = 8
                    · subst e8
                      obtain ⟨vt7, us7, k1, k2⟩ := (HS8.out _ _).1 hh
                      exact (HS8.out _ _).2 ⟨vt7, us7, k1, FreshC.put4 k2 (by omega) d (.slice a8 d.ts.length c8)⟩
                    by_cases e9 : j = 9
                    · subst e9
                      obtain ⟨vt7, us7, k1, k2⟩ := (HS9.out _ _).1 hh
                      exact (HS9.out _ _).2 ⟨vt7, us7, k1, FreshC.put4 k2 (by omega) d (.slice a8 d.ts.length c8)⟩
                    by_cases e10 : j = 10
                    · subst e10
                      obtain ⟨vt7, us7, k1, k2⟩ := (HS10.out _ _).1 hh
                      exact (HS10.out _ _).2 ⟨vt7, us7, k1, FreshC.put4 k2 (by omega) d (.slice a8 d.ts.length c8)⟩
                    exact HKI.out _ _ j u e8 e9 e10 hj hh
                · intro a W hC0 _ _ he hdep
                  have hC := (HCC.out W).1 hC0
                  obtain ⟨v99, t99, h99⟩ := hdep ⟨11, .data⟩ (by simp) (by rfl) _ _ rfl rfl
                  obtain rfl : v99 = .int .i64 er := (HS11.out _ _).1 h99
                  rw [if_pos (wanted_free rfl)]
                  unfold Oper.wp
                  simp [execOp, go_sem, t99]
                  exact MPost.same (.int .i64 er) hC0 ((HS13.out _ _).2 rfl) rfl
              · intro vs W hC0 hS
                have hC := (HCC.out W).1 hC0
                obtain ⟨vt8, us8, hcb, hf8⟩ := (HS12.out _ _).1 (hS 12 (by simp))
                have g12 := (HS13.out _ _).1 (hS 13 (by simp))
                simp [over, g12, Act.put]
                go_wp2_with fail
                go_meet
                exact ⟨er, d, vt8, us8, rfl, fun h0 => ⟨HCO.out h0, hf8⟩, hcb, hC.1⟩
            · have d1 : (kk == 1) = false := by simp [k1]
              have d2 : (kk == 2) = true := by simp [k1]
              clear k1 k0
              obtain ⟨⟨d, er⟩, hX⟩ : ∃ yy, c.addP (nameS r.a) x (pick r.b 4) = yy := ⟨_, rfl⟩
              have HX : Hid (c.addP (nameS r.a) x (pick r.b 4) = (d, er)) := hX
              have HCO : Hid (er = 0 → CoP isName3 d) := fun h0 => by have := @co_add isName3 c HC.out (nameS r.a) x (pick r.b 4); rw [hX] at this; exact this h0
              clear hX
              clear s1 a0 a1 a2 a3 f1 n1 n2 n3 n4 n5 n6 r0 r1 r2 r3
              obtain ⟨y1, ⟨y2, y3, y4, y5⟩, y6⟩ := HCB.out
              go_upto_region 23 with fail
              obtain ⟨S, hS⟩ : ∃ S : Nat → Value → World → Prop, S = fun i v W => match i with | 0 => (fun v W => v = .agg #[.int .i64 c.ck, .int .i64 c.nx, .int .i64 c.wt, .slice ac c.ts.length cc]) v W | 1 => (fun v W => v = .pointer (some ⟨rb, 1, none⟩)) v W | 2 => (fun v W => v = .int .i64 r.a) v W | 3 => (fun v W => v = .string (nameS r.a)) v W | 4 => (fun v W => v = .int .i64 x) v W | 5 => (fun v W => v = .pointer (some ⟨rb, 2, none⟩)) v W | 6 => (fun v W => v = .int .i64 r.b) v W | 7 => (fun v W => v = .int .i64 (pick r.b 4)) v W | 8 => (fun v W => ∃ vt us, v = .tuple #[.agg #[.int .i64 d.ck, .int .i64 d.nx, .int .i64 d.wt, vt], .int .i64 er] ∧ FreshC W5.heap.size W d vt us) v W | 9 => (fun v W => ∃ vt us, v = .tuple #[.agg #[.int .i64 d.ck, .int .i64 d.nx, .int .i64 d.wt, vt], .int .i64 er] ∧ FreshC W5.heap.size W d vt us) v W | 10 => (fun v W => ∃ vt us, v = .agg #[.int .i64 d.ck, .int .i64 d.nx, .int .i64 d.wt, vt] ∧ FreshC W5.heap.size W d vt us) v W | 11 => (fun v W => v = .int .i64 er) v W | 12 => (fun v W => ∃ vt us, CB W (rb + 1) d vt ∧ FreshC W5.heap.size W d vt us) v W | 13 => (fun v W => v = .int .i64 er) v W | _ => True := ⟨_, rfl⟩
              have HS0 : Hid (∀ v W, S 0 v W ↔ (fun v W => v = .agg #[.int .i64 c.ck, .int .i64 c.nx, .int .i64 c.wt, .slice ac c.ts.length cc]) v W) := fun v W => by rw [hS]; exact Iff.rfl
              have HS1 : Hid (∀ v W, S 1 v W ↔ (fun v W => v = .pointer (some ⟨rb, 1, none⟩)) v W) := fun v W => by rw [hS]; exact Iff.rfl
              have HS2 : Hid (∀ v W, S 2 v W ↔ (fun v W => v = .int .i64 r.a) v W) := fun v W => by rw [hS]; exact Iff.rfl
              have HS3 : Hid (∀ v W, S 3 v W ↔ (fun v W => v = .string (nameS r.a)) v W) := fun v W => by rw [hS]; exact Iff.rfl
              have HS4 : Hid (∀ v W, S 4 v W ↔ (fun v W => v = .int .i64 x) v W) := fun v W => by rw [hS]; exact Iff.rfl
              have HS5 : Hid (∀ v W, S 5 v W ↔ (fun v W => v = .pointer (some ⟨rb, 2, none⟩)) v W) := fun v W => by rw [hS]; exact Iff.rfl
              have HS6 : Hid (∀ v W, S 6 v W ↔ (fun v W => v = .int .i64 r.b) v W) := fun v W => by rw [hS]; exact Iff.rfl
              have HS7 : Hid (∀ v W, S 7 v W ↔ (fun v W => v = .int .i64 (pick r.b 4)) v W) := fun v W => by rw [hS]; exact Iff.rfl
              have HS8 : Hid (∀ v W, S 8 v W ↔ (fun v W => ∃ vt us, v = .tuple #[.agg #[.int .i64 d.ck, .int .i64 d.nx, .int .i64 d.wt, vt], .int .i64 er] ∧ FreshC W5.heap.size W d vt us) v W) := fun v W => by rw [hS]; exact Iff.rfl
              have HS9 : Hid (∀ v W, S 9 v W ↔ (fun v W => ∃ vt us, v = .tuple #[.agg #[.int .i64 d.ck, .int .i64 d.nx, .int .i64 d.wt, vt], .int .i64 er] ∧ FreshC W5.heap.size W d vt us) v W) := fun v W => by rw [hS]; exact Iff.rfl
              have HS10 : Hid (∀ v W, S 10 v W ↔ (fun v W => ∃ vt us, v = .agg #[.int .i64 d.ck, .int .i64 d.nx, .int .i64 d.wt, vt] ∧ FreshC W5.heap.size W d vt us) v W) := fun v W => by rw [hS]; exact Iff.rfl
              have HS11 : Hid (∀ v W, S 11 v W ↔ (fun v W => v = .int .i64 er) v W) := fun v W => by rw [hS]; exact Iff.rfl
              have HS12 : Hid (∀ v W, S 12 v W ↔ (fun v W => ∃ vt us, CB W (rb + 1) d vt ∧ FreshC W5.heap.size W d vt us) v W) := fun v W => by rw [hS]; exact Iff.rfl
              have HS13 : Hid (∀ v W, S 13 v W ↔ (fun v W => v = .int .i64 er) v W) := fun v W => by rw [hS]; exact Iff.rfl
              have HKP : Hid (∀ W W', Below W.heap.size W W' → ∀ j u, S j u W → S j u W') := fun W W' hb j u h => by
                rw [hS] at h ⊢
                revert h
                exact match j with | 0 => fun h => h | 1 => fun h => h | 2 => fun h => h | 3 => fun h => h | 4 => fun h => h | 5 => fun h => h | 6 => fun h => h | 7 => fun h => h | 8 => fun h => by obtain ⟨vt, us, h1, h2⟩ := h; exact ⟨vt, us, h1, OwnW.below h2 (Nat.le_refl _) hb⟩ | 9 => fun h => by obtain ⟨vt, us, h1, h2⟩ := h; exact ⟨vt, us, h1, OwnW.below h2 (Nat.le_refl _) hb⟩ | 10 => fun h => by obtain ⟨vt, us, h1, h2⟩ := h; exact ⟨vt, us, h1, OwnW.below h2 (Nat.le_refl _) hb⟩ | 11 => fun h => h | 12 => fun h => by obtain ⟨vt, us, h1, h2⟩ := h; exact ⟨vt, us, h1.below h1.1 hb, OwnW.below h2 (Nat.le_refl _) hb⟩ | 13 => fun h => h | _ + 14 => fun h => h
              have HKI : Hid (∀ W W', ∀ j u, j ≠ 8 → j ≠ 9 → j ≠ 10 → j ≠ 12 → S j u W → S j u W') := fun W W' j u q8 q9 q10 q12 h => by
                rw [hS] at h ⊢
                revert h
                exact match j, q8, q9, q10, q12 with | 0, _, _, _, _ => fun h => h | 1, _, _, _, _ => fun h => h | 2, _, _, _, _ => fun h => h | 3, _, _, _, _ => fun h => h | 4, _, _, _, _ => fun h => h | 5, _, _, _, _ => fun h => h | 6, _, _, _, _ => fun h => h | 7, _, _, _, _ => fun h => h | 8, q, _, _, _ => absurd rfl q | 9, _, q, _, _ => absurd rfl q | 10, _, _, q, _ => absurd rfl q | 11, _, _, _, _ => fun h => h | 12, _, _, _, q => absurd rfl q | 13, _, _, _, _ => fun h => h | _ + 14, _, _, _, _ => fun h => h
              clear hS
              obtain ⟨CC, hCC⟩ : ∃ CC : World → Prop, CC = fun W => Below rb wo W ∧ (W.cell? ⟨rb, 0, none⟩ = some (.int .i64 r.k) ∧ W.cell? ⟨rb, 1, none⟩ = some (.int .i64 r.a) ∧ W.cell? ⟨rb, 2, none⟩ = some (.int .i64 r.b) ∧ W.cell? ⟨rb, 3, none⟩ = some (.int .i64 r.c)) ∧ (∃ d v, CB W (rb + 1) d v) ∧ W5.heap.size ≤ W.heap.size := ⟨_, rfl⟩
              have HCC : Hid (∀ W, CC W ↔ (fun W => Below rb wo W ∧ (W.cell? ⟨rb, 0, none⟩ = some (.int .i64 r.k) ∧ W.cell? ⟨rb, 1, none⟩ = some (.int .i64 r.a) ∧ W.cell? ⟨rb, 2, none⟩ = some (.int .i64 r.b) ∧ W.cell? ⟨rb, 3, none⟩ = some (.int .i64 r.c)) ∧ (∃ d v, CB W (rb + 1) d v) ∧ W5.heap.size ≤ W.heap.size) W) := fun W => by rw [hCC]
              clear hCC
              have HCM : Hid (∀ W W', CC W → Below W.heap.size W W' → CC W') := fun W W' h hb => by
                obtain ⟨h1, h2, ⟨d9, v9, h3⟩, h4⟩ := (HCC.out W).1 h
                have hlt : rb < W.heap.size := cell_lt h2.1
                exact (HCC.out W').2 ⟨h1.trans (show Below rb W W' from hb.mono (by omega)), ⟨(hb.cell (p := ⟨rb, 0, none⟩) hlt).trans h2.1, (hb.cell (p := ⟨rb, 1, none⟩) hlt).trans h2.2.1, (hb.cell (p := ⟨rb, 2, none⟩) hlt).trans h2.2.2.1, (hb.cell (p := ⟨rb, 3, none⟩) hlt).trans h2.2.2.2⟩, ⟨d9, v9, h3.below h3.1 hb⟩, Nat.le_trans h4 hb.size⟩
              refine wp_region_mono (C := CC) (S := S) (by kernel_rfl) (n := 142) (by kernel_rfl) (by kernel_rfl) ((HCC.out _).2 HCX0.out) (each_at ?_) ?_
              · refine ⟨?_, ?_, ?_, ?_, ?_, ?_, ?_, ?_, ?_, ?_, ?_, ?_, ?_, ?_, trivial⟩
                · intro a W hC0 _ _ he hdep
                  have hC := (HCC.out W).1 hC0
                  rw [if_pos (wanted_free rfl)]
                  have t6 := slot_else (t := 6) he (by kernel_rfl) rfl
                  have A0 := (hC.1.cell (p := ⟨b, 0, none⟩) hbr).trans y2
                  have A1 := (hC.1.cell (p := ⟨b, 1, none⟩) hbr).trans y3
                  have A2 := (hC.1.cell (p := ⟨b, 2, none⟩) hbr).trans y4
                  have A3 := (hC.1.cell (p := ⟨b, 3, none⟩) hbr).trans y5
                  unfold Oper.wp
                  simp [execOp, go_sem, t6, A0, A1, A2, A3]
                  exact MPost.same (.agg #[.int .i64 c.ck, .int .i64 c.nx, .int .i64 c.wt, .slice ac c.ts.length cc]) hC0 ((HS0.out _ _).2 rfl) rfl
                · intro a W hC0 _ _ he hdep
                  have hC := (HCC.out W).1 hC0
                  rw [if_pos (wanted_free rfl)]
                  have t10 := slot_else (t := 10) he (by kernel_rfl) rfl
                  unfold Oper.wp
                  simp [execOp, go_sem, t10]
                  exact MPost.same (.pointer (some ⟨rb, 1, none⟩)) hC0 ((HS1.out _ _).2 rfl) rfl
                · intro a W hC0 _ _ he hdep
                  have hC := (HCC.out W).1 hC0
                  obtain ⟨v90, t90, h90⟩ := hdep ⟨1, .data⟩ (by simp) (by rfl) _ _ rfl rfl
                  obtain rfl : v90 = .pointer (some ⟨rb, 1, none⟩) := (HS1.out _ _).1 h90
                  rw [if_pos (wanted_free rfl)]
                  have R1 := hC.2.1.2.1
                  unfold Oper.wp
                  simp [execOp, go_sem, t90, R1]
                  exact MPost.same (.int .i64 r.a) hC0 ((HS2.out _ _).2 rfl) rfl
                · intro a W hC0 _ _ he hdep
                  have hC := (HCC.out W).1 hC0
                  obtain ⟨v91, t91, h91⟩ := hdep ⟨2, .data⟩ (by simp) (by rfl) _ _ rfl rfl
                  obtain rfl : v91 = .int .i64 r.a := (HS2.out _ _).1 h91
                  rw [if_pos (wanted_free rfl)]
                  unfold Oper.wp
                  simp [execOp, go_sem, t91]
                  refine (name_any r.a _ HRO.out.2.1).mono ?_
                  rintro e W2 ⟨rfl, hb2⟩
                  exact MPost.turn _ (HCM.out _ _ hC0 hb2) ((HS3.out _ _).2 rfl) (fun j u _ => HKP.out _ _ hb2 j u) rfl
                · intro a W hC0 _ _ he hdep
                  have hC := (HCC.out W).1 hC0
                  rw [if_pos (wanted_free rfl)]
                  have t13 := slot_else (t := 13) he (by kernel_rfl) rfl
                  unfold Oper.wp
                  simp [execOp, go_sem, t13]
                  exact MPost.same (.int .i64 x) hC0 ((HS4.out _ _).2 rfl) rfl
                · intro a W hC0 _ _ he hdep
                  have hC := (HCC.out W).1 hC0
                  rw [if_pos (wanted_free rfl)]
                  have t10 := slot_else (t := 10) he (by kernel_rfl) rfl
                  unfold Oper.wp
                  simp [execOp, go_sem, t10]
                  exact MPost.same (.pointer (some ⟨rb, 2, none⟩)) hC0 ((HS5.out _ _).2 rfl) rfl
                · intro a W hC0 _ _ he hdep
                  have hC := (HCC.out W).1 hC0
                  obtain ⟨v94, t94, h94⟩ := hdep ⟨5, .data⟩ (by simp) (by rfl) _ _ rfl rfl
                  obtain rfl : v94 = .pointer (some ⟨rb, 2, none⟩) := (HS5.out _ _).1 h94
                  rw [if_pos (wanted_free rfl)]
                  have R1 := hC.2.1.2.2.1
                  unfold Oper.wp
                  simp [execOp, go_sem, t94, R1]
                  exact MPost.same (.int .i64 r.b) hC0 ((HS6.out _ _).2 rfl) rfl
                · intro a W hC0 _ _ he hdep
                  have hC := (HCC.out W).1 hC0
                  obtain ⟨v95, t95, h95⟩ := hdep ⟨6, .data⟩ (by simp) (by rfl) _ _ rfl rfl
                  obtain rfl : v95 = .int .i64 r.b := (HS6.out _ _).1 h95
                  rw [if_pos (wanted_free rfl)]
                  unfold Oper.wp
                  simp [execOp, go_sem, t95]
                  refine (picked_any r.b 4 _ HRO.out.2.2.1 ⟨by omega, by omega⟩).mono ?_
                  rintro e W2 ⟨rfl, hW2⟩
                  subst hW2
                  exact MPost.same _ hC0 ((HS7.out _ _).2 rfl) rfl
                · intro a W hC0 _ _ he hdep
                  have hC := (HCC.out W).1 hC0
                  obtain ⟨v89, t89, h89⟩ := hdep ⟨0, .data⟩ (by simp) (by rfl) _ _ rfl rfl
                  obtain rfl : v89 = .agg #[.int .i64 c.ck, .int .i64 c.nx, .int .i64 c.wt, .slice ac c.ts.length cc] := (HS0.out _ _).1 h89
                  obtain ⟨v92, t92, h92⟩ := hdep ⟨3, .data⟩ (by simp) (by rfl) _ _ rfl rfl
                  obtain rfl : v92 = .string (nameS r.a) := (HS3.out _ _).1 h92
                  obtain ⟨v93, t93, h93⟩ := hdep ⟨4, .data⟩ (by simp) (by rfl) _ _ rfl rfl
                  obtain rfl : v93 = .int .i64 x := (HS4.out _ _).1 h93
                  obtain ⟨v96, t96, h96⟩ := hdep ⟨7, .data⟩ (by simp) (by rfl) _ _ rfl rfl
                  obtain rfl : v96 = .int .i64 (pick r.b 4) := (HS7.out _ _).1 h96
                  rw [if_pos (wanted_free rfl)]
                  unfold Oper.wp
                  simp [execOp, go_sem, t89, t92, t93, t96]
                  refine (add_any c (nameS r.a) x (pick r.b 4) _ us _ (RdC.below HRO2.out (by omega) hC.1) HFT.out HNS.out).mono ?_
                  rintro e W2 ⟨vt', us8, rfl, hf8, hb8⟩
                  rw [HX.out] at hf8 ⊢
                  exact MPost.turn _ (HCM.out _ _ hC0 hb8) ((HS8.out _ _).2 ⟨_, us8, rfl, OwnW.mono hf8 hC.2.2.2⟩) (fun j u _ => HKP.out _ _ hb8 j u) rfl
                · intro a W hC0 _ _ he hdep
                  have hC := (HCC.out W).1 hC0
                  obtain ⟨v97, t97, h97⟩ := hdep ⟨8, .data⟩ (by simp) (by rfl) _ _ rfl rfl
                  have h97 := (HS8.out _ _).1 h97
                  rw [if_pos (wanted_free rfl)]
                  unfold Oper.wp
                  simp [execOp, go_sem, t97]
                  exact MPost.same _ hC0 ((HS9.out _ _).2 h97) rfl
                · intro a W hC0 _ _ he hdep
                  have hC := (HCC.out W).1 hC0
                  obtain ⟨v88, t88, h88⟩ := hdep ⟨9, .data⟩ (by simp) (by rfl) _ _ rfl rfl
                  have h88 := (HS9.out _ _).1 h88
                  rw [if_pos (wanted_free rfl)]
                  obtain ⟨vt8, us8, rfl, hf8⟩ := h88
                  unfold Oper.wp
                  simp [execOp, go_sem, t88]
                  exact MPost.same _ hC0 ((HS10.out _ _).2 ⟨vt8, us8, rfl, hf8⟩) rfl
                · intro a W hC0 _ _ he hdep
                  have hC := (HCC.out W).1 hC0
                  obtain ⟨v88, t88, h88⟩ := hdep ⟨9, .data⟩ (by simp) (by rfl) _ _ rfl rfl
                  have h88 := (HS9.out _ _).1 h88
                  rw [if_pos (wanted_free rfl)]
                  obtain ⟨vt8, us8, rfl, -⟩ := h88
                  unfold Oper.wp
                  simp [execOp, go_sem, t88]
                  exact MPost.same (.int .i64 er) hC0 ((HS11.out _ _).2 rfl) rfl
                · intro a W hC0 _ _ he hdep
                  have hC := (HCC.out W).1 hC0
                  obtain ⟨v98, t98, h98⟩ := hdep ⟨10, .data⟩ (by simp) (by rfl) _ _ rfl rfl
                  have h98 := (HS10.out _ _).1 h98
                  rw [if_pos (wanted_free rfl)]
                  have t11 := slot_else (t := 11) he (by kernel_rfl) rfl
                  obtain ⟨vt8, us8, rfl, hf8⟩ := h98
                  obtain ⟨a8, c8, rfl⟩ := hf8.shapeOf
                  obtain ⟨d9, v9, hcb⟩ := hC.2.2.1
                  have hcb2 := hcb
                  obtain ⟨n1, ⟨n2, n3, n4, n5⟩, n6⟩ := hcb
                  unfold Oper.wp
                  simp [execOp, go_sem, t11, t98, n2, n3, n4, n5, n6]
                  refine MPost.turn undef ((HCC.out _).2 ⟨below_put4K hC.1 (by omega) d (.slice a8 d.ts.length c8), ⟨?_, ?_, ?_, ?_⟩, ⟨d, (.slice a8 d.ts.length c8), hcb2.put d (.slice a8 d.ts.length c8)⟩, by simp; exact hC.2.2.2⟩) ((HS12.out _ _).2 ⟨(.slice a8 d.ts.length c8), us8, hcb2.put d (.slice a8 d.ts.length c8), FreshC.put4 hf8 (by omega) d (.slice a8 d.ts.length c8)⟩) (fun j u hj hh => ?_) rfl
                  · simp [go_sem, hC.2.1.1]
                  · simp [go_sem, hC.2.1.2.1]
                  · simp [go_sem, hC.2.1.2.2.1]
                  · simp [go_sem, hC.2.1.2.2.2]
                  · by_cases e8 : j = 8
                    · subst e8
                      obtain ⟨vt7, us7, k1, k2⟩ := (HS8.out _ _).1 hh
                      exact (HS8.out _ _).2 ⟨vt7, us7, k1, FreshC.put4 k2 (by omega) d (.slice a8 d.ts.length c8)⟩
                    by_cases e9 : j = 9
                    · subst e9
                      obtain ⟨vt7, us7, k1, k2⟩ := (HS9.out _ _).1 hh
                      exact (HS9.out _ _).2 ⟨vt7, us7, k1, FreshC.put4 k2 (by omega) d (.slice a8 d.ts.length c8)⟩
                    by_cases e10 : j = 10
                    · subst e10
                      obtain ⟨vt7, us7, k1, k2⟩ := (HS10.out _ _).1 hh
                      exact (HS10.out _ _).2 ⟨vt7, us7, k1, FreshC.put4 k2 (by omega) d (.slice a8 d.ts.length c8)⟩
                    exact HKI.out _ _ j u e8 e9 e10 hj hh
                · intro a W hC0 _ _ he hdep
                  have hC := (HCC.out W).1 hC0
                  obtain ⟨v99, t99, h99⟩ := hdep ⟨11, .data⟩ (by simp) (by rfl) _ _ rfl rfl
                  obtain rfl : v99 = .int .i64 er := (HS11.out _ _).1 h99
                  rw [if_pos (wanted_free rfl)]
                  unfold Oper.wp
                  simp [execOp, go_sem, t99]
                  exact MPost.same (.int .i64 er) hC0 ((HS13.out _ _).2 rfl) rfl
              · intro vs W hC0 hS
                have hC := (HCC.out W).1 hC0
                obtain ⟨vt8, us8, hcb, hf8⟩ := (HS12.out _ _).1 (hS 12 (by simp))
                have g12 := (HS13.out _ _).1 (hS 13 (by simp))
                simp [over, g12, Act.put]
                go_wp2_with fail
                go_meet
                exact ⟨er, d, vt8, us8, rfl, fun h0 => ⟨HCO.out h0, hf8⟩, hcb, hC.1⟩
            · have d1 : (kk == 1) = false := by simp [k1]
              have d2 : (kk == 2) = false := by simp [k1]
              have d3 : (kk == 3) = true := by simp [k1]
              clear k1 k0
              obtain ⟨⟨d, er⟩, hX⟩ : ∃ yy, c.addP (nameS r.a) x (pick r.b 4) = yy := ⟨_, rfl⟩
              have HX : Hid (c.addP (nameS r.a) x (pick r.b 4) = (d, er)) := hX
              have HCO : Hid (er = 0 → CoP isName3 d) := fun h0 => by have := @co_add isName3 c HC.out (nameS r.a) x (pick r.b 4); rw [hX] at this; exact this h0
              clear hX
              clear s1 a0 a1 a2 a3 f1 n1 n2 n3 n4 n5 n6 r0 r1 r2 r3
              obtain ⟨y1, ⟨y2, y3, y4, y5⟩, y6⟩ := HCB.out
              go_upto_region 23 with fail
              obtain ⟨S, hS⟩ : ∃ S : Nat → Value → World → Prop, S = fun i v W => match i with | 0 => (fun v W => v = .agg #[.int .i64 c.ck, .int .i64 c.nx, .int .i64 c.wt, .slice ac c.ts.length cc]) v W | 1 => (fun v W => v = .pointer (some ⟨rb, 1, none⟩)) v W | 2 => (fun v W => v = .int .i64 r.a) v W | 3 => (fun v W => v = .string (nameS r.a)) v W | 4 => (fun v W => v = .int .i64 x) v W | 5 => (fun v W => v = .pointer (some ⟨rb, 2, none⟩)) v W | 6 => (fun v W => v = .int .i64 r.b) v W | 7 => (fun v W => v = .int .i64 (pick r.b 4)) v W | 8 => (fun v W => ∃ vt us, v = .tuple #[.agg #[.int .i64 d.ck, .int .i64 d.nx, .int .i64 d.wt, vt], .int .i64 er] ∧ FreshC W5.heap.size W d vt us) v W | 9 => (fun v W => ∃ vt us, v = .tuple #[.agg #[.int .i64 d.ck, .int .i64 d.nx, .int .i64 d.wt, vt], .int .i64 er] ∧ FreshC W5.heap.size W d vt us) v W | 10 => (fun v W => ∃ vt us, v = .agg #[.int .i64 d.ck, .int .i64 d.nx, .int .i64 d.wt, vt] ∧ FreshC W5.heap.size W d vt us) v W | 11 => (fun v W => v = .int .i64 er) v W | 12 => (fun v W => ∃ vt us, CB W (rb + 1) d vt ∧ FreshC W5.heap.size W d vt us) v W | 13 => (fun v W => v = .int .i64 er) v W | _ => True := ⟨_, rfl⟩
              have HS0 : Hid (∀ v W, S 0 v W ↔ (fun v W => v = .agg #[.int .i64 c.ck, .int .i64 c.nx, .int .i64 c.wt, .slice ac c.ts.length cc]) v W) := fun v W => by rw [hS]; exact Iff.rfl
              have HS1 : Hid (∀ v W, S 1 v W ↔ (fun v W => v = .pointer (some ⟨rb, 1, none⟩)) v W) := fun v W => by rw [hS]; exact Iff.rfl
              have HS2 : Hid (∀ v W, S 2 v W ↔ (fun v W => v = .int .i64 r.a) v W) := fun v W => by rw [hS]; exact Iff.rfl
              have HS3 : Hid (∀ v W, S 3 v W ↔ (fun v W => v = .string (nameS r.a)) v W) := fun v W => by rw [hS]; exact Iff.rfl
              have HS4 : Hid (∀ v W, S 4 v W ↔ (fun v W => v = .int .i64 x) v W) := fun v W => by rw [hS]; exact Iff.rfl
              have HS5 : Hid (∀ v W, S 5 v W ↔ (fun v W => v = .pointer (some ⟨rb, 2, none⟩)) v W) := fun v W => by rw [hS]; exact Iff.rfl
              have HS6 : Hid (∀ v W, S 6 v W ↔ (fun v W => v = .int .i64 r.b) v W) := fun v W => by rw [hS]; exact Iff.rfl
              have HS7 : Hid (∀ v W, S 7 v W ↔ (fun v W => v = .int .i64 (pick r.b 4)) v W) := fun v W => by rw [hS]; exact Iff.rfl
              have HS8 : Hid (∀ v W, S 8 v W ↔ (fun v W => ∃ vt us, v = .tuple #[.agg #[.int .i64 d.ck, .int .i64 d.nx, .int .i64 d.wt, vt], .int .i64 er] ∧ FreshC W5.heap.size W d vt us) v W) := fun v W => by rw [hS]; exact Iff.rfl
              have HS9 : Hid (∀ v W, S 9 v W ↔ (fun v W => ∃ vt us, v = .tuple #[.agg #[.int .i64 d.ck, .int .i64 d.nx, .int .i64 d.wt, vt], .int .i64 er] ∧ FreshC W5.heap.size W d vt us) v W) := fun v W => by rw [hS]; exact Iff.rfl
              have HS10 : Hid (∀ v W, S 10 v W ↔ (fun v W => ∃ vt us, v = .agg #[.int .i64 d.ck, .int .i64 d.nx, .int .i64 d.wt, vt] ∧ FreshC W5.heap.size W d vt us) v W) := fun v W => by rw [hS]; exact Iff.rfl
              have HS11 : Hid (∀ v W, S 11 v W ↔ (fun v W => v = .int .i64 er) v W) := fun v W => by rw [hS]; exact Iff.rfl
              have HS12 : Hid (∀ v W, S 12 v W ↔ (fun v W => ∃ vt us, CB W (rb + 1) d vt ∧ FreshC W5.heap.size W d vt us) v W) := fun v W => by rw [hS]; exact Iff.rfl
              have HS13 : Hid (∀ v W, S 13 v W ↔ (fun v W => v = .int .i64 er) v W) := fun v W => by rw [hS]; exact Iff.rfl
              have HKP : Hid (∀ W W', Below W.heap.size W W' → ∀ j u, S j u W → S j u W') := fun W W' hb j u h => by
                rw [hS] at h ⊢
                revert h
                exact match j with | 0 => fun h => h | 1 => fun h => h | 2 => fun h => h | 3 => fun h => h | 4 => fun h => h | 5 => fun h => h | 6 => fun h => h | 7 => fun h => h | 8 => fun h => by obtain ⟨vt, us, h1, h2⟩ := h; exact ⟨vt, us, h1, OwnW.below h2 (Nat.le_refl _) hb⟩ | 9 => fun h => by obtain ⟨vt, us, h1, h2⟩ := h; exact ⟨vt, us, h1, OwnW.below h2 (Nat.le_refl _) hb⟩ | 10 => fun h => by obtain ⟨vt, us, h1, h2⟩ := h; exact ⟨vt, us, h1, OwnW.below h2 (Nat.le_refl _) hb⟩ | 11 => fun h => h | 12 => fun h => by obtain ⟨vt, us, h1, h2⟩ := h; exact ⟨vt, us, h1.below h1.1 hb, OwnW.below h2 (Nat.le_refl _) hb⟩ | 13 => fun h => h | _ + 14 => fun h => h
              have HKI : Hid (∀ W W', ∀ j u, j ≠ 8 → j ≠ 9 → j ≠ 10 → j ≠ 12 → S j u W → S j u W') := fun W W' j u q8 q9 q10 q12 h => by
                rw [hS] at h ⊢
                revert h
                exact match j, q8, q9, q10, q12 with | 0, _, _, _, _ => fun h => h | 1, _, _, _, _ => fun h => h | 2, _, _, _, _ => fun h => h | 3, _, _, _, _ => fun h => h | 4, _, _, _, _ => fun h => h | 5, _, _, _, _ => fun h => h | 6, _, _, _, _ => fun h => h | 7, _, _, _, _ => fun h => h | 8, q, _, _, _ => absurd rfl q | 9, _, q, _, _ => absurd rfl q | 10, _, _, q, _ => absurd rfl q | 11, _, _, _, _ => fun h => h | 12, _, _, _, q => absurd rfl q | 13, _, _, _, _ => fun h => h | _ + 14, _, _, _, _ => fun h => h
              clear hS
              obtain ⟨CC, hCC⟩ : ∃ CC : World → Prop, CC = fun W => Below rb wo W ∧ (W.cell? ⟨rb, 0, none⟩ = some (.int .i64 r.k) ∧ W.cell? ⟨rb, 1, none⟩ = some (.int .i64 r.a) ∧ W.cell? ⟨rb, 2, none⟩ = some (.int .i64 r.b) ∧ W.cell? ⟨rb, 3, none⟩ = some (.int .i64 r.c)) ∧ (∃ d v, CB W (rb + 1) d v) ∧ W5.heap.size ≤ W.heap.size := ⟨_, rfl⟩
              have HCC : Hid (∀ W, CC W ↔ (fun W => Below rb wo W ∧ (W.cell? ⟨rb, 0, none⟩ = some (.int .i64 r.k) ∧ W.cell? ⟨rb, 1, none⟩ = some (.int .i64 r.a) ∧ W.cell? ⟨rb, 2, none⟩ = some (.int .i64 r.b) ∧ W.cell? ⟨rb, 3, none⟩ = some (.int .i64 r.c)) ∧ (∃ d v, CB W (rb + 1) d v) ∧ W5.heap.size ≤ W.heap.size) W) := fun W => by rw [hCC]
              clear hCC
              have HCM : Hid (∀ W W', CC W → Below W.heap.size W W' → CC W') := fun W W' h hb => by
                obtain ⟨h1, h2, ⟨d9, v9, h3⟩, h4⟩ := (HCC.out W).1 h
                have hlt : rb < W.heap.size := cell_lt h2.1
                exact (HCC.out W').2 ⟨h1.trans (show Below rb W W' from hb.mono (by omega)), ⟨(hb.cell (p := ⟨rb, 0, none⟩) hlt).trans h2.1, (hb.cell (p := ⟨rb, 1, none⟩) hlt).trans h2.2.1, (hb.cell (p := ⟨rb, 2, none⟩) hlt).trans h2.2.2.1, (hb.cell (p := ⟨rb, 3, none⟩) hlt).trans h2.2.2.2⟩, ⟨d9, v9, h3.below h3.1 hb⟩, Nat.le_trans h4 hb.size⟩
              refine wp_region_mono (C := CC) (S := S) (by kernel_rfl) (n := 142) (by kernel_rfl) (by kernel_rfl) ((HCC.out _).2 HCX0.out) (each_at ?_) ?_
              · refine ⟨?_, ?_, ?_, ?_, ?_, ?_, ?_, ?_, ?_, ?_, ?_, ?_, ?_, ?_, trivial⟩
                · intro a W hC0 _ _ he hdep
                  have hC := (HCC.out W).1 hC0
                  rw [if_pos (wanted_free rfl)]
                  have t6 := slot_else (t := 6) he (by kernel_rfl) rfl
                  have A0 := (hC.1.cell (p := ⟨b, 0, none⟩) hbr).trans y2
                  have A1 := (hC.1.cell (p := ⟨b, 1, none⟩) hbr).trans y3
                  have A2 := (hC.1.cell (p := ⟨b, 2, none⟩) hbr).trans y4
                  have A3 := (hC.1.cell (p := ⟨b, 3, none⟩) hbr).trans y5
                  unfold Oper.wp
                  simp [execOp, go_sem, t6, A0, A1, A2, A3]
                  exact MPost.same (.agg #[.int .i64 c.ck, .int .i64 c.nx, .int .i64 c.wt, .slice ac c.ts.length cc]) hC0 ((HS0.out _ _).2 rfl) rfl
                · intro a W hC0 _ _ he hdep
                  have hC := (HCC.out W).1 hC0
                  rw [if_pos (wanted_free rfl)]
                  have t10 := slot_else (t := 10) he (by kernel_rfl) rfl
                  unfold Oper.wp
                  simp [execOp, go_sem, t10]
                  exact MPost.same (.pointer (some ⟨rb, 1, none⟩)) hC0 ((HS1.out _ _).2 rfl) rfl
                · intro a W hC0 _ _ he hdep
                  have hC := (HCC.out W).1 hC0
                  obtain ⟨v90, t90, h90⟩ := hdep ⟨1, .data⟩ (by simp) (by rfl) _ _ rfl rfl
                  obtain rfl : v90 = .pointer (some ⟨rb, 1, none⟩) := (HS1.out _ _).1 h90
                  rw [if_pos (wanted_free rfl)]
                  have R1 := hC.2.1.2.1
                  unfold Oper.wp
                  simp [execOp, go_sem, t90, R1]
                  exact MPost.same (.int .i64 r.a) hC0 ((HS2.out _ _).2 rfl) rfl
                · intro a W hC0 _ _ he hdep
                  have hC := (HCC.out W).1 hC0
                  obtain ⟨v91, t91, h91⟩ := hdep ⟨2, .data⟩ (by simp) (by rfl) _ _ rfl rfl
                  obtain rfl : v91 = .int .i64 r.a := (HS2.out _ _).1 h91
                  rw [if_pos (wanted_free rfl)]
                  unfold Oper.wp
                  simp [execOp, go_sem, t91]
                  refine (name_any r.a _ HRO.out.2.1).mono ?_
                  rintro e W2 ⟨rfl, hb2⟩
                  exact MPost.turn _ (HCM.out _ _ hC0 hb2) ((HS3.out _ _).2 rfl) (fun j u _ => HKP.out _ _ hb2 j u) rfl
                · intro a W hC0 _ _ he hdep
                  have hC := (HCC.out W).1 hC0
                  rw [if_pos (wanted_free rfl)]
                  have t13 := slot_else (t := 13) he (by kernel_rfl) rfl
                  unfold Oper.wp
                  simp [execOp, go_sem, t13]
                  exact MPost.same (.int .i64 x) hC0 ((HS4.out _ _).2 rfl) rfl
                · intro a W hC0 _ _ he hdep
                  have hC := (HCC.out W).1 hC0
                  rw [if_pos (wanted_free rfl)]
                  have t10 := slot_else (t := 10) he (by kernel_rfl) rfl
                  unfold Oper.wp
                  simp [execOp, go_sem, t10]
                  exact MPost.same (.pointer (some ⟨rb, 2, none⟩)) hC0 ((HS5.out _ _).2 rfl) rfl
                · intro a W hC0 _ _ he hdep
                  have hC := (HCC.out W).1 hC0
                  obtain ⟨v94, t94, h94⟩ := hdep ⟨5, .data⟩ (by simp) (by rfl) _ _ rfl rfl
                  obtain rfl : v94 = .pointer (some ⟨rb, 2, none⟩) := (HS5.out _ _).1 h94
                  rw [if_pos (wanted_free rfl)]
                  have R1 := hC.2.1.2.2.1
                  unfold Oper.wp
                  simp [execOp, go_sem, t94, R1]
                  exact MPost.same (.int .i64 r.b) hC0 ((HS6.out _ _).2 rfl) rfl
                · intro a W hC0 _ _ he hdep
                  have hC := (HCC.out W).1 hC0
                  obtain ⟨v95, t95, h95⟩ := hdep ⟨6, .data⟩ (by simp) (by rfl) _ _ rfl rfl
                  obtain rfl : v95 = .int .i64 r.b := (HS6.out _ _).1 h95
                  rw [if_pos (wanted_free rfl)]
                  unfold Oper.wp
                  simp [execOp, go_sem, t95]
                  refine (picked_any r.b 4 _ HRO.out.2.2.1 ⟨by omega, by omega⟩).mono ?_
                  rintro e W2 ⟨rfl, hW2⟩
                  subst hW2
                  exact MPost.same _ hC0 ((HS7.out _ _).2 rfl) rfl
                · intro a W hC0 _ _ he hdep
                  have hC := (HCC.out W).1 hC0
                  obtain ⟨v89, t89, h89⟩ := hdep ⟨0, .data⟩ (by simp) (by rfl) _ _ rfl rfl
                  obtain rfl : v89 = .agg #[.int .i64 c.ck, .int .i64 c.nx, .int .i64 c.wt, .slice ac c.ts.length cc] := (HS0.out _ _).1 h89
                  obtain ⟨v92, t92, h92⟩ := hdep ⟨3, .data⟩ (by simp) (by rfl) _ _ rfl rfl
                  obtain rfl : v92 = .string (nameS r.a) := (HS3.out _ _).1 h92
                  obtain ⟨v93, t93, h93⟩ := hdep ⟨4, .data⟩ (by simp) (by rfl) _ _ rfl rfl
                  obtain rfl : v93 = .int .i64 x := (HS4.out _ _).1 h93
                  obtain ⟨v96, t96, h96⟩ := hdep ⟨7, .data⟩ (by simp) (by rfl) _ _ rfl rfl
                  obtain rfl : v96 = .int .i64 (pick r.b 4) := (HS7.out _ _).1 h96
                  rw [if_pos (wanted_free rfl)]
                  unfold Oper.wp
                  simp [execOp, go_sem, t89, t92, t93, t96]
                  refine (add_any c (nameS r.a) x (pick r.b 4) _ us _ (RdC.below HRO2.out (by omega) hC.1) HFT.out HNS.out).mono ?_
                  rintro e W2 ⟨vt', us8, rfl, hf8, hb8⟩
                  rw [HX.out] at hf8 ⊢
                  exact MPost.turn _ (HCM.out _ _ hC0 hb8) ((HS8.out _ _).2 ⟨_, us8, rfl, OwnW.mono hf8 hC.2.2.2⟩) (fun j u _ => HKP.out _ _ hb8 j u) rfl
                · intro a W hC0 _ _ he hdep
                  have hC := (HCC.out W).1 hC0
                  obtain ⟨v97, t97, h97⟩ := hdep ⟨8, .data⟩ (by simp) (by rfl) _ _ rfl rfl
                  have h97 := (HS8.out _ _).1 h97
                  rw [if_pos (wanted_free rfl)]
                  unfold Oper.wp
                  simp [execOp, go_sem, t97]
                  exact MPost.same _ hC0 ((HS9.out _ _).2 h97) rfl
                · intro a W hC0 _ _ he hdep
                  have hC := (HCC.out W).1 hC0
                  obtain ⟨v88, t88, h88⟩ := hdep ⟨9, .data⟩ (by simp) (by rfl) _ _ rfl rfl
                  have h88 := (HS9.out _ _).1 h88
                  rw [if_pos (wanted_free rfl)]
                  obtain ⟨vt8, us8, rfl, hf8⟩ := h88
                  unfold Oper.wp
                  simp [execOp, go_sem, t88]
                  exact MPost.same _ hC0 ((HS10.out _ _).2 ⟨vt8, us8, rfl, hf8⟩) rfl
                · intro a W hC0 _ _ he hdep
                  have hC := (HCC.out W).1 hC0
                  obtain ⟨v88, t88, h88⟩ := hdep ⟨9, .data⟩ (by simp) (by rfl) _ _ rfl rfl
                  have h88 := (HS9.out _ _).1 h88
                  rw [if_pos (wanted_free rfl)]
                  obtain ⟨vt8, us8, rfl, -⟩ := h88
                  unfold Oper.wp
                  simp [execOp, go_sem, t88]
                  exact MPost.same (.int .i64 er) hC0 ((HS11.out _ _).2 rfl) rfl
                · intro a W hC0 _ _ he hdep
                  have hC := (HCC.out W).1 hC0
                  obtain ⟨v98, t98, h98⟩ := hdep ⟨10, .data⟩ (by simp) (by rfl) _ _ rfl rfl
                  have h98 := (HS10.out _ _).1 h98
                  rw [if_pos (wanted_free rfl)]
                  have t11 := slot_else (t := 11) he (by kernel_rfl) rfl
                  obtain ⟨vt8, us8, rfl, hf8⟩ := h98
                  obtain ⟨a8, c8, rfl⟩ := hf8.shapeOf
                  obtain ⟨d9, v9, hcb⟩ := hC.2.2.1
                  have hcb2 := hcb
                  obtain ⟨n1, ⟨n2, n3, n4, n5⟩, n6⟩ := hcb
                  unfold Oper.wp
                  simp [execOp, go_sem, t11, t98, n2, n3, n4, n5, n6]
                  refine MPost.turn undef ((HCC.out _).2 ⟨below_put4K hC.1 (by omega) d (.slice a8 d.ts.length c8), ⟨?_, ?_, ?_, ?_⟩, ⟨d, (.slice a8 d.ts.length c8), hcb2.put d (.slice a8 d.ts.length c8)⟩, by simp; exact hC.2.2.2⟩) ((HS12.out _ _).2 ⟨(.slice a8 d.ts.length c8), us8, hcb2.put d (.slice a8 d.ts.length c8), FreshC.put4 hf8 (by omega) d (.slice a8 d.ts.length c8)⟩) (fun j u hj hh => ?_) rfl
                  · simp [go_sem, hC.2.1.1]
                  · simp [go_sem, hC.2.1.2.1]
                  · simp [go_sem, hC.2.1.2.2.1]
                  · simp [go_sem, hC.2.1.2.2.2]
                  · by_cases e8 : j = 8
                    · subst e8
                      obtain ⟨vt7, us7, k1, k2⟩ := (HS8.out _ _).1 hh
                      exact (HS8.out _ _).2 ⟨vt7, us7, k1, FreshC.put4 k2 (by omega) d (.slice a8 d.ts.length c8)⟩
                    by_cases e9 : j = 9
                    · subst e9
                      obtain ⟨vt7, us7, k1, k2⟩ := (HS9.out _ _).1 hh
                      exact (HS9.out _ _).2 ⟨vt7, us7, k1, FreshC.put4 k2 (by omega) d (.slice a8 d.ts.length c8)⟩
                    by_cases e10 : j = 10
                    · subst e10
                      obtain ⟨vt7, us7, k1, k2⟩ := (HS10.out _ _).1 hh
                      exact (HS10.out _ _).2 ⟨vt7, us7, k1, FreshC.put4 k2 (by omega) d (.slice a8 d.ts.length c8)⟩
                    exact HKI.out _ _ j u e8 e9 e10 hj hh
                · intro a W hC0 _ _ he hdep
                  have hC := (HCC.out W).1 hC0
                  obtain ⟨v99, t99, h99⟩ := hdep ⟨11, .data⟩ (by simp) (by rfl) _ _ rfl rfl
                  obtain rfl : v99 = .int .i64 er := (HS11.out _ _).1 h99
                  rw [if_pos (wanted_free rfl)]
                  unfold Oper.wp
                  simp [execOp, go_sem, t99]
                  exact MPost.same (.int .i64 er) hC0 ((HS13.out _ _).2 rfl) rfl
              · intro vs W hC0 hS
                have hC := (HCC.out W).1 hC0
                obtain ⟨vt8, us8, hcb, hf8⟩ := (HS12.out _ _).1 (hS 12 (by simp))
                have g12 := (HS13.out _ _).1 (hS 13 (by simp))
                simp [over, g12, Act.put]
                go_wp2_with fail
                go_meet
                exact ⟨er, d, vt8, us8, rfl, fun h0 => ⟨HCO.out h0, hf8⟩, hcb, hC.1⟩
          have d1 : (kk == 1) = false := by simp; omega
          have d2 : (kk == 2) = false := by simp; omega
          have d3 : (kk == 3) = false := by simp; omega
          by_cases k4 : kk = 4
          · have d4 : (kk == 4) = true := by simp [k4]
            clear k0 k1 k4
            obtain ⟨⟨d, er⟩, hX⟩ : ∃ yy, c.endP (nameS r.a) x (pick r.c 2 == 0) = yy := ⟨_, rfl⟩
            have HX : Hid (c.endP (nameS r.a) x (pick r.c 2 == 0) = (d, er)) := hX
            have HCO : Hid (er = 0 → CoP isName3 d) := fun h0 => by have := @co_end isName3 c HC.out (nameS r.a) x (pick r.c 2 == 0); rw [hX] at this; exact this h0
            clear hX
            clear s1 a0 a1 a2 a3 f1 n1 n2 n3 n4 n5 n6 r0 r1 r2 r3
            obtain ⟨y1, ⟨y2, y3, y4, y5⟩, y6⟩ := HCB.out
            go_upto_region 25 with fail
            obtain ⟨S, hS⟩ : ∃ S : Nat → Value → World → Prop, S = fun i v W => match i with | 0 => (fun v W => v = .agg #[.int .i64 c.ck, .int .i64 c.nx, .int .i64 c.wt, .slice ac c.ts.length cc]) v W | 1 => (fun v W => v = .pointer (some ⟨rb, 1, none⟩)) v W | 2 => (fun v W => v = .int .i64 r.a) v W | 3 => (fun v W => v = .string (nameS r.a)) v W | 4 => (fun v W => v = .int .i64 x) v W | 5 => (fun v W => v = .pointer (some ⟨rb, 3, none⟩)) v W | 6 => (fun v W => v = .int .i64 r.c) v W | 7 => (fun v W => v = .int .i64 (pick r.c 2)) v W | 8 => (fun v W => v = .bool (pick r.c 2 == 0)) v W | 9 => (fun v W => ∃ vt us, v = .tuple #[.agg #[.int .i64 d.ck, .int .i64 d.nx, .int .i64 d.wt, vt], .int .i64 er] ∧ FreshC W5.heap.size W d vt us) v W | 10 => (fun v W => ∃ vt us, v = .tuple #[.agg #[.int .i64 d.ck, .int .i64 d.nx, .int .i64 d.wt, vt], .int .i64 er] ∧ FreshC W5.heap.size W d vt us) v W | 11 => (fun v W => ∃ vt us, v = .agg #[.int .i64 d.ck, .int .i64 d.nx, .int .i64 d.wt, vt] ∧ FreshC W5.heap.size W d vt us) v W | 12 => (fun v W => v = .int .i64 er) v W | 13 => (fun v W => ∃ vt us, CB W (rb + 1) d vt ∧ FreshC W5.heap.size W d vt us) v W | 14 => (fun v W => v = .int .i64 er) v W | _ => True := ⟨_, rfl⟩
            have HS0 : Hid (∀ v W, S 0 v W ↔ (fun v W => v = .agg #[.int .i64 c.ck, .int .i64 c.nx, .int .i64 c.wt, .slice ac c.ts.length cc]) v W) := fun v W => by rw [hS]; exact Iff.rfl
            have HS1 : Hid (∀ v W, S 1 v W ↔ (fun v W => v = .pointer (some ⟨rb, 1, none⟩)) v W) := fun v W => by rw [hS]; exact Iff.rfl
            have HS2 : Hid (∀ v W, S 2 v W ↔ (fun v W => v = .int .i64 r.a) v W) := fun v W => by rw [hS]; exact Iff.rfl
            have HS3 : Hid (∀ v W, S 3 v W ↔ (fun v W => v = .string (nameS r.a)) v W) := fun v W => by rw [hS]; exact Iff.rfl
            have HS4 : Hid (∀ v W, S 4 v W ↔ (fun v W => v = .int .i64 x) v W) := fun v W => by rw [hS]; exact Iff.rfl
            have HS5 : Hid (∀ v W, S 5 v W ↔ (fun v W => v = .pointer (some ⟨rb, 3, none⟩)) v W) := fun v W => by rw [hS]; exact Iff.rfl
            have HS6 : Hid (∀ v W, S 6 v W ↔ (fun v W => v = .int .i64 r.c) v W) := fun v W => by rw [hS]; exact Iff.rfl
            have HS7 : Hid (∀ v W, S 7 v W ↔ (fun v W => v = .int .i64 (pick r.c 2)) v W) := fun v W => by rw [hS]; exact Iff.rfl
            have HS8 : Hid (∀ v W, S 8 v W ↔ (fun v W => v = .bool (pick r.c 2 == 0)) v W) := fun v W => by rw [hS]; exact Iff.rfl
            have HS9 : Hid (∀ v W, S 9 v W ↔ (fun v W => ∃ vt us, v = .tuple #[.agg #[.int .i64 d.ck, .int .i64 d.nx, .int .i64 d.wt, vt], .int .i64 er] ∧ FreshC W5.heap.size W d vt us) v W) := fun v W => by rw [hS]; exact Iff.rfl
            have HS10 : Hid (∀ v W, S 10 v W ↔ (fun v W => ∃ vt us, v = .tuple #[.agg #[.int .i64 d.ck, .int .i64 d.nx, .int .i64 d.wt, vt], .int .i64 er] ∧ FreshC W5.heap.size W d vt us) v W) := fun v W => by rw [hS]; exact Iff.rfl
            have HS11 : Hid (∀ v W, S 11 v W ↔ (fun v W => ∃ vt us, v = .agg #[.int .i64 d.ck, .int .i64 d.nx, .int .i64 d.wt, vt] ∧ FreshC W5.heap.size W d vt us) v W) := fun v W => by rw [hS]; exact Iff.rfl
            have HS12 : Hid (∀ v W, S 12 v W ↔ (fun v W => v = .int .i64 er) v W) := fun v W => by rw [hS]; exact Iff.rfl
            have HS13 : Hid (∀ v W, S 13 v W ↔ (fun v W => ∃ vt us, CB W (rb + 1) d vt ∧ FreshC W5.heap.size W d vt us) v W) := fun v W => by rw [hS]; exact Iff.rfl
            have HS14 : Hid (∀ v W, S 14 v W ↔ (fun v W => v = .int .i64 er) v W) := fun v W => by rw [hS]; exact Iff.rfl
            have HKP : Hid (∀ W W', Below W.heap.size W W' → ∀ j u, S j u W → S j u W') := fun W W' hb j u h => by
              rw [hS] at h ⊢
              revert h
              exact match j with | 0 => fun h => h | 1 => fun h => h | 2 => fun h => h | 3 => fun h => h | 4 => fun h => h | 5 => fun h => h | 6 => fun h => h | 7 => fun h => h | 8 => fun h => h | 9 => fun h => by obtain ⟨vt, us, h1, h2⟩ := h; exact ⟨vt, us, h1, OwnW.below h2 (Nat.le_refl _) hb⟩ | 10 => fun h => by obtain ⟨vt, us, h1, h2⟩ := h; exact ⟨vt, us, h1, OwnW.below h2 (Nat.le_refl _) hb⟩ | 11 => fun h => by obtain ⟨vt, us, h1, h2⟩ := h; exact ⟨vt, us, h1, OwnW.below h2 (Nat.le_refl _) hb⟩ | 12 => fun h => h | 13 => fun h => by obtain ⟨vt, us, h1, h2⟩ := h; exact ⟨vt, us, h1.below h1.1 hb, OwnW.below h2 (Nat.le_refl _) hb⟩ | 14 => fun h => h | _ + 15 => fun h => h
            have HKI : Hid (∀ W W', ∀ j u, j ≠ 9 → j ≠ 10 → j ≠ 11 → j ≠ 13 → S j u W → S j u W') := fun W W' j u q9 q10 q11 q13 h => by
              rw [hS] at h ⊢
              revert h
              exact match j, q9, q10, q11, q13 with | 0, _, _, _, _ => fun h => h | 1, _, _, _, _ => fun h => h | 2, _, _, _, _ => fun h => h | 3, _, _, _, _ => fun h => h | 4, _, _, _, _ => fun h => h | 5, _, _, _, _ => fun h => h | 6, _, _, _, _ => fun h => h | 7, _, _, _, _ => fun h => h | 8, _, _, _, _ => fun h => h | 9, q, _, _, _ => absurd rfl q | 10, _, q, _, _ => absurd rfl q | 11, _, _, q, _ => absurd rfl q | 12, _, _, _, _ => fun h => h | 13, _, _, _, q => absurd rfl q | 14, _, _, _, _ => fun h => h | _ + 15, _, _, _, _ => fun h => h
            clear hS
            obtain ⟨CC, hCC⟩ : ∃ CC : World → Prop, CC = fun W => Below rb wo W ∧ (W.cell? ⟨rb, 0, none⟩ = some (.int .i64 r.k) ∧ W.cell? ⟨rb, 1, none⟩ = some (.int .i64 r.a) ∧ W.cell? ⟨rb, 2, none⟩ = some (.int .i64 r.b) ∧ W.cell? ⟨rb, 3, none⟩ = some (.int .i64 r.c)) ∧ (∃ d v, CB W (rb + 1) d v) ∧ W5.heap.size ≤ W.heap.size := ⟨_, rfl⟩
            have HCC : Hid (∀ W, CC W ↔ (fun W => Below rb wo W ∧ (W.cell? ⟨rb, 0, none⟩ = some (.int .i64 r.k) ∧ W.cell? ⟨rb, 1, none⟩ = some (.int .i64 r.a) ∧ W.cell? ⟨rb, 2, none⟩ = some (.int .i64 r.b) ∧ W.cell? ⟨rb, 3, none⟩ = some (.int .i64 r.c)) ∧ (∃ d v, CB W (rb + 1) d v) ∧ W5.heap.size ≤ W.heap.size) W) := fun W => by rw [hCC]
            clear hCC
            have HCM : Hid (∀ W W', CC W → Below W.heap.size W W' → CC W') := fun W W' h hb => by
              obtain ⟨h1, h2, ⟨d9, v9, h3⟩, h4⟩ := (HCC.out W).1 h
              have hlt : rb < W.heap.size := cell_lt h2.1
              exact (HCC.out W').2 ⟨h1.trans (show Below rb W W' from hb.mono (by omega)), ⟨(hb.cell (p := ⟨rb, 0, none⟩) hlt).trans h2.1, (hb.cell (p := ⟨rb, 1, none⟩) hlt).trans h2.2.1, (hb.cell (p := ⟨rb, 2, none⟩) hlt).trans h2.2.2.1, (hb.cell (p := ⟨rb, 3, none⟩) hlt).trans h2.2.2.2⟩, ⟨d9, v9, h3.below h3.1 hb⟩, Nat.le_trans h4 hb.size⟩
            refine wp_region_mono (C := CC) (S := S) (by kernel_rfl) (n := 142) (by kernel_rfl) (by kernel_rfl) ((HCC.out _).2 HCX0.out) (each_at ?_) ?_
            · refine ⟨?_, ?_, ?_, ?_, ?_, ?_, ?_, ?_, ?_, ?_, ?_, ?_, ?_, ?_, ?_, trivial⟩
              · intro a W hC0 _ _ he hdep
                have hC := (HCC.out W).1 hC0
                rw [if_pos (wanted_free rfl)]
                have t6 := slot_else (t := 6) he (by kernel_rfl) rfl
                have A0 := (hC.1.cell (p := ⟨b, 0, none⟩) hbr).trans y2
                have A1 := (hC.1.cell (p := ⟨b, 1, none⟩) hbr).trans y3
                have A2 := (hC.1.cell (p := ⟨b, 2, none⟩) hbr).trans y4
                have A3 := (hC.1.cell (p := ⟨b, 3, none⟩) hbr).trans y5
                unfold Oper.wp
                simp [execOp, go_sem, t6, A0, A1, A2, A3]
                exact MPost.same (.agg #[.int .i64 c.ck, .int .i64 c.nx, .int .i64 c.wt, .slice ac c.ts.length cc]) hC0 ((HS0.out _ _).2 rfl) rfl
              · intro a W hC0 _ _ he hdep
                have hC := (HCC.out W).1 hC0
                rw [if_pos (wanted_free rfl)]
                have t10 := slot_else (t := 10) he (by kernel_rfl) rfl
                unfold Oper.wp
                simp [execOp, go_sem, t10]
                exact MPost.same (.pointer (some ⟨rb, 1, none⟩)) hC0 ((HS1.out _ _).2 rfl) rfl
              · intro a W hC0 _ _ he hdep
                have hC := (HCC.out W).1 hC0
                obtain ⟨v104, t104, h104⟩ := hdep ⟨1, .data⟩ (by simp) (by rfl) _ _ rfl rfl
                obtain rfl : v104 = .pointer (some ⟨rb, 1, none⟩) := (HS1.out _ _).1 h104
                rw [if_pos (wanted_free rfl)]
                have R1 := hC.2.1.2.1
                unfold Oper.wp
                simp [execOp, go_sem, t104, R1]
                exact MPost.same (.int .i64 r.a) hC0 ((HS2.out _ _).2 rfl) rfl
              · intro a W hC0 _ _ he hdep
                have hC := (HCC.out W).1 hC0
                obtain ⟨v105, t105, h105⟩ := hdep ⟨2, .data⟩ (by simp) (by rfl) _ _ rfl rfl
                obtain rfl : v105 = .int .i64 r.a := (HS2.out _ _).1 h105
                rw [if_pos (wanted_free rfl)]
                unfold Oper.wp
                simp [execOp, go_sem, t105]
                refine (name_any r.a _ HRO.out.2.1).mono ?_
                rintro e W2 ⟨rfl, hb2⟩
                exact MPost.turn _ (HCM.out _ _ hC0 hb2) ((HS3.out _ _).2 rfl) (fun j u _ => HKP.out _ _ hb2 j u) rfl
              · intro a W hC0 _ _ he hdep
                have hC := (HCC.out W).1 hC0
                rw [if_pos (wanted_free rfl)]
                have t13 := slot_else (t := 13) he (by kernel_rfl) rfl
                unfold Oper.wp
                simp [execOp, go_sem, t13]
                exact MPost.same (.int .i64 x) hC0 ((HS4.out _ _).2 rfl) rfl
              · intro a W hC0 _ _ he hdep
                have hC := (HCC.out W).1 hC0
                rw [if_pos (wanted_free rfl)]
                have t10 := slot_else (t := 10) he (by kernel_rfl) rfl
                unfold Oper.wp
                simp [execOp, go_sem, t10]
                exact MPost.same (.pointer (some ⟨rb, 3, none⟩)) hC0 ((HS5.out _ _).2 rfl) rfl
              · intro a W hC0 _ _ he hdep
                have hC := (HCC.out W).1 hC0
                obtain ⟨v108, t108, h108⟩ := hdep ⟨5, .data⟩ (by simp) (by rfl) _ _ rfl rfl
                obtain rfl : v108 = .pointer (some ⟨rb, 3, none⟩) := (HS5.out _ _).1 h108
                rw [if_pos (wanted_free rfl)]
                have R1 := hC.2.1.2.2.2
                unfold Oper.wp
                simp [execOp, go_sem, t108, R1]
                exact MPost.same (.int .i64 r.c) hC0 ((HS6.out _ _).2 rfl) rfl
              · intro a W hC0 _ _ he hdep
                have hC := (HCC.out W).1 hC0
                obtain ⟨v109, t109, h109⟩ := hdep ⟨6, .data⟩ (by simp) (by rfl) _ _ rfl rfl
                obtain rfl : v109 = .int .i64 r.c := (HS6.out _ _).1 h109
                rw [if_pos (wanted_free rfl)]
                unfold Oper.wp
                simp [execOp, go_sem, t109]
                refine (picked_any r.c 2 _ HRO.out.2.2.2 ⟨by omega, by omega⟩).mono ?_
                rintro e W2 ⟨rfl, hW2⟩
                subst hW2
                exact MPost.same _ hC0 ((HS7.out _ _).2 rfl) rfl
              · intro a W hC0 _ _ he hdep
                have hC := (HCC.out W).1 hC0
                obtain ⟨v110, t110, h110⟩ := hdep ⟨7, .data⟩ (by simp) (by rfl) _ _ rfl rfl
                obtain rfl : v110 = .int .i64 (pick r.c 2) := (HS7.out _ _).1 h110
                rw [if_pos (wanted_free rfl)]
                unfold Oper.wp
                simp [execOp, go_sem, t110]
                exact MPost.same (.bool (pick r.c 2 == 0)) hC0 ((HS8.out _ _).2 rfl) rfl
              · intro a W hC0 _ _ he hdep
                have hC := (HCC.out W).1 hC0
                obtain ⟨v103, t103, h103⟩ := hdep ⟨0, .data⟩ (by simp) (by rfl) _ _ rfl rfl
                obtain rfl : v103 = .agg #[.int .i64 c.ck, .int .i64 c.nx, .int .i64 c.wt, .slice ac c.ts.length cc] := (HS0.out _ _).1 h103
                obtain ⟨v106, t106, h106⟩ := hdep ⟨3, .data⟩ (by simp) (by rfl) _ _ rfl rfl
                obtain rfl : v106 = .string (nameS r.a) := (HS3.out _ _).1 h106
                obtain ⟨v107, t107, h107⟩ := hdep ⟨4, .data⟩ (by simp) (by rfl) _ _ rfl rfl
                obtain rfl : v107 = .int .i64 x := (HS4.out _ _).1 h107
                obtain ⟨v111, t111, h111⟩ := hdep ⟨8, .data⟩ (by simp) (by rfl) _ _ rfl rfl
                obtain rfl : v111 = .bool (pick r.c 2 == 0) := (HS8.out _ _).1 h111
                rw [if_pos (wanted_free rfl)]
                unfold Oper.wp
                simp [execOp, go_sem, t103, t106, t107, t111]
                refine (end_any c (nameS r.a) x (pick r.c 2 == 0) _ us _ (RdC.below HRO2.out (by omega) hC.1) HFT.out HNS.out).mono ?_
                rintro e W2 ⟨vt', us8, rfl, hf8, hb8⟩
                rw [HX.out] at hf8 ⊢
                exact MPost.turn _ (HCM.out _ _ hC0 hb8) ((HS9.out _ _).2 ⟨_, us8, rfl, OwnW.mono hf8 hC.2.2.2⟩) (fun j u _ => HKP.out _ _ hb8 j u) rfl
              · intro a W hC0 _ _ he hdep
                have hC := (HCC.out W).1 hC0
                obtain ⟨v112, t112, h112⟩ := hdep ⟨9, .data⟩ (by simp) (by rfl) _ _ rfl rfl
                have h112 := (HS9.out _ _).1 h112
                rw [if_pos (wanted_free rfl)]
                unfold Oper.wp
                simp [execOp, go_sem, t112]
                exact MPost.same _ hC0 ((HS10.out _ _).2 h112) rfl
              · intro a W hC0 _ _ he hdep
                have hC := (HCC.out W).1 hC0
                obtain ⟨v102, t102, h102⟩ := hdep ⟨10, .data⟩ (by simp) (by rfl) _ _ rfl rfl
                have h102 := (HS10.out _ _).1 h102
                rw [if_pos (wanted_free rfl)]
                obtain ⟨vt8, us8, rfl, hf8⟩ := h102
                unfold Oper.wp
                simp [execOp, go_sem, t102]
                exact MPost.same _ hC0 ((HS11.out _ _).2 ⟨vt8, us8, rfl, hf8⟩) rfl
              · intro a W hC0 _ _ he hdep
                have hC := (HCC.out W).1 hC0
                obtain ⟨v102, t102, h102⟩ := hdep ⟨10, .data⟩ (by simp) (by rfl) _ _ rfl rfl
                have h102 := (HS10.out _ _).1 h102
                rw [if_pos (wanted_free rfl)]
                obtain ⟨vt8, us8, rfl, -⟩ := h102
                unfold Oper.wp
                simp [execOp, go_sem, t102]
                exact MPost.same (.int .i64 er) hC0 ((HS12.out _ _).2 rfl) rfl
              · intro a W hC0 _ _ he hdep
                have hC := (HCC.out W).1 hC0
                obtain ⟨v113, t113, h113⟩ := hdep ⟨11, .data⟩ (by simp) (by rfl) _ _ rfl rfl
                have h113 := (HS11.out _ _).1 h113
                rw [if_pos (wanted_free rfl)]
                have t11 := slot_else (t := 11) he (by kernel_rfl) rfl
                obtain ⟨vt8, us8, rfl, hf8⟩ := h113
                obtain ⟨a8, c8, rfl⟩ := hf8.shapeOf
                obtain ⟨d9, v9, hcb⟩ := hC.2.2.1
                have hcb2 := hcb
                obtain ⟨n1, ⟨n2, n3, n4, n5⟩, n6⟩ := hcb
                unfold Oper.wp
                simp [execOp, go_sem, t11, t113, n2, n3, n4, n5, n6]
                refine MPost.turn undef ((HCC.out _).2 ⟨below_put4K hC.1 (by omega) d (.slice a8 d.ts.length c8), ⟨?_, ?_, ?_, ?_⟩, ⟨d, (.slice a8 d.ts.length c8), hcb2.put d (.slice a8 d.ts.length c8)⟩, by simp; exact hC.2.2.2⟩) ((HS13.out _ _).2 ⟨(.slice a8 d.ts.length c8), us8, hcb2.put d (.slice a8 d.ts.length c8), FreshC.put4 hf8 (by omega) d (.slice a8 d.ts.length c8)⟩) (fun j u hj hh => ?_) rfl
                · simp [go_sem, hC.2.1.1]
                · simp [go_sem, hC.2.1.2.1]
                · simp [go_sem, hC.2.1.2.2.1]
                · simp [go_sem, hC.2.1.2.2.2]
                · by_cases e9 : j = 9
                  · subst e9
                    obtain ⟨vt7, us7, k1, k2⟩ := (HS9.out _ _).1 hh
                    exact (HS9.out _ _).2 ⟨vt7, us7, k1, FreshC.put4 k2 (by omega) d (.slice a8 d.ts.length c8)⟩
                  by_cases e10 : j = 10
                  · subst e10
                    obtain ⟨vt7, us7, k1, k2⟩ := (HS10.out _ _).1 hh
                    exact (HS10.out _ _).2 ⟨vt7, us7, k1, FreshC.put4 k2 (by omega) d (.slice a8 d.ts.length c8)⟩
                  by_cases e11 : j = 11
                  · subst e11
                    obtain ⟨vt7, us7, k1, k2⟩ := (HS11.out _ _).1 hh
                    exact (HS11.out _ _).2 ⟨vt7, us7, k1, FreshC.put4 k2 (by omega) d (.slice a8 d.ts.length c8)⟩
                  exact HKI.out _ _ j u e9 e10 e11 hj hh
              · intro a W hC0 _ _ he hdep
                have hC := (HCC.out W).1 hC0
                obtain ⟨v114, t114, h114⟩ := hdep ⟨12, .data⟩ (by simp) (by rfl) _ _ rfl rfl
                obtain rfl : v114 = .int .i64 er := (HS12.out _ _).1 h114
                rw [if_pos (wanted_free rfl)]
                unfold Oper.wp
                simp [execOp, go_sem, t114]
                exact MPost.same (.int .i64 er) hC0 ((HS14.out _ _).2 rfl) rfl
            · intro vs W hC0 hS
              have hC := (HCC.out W).1 hC0
              obtain ⟨vt8, us8, hcb, hf8⟩ := (HS13.out _ _).1 (hS 13 (by simp))
              have g12 := (HS14.out _ _).1 (hS 14 (by simp))
              simp [over, g12, Act.put]
              go_wp2_with fail
              go_meet
              exact ⟨er, d, vt8, us8, rfl, fun h0 => ⟨HCO.out h0, hf8⟩, hcb, hC.1⟩
          have d4 : (kk == 4) = false := by simp [k4]
          by_cases k7 : kk = 7
          · have d5 : (kk == 5) = false := by simp [k7]
            have d6 : (kk == 6) = false := by simp [k7]
            clear k0 k1 k4 k7
            obtain ⟨⟨d, er⟩, hX⟩ : ∃ yy, c.tickP (pick r.c 6) = yy := ⟨_, rfl⟩
            have HX : Hid (c.tickP (pick r.c 6) = (d, er)) := hX
            have HCO : Hid (er = 0 → CoP isName3 d) := fun h0 => by have := @co_tick isName3 c HC.out (pick r.c 6); rw [hX] at this; exact this h0
            clear hX
            clear s1 a0 a1 a2 a3 f1 n1 n2 n3 n4 n5 n6 r0 r1 r2 r3
            obtain ⟨y1, ⟨y2, y3, y4, y5⟩, y6⟩ := HCB.out
            go_upto_region 17 with fail
            obtain ⟨S, hS⟩ : ∃ S : Nat → Value → World → Prop, S = fun i v W => match i with | 0 => (fun v W => v = .agg #[.int .i64 c.ck, .int .i64 c.nx, .int .i64 c.wt, .slice ac c.ts.length cc]) v W | 1 => (fun v W => v = .pointer (some ⟨rb, 3, none⟩)) v W | 2 => (fun v W => v = .int .i64 r.c) v W | 3 => (fun v W => v = .int .i64 (pick r.c 6)) v W | 4 => (fun v W => ∃ vt us, v = .tuple #[.agg #[.int .i64 d.ck, .int .i64 d.nx, .int .i64 d.wt, vt], .int .i64 er] ∧ FreshC W5.heap.size W d vt us) v W | 5 => (fun v W => ∃ vt us, v = .tuple #[.agg #[.int .i64 d.ck, .int .i64 d.nx, .int .i64 d.wt, vt], .int .i64 er] ∧ FreshC W5.heap.size W d vt us) v W | 6 => (fun v W => ∃ vt us, v = .agg #[.int .i64 d.ck, .int .i64 d.nx, .int .i64 d.wt, vt] ∧ FreshC W5.heap.size W d vt us) v W | 7 => (fun v W => v = .int .i64 er) v W | 8 => (fun v W => ∃ vt us, CB W (rb + 1) d vt ∧ FreshC W5.heap.size W d vt us) v W | 9 => (fun v W => v = .int .i64 er) v W | _ => True := ⟨_, rfl⟩
            have HS0 : Hid (∀ v W, S 0 v W ↔ (fun v W => v = .agg #[.int .i64 c.ck, .int .i64 c.nx, .int .i64 c.wt, .slice ac c.ts.length cc]) v W) := fun v W => by rw [hS]; exact Iff.rfl
            have HS1 : Hid (∀ v W, S 1 v W ↔ (fun v W => v = .pointer (some ⟨rb, 3, none⟩)) v W) := fun v W => by rw [hS]; exact Iff.rfl
            have HS2 : Hid (∀ v W, S 2 v W ↔ (fun v W => v = .int .i64 r.c) v W) := fun v W => by rw [hS]; exact Iff.rfl
            have HS3 : Hid (∀ v W, S 3 v W ↔ (fun v W => v = .int .i64 (pick r.c 6)) v W) := fun v W => by rw [hS]; exact Iff.rfl
            have HS4 : Hid (∀ v W, S 4 v W ↔ (fun v W => ∃ vt us, v = .tuple #[.agg #[.int .i64 d.ck, .int .i64 d.nx, .int .i64 d.wt, vt], .int .i64 er] ∧ FreshC W5.heap.size W d vt us) v W) := fun v W => by rw [hS]; exact Iff.rfl
            have HS5 : Hid (∀ v W, S 5 v W ↔ (fun v W => ∃ vt us, v = .tuple #[.agg #[.int .i64 d.ck, .int .i64 d.nx, .int .i64 d.wt, vt], .int .i64 er] ∧ FreshC W5.heap.size W d vt us) v W) := fun v W => by rw [hS]; exact Iff.rfl
            have HS6 : Hid (∀ v W, S 6 v W ↔ (fun v W => ∃ vt us, v = .agg #[.int .i64 d.ck, .int .i64 d.nx, .int .i64 d.wt, vt] ∧ FreshC W5.heap.size W d vt us) v W) := fun v W => by rw [hS]; exact Iff.rfl
            have HS7 : Hid (∀ v W, S 7 v W ↔ (fun v W => v = .int .i64 er) v W) := fun v W => by rw [hS]; exact Iff.rfl
            have HS8 : Hid (∀ v W, S 8 v W ↔ (fun v W => ∃ vt us, CB W (rb + 1) d vt ∧ FreshC W5.heap.size W d vt us) v W) := fun v W => by rw [hS]; exact Iff.rfl
            have HS9 : Hid (∀ v W, S 9 v W ↔ (fun v W => v = .int .i64 er) v W) := fun v W => by rw [hS]; exact Iff.rfl
            have HKP : Hid (∀ W W', Below W.heap.size W W' → ∀ j u, S j u W → S j u W') := fun W W' hb j u h => by
              rw [hS] at h ⊢
              revert h
              exact match j with | 0 => fun h => h | 1 => fun h => h | 2 => fun h => h | 3 => fun h => h | 4 => fun h => by obtain ⟨vt, us, h1, h2⟩ := h; exact ⟨vt, us, h1, OwnW.below h2 (Nat.le_refl _) hb⟩ | 5 => fun h => by obtain ⟨vt, us, h1, h2⟩ := h; exact ⟨vt, us, h1, OwnW.below h2 (Nat.le_refl _) hb⟩ | 6 => fun h => by obtain ⟨vt, us, h1, h2⟩ := h; exact ⟨vt, us, h1, OwnW.below h2 (Nat.le_refl _) hb⟩ | 7 => fun h => h | 8 => fun h => by obtain ⟨vt, us, h1, h2⟩ := h; exact ⟨vt, us, h1.below h1.1 hb, OwnW.below h2 (Nat.le_refl _) hb⟩ | 9 => fun h => h | _ + 10 => fun h => h
            have HKI : Hid (∀ W W', ∀ j u, j ≠ 4 → j ≠ 5 → j ≠ 6 → j ≠ 8 → S j u W → S j u W') := fun W W' j u q4 q5 q6 q8 h => by
              rw [hS] at h ⊢
              revert h
              exact match j, q4, q5, q6, q8 with | 0, _, _, _, _ => fun h => h | 1, _, _, _, _ => fun h => h | 2, _, _, _, _ => fun h => h | 3, _, _, _, _ => fun h => h | 4, q, _, _, _ => absurd rfl q | 5, _, q, _, _ => absurd rfl q | 6, _, _, q, _ => absurd rfl q | 7, _, _, _, _ => fun h => h | 8, _, _, _, q => absurd rfl q | 9, _, _, _, _ => fun h => h | _ + 10, _, _, _, _ => fun h => h
            clear hS
            obtain ⟨CC, hCC⟩ : ∃ CC : World → Prop, CC = fun W => Below rb wo W ∧ (W.cell? ⟨rb, 0, none⟩ = some (.int .i64 r.k) ∧ W.cell? ⟨rb, 1, none⟩ = some (.int .i64 r.a) ∧ W.cell? ⟨rb, 2, none⟩ = some (.int .i64 r.b) ∧ W.cell? ⟨rb, 3, none⟩ = some (.int .i64 r.c)) ∧ (∃ d v, CB W (rb + 1) d v) ∧ W5.heap.size ≤ W.heap.size := ⟨_, rfl⟩
            have HCC : Hid (∀ W, CC W ↔ (fun W => Below rb wo W ∧ (W.cell? ⟨rb, 0, none⟩ = some (.int .i64 r.k) ∧ W.cell? ⟨rb, 1, none⟩ = some (.int .i64 r.a) ∧ W.cell? ⟨rb, 2, none⟩ = some (.int .i64 r.b) ∧ W.cell? ⟨rb, 3, none⟩ = some (.int .i64 r.c)) ∧ (∃ d v, CB W (rb + 1) d v) ∧ W5.heap.size ≤ W.heap.size) W) := fun W => by rw [hCC]
            clear hCC
            have HCM : Hid (∀ W W', CC W → Below W.heap.size W W' → CC W') := fun W W' h hb => by
              obtain ⟨h1, h2, ⟨d9, v9, h3⟩, h4⟩ := (HCC.out W).1 h
              have hlt : rb < W.heap.size := cell_lt h2.1
              exact (HCC.out W').2 ⟨h1.trans (show Below rb W W' from hb.mono (by omega)), ⟨(hb.cell (p := ⟨rb, 0, none⟩) hlt).trans h2.1, (hb.cell (p := ⟨rb, 1, none⟩) hlt).trans h2.2.1, (hb.cell (p := ⟨rb, 2, none⟩) hlt).trans h2.2.2.1, (hb.cell (p := ⟨rb, 3, none⟩) hlt).trans h2.2.2.2⟩, ⟨d9, v9, h3.below h3.1 hb⟩, Nat.le_trans h4 hb.size⟩
            refine wp_region_mono (C := CC) (S := S) (by kernel_rfl) (n := 142) (by kernel_rfl) (by kernel_rfl) ((HCC.out _).2 HCX0.out) (each_at ?_) ?_
            · refine ⟨?_, ?_, ?_, ?_, ?_, ?_, ?_, ?_, ?_, ?_, trivial⟩
              · intro a W hC0 _ _ he hdep
                have hC := (HCC.out W).1 hC0
                rw [if_pos (wanted_free rfl)]
                have t6 := slot_else (t := 6) he (by kernel_rfl) rfl
                have A0 := (hC.1.cell (p := ⟨b, 0, none⟩) hbr).trans y2
                have A1 := (hC.1.cell (p := ⟨b, 1, none⟩) hbr).trans y3
                have A2 := (hC.1.cell (p := ⟨b, 2, none⟩) hbr).trans y4
                have A3 := (hC.1.cell (p := ⟨b, 3, none⟩) hbr).trans y5
                unfold Oper.wp
                simp [execOp, go_sem, t6, A0, A1, A2, A3]
                exact MPost.same (.agg #[.int .i64 c.ck, .int .i64 c.nx, .int .i64 c.wt, .slice ac c.ts.length cc]) hC0 ((HS0.out _ _).2 rfl) rfl
              · intro a W hC0 _ _ he hdep
                have hC := (HCC.out W).1 hC0
                rw [if_pos (wanted_free rfl)]
                have t10 := slot_else (t := 10) he (by kernel_rfl) rfl
                unfold Oper.wp
                simp [execOp, go_sem, t10]
                exact MPost.same (.pointer (some ⟨rb, 3, none⟩)) hC0 ((HS1.out _ _).2 rfl) rfl
              · intro a W hC0 _ _ he hdep
                have hC := (HCC.out W).1 hC0
                obtain ⟨v66, t66, h66⟩ := hdep ⟨1, .data⟩ (by simp) (by rfl) _ _ rfl rfl
                obtain rfl : v66 = .pointer (some ⟨rb, 3, none⟩) := (HS1.out _ _).1 h66
                rw [if_pos (wanted_free rfl)]
                have R1 := hC.2.1.2.2.2
                unfold Oper.wp
                simp [execOp, go_sem, t66, R1]
                exact MPost.same (.int .i64 r.c) hC0 ((HS2.out _ _).2 rfl) rfl
              · intro a W hC0 _ _ he hdep
                have hC := (HCC.out W).1 hC0
                obtain ⟨v67, t67, h67⟩ := hdep ⟨2, .data⟩ (by simp) (by rfl) _ _ rfl rfl
                obtain rfl : v67 = .int .i64 r.c := (HS2.out _ _).1 h67
                rw [if_pos (wanted_free rfl)]
                unfold Oper.wp
                simp [execOp, go_sem, t67]
                refine (picked_any r.c 6 _ HRO.out.2.2.2 ⟨by omega, by omega⟩).mono ?_
                rintro e W2 ⟨rfl, hW2⟩
                subst hW2
                exact MPost.same _ hC0 ((HS3.out _ _).2 rfl) rfl
              · intro a W hC0 _ _ he hdep
                have hC := (HCC.out W).1 hC0
                obtain ⟨v65, t65, h65⟩ := hdep ⟨0, .data⟩ (by simp) (by rfl) _ _ rfl rfl
                obtain rfl : v65 = .agg #[.int .i64 c.ck, .int .i64 c.nx, .int .i64 c.wt, .slice ac c.ts.length cc] := (HS0.out _ _).1 h65
                obtain ⟨v68, t68, h68⟩ := hdep ⟨3, .data⟩ (by simp) (by rfl) _ _ rfl rfl
                obtain rfl : v68 = .int .i64 (pick r.c 6) := (HS3.out _ _).1 h68
                rw [if_pos (wanted_free rfl)]
                unfold Oper.wp
                simp [execOp, go_sem, t65, t68]
                refine (tick_any c (pick r.c 6) _ us _ (RdC.below HRO2.out (by omega) hC.1) HFT.out HTW.out).mono ?_
                rintro e W2 ⟨vt', us8, rfl, hf8, hb8⟩
                rw [HX.out] at hf8 ⊢
                exact MPost.turn _ (HCM.out _ _ hC0 hb8) ((HS4.out _ _).2 ⟨_, us8, rfl, OwnW.mono hf8 hC.2.2.2⟩) (fun j u _ => HKP.out _ _ hb8 j u) rfl
              · intro a W hC0 _ _ he hdep
                have hC := (HCC.out W).1 hC0
                obtain ⟨v69, t69, h69⟩ := hdep ⟨4, .data⟩ (by simp) (by rfl) _ _ rfl rfl
                have h69 := (HS4.out _ _).1 h69
                rw [if_pos (wanted_free rfl)]
                unfold Oper.wp
                simp [execOp, go_sem, t69]
                exact MPost.same _ hC0 ((HS5.out _ _).2 h69) rfl
              · intro a W hC0 _ _ he hdep
                have hC := (HCC.out W).1 hC0
                obtain ⟨v64, t64, h64⟩ := hdep ⟨5, .data⟩ (by simp) (by rfl) _ _ rfl rfl
                have h64 := (HS5.out _ _).1 h64
                rw [if_pos (wanted_free rfl)]
                obtain ⟨vt8, us8, rfl, hf8⟩ := h64
                unfold Oper.wp
                simp [execOp, go_sem, t64]
                exact MPost.same _ hC0 ((HS6.out _ _).2 ⟨vt8, us8, rfl, hf8⟩) rfl
              · intro a W hC0 _ _ he hdep
                have hC := (HCC.out W).1 hC0
                obtain ⟨v64, t64, h64⟩ := hdep ⟨5, .data⟩ (by simp) (by rfl) _ _ rfl rfl
                have h64 := (HS5.out _ _).1 h64
                rw [if_pos (wanted_free rfl)]
                obtain ⟨vt8, us8, rfl, -⟩ := h64
                unfold Oper.wp
                simp [execOp, go_sem, t64]
                exact MPost.same (.int .i64 er) hC0 ((HS7.out _ _).2 rfl) rfl
              · intro a W hC0 _ _ he hdep
                have hC := (HCC.out W).1 hC0
                obtain ⟨v70, t70, h70⟩ := hdep ⟨6, .data⟩ (by simp) (by rfl) _ _ rfl rfl
                have h70 := (HS6.out _ _).1 h70
                rw [if_pos (wanted_free rfl)]
                have t11 := slot_else (t := 11) he (by kernel_rfl) rfl
                obtain ⟨vt8, us8, rfl, hf8⟩ := h70
                obtain ⟨a8, c8, rfl⟩ := hf8.shapeOf
                obtain ⟨d9, v9, hcb⟩ := hC.2.2.1
                have hcb2 := hcb
                obtain ⟨n1, ⟨n2, n3, n4, n5⟩, n6⟩ := hcb
                unfold Oper.wp
                simp [execOp, go_sem, t11, t70, n2, n3, n4, n5, n6]
                refine MPost.turn undef ((HCC.out _).2 ⟨below_put4K hC.1 (by omega) d (.slice a8 d.ts.length c8), ⟨?_, ?_, ?_, ?_⟩, ⟨d, (.slice a8 d.ts.length c8), hcb2.put d (.slice a8 d.ts.length c8)⟩, by simp; exact hC.2.2.2⟩) ((HS8.out _ _).2 ⟨(.slice a8 d.ts.length c8), us8, hcb2.put d (.slice a8 d.ts.length c8), FreshC.put4 hf8 (by omega) d (.slice a8 d.ts.length c8)⟩) (fun j u hj hh => ?_) rfl
                · simp [go_sem, hC.2.1.1]
                · simp [go_sem, hC.2.1.2.1]
                · simp [go_sem, hC.2.1.2.2.1]
                · simp [go_sem, hC.2.1.2.2.2]
                · by_cases e4 : j = 4
                  · subst e4
                    obtain ⟨vt7, us7, k1, k2⟩ := (HS4.out _ _).1 hh
                    exact (HS4.out _ _).2 ⟨vt7, us7, k1, FreshC.put4 k2 (by omega) d (.slice a8 d.ts.length c8)⟩
                  by_cases e5 : j = 5
                  · subst e5
                    obtain ⟨vt7, us7, k1, k2⟩ := (HS5.out _ _).1 hh
                    exact (HS5.out _ _).2 ⟨vt7, us7, k1, FreshC.put4 k2 (by omega) d (.slice a8 d.ts.length c8)⟩
                  by_cases e6 : j = 6
                  · subst e6
                    obtain ⟨vt7, us7, k1, k2⟩ := (HS6.out _ _).1 hh
                    exact (HS6.out _ _).2 ⟨vt7, us7, k1, FreshC.put4 k2 (by omega) d (.slice a8 d.ts.length c8)⟩
                  exact HKI.out _ _ j u e4 e5 e6 hj hh
              · intro a W hC0 _ _ he hdep
                have hC := (HCC.out W).1 hC0
                obtain ⟨v71, t71, h71⟩ := hdep ⟨7, .data⟩ (by simp) (by rfl) _ _ rfl rfl
                obtain rfl : v71 = .int .i64 er := (HS7.out _ _).1 h71
                rw [if_pos (wanted_free rfl)]
                unfold Oper.wp
                simp [execOp, go_sem, t71]
                exact MPost.same (.int .i64 er) hC0 ((HS9.out _ _).2 rfl) rfl
            · intro vs W hC0 hS
              have hC := (HCC.out W).1 hC0
              obtain ⟨vt8, us8, hcb, hf8⟩ := (HS8.out _ _).1 (hS 8 (by simp))
              have g12 := (HS9.out _ _).1 (hS 9 (by simp))
              simp [over, g12, Act.put]
              go_wp2_with fail
              go_meet
              exact ⟨er, d, vt8, us8, rfl, fun h0 => ⟨HCO.out h0, hf8⟩, hcb, hC.1⟩
          · have k56 : kk = 5 ∨ kk = 6 := by omega
            clear k0 k1 k4 k7
            rcases k56 with k5 | k5
            · have d5 : (kk == 5) = true := by simp [k5]
              clear k5
              obtain ⟨⟨nm, pp, pid, ver, kd, tx, ge⟩, hX⟩ : ∃ yy, c.nextP (pick r.c 2) = yy := ⟨_, rfl⟩
              have HNP : Hid (c.nextP (pick r.c 2) = (nm, pp, pid, ver, kd, tx, ge)) := hX
              have HNM : Hid (nm.size ≤ maxLen) := show _ ≤ _ by have := next_nm HFT.out (pick r.c 2); rw [hX] at this; exact this
              clear hX
              go_wp2_with fail
              go_cut [16, 17, 19] (fun s p g W => s = .string nm ∧ p = .int .i64 pp ∧ g = .int .i64 ge ∧ Below wr.heap.size wr W)
              case first =>
                obtain ⟨S, hS⟩ : ∃ S : Nat → Value → World → Prop, S = fun i v W => match i with | 0 => (fun v W => v = .agg #[.int .i64 c.ck, .int .i64 c.nx, .int .i64 c.wt, .slice ac c.ts.length cc]) v W | 1 => (fun v W => v = .pointer (some ⟨rb, 3, none⟩)) v W | 2 => (fun v W => v = .int .i64 r.c) v W | 3 => (fun v W => v = .int .i64 (pick r.c 2)) v W | 4 => (fun v W => v = nextV (nm, pp, pid, ver, kd, tx, ge)) v W | 5 => (fun v W => v = nextV (nm, pp, pid, ver, kd, tx, ge)) v W | 6 => (fun v W => v = .string nm) v W | 7 => (fun v W => v = .int .i64 pp) v W | 8 => (fun v W => v = entV pid ver kd tx) v W | 9 => (fun v W => v = .int .i64 ge) v W | 10 => (fun v W => ∃ p, v = .pointer (some ⟨p, 0, none⟩) ∧ wr.heap.size ≤ p ∧ EBX W p) v W | 11 => (fun v W => v = .string nm) v W | 12 => (fun v W => v = .int .i64 pp) v W | 13 => (fun v W => True) v W | 14 => (fun v W => v = .int .i64 ge) v W | _ => True := ⟨_, rfl⟩
                have HS0 : Hid (∀ v W, S 0 v W ↔ (fun v W => v = .agg #[.int .i64 c.ck, .int .i64 c.nx, .int .i64 c.wt, .slice ac c.ts.length cc]) v W) := fun v W => by rw [hS]; exact Iff.rfl
                have HS1 : Hid (∀ v W, S 1 v W ↔ (fun v W => v = .pointer (some ⟨rb, 3, none⟩)) v W) := fun v W => by rw [hS]; exact Iff.rfl
                have HS2 : Hid (∀ v W, S 2 v W ↔ (fun v W => v = .int .i64 r.c) v W) := fun v W => by rw [hS]; exact Iff.rfl
                have HS3 : Hid (∀ v W, S 3 v W ↔ (fun v W => v = .int .i64 (pick r.c 2)) v W) := fun v W => by rw [hS]; exact Iff.rfl
                have HS4 : Hid (∀ v W, S 4 v W ↔ (fun v W => v = nextV (nm, pp, pid, ver, kd, tx, ge)) v W) := fun v W => by rw [hS]; exact Iff.rfl
                have HS5 : Hid (∀ v W, S 5 v W ↔ (fun v W => v = nextV (nm, pp, pid, ver, kd, tx, ge)) v W) := fun v W => by rw [hS]; exact Iff.rfl
                have HS6 : Hid (∀ v W, S 6 v W ↔ (fun v W => v = .string nm) v W) := fun v W => by rw [hS]; exact Iff.rfl
                have HS7 : Hid (∀ v W, S 7 v W ↔ (fun v W => v = .int .i64 pp) v W) := fun v W => by rw [hS]; exact Iff.rfl
                have HS8 : Hid (∀ v W, S 8 v W ↔ (fun v W => v = entV pid ver kd tx) v W) := fun v W => by rw [hS]; exact Iff.rfl
                have HS9 : Hid (∀ v W, S 9 v W ↔ (fun v W => v = .int .i64 ge) v W) := fun v W => by rw [hS]; exact Iff.rfl
                have HS10 : Hid (∀ v W, S 10 v W ↔ (fun v W => ∃ p, v = .pointer (some ⟨p, 0, none⟩) ∧ wr.heap.size ≤ p ∧ EBX W p) v W) := fun v W => by rw [hS]; exact Iff.rfl
                have HS11 : Hid (∀ v W, S 11 v W ↔ (fun v W => v = .string nm) v W) := fun v W => by rw [hS]; exact Iff.rfl
                have HS12 : Hid (∀ v W, S 12 v W ↔ (fun v W => v = .int .i64 pp) v W) := fun v W => by rw [hS]; exact Iff.rfl
                have HS13 : Hid (∀ v W, S 13 v W ↔ (fun v W => True) v W) := fun v W => by rw [hS]; exact Iff.rfl
                have HS14 : Hid (∀ v W, S 14 v W ↔ (fun v W => v = .int .i64 ge) v W) := fun v W => by rw [hS]; exact Iff.rfl
                have HKP : Hid (∀ W W', Below W.heap.size W W' → ∀ j u, S j u W → S j u W') := fun W W' hb j u h => by
                  rw [hS] at h ⊢
                  revert h
                  exact match j with | 0 => fun h => h | 1 => fun h => h | 2 => fun h => h | 3 => fun h => h | 4 => fun h => h | 5 => fun h => h | 6 => fun h => h | 7 => fun h => h | 8 => fun h => h | 9 => fun h => h | 10 => fun h => by obtain ⟨p, h1, h2, h3⟩ := h; exact ⟨p, h1, h2, h3.below hb⟩ | 11 => fun h => h | 12 => fun h => h | 13 => fun h => h | 14 => fun h => h | _ + 15 => fun h => h
                have HKI : Hid (∀ W W', ∀ j u, j ≠ 10 → S j u W → S j u W') := fun W W' j u q10 h => by
                  rw [hS] at h ⊢
                  revert h
                  exact match j, q10 with | 0, _ => fun h => h | 1, _ => fun h => h | 2, _ => fun h => h | 3, _ => fun h => h | 4, _ => fun h => h | 5, _ => fun h => h | 6, _ => fun h => h | 7, _ => fun h => h | 8, _ => fun h => h | 9, _ => fun h => h | 10, q => absurd rfl q | 11, _ => fun h => h | 12, _ => fun h => h | 13, _ => fun h => h | 14, _ => fun h => h | _ + 15, _ => fun h => h
                clear hS
                obtain ⟨CC, hCC⟩ : ∃ CC : World → Prop, CC = fun W => Below wr.heap.size wr W ∧ True := ⟨_, rfl⟩
                have HCC : Hid (∀ W, CC W ↔ (fun W => Below wr.heap.size wr W ∧ True) W) := fun W => by rw [hCC]
                clear hCC
                refine wp_region_mono (C := CC) (S := S) (by kernel_rfl) (n := 142) (by kernel_rfl) (by kernel_rfl) ((HCC.out _).2 ⟨(Below.refl _ _).drew, trivial⟩) (each_at ?_) ?_
                · refine ⟨?_, ?_, ?_, ?_, ?_, ?_, ?_, ?_, ?_, ?_, ?_, ?_, ?_, ?_, ?_, trivial⟩
                  · intro a W hC0 _ _ he hdep
                    have hC := (HCC.out W).1 hC0
                    rw [if_pos (wanted_free rfl)]
                    have t6 := slot_else (t := 6) he (by kernel_rfl) rfl
                    have A0 := (hC.1.cell (p := ⟨b, 0, none⟩) s1).trans a0
                    have A1 := (hC.1.cell (p := ⟨b, 1, none⟩) s1).trans a1
                    have A2 := (hC.1.cell (p := ⟨b, 2, none⟩) s1).trans a2
                    have A3 := (hC.1.cell (p := ⟨b, 3, none⟩) s1).trans a3
                    unfold Oper.wp
                    simp [execOp, go_sem, t6, A0, A1, A2, A3]
                    exact MPost.same (.agg #[.int .i64 c.ck, .int .i64 c.nx, .int .i64 c.wt, .slice ac c.ts.length cc]) hC0 ((HS0.out _ _).2 rfl) rfl
                  · intro a W hC0 _ _ he hdep
                    have hC := (HCC.out W).1 hC0
                    rw [if_pos (wanted_free rfl)]
                    have t10 := slot_else (t := 10) he (by kernel_rfl) rfl
                    unfold Oper.wp
                    simp [execOp, go_sem, t10]
                    exact MPost.same (.pointer (some ⟨rb, 3, none⟩)) hC0 ((HS1.out _ _).2 rfl) rfl
                  · intro a W hC0 _ _ he hdep
                    have hC := (HCC.out W).1 hC0
                    obtain ⟨v120, t120, h120⟩ := hdep ⟨1, .data⟩ (by simp) (by rfl) _ _ rfl rfl
                    obtain rfl : v120 = .pointer (some ⟨rb, 3, none⟩) := (HS1.out _ _).1 h120
                    rw [if_pos (wanted_free rfl)]
                    have R3 := (hC.1.cell (p := ⟨rb, 3, none⟩) hrb1).trans r3
                    unfold Oper.wp
                    simp [execOp, go_sem, t120, R3]
                    exact MPost.same (.int .i64 r.c) hC0 ((HS2.out _ _).2 rfl) rfl
                  · intro a W hC0 _ _ he hdep
                    have hC := (HCC.out W).1 hC0
                    obtain ⟨v121, t121, h121⟩ := hdep ⟨2, .data⟩ (by simp) (by rfl) _ _ rfl rfl
                    obtain rfl : v121 = .int .i64 r.c := (HS2.out _ _).1 h121
                    rw [if_pos (wanted_free rfl)]
                    unfold Oper.wp
                    simp [execOp, go_sem, t121]
                    refine (picked_any r.c 2 _ HRO.out.2.2.2 ⟨by omega, by omega⟩).mono ?_
                    rintro e W2 ⟨rfl, hW2⟩
                    subst hW2
                    exact MPost.same _ hC0 ((HS3.out _ _).2 rfl) rfl
                  · intro a W hC0 _ _ he hdep
                    have hC := (HCC.out W).1 hC0
                    obtain ⟨v119, t119, h119⟩ := hdep ⟨0, .data⟩ (by simp) (by rfl) _ _ rfl rfl
                    obtain rfl : v119 = .agg #[.int .i64 c.ck, .int .i64 c.nx, .int .i64 c.wt, .slice ac c.ts.length cc] := (HS0.out _ _).1 h119
                    obtain ⟨v122, t122, h122⟩ := hdep ⟨3, .data⟩ (by simp) (by rfl) _ _ rfl rfl
                    obtain rfl : v122 = .int .i64 (pick r.c 2) := (HS3.out _ _).1 h122
                    rw [if_pos (wanted_free rfl)]
                    unfold Oper.wp
                    simp [execOp, go_sem, t119, t122]
                    refine (next_any c _ _ us _ (HRW.out _ hC.1) HFT.out.n).mono ?_
                    rintro e W2 ⟨rfl, hb2⟩
                    rw [HNP.out]
                    exact MPost.turn _ ((HCC.out _).2 ⟨bstep hC.1 hb2, trivial⟩) ((HS4.out _ _).2 rfl) (fun j u _ => HKP.out _ _ hb2 j u) rfl
                  · intro a W hC0 _ _ he hdep
                    have hC := (HCC.out W).1 hC0
                    obtain ⟨v123, t123, h123⟩ := hdep ⟨4, .data⟩ (by simp) (by rfl) _ _ rfl rfl
                    obtain rfl : v123 = nextV (nm, pp, pid, ver, kd, tx, ge) := (HS4.out _ _).1 h123
                    rw [if_pos (wanted_free rfl)]
                    unfold Oper.wp
                    simp [execOp, go_sem, t123]
                    exact MPost.same _ hC0 ((HS5.out _ _).2 rfl) rfl
                  · intro a W hC0 _ _ he hdep
                    have hC := (HCC.out W).1 hC0
                    obtain ⟨v118, t118, h118⟩ := hdep ⟨5, .data⟩ (by simp) (by rfl) _ _ rfl rfl
                    obtain rfl : v118 = nextV (nm, pp, pid, ver, kd, tx, ge) := (HS5.out _ _).1 h118
                    rw [if_pos (wanted_free rfl)]
                    unfold nextV at t118
                    unfold Oper.wp
                    simp [execOp, go_sem, t118]
                    exact MPost.same (.string nm) hC0 ((HS6.out _ _).2 rfl) rfl
                  · intro a W hC0 _ _ he hdep
                    have hC := (HCC.out W).1 hC0
                    obtain ⟨v118, t118, h118⟩ := hdep ⟨5, .data⟩ (by simp) (by rfl) _ _ rfl rfl
                    obtain rfl : v118 = nextV (nm, pp, pid, ver, kd, tx, ge) := (HS5.out _ _).1 h118
                    rw [if_pos (wanted_free rfl)]
                    unfold nextV at t118
                    unfold Oper.wp
                    simp [execOp, go_sem, t118]
                    exact MPost.same (.int .i64 pp) hC0 ((HS7.out _ _).2 rfl) rfl
                  · intro a W hC0 _ _ he hdep
                    have hC := (HCC.out W).1 hC0
                    obtain ⟨v118, t118, h118⟩ := hdep ⟨5, .data⟩ (by simp) (by rfl) _ _ rfl rfl
                    obtain rfl : v118 = nextV (nm, pp, pid, ver, kd, tx, ge) := (HS5.out _ _).1 h118
                    rw [if_pos (wanted_free rfl)]
                    unfold nextV at t118
                    unfold Oper.wp
                    simp [execOp, go_sem, t118]
                    exact MPost.same (entV pid ver kd tx) hC0 ((HS8.out _ _).2 rfl) rfl
                  · intro a W hC0 _ _ he hdep
                    have hC := (HCC.out W).1 hC0
                    obtain ⟨v118, t118, h118⟩ := hdep ⟨5, .data⟩ (by simp) (by rfl) _ _ rfl rfl
                    obtain rfl : v118 = nextV (nm, pp, pid, ver, kd, tx, ge) := (HS5.out _ _).1 h118
                    rw [if_pos (wanted_free rfl)]
                    unfold nextV at t118
                    unfold Oper.wp
                    simp [execOp, go_sem, t118]
                    exact MPost.same (.int .i64 ge) hC0 ((HS9.out _ _).2 rfl) rfl
                  · intro a W hC0 _ _ he hdep
                    have hC := (HCC.out W).1 hC0
                    rw [if_pos (wanted_free rfl)]
                    unfold Oper.wp
                    simp [execOp, go_sem]
                    exact MPost.turn _ ((HCC.out _).2 ⟨hC.1.alloc hC.1.size _, trivial⟩) ((HS10.out _ _).2 ⟨_, rfl, hC.1.size, ebx_new _ _⟩) (fun j u _ => HKP.out _ _ (bbox _ _) j u) rfl
                  · intro a W hC0 _ _ he hdep
                    have hC := (HCC.out W).1 hC0
                    obtain ⟨v124, t124, h124⟩ := hdep ⟨6, .data⟩ (by simp) (by rfl) _ _ rfl rfl
                    obtain rfl : v124 = .string nm := (HS6.out _ _).1 h124
                    rw [if_pos (wanted_free rfl)]
                    unfold Oper.wp
                    simp [execOp, go_sem, t124]
                    exact MPost.same (.string nm) hC0 ((HS11.out _ _).2 rfl) rfl
                  · intro a W hC0 _ _ he hdep
                    have hC := (HCC.out W).1 hC0
                    obtain ⟨v125, t125, h125⟩ := hdep ⟨7, .data⟩ (by simp) (by rfl) _ _ rfl rfl
                    obtain rfl : v125 = .int .i64 pp := (HS7.out _ _).1 h125
                    rw [if_pos (wanted_free rfl)]
                    unfold Oper.wp
                    simp [execOp, go_sem, t125]
                    exact MPost.same (.int .i64 pp) hC0 ((HS12.out _ _).2 rfl) rfl
                  · intro a W hC0 _ _ he hdep
                    have hC := (HCC.out W).1 hC0
                    obtain ⟨v18, t18, h18⟩ := hdep ⟨10, .data⟩ (by simp) (by rfl) _ _ rfl rfl
                    have h18 := (HS10.out _ _).1 h18
                    obtain ⟨v126, t126, h126⟩ := hdep ⟨8, .data⟩ (by simp) (by rfl) _ _ rfl rfl
                    obtain rfl : v126 = entV pid ver kd tx := (HS8.out _ _).1 h126
                    rw [if_pos (wanted_free rfl)]
                    obtain ⟨pb, rfl, hpb, hpx⟩ := h18
                    obtain ⟨z1, ⟨x0, x1, x2, x3, x4, x5, x6, e0, e1, e2, e3, e4, e5, e6⟩, g1⟩ := hpx
                    unfold entV at t126
                    unfold Oper.wp
                    simp [execOp, go_sem, t18, t126, e0, e1, e2, e3, e4, e5, e6, g1]
                    refine MPost.turn undef ((HCC.out _).2 ⟨?_, trivial⟩) ((HS13.out _ _).2 trivial) (fun j u hj hh => ?_) rfl
                    · exact ((((((hC.1.setCell (p := ⟨pb, 0, none⟩) hpb _).setCell (p := ⟨pb, 1, none⟩) hpb _).setCell (p := ⟨pb, 2, none⟩) hpb _).setCell (p := ⟨pb, 3, none⟩) hpb _).setCell (p := ⟨pb, 4, none⟩) hpb _).setCell (p := ⟨pb, 5, none⟩) hpb _).setCell (p := ⟨pb, 6, none⟩) hpb _
                    · by_cases e10 : j = 10
                      · subst e10
                        obtain ⟨p2, k1, k2, k3⟩ := (HS10.out _ _).1 hh
                        exact (HS10.out _ _).2 ⟨p2, k1, k2, ((((((k3.set _ _ _).set _ _ _).set _ _ _).set _ _ _).set _ _ _).set _ _ _).set _ _ _⟩
                      · exact HKI.out _ _ j u e10 hh
                  · intro a W hC0 _ _ he hdep
                    have hC := (HCC.out W).1 hC0
                    obtain ⟨v127, t127, h127⟩ := hdep ⟨9, .data⟩ (by simp) (by rfl) _ _ rfl rfl
                    obtain rfl : v127 = .int .i64 ge := (HS9.out _ _).1 h127
                    rw [if_pos (wanted_free rfl)]
                    unfold Oper.wp
                    simp [execOp, go_sem, t127]
                    exact MPost.same (.int .i64 ge) hC0 ((HS14.out _ _).2 rfl) rfl
                · intro vs W hC0 hS
                  have hC := (HCC.out W).1 hC0
                  have g11 := (HS11.out _ _).1 (hS 11 (by simp))
                  have g12 := (HS12.out _ _).1 (hS 12 (by simp))
                  have g14 := (HS14.out _ _).1 (hS 14 (by simp))
                  obtain ⟨p10, g10, _⟩ := (HS10.out _ _).1 (hS 10 (by simp))
                  simp [over, g10, g11, g12, g14, Act.put]
                  go_wp2_with fail
                  go_meet
                  exact ⟨rfl, rfl, rfl, hC.1⟩
              case rest =>
              obtain ⟨hv1, hv2, hv3, hbl⟩ := hcut
              subst hv1 hv2 hv3
              rename World => w7
              have HB7 : Hid (Below wr.heap.size wr w7) := hbl
              have HNX7 : Hid (CB w7 (rb + 1) c (.slice ac c.ts.length cc)) := HNX.out.below HNX.out.1 hbl
              have HCB7 : Hid (CB w7 b c (.slice ac c.ts.length cc)) := HCB5.out.below HCB5.out.1 hbl
              clear s1 a0 a1 a2 a3 f1 n1 n2 n3 n4 n5 n6 r0 r1 r2 r3 hbl
              obtain ⟨s1, ⟨a0, a1, a2, a3⟩, f1⟩ := HCB7.out
              obtain ⟨n1, ⟨n2, n3, n4, n5⟩, n6⟩ := HNX7.out
              by_cases hge : ge = 0
              · subst hge
                go_at_K
                go_wp2_with fail
                refine (done_any c nm pp _ us _ (HRW.out _ (by repeat (first | exact HB7.out | refine Below.drew ?_))) HFT.out HNM.out).mono ?_
                rintro e w8 ⟨vt', us8, rfl, hf8, hb8⟩
                obtain ⟨⟨d, er⟩, hX⟩ : ∃ yy, c.doneP nm pp = yy := ⟨_, rfl⟩
                have HCO : Hid (er = 0 → CoP isName3 d) := fun h0 => by have := @co_done isName3 c HC.out nm pp; rw [hX] at this; exact this h0
                rw [hX] at hf8 ⊢
                obtain ⟨a8, c8, rfl⟩ := hf8.shapeOf
                have hB8 : Below wr.heap.size wr w8 := bstep HB7.out (bstep (by repeat (first | exact Below.refl _ _ | refine Below.drew ?_)) hb8)
                have HB8 : Hid (Below wr.heap.size wr w8) := hB8
                have HF8 : Hid (FreshC W5.heap.size w8 d (.slice a8 d.ts.length c8) us8) := OwnW.mono hf8 (Nat.le_trans HB.out.size HB7.out.size)
                clear n1 n2 n3 n4 n5 n6 s1 a0 a1 a2 a3 f1
                obtain ⟨n1, ⟨n2, n3, n4, n5⟩, n6⟩ := HNX.out.below HNX.out.1 hB8
                clear hf8 hb8 hX hB8
                go_wp2_with fail
                go_meet
                exact ⟨er, d, _, us8, rfl, fun h0 => ⟨HCO.out h0, FreshC.put4 HF8.out (by omega) d _⟩, (HNX.out.below HNX.out.1 HB8.out).put d _, below_put4K (HBO.out.trans (show Below rb wr w8 from HB8.out.mono (by omega))) (by omega) d _⟩
              · have dg : (ge == 0) = false := by simp [hge]
                clear hge
                go_at_K
                go_wp2_with fail
                go_meet
                exact ⟨5, c, _, us, rfl, (fun h => absurd h (by decide)), HNX7.out, HBO.out.trans (show Below rb wr w7 from HB7.out.mono (by omega))⟩
            · have d5 : (kk == 5) = false := by simp [k5]
              have d6 : (kk == 6) = true := by simp [k5]
              clear k5
              obtain ⟨⟨nm, pp, pid, ver, kd, tx, ge⟩, hX⟩ : ∃ yy, c.nextP (pick r.c 2) = yy := ⟨_, rfl⟩
              have HNP : Hid (c.nextP (pick r.c 2) = (nm, pp, pid, ver, kd, tx, ge)) := hX
              have HNM : Hid (nm.size ≤ maxLen) := show _ ≤ _ by have := next_nm HFT.out (pick r.c 2); rw [hX] at this; exact this
              clear hX
              go_wp2_with fail
              go_cut [16, 17, 19] (fun s p g W => s = .string nm ∧ p = .int .i64 pp ∧ g = .int .i64 ge ∧ Below wr.heap.size wr W)
              case first =>
                obtain ⟨S, hS⟩ : ∃ S : Nat → Value → World → Prop, S = fun i v W => match i with | 0 => (fun v W => v = .agg #[.int .i64 c.ck, .int .i64 c.nx, .int .i64 c.wt, .slice ac c.ts.length cc]) v W | 1 => (fun v W => v = .pointer (some ⟨rb, 3, none⟩)) v W | 2 => (fun v W => v = .int .i64 r.c) v W | 3 => (fun v W => v = .int .i64 (pick r.c 2)) v W | 4 => (fun v W => v = nextV (nm, pp, pid, ver, kd, tx, ge)) v W | 5 => (fun v W => v = nextV (nm, pp, pid, ver, kd, tx, ge)) v W | 6 => (fun v W => v = .string nm) v W | 7 => (fun v W => v = .int .i64 pp) v W | 8 => (fun v W => v = entV pid ver kd tx) v W | 9 => (fun v W => v = .int .i64 ge) v W | 10 => (fun v W => ∃ p, v = .pointer (some ⟨p, 0, none⟩) ∧ wr.heap.size ≤ p ∧ EBX W p) v W | 11 => (fun v W => v = .string nm) v W | 12 => (fun v W => v = .int .i64 pp) v W | 13 => (fun v W => True) v W | 14 => (fun v W => v = .int .i64 ge) v W | _ => True := ⟨_, rfl⟩
                have HS0 : Hid (∀ v W, S 0 v W ↔ (fun v W => v = .agg #[.int .i64 c.ck, .int .i64 c.nx, .int .i64 c.wt, .slice ac c.ts.length cc]) v W) := fun v W => by rw [hS]; exact Iff.rfl
                have HS1 : Hid (∀ v W, S 1 v W ↔ (fun v W => v = .pointer (some ⟨rb, 3, none⟩)) v W) := fun v W => by rw [hS]; exact Iff.rfl
                have HS2 : Hid (∀ v W, S 2 v W ↔ (fun v W => v = .int .i64 r.c) v W) := fun v W => by rw [hS]; exact Iff.rfl
                have HS3 : Hid (∀ v W, S 3 v W ↔ (fun v W => v = .int .i64 (pick r.c 2)) v W) := fun v W => by rw [hS]; exact Iff.rfl
                have HS4 : Hid (∀ v W, S 4 v W ↔ (fun v W => v = nextV (nm, pp, pid, ver, kd, tx, ge)) v W) := fun v W => by rw [hS]; exact Iff.rfl
                have HS5 : Hid (∀ v W, S 5 v W ↔ (fun v W => v = nextV (nm, pp, pid, ver, kd, tx, ge)) v W) := fun v W => by rw [hS]; exact Iff.rfl
                have HS6 : Hid (∀ v W, S 6 v W ↔ (fun v W => v = .string nm) v W) := fun v W => by rw [hS]; exact Iff.rfl
                have HS7 : Hid (∀ v W, S 7 v W ↔ (fun v W => v = .int .i64 pp) v W) := fun v W => by rw [hS]; exact Iff.rfl
                have HS8 : Hid (∀ v W, S 8 v W ↔ (fun v W => v = entV pid ver kd tx) v W) := fun v W => by rw [hS]; exact Iff.rfl
                have HS9 : Hid (∀ v W, S 9 v W ↔ (fun v W => v = .int .i64 ge) v W) := fun v W => by rw [hS]; exact Iff.rfl
                have HS10 : Hid (∀ v W, S 10 v W ↔ (fun v W => ∃ p, v = .pointer (some ⟨p, 0, none⟩) ∧ wr.heap.size ≤ p ∧ EBX W p) v W) := fun v W => by rw [hS]; exact Iff.rfl
                have HS11 : Hid (∀ v W, S 11 v W ↔ (fun v W => v = .string nm) v W) := fun v W => by rw [hS]; exact Iff.rfl
                have HS12 : Hid (∀ v W, S 12 v W ↔ (fun v W => v = .int .i64 pp) v W) := fun v W => by rw [hS]; exact Iff.rfl
                have HS13 : Hid (∀ v W, S 13 v W ↔ (fun v W => True) v W) := fun v W => by rw [hS]; exact Iff.rfl
                have HS14 : Hid (∀ v W, S 14 v W ↔ (fun v W => v = .int .i64 ge) v W) := fun v W => by rw [hS]; exact Iff.rfl
                have HKP : Hid (∀ W W', Below W.heap.size W W' → ∀ j u, S j u W → S j u W') := fun W W' hb j u h => by
                  rw [hS] at h ⊢
                  revert h
                  exact match j with | 0 => fun h => h | 1 => fun h => h | 2 => fun h => h | 3 => fun h => h | 4 => fun h => h | 5 => fun h => h | 6 => fun h => h | 7 => fun h => h | 8 => fun h => h | 9 => fun h => h | 10 => fun h => by obtain ⟨p, h1, h2, h3⟩ := h; exact ⟨p, h1, h2, h3.below hb⟩ | 11 => fun h => h | 12 => fun h => h | 13 => fun h => h | 14 => fun h => h | _ + 15 => fun h => h
                have HKI : Hid (∀ W W', ∀ j u, j ≠ 10 → S j u W → S j u W') := fun W W' j u q10 h => by
                  rw [hS] at h ⊢
                  revert h
                  exact match j, q10 with | 0, _ => fun h => h | 1, _ => fun h => h | 2, _ => fun h => h | 3, _ => fun h => h | 4, _ => fun h => h | 5, _ => fun h => h | 6, _ => fun h => h | 7, _ => fun h => h | 8, _ => fun h => h | 9, _ => fun h => h | 10, q => absurd rfl q | 11, _ => fun h => h | 12, _ => fun h => h | 13, _ => fun h => h | 14, _ => fun h => h | _ + 15, _ => fun h => h
                clear hS
                obtain ⟨CC, hCC⟩ : ∃ CC : World → Prop, CC = fun W => Below wr.heap.size wr W ∧ True := ⟨_, rfl⟩
                have HCC : Hid (∀ W, CC W ↔ (fun W => Below wr.heap.size wr W ∧ True) W) := fun W => by rw [hCC]
                clear hCC
                refine wp_region_mono (C := CC) (S := S) (by kernel_rfl) (n := 142) (by kernel_rfl) (by kernel_rfl) ((HCC.out _).2 ⟨(Below.refl _ _).drew, trivial⟩) (each_at ?_) ?_
                · refine ⟨?_, ?_, ?_, ?_, ?_, ?_, ?_, ?_, ?_, ?_, ?_, ?_, ?_, ?_, ?_, trivial⟩
                  · intro a W hC0 _ _ he hdep
                    have hC := (HCC.out W).1 hC0
                    rw [if_pos (wanted_free rfl)]
                    have t6 := slot_else (t := 6) he (by kernel_rfl) rfl
                    have A0 := (hC.1.cell (p := ⟨b, 0, none⟩) s1).trans a0
                    have A1 := (hC.1.cell (p := ⟨b, 1, none⟩) s1).trans a1
                    have A2 := (hC.1.cell (p := ⟨b, 2, none⟩) s1).trans a2
                    have A3 := (hC.1.cell (p := ⟨b, 3, none⟩) s1).trans a3
                    unfold Oper.wp
                    simp [execOp, go_sem, t6, A0, A1, A2, A3]
                    exact MPost.same (.agg #[.int .i64 c.ck, .int .i64 c.nx, .int .i64 c.wt, .slice ac c.ts.length cc]) hC0 ((HS0.out _ _).2 rfl) rfl
                  · intro a W hC0 _ _ he hdep
                    have hC := (HCC.out W).1 hC0
                    rw [if_pos (wanted_free rfl)]
                    have t10 := slot_else (t := 10) he (by kernel_rfl) rfl
                    unfold Oper.wp
                    simp [execOp, go_sem, t10]
                    exact MPost.same (.pointer (some ⟨rb, 3, none⟩)) hC0 ((HS1.out _ _).2 rfl) rfl
                  · intro a W hC0 _ _ he hdep
                    have hC := (HCC.out W).1 hC0
                    obtain ⟨v120, t120, h120⟩ := hdep ⟨1, .data⟩ (by simp) (by rfl) _ _ rfl rfl
                    obtain rfl : v120 = .pointer (some ⟨rb, 3, none⟩) := (HS1.out _ _).1 h120
                    rw [if_pos (wanted_free rfl)]
                    have R3 := (hC.1.cell (p := ⟨rb, 3, none⟩) hrb1).trans r3
                    unfold Oper.wp
                    simp [execOp, go_sem, t120, R3]
                    exact MPost.same (.int .i64 r.c) hC0 ((HS2.out _ _).2 rfl) rfl
                  · intro a W hC0 _ _ he hdep
                    have hC := (HCC.out W).1 hC0
                    obtain ⟨v121, t121, h121⟩ := hdep ⟨2, .data⟩ (by simp) (by rfl) _ _ rfl rfl
                    obtain rfl : v121 = .int .i64 r.c := (HS2.out _ _).1 h121
                    rw [if_pos (wanted_free rfl)]
                    unfold Oper.wp
                    simp [execOp, go_sem, t121]
                    refine (picked_any r.c 2 _ HRO.out.2.2.2 ⟨by omega, by omega⟩).mono ?_
                    rintro e W2 ⟨rfl, hW2⟩
                    subst hW2
                    exact MPost.same _ hC0 ((HS3.out _ _).2 rfl) rfl
                  · intro a W hC0 _ _ he hdep
                    have hC := (HCC.out W).1 hC0
                    obtain ⟨v119, t119, h119⟩ := hdep ⟨0, .data⟩ (by simp) (by rfl) _ _ rfl rfl
                    obtain rfl : v119 = .agg #[.int .i64 c.ck, .int .i64 c.nx, .int .i64 c.wt, .slice ac c.ts.length cc] := (HS0.out _ _).1 h119
                    obtain ⟨v122, t122, h122⟩ := hdep ⟨3, .data⟩ (by simp) (by rfl) _ _ rfl rfl
                    obtain rfl : v122 = .int .i64 (pick r.c 2) := (HS3.out _ _).1 h122
                    rw [if_pos (wanted_free rfl)]
                    unfold Oper.wp
                    simp [execOp, go_sem, t119, t122]
                    refine (next_any c _ _ us _ (HRW.out _ hC.1) HFT.out.n).mono ?_
                    rintro e W2 ⟨rfl, hb2⟩
                    rw [HNP.out]
                    exact MPost.turn _ ((HCC.out _).2 ⟨bstep hC.1 hb2, trivial⟩) ((HS4.out _ _).2 rfl) (fun j u _ => HKP.out _ _ hb2 j u) rfl
                  · intro a W hC0 _ _ he hdep
                    have hC := (HCC.out W).1 hC0
                    obtain ⟨v123, t123, h123⟩ := hdep ⟨4, .data⟩ (by simp) (by rfl) _ _ rfl rfl
                    obtain rfl : v123 = nextV (nm, pp, pid, ver, kd, tx, ge) := (HS4.out _ _).1 h123
                    rw [if_pos (wanted_free rfl)]
                    unfold Oper.wp
                    simp [execOp, go_sem, t123]
                    exact MPost.same _ hC0 ((HS5.out _ _).2 rfl) rfl
                  · intro a W hC0 _ _ he hdep
                    have hC := (HCC.out W).1 hC0
                    obtain ⟨v118, t118, h118⟩ := hdep ⟨5, .data⟩ (by simp) (by rfl) _ _ rfl rfl
                    obtain rfl : v118 = nextV (nm, pp, pid, ver, kd, tx, ge) := (HS5.out _ _).1 h118
                    rw [if_pos (wanted_free rfl)]
                    unfold nextV at t118
                    unfold Oper.wp
                    simp [execOp, go_sem, t118]
                    exact MPost.same (.string nm) hC0 ((HS6.out _ _).2 rfl) rfl
                  · intro a W hC0 _ _ he hdep
                    have hC := (HCC.out W).1 hC0
                    obtain ⟨v118, t118, h118⟩ := hdep ⟨5, .data⟩ (by simp) (by rfl) _ _ rfl rfl
                    obtain rfl : v118 = nextV (nm, pp, pid, ver, kd, tx, ge) := (HS5.out _ _).1 h118
                    rw [if_pos (wanted_free rfl)]
                    unfold nextV at t118
                    unfold Oper.wp
                    simp [execOp, go_sem, t118]
                    exact MPost.same (.int .i64 pp) hC0 ((HS7.out _ _).2 rfl) rfl
                  · intro a W hC0 _ _ he hdep
                    have hC := (HCC.out W).1 hC0
                    obtain ⟨v118, t118, h118⟩ := hdep ⟨5, .data⟩ (by simp) (by rfl) _ _ rfl rfl
                    obtain rfl : v118 = nextV (nm, pp, pid, ver, kd, tx, ge) := (HS5.out _ _).1 h118
                    rw [if_pos (wanted_free rfl)]
                    unfold nextV at t118
                    unfold Oper.wp
                    simp [execOp, go_sem, t118]
                    exact MPost.same (entV pid ver kd tx) hC0 ((HS8.out _ _).2 rfl) rfl
                  · intro a W hC0 _ _ he hdep
                    have hC := (HCC.out W).1 hC0
                    obtain ⟨v118, t118, h118⟩ := hdep ⟨5, .data⟩ (by simp) (by rfl) _ _ rfl rfl
                    obtain rfl : v118 = nextV (nm, pp, pid, ver, kd, tx, ge) := (HS5.out _ _).1 h118
                    rw [if_pos (wanted_free rfl)]
                    unfold nextV at t118
                    unfold Oper.wp
                    simp [execOp, go_sem, t118]
                    exact MPost.same (.int .i64 ge) hC0 ((HS9.out _ _).2 rfl) rfl
                  · intro a W hC0 _ _ he hdep
                    have hC := (HCC.out W).1 hC0
                    rw [if_pos (wanted_free rfl)]
                    unfold Oper.wp
                    simp [execOp, go_sem]
                    exact MPost.turn _ ((HCC.out _).2 ⟨hC.1.alloc hC.1.size _, trivial⟩) ((HS10.out _ _).2 ⟨_, rfl, hC.1.size, ebx_new _ _⟩) (fun j u _ => HKP.out _ _ (bbox _ _) j u) rfl
                  · intro a W hC0 _ _ he hdep
                    have hC := (HCC.out W).1 hC0
                    obtain ⟨v124, t124, h124⟩ := hdep ⟨6, .data⟩ (by simp) (by rfl) _ _ rfl rfl
                    obtain rfl : v124 = .string nm := (HS6.out _ _).1 h124
                    rw [if_pos (wanted_free rfl)]
                    unfold Oper.wp
                    simp [execOp, go_sem, t124]
                    exact MPost.same (.string nm) hC0 ((HS11.out _ _).2 rfl) rfl
                  · intro a W hC0 _ _ he hdep
                    have hC := (HCC.out W).1 hC0
                    obtain ⟨v125, t125, h125⟩ := hdep ⟨7, .data⟩ (by simp) (by rfl) _ _ rfl rfl
                    obtain rfl : v125 = .int .i64 pp := (HS7.out _ _).1 h125
                    rw [if_pos (wanted_free rfl)]
                    unfold Oper.wp
                    simp [execOp, go_sem, t125]
                    exact MPost.same (.int .i64 pp) hC0 ((HS12.out _ _).2 rfl) rfl
                  · intro a W hC0 _ _ he hdep
                    have hC := (HCC.out W).1 hC0
                    obtain ⟨v18, t18, h18⟩ := hdep ⟨10, .data⟩ (by simp) (by rfl) _ _ rfl rfl
                    have h18 := (HS10.out _ _).1 h18
                    obtain ⟨v126, t126, h126⟩ := hdep ⟨8, .data⟩ (by simp) (by rfl) _ _ rfl rfl
                    obtain rfl : v126 = entV pid ver kd tx := (HS8.out _ _).1 h126
                    rw [if_pos (wanted_free rfl)]
                    obtain ⟨pb, rfl, hpb, hpx⟩ := h18
                    obtain ⟨z1, ⟨x0, x1, x2, x3, x4, x5, x6, e0, e1, e2, e3, e4, e5, e6⟩, g1⟩ := hpx
                    unfold entV at t126
                    unfold Oper.wp
                    simp [execOp, go_sem, t18, t126, e0, e1, e2, e3, e4, e5, e6, g1]
                    refine MPost.turn undef ((HCC.out _).2 ⟨?_, trivial⟩) ((HS13.out _ _).2 trivial) (fun j u hj hh => ?_) rfl
                    · exact ((((((hC.1.setCell (p := ⟨pb, 0, none⟩) hpb _).setCell (p := ⟨pb, 1, none⟩) hpb _).setCell (p := ⟨pb, 2, none⟩) hpb _).setCell (p := ⟨pb, 3, none⟩) hpb _).setCell (p := ⟨pb, 4, none⟩) hpb _).setCell (p := ⟨pb, 5, none⟩) hpb _).setCell (p := ⟨pb, 6, none⟩) hpb _
                    · by_cases e10 : j = 10
                      · subst e10
                        obtain ⟨p2, k1, k2, k3⟩ := (HS10.out _ _).1 hh
                        exact (HS10.out _ _).2 ⟨p2, k1, k2, ((((((k3.set _ _ _).set _ _ _).set _ _ _).set _ _ _).set _ _ _).set _ _ _).set _ _ _⟩
                      · exact HKI.out _ _ j u e10 hh
                  · intro a W hC0 _ _ he hdep
                    have hC := (HCC.out W).1 hC0
                    obtain ⟨v127, t127, h127⟩ := hdep ⟨9, .data⟩ (by simp) (by rfl) _ _ rfl rfl
                    obtain rfl : v127 = .int .i64 ge := (HS9.out _ _).1 h127
                    rw [if_pos (wanted_free rfl)]
                    unfold Oper.wp
                    simp [execOp, go_sem, t127]
                    exact MPost.same (.int .i64 ge) hC0 ((HS14.out _ _).2 rfl) rfl
                · intro vs W hC0 hS
                  have hC := (HCC.out W).1 hC0
                  have g11 := (HS11.out _ _).1 (hS 11 (by simp))
                  have g12 := (HS12.out _ _).1 (hS 12 (by simp))
                  have g14 := (HS14.out _ _).1 (hS 14 (by simp))
                  obtain ⟨p10, g10, _⟩ := (HS10.out _ _).1 (hS 10 (by simp))
                  simp [over, g10, g11, g12, g14, Act.put]
                  go_wp2_with fail
                  go_meet
                  exact ⟨rfl, rfl, rfl, hC.1⟩
              case rest =>
              obtain ⟨hv1, hv2, hv3, hbl⟩ := hcut
              subst hv1 hv2 hv3
              rename World => w7
              have HB7 : Hid (Below wr.heap.size wr w7) := hbl
              have HNX7 : Hid (CB w7 (rb + 1) c (.slice ac c.ts.length cc)) := HNX.out.below HNX.out.1 hbl
              have HCB7 : Hid (CB w7 b c (.slice ac c.ts.length cc)) := HCB5.out.below HCB5.out.1 hbl
              clear s1 a0 a1 a2 a3 f1 n1 n2 n3 n4 n5 n6 r0 r1 r2 r3 hbl
              obtain ⟨s1, ⟨a0, a1, a2, a3⟩, f1⟩ := HCB7.out
              obtain ⟨n1, ⟨n2, n3, n4, n5⟩, n6⟩ := HNX7.out
              by_cases hge : ge = 0
              · subst hge
                go_at_K
                go_wp2_with fail
                refine (done_any c nm pp _ us _ (HRW.out _ (by repeat (first | exact HB7.out | refine Below.drew ?_))) HFT.out HNM.out).mono ?_
                rintro e w8 ⟨vt', us8, rfl, hf8, hb8⟩
                obtain ⟨⟨d, er⟩, hX⟩ : ∃ yy, c.doneP nm pp = yy := ⟨_, rfl⟩
                have HCO : Hid (er = 0 → CoP isName3 d) := fun h0 => by have := @co_done isName3 c HC.out nm pp; rw [hX] at this; exact this h0
                rw [hX] at hf8 ⊢
                obtain ⟨a8, c8, rfl⟩ := hf8.shapeOf
                have hB8 : Below wr.heap.size wr w8 := bstep HB7.out (bstep (by repeat (first | exact Below.refl _ _ | refine Below.drew ?_)) hb8)
                have HB8 : Hid (Below wr.heap.size wr w8) := hB8
                have HF8 : Hid (FreshC W5.heap.size w8 d (.slice a8 d.ts.length c8) us8) := OwnW.mono hf8 (Nat.le_trans HB.out.size HB7.out.size)
                clear n1 n2 n3 n4 n5 n6 s1 a0 a1 a2 a3 f1
                obtain ⟨n1, ⟨n2, n3, n4, n5⟩, n6⟩ := HNX.out.below HNX.out.1 hB8
                clear hf8 hb8 hX hB8
                go_wp2_with fail
                go_meet
                exact ⟨er, d, _, us8, rfl, fun h0 => ⟨HCO.out h0, FreshC.put4 HF8.out (by omega) d _⟩, (HNX.out.below HNX.out.1 HB8.out).put d _, below_put4K (HBO.out.trans (show Below rb wr w8 from HB8.out.mono (by omega))) (by omega) d _⟩
              · have dg : (ge == 0) = false := by simp [hge]
                clear hge
                go_at_K
                go_wp2_with fail
                go_meet
                exact ⟨5, c, _, us, rfl, (fun h => absurd h (by decide)), HNX7.out, HBO.out.trans (show Below rb wr w7 from HB7.out.mono (by omega))⟩
        case rest =>
        obtain ⟨er, d, vd, ud, hv, hco, hcb, hbl⟩ := hcut
        subst hv
        rename World => w8
        have HZ8 : Hid (CB w8 w.heap.size Crd.zero (.slice none 0 0)) := (HZB.out.below HZB.out.1 (show Below wo.heap.size wo w8 by rw [HRB.out]; exact hbl))
        have HB8 : Hid (Below w.heap.size w w8) := bstep HBB.out (show Below wo.heap.size wo w8 by rw [HRB.out]; exact hbl)
        have hsz8 : W2.heap.size ≤ w8.heap.size := by have := hbl.size; have := HRB.out; omega
        have HCB8 : Hid (CB w8 b c (.slice ac c.ts.length cc)) := HCB.out.below HCB.out.1 (show Below wo.heap.size wo w8 by rw [HRB.out]; exact hbl)
        by_cases he : er = 0
        · subst he
          obtain ⟨hC2, hF2⟩ := hco rfl
          obtain ⟨ad, cd, rfl⟩ := hF2.shapeOf
          have HC2 : Hid (CoP isName3 d) := hC2
          have HF2 : Hid (FreshC W2.heap.size w8 d (.slice ad d.ts.length cd) ud) := OwnW.mono hF2 (by omega)
          have HN8 : Hid (CB w8 (rb + 1) d (.slice ad d.ts.length cd)) := hcb
          clear s1 a0 a1 a2 a3 f1 n1 n2 n3 n4 n5 n6 r0 r1 r2 r3 hcb hbl hco hC2 hF2
          obtain ⟨s1, ⟨a0, a1, a2, a3⟩, f1⟩ := HCB8.out
          obtain ⟨n1, ⟨n2, n3, n4, n5⟩, n6⟩ := HN8.out
          go_at_K
          go_wp2
          go_roundw
          case rel => exact ⟨k + 1, by omega, by omega, by go_num, ⟨d, _, ud, HC2.out, HCB8.out.put d _, FreshC.put4 HF2.out HCW.out.1 d _, by exact (((HZ8.out.far (by omega) _ _).far (by omega) _ _).far (by omega) _ _).far (by omega) _ _, below_put4 HB8.out (by omega) d _, by simp; exact hsz8⟩⟩
          case measure => simp [intOf]; omega
        · have d0 : (er == 0) = false := by simp [he]
          have HF3 : Hid (FreshC W2.heap.size w8 c (.slice ac c.ts.length cc) us) := OwnW.below HFC.out (Nat.le_refl _) (show Below wo.heap.size wo w8 by rw [HRB.out]; exact hbl)
          clear s1 a0 a1 a2 a3 f1 n1 n2 n3 n4 n5 n6 r0 r1 r2 r3 hcb hbl hco he
          go_at_K
          go_wp2
          go_roundw
          case rel => exact ⟨k + 1, by omega, by omega, by go_num, ⟨c, _, us, HC.out, HCB8.out, HF3.out, HZ8.out, HB8.out, hsz8⟩⟩
          case measure => simp [intOf]; omega

end Go.Proofs.Ytjhpfnogdjpbmaa
