/-
  Parts in new memory, whatever their lengths; boxes that hold a part.
-/
import Derived.Test.YtkakagjffafdiaaPclone
namespace Go.Proofs.Ytkakagjffafdiaa
open Go.RowKit
set_option linter.unusedVariables false
set_option linter.unusedSimpArgs false

theorem OwnV.far {B T z : Nat} {v : Value} {n : Nat} {xs : List Value} {w : World} (h : OwnV B T z v n xs w) {b : Nat} (hb : v.ownBlock ≠ some b) (o : Nat) (x : Value) : OwnV B T z v n xs (w.setCell ⟨b, o, none⟩ x) := by
  obtain ⟨⟨h1, h2⟩, h4⟩ := h
  refine ⟨⟨h1, ?_⟩, by simpa using h4⟩
  rcases h2 with h2 | ⟨g, cap, cur, rfl, r2, r3, r4⟩
  · exact .inl h2
  · have hne : g ≠ b := fun e => hb (by simp [Value.ownBlock, e])
    exact .inr ⟨g, cap, cur, rfl, r2, by rw [Below.heap_setCell w ⟨b, o, none⟩ x g hne]; exact r3, r4⟩
theorem OwnV.stored {B T z g n cap : Nat} {xs : List Value} {w : World} (h : OwnV B T z (.slice (some ⟨g, 0, none⟩) n cap) n xs w) (j : Nat) (u : Value) : OwnV B T z (.slice (some ⟨g, 0, none⟩) n cap) n (xs.set j u) (w.setCell ⟨g, j, none⟩ u) :=
  ⟨(h.1.stored j u).1, by simpa using h.2⟩

/-- A part in new memory, from B on. -/
structure FreshP (B : Nat) (w : World) (p : Prt) (vi vk vr : Value) (us : Nat → Value) : Prop where
  oi : OwnV B 4 1 vi p.isr.length (p.isr.map Value.bool) w
  ok : OwnV B 3 1 vk p.kn.length (p.kn.map (Value.int .i64)) w
  or : OwnV B 63 4 vr p.rs.length (repCells us p.rs 0) w
  rd : ∀ i, (h : i < p.rs.length) → Rd w (us i) (p.rs[i]'h).l
  ik : ∀ k, vi.ownBlock = some k → vk.ownBlock ≠ some k
  ir : ∀ k, vi.ownBlock = some k → vr.ownBlock ≠ some k
  kr : ∀ k, vk.ownBlock = some k → vr.ownBlock ≠ some k
  un : ∀ i, i < p.rs.length → ∀ k, (us i).ownBlock = some k → B ≤ k ∧ k < w.heap.size ∧ vi.ownBlock ≠ some k ∧ vk.ownBlock ≠ some k ∧ vr.ownBlock ≠ some k
theorem FreshP.rdp {B : Nat} {w : World} {p : Prt} {vi vk vr : Value} {us : Nat → Value} (h : FreshP B w p vi vk vr us) : RdP w p vi vk vr us :=
  ⟨h.oi.rdv, h.ok.rdv, h.or.rdrs h.rd⟩
theorem FreshP.mono {B C : Nat} {w : World} {p : Prt} {vi vk vr : Value} {us : Nat → Value} (h : FreshP B w p vi vk vr us) (hC : C ≤ B) : FreshP C w p vi vk vr us :=
  ⟨h.oi.mono hC, h.ok.mono hC, h.or.mono hC, h.rd, h.ik, h.ir, h.kr, fun i hi k hk => by
    obtain ⟨x1, x2⟩ := h.un i hi k hk
    exact ⟨by omega, x2⟩⟩
theorem FreshP.below {B C : Nat} {w w' : World} {p : Prt} {vi vk vr : Value} {us : Nat → Value} (h : FreshP B w p vi vk vr us) (hC : w.heap.size ≤ C) (hb : Below C w w') : FreshP B w' p vi vk vr us :=
  ⟨h.oi.below hC hb, h.ok.below hC hb, h.or.below hC hb, fun i hi => (h.rd i hi).below hC hb, h.ik, h.ir, h.kr, fun i hi k hk => by
    obtain ⟨x1, x2, x3⟩ := h.un i hi k hk
    exact ⟨x1, Nat.lt_of_lt_of_le x2 hb.size, x3⟩⟩
theorem FreshP.box {B : Nat} {w : World} {p : Prt} {vi vk vr : Value} {us : Nat → Value} (h : FreshP B w p vi vk vr us) {b : Nat} (hb : b < B) (o : Nat) (x : Value) : FreshP B (w.setCell ⟨b, o, none⟩ x) p vi vk vr us :=
  ⟨h.oi.far (fun e => by have := (h.oi.blk b e).1; omega) o x, h.ok.far (fun e => by have := (h.ok.blk b e).1; omega) o x, h.or.far (fun e => by have := (h.or.blk b e).1; omega) o x, fun i hi => rd_block (h.rd i hi) (fun e => by have := (h.un i hi b e).1; omega) o x, h.ik, h.ir, h.kr, fun i hi k hk => by simpa using h.un i hi k hk⟩
theorem FreshP.own {B : Nat} {w : World} {p : Prt} {vi vk vr : Value} {us : Nat → Value} (h : FreshP B w p vi vk vr us) (h1 : 0 < p.isr.length) (h2 : 0 < p.kn.length) (h3 : 0 < p.rs.length) :
    ∃ gi gk gr ci ck cr, vi = .slice (some ⟨gi, 0, none⟩) p.isr.length ci ∧ vk = .slice (some ⟨gk, 0, none⟩) p.kn.length ck ∧ vr = .slice (some ⟨gr, 0, none⟩) p.rs.length cr ∧ OwnP B w p gi gk gr ci ck cr us := by
  have hr := h.rdp
  obtain ⟨gi, ci, rfl, i1, i2, _, _, i3, _⟩ := h.oi.form h1
  obtain ⟨gk, ck, rfl, k1, k2, _, _, k3, _⟩ := h.ok.form h2
  obtain ⟨gr, cr, rfl, r1, r2, _, _, r3, _⟩ := h.or.form h3
  have e1 := h.ik gi rfl
  have e2 := h.ir gi rfl
  have e3 := h.kr gk rfl
  simp [Value.ownBlock] at e1 e2 e3
  refine ⟨gi, gk, gr, ci, ck, cr, rfl, rfl, rfl, hr, ⟨i1, k1, r1, i2, k2, r2, fun e => e1 e.symm, fun e => e2 e.symm, fun e => e3 e.symm, i3, k3, r3, fun i hi k hk => ?_⟩⟩
  obtain ⟨x1, x2, x3, x4, x5⟩ := h.un i hi k hk
  simp [Value.ownBlock] at x3 x4 x5
  exact ⟨x1, x2, fun e => x3 e.symm, fun e => x4 e.symm, fun e => x5 e.symm⟩

/-- A box that holds a part, and may be stored to. -/
def PB (w : World) (b : Nat) (p : Prt) (vi vk vr : Value) : Prop := b < w.heap.size ∧ PBox w b p vi vk vr ∧ ∀ o, w.frozen? ⟨b, o, none⟩ = false
theorem PB.below {w w' : World} {b C : Nat} {p : Prt} {vi vk vr : Value} (h : PB w b p vi vk vr) (hg : b < C) (hb : Below C w w') : PB w' b p vi vk vr :=
  ⟨Nat.lt_of_lt_of_le h.1 hb.size, h.2.1.below hg hb, fun o => (hb.frozen (p := ⟨b, o, none⟩) hg).trans (h.2.2 o)⟩
theorem PB.far {w : World} {b : Nat} {p : Prt} {vi vk vr : Value} (h : PB w b p vi vk vr) {g : Nat} (hg : b ≠ g) (o : Nat) (x : Value) : PB (w.setCell ⟨g, o, none⟩ x) b p vi vk vr := by
  obtain ⟨h1, ⟨a0, a1, a2, a3, a4, a5, a6⟩, h3⟩ := h
  exact ⟨by simpa using h1, ⟨(cell_far hg _ _ _).trans a0, (cell_far hg _ _ _).trans a1, (cell_far hg _ _ _).trans a2, (cell_far hg _ _ _).trans a3, (cell_far hg _ _ _).trans a4, (cell_far hg _ _ _).trans a5, (cell_far hg _ _ _).trans a6⟩, fun o' => (frozen_far hg _ _ _).trans (h3 o')⟩
theorem pb_new (w : World) (p : Prt) (vi vk vr : Value) (T : TypeId) (b : Nat) (hb : b = w.heap.size) : PB (w.alloc (.cells #[.int .i64 p.ep, .int .i64 p.ld, vi, vk, vr, .int .i64 p.fw, .int .i64 p.bs] T)) b p vi vk vr := by
  subst hb
  exact ⟨by simp, pbox_new w p vi vk vr T, fun o => by simp⟩
theorem PB.setI {w : World} {b : Nat} {p : Prt} {vi vk vr : Value} (h : PB w b p vi vk vr) (x : Value) : PB (w.setCell ⟨b, 2, none⟩ x) b p x vk vr := by
  obtain ⟨h1, ⟨a0, a1, a2, a3, a4, a5, a6⟩, h3⟩ := h
  exact ⟨by simpa using h1, ⟨by simp [go_sem, a0, a2], by simp [go_sem, a1, a2], by simp [go_sem, a2], by simp [go_sem, a3, a2], by simp [go_sem, a4, a2], by simp [go_sem, a5, a2], by simp [go_sem, a6, a2]⟩, fun o' => by simp [go_sem, h3]⟩
theorem PB.setK {w : World} {b : Nat} {p : Prt} {vi vk vr : Value} (h : PB w b p vi vk vr) (x : Value) : PB (w.setCell ⟨b, 3, none⟩ x) b p vi x vr := by
  obtain ⟨h1, ⟨a0, a1, a2, a3, a4, a5, a6⟩, h3⟩ := h
  exact ⟨by simpa using h1, ⟨by simp [go_sem, a0, a3], by simp [go_sem, a1, a3], by simp [go_sem, a2, a3], by simp [go_sem, a3], by simp [go_sem, a4, a3], by simp [go_sem, a5, a3], by simp [go_sem, a6, a3]⟩, fun o' => by simp [go_sem, h3]⟩
theorem PB.setR {w : World} {b : Nat} {p : Prt} {vi vk vr : Value} (h : PB w b p vi vk vr) (x : Value) : PB (w.setCell ⟨b, 4, none⟩ x) b p vi vk x := by
  obtain ⟨h1, ⟨a0, a1, a2, a3, a4, a5, a6⟩, h3⟩ := h
  exact ⟨by simpa using h1, ⟨by simp [go_sem, a0, a4], by simp [go_sem, a1, a4], by simp [go_sem, a2, a4], by simp [go_sem, a3, a4], by simp [go_sem, a4], by simp [go_sem, a5, a4], by simp [go_sem, a6, a4]⟩, fun o' => by simp [go_sem, h3]⟩
/-- All seven cells are stored. -/
def put7 (w : World) (b : Nat) (p : Prt) (vi vk vr : Value) : World := ((((((w.setCell ⟨b, 0, none⟩ (.int .i64 p.ep)).setCell ⟨b, 1, none⟩ (.int .i64 p.ld)).setCell ⟨b, 2, none⟩ vi).setCell ⟨b, 3, none⟩ vk).setCell ⟨b, 4, none⟩ vr).setCell ⟨b, 5, none⟩ (.int .i64 p.fw)).setCell ⟨b, 6, none⟩ (.int .i64 p.bs)
theorem PB.put {w : World} {b : Nat} {q : Prt} {ui uk ur : Value} (h : PB w b q ui uk ur) (p : Prt) (vi vk vr : Value) : PB (put7 w b p vi vk vr) b p vi vk vr := by
  obtain ⟨h1, ⟨a0, a1, a2, a3, a4, a5, a6⟩, h3⟩ := h
  unfold put7
  exact ⟨by simpa using h1, ⟨by simp [go_sem, a0], by simp [go_sem, a1], by simp [go_sem, a2], by simp [go_sem, a3], by simp [go_sem, a4], by simp [go_sem, a5], by simp [go_sem, a6]⟩, fun o' => by simp [go_sem, h3]⟩
theorem FreshP.put {B : Nat} {w : World} {p : Prt} {vi vk vr : Value} {us : Nat → Value} (h : FreshP B w p vi vk vr us) {b : Nat} (hb : b < B) (q : Prt) (x y z : Value) : FreshP B (put7 w b q x y z) p vi vk vr us := by
  unfold put7
  exact ((((((h.box hb _ _).box hb _ _).box hb _ _).box hb _ _).box hb _ _).box hb _ _).box hb _ _
theorem below_put {B b : Nat} {w0 w : World} (h : Below B w0 w) (hb : B ≤ b) (q : Prt) (x y z : Value) : Below B w0 (put7 w b q x y z) := by
  unfold put7
  exact ((((((h.setCell hb _).setCell hb _).setCell hb _).setCell hb _).setCell hb _).setCell hb _).setCell hb _
theorem put7_size (w : World) (b : Nat) (q : Prt) (x y z : Value) : (put7 w b q x y z).heap.size = w.heap.size := by unfold put7; simp
theorem PB.putFar {w : World} {b : Nat} {p : Prt} {vi vk vr : Value} (h : PB w b p vi vk vr) {g : Nat} (hg : b ≠ g) (q : Prt) (x y z : Value) : PB (put7 w g q x y z) b p vi vk vr := by
  unfold put7
  exact ((((((h.far hg _ _).far hg _ _).far hg _ _).far hg _ _).far hg _ _).far hg _ _).far hg _ _
theorem OwnP.put {B : Nat} {w : World} {p : Prt} {gi gk gr ci ck cr : Nat} {us : Nat → Value} (h : OwnP B w p gi gk gr ci ck cr us) {b : Nat} (hf : ∀ o, w.frozen? ⟨b, o, none⟩ = false) (hb : b < B) (q : Prt) (x y z : Value) : OwnP B (put7 w b q x y z) p gi gk gr ci ck cr us := by
  unfold put7
  have f1 := frozen_set hf b 0 (.int .i64 q.ep) hf
  have f2 := frozen_set f1 b 1 (.int .i64 q.ld) f1
  have f3 := frozen_set f2 b 2 x f2
  have f4 := frozen_set f3 b 3 y f3
  have f5 := frozen_set f4 b 4 z f4
  have f6 := frozen_set f5 b 5 (.int .i64 q.fw) f5
  exact ((((((h.box hf hb _ _).box f1 hb _ _).box f2 hb _ _).box f3 hb _ _).box f4 hb _ _).box f5 hb _ _).box f6 hb _ _

/-- Its lists are within Go's bounds. -/
structure Prt.fits (p : Prt) : Prop where
  i : p.isr.length ≤ 140737488355328
  k : p.kn.length * 8 ≤ 140737488355328
  r : p.rs.length * 48 ≤ 140737488355328
  s : p.small
theorem nil_rdp (w : World) : RdP w Prt.zero (.slice none 0 0) (.slice none 0 0) (.slice none 0 0) (fun _ => .slice none 0 0) :=
  ⟨⟨none, 0, rfl, by simp [Prt.zero], by simp [maxLen], fun _ => rfl, fun h => by simp [Prt.zero] at h⟩, ⟨none, 0, rfl, by simp [Prt.zero], by simp [maxLen], fun _ => rfl, fun h => by simp [Prt.zero] at h⟩, ⟨none, 0, rfl, by simp [Prt.zero], by simp [maxLen], fun _ => rfl, fun h => by simp [Prt.zero] at h⟩⟩

end Go.Proofs.Ytkakagjffafdiaa
