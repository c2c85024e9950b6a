/-
  In the midst of a call: a part in memory of its own, and the result's box.
-/
import Derived.Test.YtkolelpdedmkeaaPsd
namespace Go.Proofs.Ytkolelpdedmkeaa
open Go.RowKit
set_option linter.unusedVariables false
set_option linter.unusedSimpArgs false

structure Sn (B z : Nat) (w : World) (q : Prt) (gi gk gr di dk dr li lk lr : Nat) (us : Nat → Value) (W : World) : Prop where
  o : OwnP B W q gi gk gr di dk dr us
  r : PB W z Prt.zero nilV nilV nilV
  bel : Below w.heap.size w W
  s : B ≤ W.heap.size
  hli : q.isr.length = li
  hlk : q.kn.length = lk
  hlr : q.rs.length = lr
  zB : z < B
  wz : w.heap.size ≤ z

theorem Sn.apart {B z : Nat} {w W : World} {q : Prt} {gi gk gr di dk dr li lk lr : Nat} {us : Nat → Value} (h : Sn B z w q gi gk gr di dk dr li lk lr us W) : z ≠ gi ∧ z ≠ gk ∧ z ≠ gr ∧ w.heap.size ≤ gi ∧ w.heap.size ≤ gk ∧ w.heap.size ≤ gr := by
  have h1 := h.o.2.bi
  have h2 := h.o.2.bk
  have h3 := h.o.2.br
  have h5 := h.zB
  have h6 := h.wz
  refine ⟨?_, ?_, ?_, ?_, ?_, ?_⟩ <;> omega
theorem Sn.below {B z : Nat} {w W : World} {q : Prt} {gi gk gr di dk dr li lk lr : Nat} {us : Nat → Value} {W' : World} (h : Sn B z w q gi gk gr di dk dr li lk lr us W) (hb : Below W.heap.size W W') : Sn B z w q gi gk gr di dk dr li lk lr us W' :=
  ⟨h.o.below (Nat.le_refl _) hb, h.r.below h.r.1 hb, h.bel.trans (hb.mono h.bel.size), Nat.le_trans h.s hb.size, h.hli, h.hlk, h.hlr, h.zB, h.wz⟩
theorem Sn.drew {B z : Nat} {w W : World} {q : Prt} {gi gk gr di dk dr li lk lr : Nat} {us : Nat → Value} (h : Sn B z w q gi gk gr di dk dr li lk lr us W) : Sn B z w q gi gk gr di dk dr li lk lr us W.drew := h.below ((Below.refl _ _).drew)
theorem Sn.setIsr {B z : Nat} {w W : World} {q : Prt} {gi gk gr di dk dr li lk lr : Nat} {us : Nat → Value} (h : Sn B z w q gi gk gr di dk dr li lk lr us W) (i : Nat) (hi : i < li) (x : Bool) : Sn B z w { q with isr := q.isr.set i x } gi gk gr di dk dr li lk lr us (W.setCell ⟨gi, i, none⟩ (.bool x)) := by
  obtain ⟨k4, k5, k6, k7, k8, k9⟩ := h.apart
  exact ⟨h.o.setIsr i (by rw [h.hli]; exact hi) x, h.r.far (by assumption) _ _, h.bel.setCell (by assumption) _, by simpa using h.s, by simpa using h.hli, h.hlk, h.hlr, h.zB, h.wz⟩
theorem Sn.setKn {B z : Nat} {w W : World} {q : Prt} {gi gk gr di dk dr li lk lr : Nat} {us : Nat → Value} (h : Sn B z w q gi gk gr di dk dr li lk lr us W) (i : Nat) (hi : i < lk) (x : Int) : Sn B z w { q with kn := q.kn.set i x } gi gk gr di dk dr li lk lr us (W.setCell ⟨gk, i, none⟩ (.int .i64 x)) := by
  obtain ⟨k4, k5, k6, k7, k8, k9⟩ := h.apart
  exact ⟨h.o.setKn i (by rw [h.hlk]; exact hi) x, h.r.far (by assumption) _ _, h.bel.setCell (by assumption) _, by simpa using h.s, h.hli, by simpa using h.hlk, h.hlr, h.zB, h.wz⟩
theorem Sn.setUp {B z : Nat} {w W : World} {q : Prt} {gi gk gr di dk dr li lk lr : Nat} {us : Nat → Value} (h : Sn B z w q gi gk gr di dk dr li lk lr us W) (i : Nat) (hi : i < lr) (x : Bool) : Sn B z w (q.setR i (fun r => { r with up := x })) gi gk gr di dk dr li lk lr us (W.setCell ⟨gr, i * 4, none⟩ (.bool x)) := by
  obtain ⟨k4, k5, k6, k7, k8, k9⟩ := h.apart
  exact ⟨h.o.setUp i (by rw [h.hlr]; exact hi) x, h.r.far (by assumption) _ _, h.bel.setCell (by assumption) _, by simpa using h.s, h.hli, h.hlk, by rw [(setR_len _ _ _).2.2]; exact h.hlr, h.zB, h.wz⟩
theorem Sn.setY {B z : Nat} {w W : World} {q : Prt} {gi gk gr di dk dr li lk lr : Nat} {us : Nat → Value} (h : Sn B z w q gi gk gr di dk dr li lk lr us W) (i : Nat) (hi : i < lr) (x : Int) : Sn B z w (q.setR i (fun r => { r with y := x })) gi gk gr di dk dr li lk lr us (W.setCell ⟨gr, i * 4 + 2, none⟩ (.int .i64 x)) := by
  obtain ⟨k4, k5, k6, k7, k8, k9⟩ := h.apart
  exact ⟨h.o.setY i (by rw [h.hlr]; exact hi) x, h.r.far (by assumption) _ _, h.bel.setCell (by assumption) _, by simpa using h.s, h.hli, h.hlk, by rw [(setR_len _ _ _).2.2]; exact h.hlr, h.zB, h.wz⟩
theorem Sn.setH {B z : Nat} {w W : World} {q : Prt} {gi gk gr di dk dr li lk lr : Nat} {us : Nat → Value} (h : Sn B z w q gi gk gr di dk dr li lk lr us W) (i : Nat) (hi : i < lr) (x : Int) : Sn B z w (q.setR i (fun r => { r with h := x })) gi gk gr di dk dr li lk lr us (W.setCell ⟨gr, i * 4 + 3, none⟩ (.int .i64 x)) := by
  obtain ⟨k4, k5, k6, k7, k8, k9⟩ := h.apart
  exact ⟨h.o.setH i (by rw [h.hlr]; exact hi) x, h.r.far (by assumption) _ _, h.bel.setCell (by assumption) _, by simpa using h.s, h.hli, h.hlk, by rw [(setR_len _ _ _).2.2]; exact h.hlr, h.zB, h.wz⟩
theorem Sn.setB {B z : Nat} {w W : World} {q : Prt} {gi gk gr di dk dr li lk lr : Nat} {us : Nat → Value} (h : Sn B z w q gi gk gr di dk dr li lk lr us W) (i : Nat) (hi : i < lr) (u : Value) (l : List Int) (hr : Rd W u l) (hk : ∀ k, u.ownBlock = some k → B ≤ k ∧ k < W.heap.size ∧ k ≠ gi ∧ k ≠ gk ∧ k ≠ gr) : Sn B z w (q.setR i (fun r => { r with l := l })) gi gk gr di dk dr li lk lr (fun j => if j = i then u else us j) (W.setCell ⟨gr, i * 4 + 1, none⟩ u) := by
  obtain ⟨k4, k5, k6, k7, k8, k9⟩ := h.apart
  exact ⟨h.o.setB i (by rw [h.hlr]; exact hi) u l hr hk, h.r.far (by assumption) _ _, h.bel.setCell (by assumption) _, by simpa using h.s, h.hli, h.hlk, by rw [(setR_len _ _ _).2.2]; exact h.hlr, h.zB, h.wz⟩
/-- Other numbers of the box. -/
theorem Sn.ints {B z : Nat} {w W : World} {q : Prt} {gi gk gr di dk dr li lk lr : Nat} {us : Nat → Value} (h : Sn B z w q gi gk gr di dk dr li lk lr us W) (q' : Prt) (h1 : q'.isr = q.isr) (h2 : q'.kn = q.kn) (h3 : q'.rs = q.rs) : Sn B z w q' gi gk gr di dk dr li lk lr us W := by
  obtain ⟨⟨⟨x1, x2, x3⟩, x4⟩, b, c, d, e, f, g, i, j⟩ := h
  refine ⟨⟨⟨?_, ?_, ?_⟩, ?_⟩, b, c, d, by rw [h1]; exact e, by rw [h2]; exact f, by rw [h3]; exact g, i, j⟩
  · rw [h1]; exact x1
  · rw [h2]; exact x2
  · rw [h3]; exact x3
  · rw [h3]; exact x4
/-- The cells that a walk reads. -/
theorem Sn.cells {B z : Nat} {w W : World} {q : Prt} {gi gk gr di dk dr li lk lr : Nat} {us : Nat → Value} (h : Sn B z w q gi gk gr di dk dr li lk lr us W) (n : Nat) (hn : n < lr) : Rd W (us n) (q.at n).l ∧ W.cell? ⟨gr, n * 4, none⟩ = some (.bool (q.at n).up) ∧ W.cell? ⟨gr, n * 4 + 1, none⟩ = some (us n) ∧ W.cell? ⟨gr, n * 4 + 2, none⟩ = some (.int .i64 (q.at n).y) ∧ W.cell? ⟨gr, n * 4 + 3, none⟩ = some (.int .i64 (q.at n).h) ∧ ∀ o, W.frozen? ⟨gr, o, none⟩ = false :=
  have hc := h.o.cellsAt n (by rw [h.hlr]; exact hn)
  ⟨hc.1, hc.2.1, hc.2.2.1, hc.2.2.2.1, hc.2.2.2.2, h.o.2.fr⟩
theorem Sn.kn {B z : Nat} {w W : World} {q : Prt} {gi gk gr di dk dr li lk lr : Nat} {us : Nat → Value} (h : Sn B z w q gi gk gr di dk dr li lk lr us W) (n : Nat) (hn : n < lk) : W.cell? ⟨gk, n, none⟩ = some (.int .i64 (q.kn.getD n 0)) ∧ ∀ o, W.frozen? ⟨gk, o, none⟩ = false :=
  ⟨h.o.knCell n (by rw [h.hlk]; exact hn), h.o.2.fk⟩
theorem Sn.isr {B z : Nat} {w W : World} {q : Prt} {gi gk gr di dk dr li lk lr : Nat} {us : Nat → Value} (h : Sn B z w q gi gk gr di dk dr li lk lr us W) (n : Nat) (hn : n < li) : W.cell? ⟨gi, n, none⟩ = some (.bool (q.isr.getD n false)) ∧ ∀ o, W.frozen? ⟨gi, o, none⟩ = false :=
  ⟨h.o.isrCell n (by rw [h.hli]; exact hn), h.o.2.fi⟩
/-- What is new lies apart. -/
theorem Sn.fresh {B z : Nat} {w W : World} {q : Prt} {gi gk gr di dk dr li lk lr : Nat} {us : Nat → Value} (h : Sn B z w q gi gk gr di dk dr li lk lr us W) {W' : World} {u : Value} {l : List Int} (ho : Own W.heap.size u l W') (k : Nat) (hk : u.ownBlock = some k) : B ≤ k ∧ k < W'.heap.size ∧ k ≠ gi ∧ k ≠ gk ∧ k ≠ gr := by
  obtain ⟨x1, x2⟩ := ho.blk k hk
  have a := h.o.2.si
  have b := h.o.2.sk
  have c := h.o.2.sr
  have d := h.s
  refine ⟨by omega, x2, by omega, by omega, by omega⟩
/-- The box is laid. -/
theorem Sn.lay {B z : Nat} {w W : World} {q : Prt} {gi gk gr di dk dr li lk lr : Nat} {us : Nat → Value} (h : Sn B z w q gi gk gr di dk dr li lk lr us W) (T : TypeId) : Sd B W.heap.size z w q gi gk gr di dk dr li lk lr us (W.alloc (.cells #[.int .i64 q.ep, .int .i64 q.ld, .slice (some ⟨gi, 0, none⟩) li di, .slice (some ⟨gk, 0, none⟩) lk dk, .slice (some ⟨gr, 0, none⟩) lr dr, .int .i64 q.fw, .int .i64 q.bs] T)) := by
  have a1 := h.o.2.si
  have a2 := h.o.2.sk
  have a3 := h.o.2.sr
  have a5 := h.r.1
  have hal := bbox W (.cells #[.int .i64 q.ep, .int .i64 q.ld, .slice (some ⟨gi, 0, none⟩) li di, .slice (some ⟨gk, 0, none⟩) lk dk, .slice (some ⟨gr, 0, none⟩) lr dr, .int .i64 q.fw, .int .i64 q.bs] T)
  exact ⟨h.o.below (Nat.le_refl _) hal, pb_new W q _ _ _ T _ rfl, h.r.below h.r.1 hal, h.bel.trans (hal.mono h.bel.size), Nat.le_trans h.s hal.size, h.hli, h.hlk, h.hlr, ⟨by omega, by omega, by omega⟩, fun i hi e => by have := (h.o.2.un i (by rw [h.hlr]; exact hi) _ e).2.1; omega, h.zB, by omega, h.bel.size, h.wz⟩
theorem Sn.layAt {B z : Nat} {w W : World} {q : Prt} {gi gk gr di dk dr li lk lr : Nat} {us : Nat → Value} (h : Sn B z w q gi gk gr di dk dr li lk lr us W) (T : TypeId) (b : Nat) (hb : W.heap.size = b) : Sd B b z w q gi gk gr di dk dr li lk lr us (W.alloc (.cells #[.int .i64 q.ep, .int .i64 q.ld, .slice (some ⟨gi, 0, none⟩) li di, .slice (some ⟨gk, 0, none⟩) lk dk, .slice (some ⟨gr, 0, none⟩) lr dr, .int .i64 q.fw, .int .i64 q.bs] T)) := by
  subst hb
  exact h.lay T
/-- The end. -/
theorem Sn.done {B z : Nat} {w W : World} {q : Prt} {gi gk gr di dk dr li lk lr : Nat} {us : Nat → Value} {q' : Prt} {more : List Value} (h : Sn B z w q gi gk gr di dk dr li lk lr us W) (hq : q' = q) : Res w q' more (.returned (.tuple (.agg #[.int .i64 q.ep, .int .i64 q.ld, .slice (some ⟨gi, 0, none⟩) li di, .slice (some ⟨gk, 0, none⟩) lk dk, .slice (some ⟨gr, 0, none⟩) lr dr, .int .i64 q.fw, .int .i64 q.bs] :: more).toArray)) (put7 W z q (.slice (some ⟨gi, 0, none⟩) li di) (.slice (some ⟨gk, 0, none⟩) lk dk) (.slice (some ⟨gr, 0, none⟩) lr dr)) :=
  res_ok hq h.o h.zB h.r.2.2 h.bel h.wz h.hli h.hlk h.hlr rfl rfl rfl rfl
theorem Res.alloc {w W : World} {q : Prt} {more : List Value} {e : Ending} (h : Res w q more e W) (x : Obj) : Res w q more e (W.alloc x) := by
  obtain ⟨vi, vk, vr, us, h1, h2, h3⟩ := h
  exact ⟨vi, vk, vr, us, h1, h2.below (Nat.le_refl _) (bbox _ _), h3.trans ((bbox _ _).mono h3.size)⟩
theorem sn_start {w w1 w2 : World} {z : Nat} {p : Prt} {vi vk vr : Value} {us : Nat → Value} (hB : Below w.heap.size w w1) (hz : PB w1 z Prt.zero nilV nilV nilV) (hwz : w.heap.size ≤ z) (hfr : FreshP w1.heap.size w2 p vi vk vr us) (hb : Below w1.heap.size w1 w2) (h1 : 0 < p.isr.length) (h2 : 0 < p.kn.length) (h3 : 0 < p.rs.length) :
    ∃ gi gk gr di dk dr, vi = .slice (some ⟨gi, 0, none⟩) p.isr.length di ∧ vk = .slice (some ⟨gk, 0, none⟩) p.kn.length dk ∧ vr = .slice (some ⟨gr, 0, none⟩) p.rs.length dr ∧ Sn w1.heap.size z w p gi gk gr di dk dr p.isr.length p.kn.length p.rs.length us w2 := by
  obtain ⟨gi, gk, gr, di, dk, dr, rfl, rfl, rfl, ho⟩ := hfr.own h1 h2 h3
  exact ⟨gi, gk, gr, di, dk, dr, rfl, rfl, rfl, ho, hz.below hz.1 hb, hB.trans (hb.mono hB.size), hb.size, rfl, rfl, rfl, hz.1, hwz⟩

end Go.Proofs.Ytkolelpdedmkeaa
