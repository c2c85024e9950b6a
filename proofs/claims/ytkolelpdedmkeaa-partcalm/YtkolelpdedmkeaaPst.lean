/-
  In the midst of a call: a part in memory of its own, the box that holds it, and the result's box.
-/
import Derived.Test.YtkolelpdedmkeaaPres
namespace Go.Proofs.Ytkolelpdedmkeaa
open Go.RowKit
set_option linter.unusedVariables false
set_option linter.unusedSimpArgs false

structure St (B b z : Nat) (w : World) (q : Prt) (gi gk gr di dk dr li lk lr : Nat) (us : Nat → Value) (W : World) : Prop where
  o : OwnP B W q gi gk gr di dk dr us
  p : PB W b q (.slice (some ⟨gi, 0, none⟩) li di) (.slice (some ⟨gk, 0, none⟩) lk dk) (.slice (some ⟨gr, 0, none⟩) lr dr)
  r : PB W z Prt.zero nilV nilV nilV
  bel : Below w.heap.size w W
  s : B ≤ W.heap.size
  hli : q.isr.length = li
  hlk : q.kn.length = lk
  hlr : q.rs.length = lr
  bB : b < B
  zB : z < B
  bz : b ≠ z
  wb : w.heap.size ≤ b
  wz : w.heap.size ≤ z

theorem St.apart {B b z : Nat} {w W : World} {q : Prt} {gi gk gr di dk dr li lk lr : Nat} {us : Nat → Value} (h : St B b z w q gi gk gr di dk dr li lk lr us W) : b ≠ gi ∧ b ≠ gk ∧ b ≠ gr ∧ z ≠ gi ∧ z ≠ gk ∧ z ≠ gr ∧ w.heap.size ≤ gi ∧ w.heap.size ≤ gk ∧ w.heap.size ≤ gr := by
  have h1 := h.o.2.bi
  have h2 := h.o.2.bk
  have h3 := h.o.2.br
  have h4 := h.bB
  have h5 := h.zB
  have h6 := h.wb
  refine ⟨?_, ?_, ?_, ?_, ?_, ?_, ?_, ?_, ?_⟩ <;> omega
theorem St.below {B b z : Nat} {w W : World} {q : Prt} {gi gk gr di dk dr li lk lr : Nat} {us : Nat → Value} {W' : World} (h : St B b z w q gi gk gr di dk dr li lk lr us W) (hb : Below W.heap.size W W') : St B b z w q gi gk gr di dk dr li lk lr us W' :=
  ⟨h.o.below (Nat.le_refl _) hb, h.p.below h.p.1 hb, h.r.below h.r.1 hb, h.bel.trans (hb.mono h.bel.size), Nat.le_trans h.s hb.size, h.hli, h.hlk, h.hlr, h.bB, h.zB, h.bz, h.wb, h.wz⟩
theorem St.drew {B b z : Nat} {w W : World} {q : Prt} {gi gk gr di dk dr li lk lr : Nat} {us : Nat → Value} (h : St B b z w q gi gk gr di dk dr li lk lr us W) : St B b z w q gi gk gr di dk dr li lk lr us W.drew := h.below ((Below.refl _ _).drew)
/-- Behind a call that stores in the part's own memory. -/
theorem St.other {B b z : Nat} {w W : World} {q : Prt} {gi gk gr di dk dr li lk lr : Nat} {us : Nat → Value} {q' : Prt} {us' : Nat → Value} {W' : World} (h : St B b z w q gi gk gr di dk dr li lk lr us W) (hb : Below B W W') (ho : OwnP B W' q' gi gk gr di dk dr us') (h1 : q'.isr.length = li) (h2 : q'.kn.length = lk) (h3 : q'.rs.length = lr) (e1 : q'.ep = q.ep) (e2 : q'.ld = q.ld) (e3 : q'.fw = q.fw) (e4 : q'.bs = q.bs) : St B b z w q' gi gk gr di dk dr li lk lr us' W' := by
  have hp := h.p.below h.bB hb
  refine ⟨ho, ⟨hp.1, ?_, hp.2.2⟩, h.r.below h.zB hb, h.bel.trans (hb.mono (Nat.le_trans h.wb (by have := h.bB; omega))), Nat.le_trans h.s hb.size, h1, h2, h3, h.bB, h.zB, h.bz, h.wb, h.wz⟩
  have := hp.2.1
  unfold PBox at this ⊢
  rw [e1, e2, e3, e4]
  exact this
theorem St.setIsr {B b z : Nat} {w W : World} {q : Prt} {gi gk gr di dk dr li lk lr : Nat} {us : Nat → Value} (h : St B b z w q gi gk gr di dk dr li lk lr us W) (i : Nat) (hi : i < li) (x : Bool) : St B b z w { q with isr := q.isr.set i x } gi gk gr di dk dr li lk lr us (W.setCell ⟨gi, i, none⟩ (.bool x)) := by
  obtain ⟨k1, k2, k3, k4, k5, k6, k7, k8, k9⟩ := h.apart
  exact ⟨h.o.setIsr i (by rw [h.hli]; exact hi) x, h.p.far (by assumption) _ _, h.r.far (by assumption) _ _, h.bel.setCell (by assumption) _, by simpa using h.s, by simpa using h.hli, h.hlk, h.hlr, h.bB, h.zB, h.bz, h.wb, h.wz⟩
theorem St.setKn {B b z : Nat} {w W : World} {q : Prt} {gi gk gr di dk dr li lk lr : Nat} {us : Nat → Value} (h : St B b z w q gi gk gr di dk dr li lk lr us W) (i : Nat) (hi : i < lk) (x : Int) : St B b z w { q with kn := q.kn.set i x } gi gk gr di dk dr li lk lr us (W.setCell ⟨gk, i, none⟩ (.int .i64 x)) := by
  obtain ⟨k1, k2, k3, k4, k5, k6, k7, k8, k9⟩ := h.apart
  exact ⟨h.o.setKn i (by rw [h.hlk]; exact hi) x, h.p.far (by assumption) _ _, h.r.far (by assumption) _ _, h.bel.setCell (by assumption) _, by simpa using h.s, h.hli, by simpa using h.hlk, h.hlr, h.bB, h.zB, h.bz, h.wb, h.wz⟩
theorem St.setUp {B b z : Nat} {w W : World} {q : Prt} {gi gk gr di dk dr li lk lr : Nat} {us : Nat → Value} (h : St B b z w q gi gk gr di dk dr li lk lr us W) (i : Nat) (hi : i < lr) (x : Bool) : St B b z w (q.setR i (fun r => { r with up := x })) gi gk gr di dk dr li lk lr us (W.setCell ⟨gr, i * 4, none⟩ (.bool x)) := by
  obtain ⟨k1, k2, k3, k4, k5, k6, k7, k8, k9⟩ := h.apart
  exact ⟨h.o.setUp i (by rw [h.hlr]; exact hi) x, h.p.far (by assumption) _ _, h.r.far (by assumption) _ _, h.bel.setCell (by assumption) _, by simpa using h.s, h.hli, h.hlk, by rw [(setR_len _ _ _).2.2]; exact h.hlr, h.bB, h.zB, h.bz, h.wb, h.wz⟩
theorem St.setY {B b z : Nat} {w W : World} {q : Prt} {gi gk gr di dk dr li lk lr : Nat} {us : Nat → Value} (h : St B b z w q gi gk gr di dk dr li lk lr us W) (i : Nat) (hi : i < lr) (x : Int) : St B b z w (q.setR i (fun r => { r with y := x })) gi gk gr di dk dr li lk lr us (W.setCell ⟨gr, i * 4 + 2, none⟩ (.int .i64 x)) := by
  obtain ⟨k1, k2, k3, k4, k5, k6, k7, k8, k9⟩ := h.apart
  exact ⟨h.o.setY i (by rw [h.hlr]; exact hi) x, h.p.far (by assumption) _ _, h.r.far (by assumption) _ _, h.bel.setCell (by assumption) _, by simpa using h.s, h.hli, h.hlk, by rw [(setR_len _ _ _).2.2]; exact h.hlr, h.bB, h.zB, h.bz, h.wb, h.wz⟩
theorem St.setH {B b z : Nat} {w W : World} {q : Prt} {gi gk gr di dk dr li lk lr : Nat} {us : Nat → Value} (h : St B b z w q gi gk gr di dk dr li lk lr us W) (i : Nat) (hi : i < lr) (x : Int) : St B b z w (q.setR i (fun r => { r with h := x })) gi gk gr di dk dr li lk lr us (W.setCell ⟨gr, i * 4 + 3, none⟩ (.int .i64 x)) := by
  obtain ⟨k1, k2, k3, k4, k5, k6, k7, k8, k9⟩ := h.apart
  exact ⟨h.o.setH i (by rw [h.hlr]; exact hi) x, h.p.far (by assumption) _ _, h.r.far (by assumption) _ _, h.bel.setCell (by assumption) _, by simpa using h.s, h.hli, h.hlk, by rw [(setR_len _ _ _).2.2]; exact h.hlr, h.bB, h.zB, h.bz, h.wb, h.wz⟩
theorem St.setB {B b z : Nat} {w W : World} {q : Prt} {gi gk gr di dk dr li lk lr : Nat} {us : Nat → Value} (h : St B b z w q gi gk gr di dk dr li lk lr us W) (i : Nat) (hi : i < lr) (u : Value) (l : List Int) (hr : Rd W u l) (hk : ∀ k, u.ownBlock = some k → B ≤ k ∧ k < W.heap.size ∧ k ≠ gi ∧ k ≠ gk ∧ k ≠ gr) : St B b z w (q.setR i (fun r => { r with l := l })) gi gk gr di dk dr li lk lr (fun j => if j = i then u else us j) (W.setCell ⟨gr, i * 4 + 1, none⟩ u) := by
  obtain ⟨k1, k2, k3, k4, k5, k6, k7, k8, k9⟩ := h.apart
  exact ⟨h.o.setB i (by rw [h.hlr]; exact hi) u l hr hk, h.p.far (by assumption) _ _, h.r.far (by assumption) _ _, h.bel.setCell (by assumption) _, by simpa using h.s, h.hli, h.hlk, by rw [(setR_len _ _ _).2.2]; exact h.hlr, h.bB, h.zB, h.bz, h.wb, h.wz⟩
/-- A number in the box. -/
theorem St.setInt {B b z : Nat} {w W : World} {q : Prt} {gi gk gr di dk dr li lk lr : Nat} {us : Nat → Value} (h : St B b z w q gi gk gr di dk dr li lk lr us W) (q' : Prt) (c : Nat) (x : Int) (hc : c = 0 ∨ c = 1 ∨ c = 5 ∨ c = 6) (h1 : q'.isr = q.isr) (h2 : q'.kn = q.kn) (h3 : q'.rs = q.rs)
    (e1 : q'.ep = if c = 0 then x else q.ep) (e2 : q'.ld = if c = 1 then x else q.ld) (e3 : q'.fw = if c = 5 then x else q.fw) (e4 : q'.bs = if c = 6 then x else q.bs) : St B b z w q' gi gk gr di dk dr li lk lr us (W.setCell ⟨b, c, none⟩ (.int .i64 x)) := by
  obtain ⟨k1, k2, k3, k4, k5, k6, k7, k8, k9⟩ := h.apart
  have ho := h.o.box h.p.2.2 h.bB c (.int .i64 x)
  have ho' : OwnP B (W.setCell ⟨b, c, none⟩ (.int .i64 x)) q' gi gk gr di dk dr us := by
    obtain ⟨⟨x1, x2, x3⟩, x4⟩ := ho
    refine ⟨⟨?_, ?_, ?_⟩, ?_⟩
    · rw [h1]; exact x1
    · rw [h2]; exact x2
    · rw [h3]; exact x3
    · rw [h3]; exact x4
  refine ⟨ho', ?_, h.r.far (fun e => h.bz e.symm) _ _, h.bel.setCell (p := ⟨b, c, none⟩) h.wb _, by simpa using h.s, by rw [h1]; exact h.hli, by rw [h2]; exact h.hlk, by rw [h3]; exact h.hlr, h.bB, h.zB, h.bz, h.wb, h.wz⟩
  obtain ⟨s1, ⟨a0, a1, a2, a3, a4, a5, a6⟩, f1⟩ := h.p
  refine ⟨by simpa using s1, ?_, fun o' => by simp [go_sem, f1]⟩
  unfold PBox
  rw [e1, e2, e3, e4]
  rcases hc with rfl | rfl | rfl | rfl <;> refine ⟨?_, ?_, ?_, ?_, ?_, ?_, ?_⟩ <;> simp [go_sem, a0, a1, a2, a3, a4, a5, a6]
/-- The cells that a walk reads. -/
theorem St.cells {B b z : Nat} {w W : World} {q : Prt} {gi gk gr di dk dr li lk lr : Nat} {us : Nat → Value} (h : St B b z w q gi gk gr di dk dr li lk lr us W) (n : Nat) (hn : n < lr) : Rd W (us n) (q.at n).l ∧ W.cell? ⟨gr, n * 4, none⟩ = some (.bool (q.at n).up) ∧ W.cell? ⟨gr, n * 4 + 1, none⟩ = some (us n) ∧ W.cell? ⟨gr, n * 4 + 2, none⟩ = some (.int .i64 (q.at n).y) ∧ W.cell? ⟨gr, n * 4 + 3, none⟩ = some (.int .i64 (q.at n).h) ∧ ∀ o, W.frozen? ⟨gr, o, none⟩ = false :=
  have hc := h.o.cellsAt n (by rw [h.hlr]; exact hn)
  ⟨hc.1, hc.2.1, hc.2.2.1, hc.2.2.2.1, hc.2.2.2.2, h.o.2.fr⟩
theorem St.kn {B b z : Nat} {w W : World} {q : Prt} {gi gk gr di dk dr li lk lr : Nat} {us : Nat → Value} (h : St B b z w q gi gk gr di dk dr li lk lr us W) (n : Nat) (hn : n < lk) : W.cell? ⟨gk, n, none⟩ = some (.int .i64 (q.kn.getD n 0)) ∧ ∀ o, W.frozen? ⟨gk, o, none⟩ = false :=
  ⟨h.o.knCell n (by rw [h.hlk]; exact hn), h.o.2.fk⟩
theorem St.isr {B b z : Nat} {w W : World} {q : Prt} {gi gk gr di dk dr li lk lr : Nat} {us : Nat → Value} (h : St B b z w q gi gk gr di dk dr li lk lr us W) (n : Nat) (hn : n < li) : W.cell? ⟨gi, n, none⟩ = some (.bool (q.isr.getD n false)) ∧ ∀ o, W.frozen? ⟨gi, o, none⟩ = false :=
  ⟨h.o.isrCell n (by rw [h.hli]; exact hn), h.o.2.fi⟩
/-- What is new lies apart. -/
theorem St.fresh {B b z : Nat} {w W : World} {q : Prt} {gi gk gr di dk dr li lk lr : Nat} {us : Nat → Value} (h : St B b z w q gi gk gr di dk dr li lk lr us W) {W' : World} {u : Value} {l : List Int} (ho : Own W.heap.size u l W') (k : Nat) (hk : u.ownBlock = some k) : B ≤ k ∧ k < W'.heap.size ∧ k ≠ gi ∧ k ≠ gk ∧ k ≠ gr := by
  obtain ⟨x1, x2⟩ := ho.blk k hk
  have a := h.o.2.si
  have b := h.o.2.sk
  have c := h.o.2.sr
  have d := h.s
  refine ⟨by omega, x2, by omega, by omega, by omega⟩
/-- All that is known is forgotten. -/
theorem St.clearFrom {B b z : Nat} {w W : World} {q : Prt} {gi gk gr di dk dr li lk lr : Nat} {us : Nat → Value} (h : St B b z w q gi gk gr di dk dr li lk lr us W) (m o : Nat) (hm : o + m = lk) : St B b z w { q with kn := q.kn.take o ++ List.replicate m 0 } gi gk gr di dk dr li lk lr us (W.setCells gk o (List.replicate m (.int .i64 0))) := by
  induction m generalizing o W q with
  | zero =>
    have e : q.kn.take o ++ List.replicate 0 0 = q.kn := by
      rw [List.replicate_zero, List.append_nil, List.take_of_length_le (by rw [h.hlk]; omega)]
    have : ({ q with kn := q.kn.take o ++ List.replicate 0 0 } : Prt) = q := by rw [e]
    rw [this]
    exact h
  | succ m ih =>
    have h1 := h.setKn o (by omega) 0
    have h2 := ih h1 (o + 1) (by omega)
    have hol : o < q.kn.length := by rw [h.hlk]; omega
    have e : (q.kn.set o 0).take (o + 1) ++ List.replicate m 0 = q.kn.take o ++ List.replicate (m + 1) 0 := by
      have e0 : List.take o (q.kn.set o 0) = List.take o q.kn := by
        rw [List.take_set, List.set_eq_of_length_le (by simp; omega)]
      rw [List.replicate_succ, List.take_succ_eq_append_getElem (by simpa using hol), e0]
      simp
    rw [show List.replicate (m + 1) (Value.int .i64 0) = .int .i64 0 :: List.replicate m (.int .i64 0) from rfl]
    show St B b z w _ gi gk gr di dk dr li lk lr us ((W.setCell ⟨gk, o, none⟩ (.int .i64 0)).setCells gk (o + 1) (List.replicate m (.int .i64 0)))
    have e2 : ({ ({ q with kn := q.kn.set o 0 } : Prt) with kn := (q.kn.set o 0).take (o + 1) ++ List.replicate m 0 } : Prt) = { q with kn := q.kn.take o ++ List.replicate (m + 1) 0 } := by rw [e]
    rw [← e2]
    exact h2
theorem St.clear {B b z : Nat} {w W : World} {q : Prt} {gi gk gr di dk dr li lk lr : Nat} {us : Nat → Value} (h : St B b z w q gi gk gr di dk dr li lk lr us W) : St B b z w { q with kn := List.replicate lk 0 } gi gk gr di dk dr li lk lr us (W.setCells gk 0 (List.replicate lk (.int .i64 0))) := by
  have := h.clearFrom lk 0 (by omega)
  simpa using this
/-- The end. -/
theorem St.done {B b z : Nat} {w W : World} {q : Prt} {gi gk gr di dk dr li lk lr : Nat} {us : Nat → Value} {q' : Prt} {more : List Value} (h : St B b z w q gi gk gr di dk dr li lk lr us W) (hq : q' = q) : Res w q' more (.returned (.tuple (.agg #[.int .i64 q.ep, .int .i64 q.ld, .slice (some ⟨gi, 0, none⟩) li di, .slice (some ⟨gk, 0, none⟩) lk dk, .slice (some ⟨gr, 0, none⟩) lr dr, .int .i64 q.fw, .int .i64 q.bs] :: more).toArray)) (put7 W z q (.slice (some ⟨gi, 0, none⟩) li di) (.slice (some ⟨gk, 0, none⟩) lk dk) (.slice (some ⟨gr, 0, none⟩) lr dr)) :=
  res_ok hq h.o h.zB h.r.2.2 h.bel h.wz h.hli h.hlk h.hlr rfl rfl rfl rfl

end Go.Proofs.Ytkolelpdedmkeaa
