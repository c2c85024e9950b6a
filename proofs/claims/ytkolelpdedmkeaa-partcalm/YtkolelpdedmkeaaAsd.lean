/-
  In the midst of a call: a part in memory of its own, a box that holds it and lies apart from its rows, and the result's box.
  In the midst of a call: a part in memory of its own, and the result's box.
-/
import Derived.Test.YtkolelpdedmkeaaPres
import Derived.Test.YtkolelpdedmkeaaPgrow
namespace Go.Proofs.Ytkolelpdedmkeaa

section
open Go.RowKit
set_option linter.unusedVariables false
set_option linter.unusedSimpArgs false

structure Sd (B b z : Nat) (w : World) (q : Prt) (gi gk gr di dk dr li lk lr : Nat) (us : Nat → Value) (W : World) : Prop where
  o : OwnP B W q gi gk gr di dk dr us
  p : PB W b q (.slice (some ⟨gi, 0, none⟩) li di) (.slice (some ⟨gk, 0, none⟩) lk dk) (.slice (some ⟨gr, 0, none⟩) lr dr)
  r : PB W z Prt.zero nilV nilV nilV
  bel : Below w.heap.size w W
  s : B ≤ W.heap.size
  hli : q.isr.length = li
  hlk : q.kn.length = lk
  hlr : q.rs.length = lr
  ba : b ≠ gi ∧ b ≠ gk ∧ b ≠ gr
  bu : ∀ i, i < lr → (us i).ownBlock ≠ some b
  zB : z < B
  bz : b ≠ z
  wb : w.heap.size ≤ b
  wz : w.heap.size ≤ z

theorem Sd.apart {B b z : Nat} {w W : World} {q : Prt} {gi gk gr di dk dr li lk lr : Nat} {us : Nat → Value} (h : Sd B b z w q gi gk gr di dk dr li lk lr us W) : b ≠ gi ∧ b ≠ gk ∧ b ≠ gr ∧ z ≠ gi ∧ z ≠ gk ∧ z ≠ gr ∧ w.heap.size ≤ gi ∧ w.heap.size ≤ gk ∧ w.heap.size ≤ gr := by
  have h1 := h.o.2.bi
  have h2 := h.o.2.bk
  have h3 := h.o.2.br
  have h5 := h.zB
  have h6 := h.wz
  refine ⟨h.ba.1, h.ba.2.1, h.ba.2.2, ?_, ?_, ?_, ?_, ?_, ?_⟩ <;> omega
theorem Sd.below {B b z : Nat} {w W : World} {q : Prt} {gi gk gr di dk dr li lk lr : Nat} {us : Nat → Value} {W' : World} (h : Sd B b z w q gi gk gr di dk dr li lk lr us W) (hb : Below W.heap.size W W') : Sd B b z w q gi gk gr di dk dr li lk lr us W' :=
  ⟨h.o.below (Nat.le_refl _) hb, h.p.below h.p.1 hb, h.r.below h.r.1 hb, h.bel.trans (hb.mono h.bel.size), Nat.le_trans h.s hb.size, h.hli, h.hlk, h.hlr, h.ba, h.bu, h.zB, h.bz, h.wb, h.wz⟩
theorem Sd.drew {B b z : Nat} {w W : World} {q : Prt} {gi gk gr di dk dr li lk lr : Nat} {us : Nat → Value} (h : Sd B b z w q gi gk gr di dk dr li lk lr us W) : Sd B b z w q gi gk gr di dk dr li lk lr us W.drew := h.below ((Below.refl _ _).drew)
/-- Behind a call that stores in the replicas' row. -/
theorem Sd.other {B b z : Nat} {w W : World} {q : Prt} {gi gk gr di dk dr li lk lr : Nat} {us : Nat → Value} {q' : Prt} {W' : World} (h : Sd B b z w q gi gk gr di dk dr li lk lr us W) (hg : W.grownBy W' (some gr)) (ho : OwnP B W' q' gi gk gr di dk dr us) (h1 : q'.isr.length = li) (h2 : q'.kn.length = lk) (h3 : q'.rs.length = lr) (e1 : q'.ep = q.ep) (e2 : q'.ld = q.ld) (e3 : q'.fw = q.fw) (e4 : q'.bs = q.bs) : Sd B b z w q' gi gk gr di dk dr li lk lr us W' := by
  obtain ⟨k1, k2, k3, k4, k5, k6, k7, k8, k9⟩ := h.apart
  have hp := h.p.grown hg (fun e => k3 (Option.some.inj e).symm)
  refine ⟨ho, ⟨hp.1, ?_, hp.2.2⟩, h.r.grown hg (fun e => k6 (Option.some.inj e).symm), h.bel.grown hg h.bel.size (fun k e => by have := Option.some.inj e; omega), Nat.le_trans h.s hg.size, h1, h2, h3, h.ba, h.bu, h.zB, h.bz, h.wb, h.wz⟩
  have := hp.2.1
  unfold PBox at this ⊢
  rw [e1, e2, e3, e4]
  exact this
theorem Sd.setIsr {B b z : Nat} {w W : World} {q : Prt} {gi gk gr di dk dr li lk lr : Nat} {us : Nat → Value} (h : Sd B b z w q gi gk gr di dk dr li lk lr us W) (i : Nat) (hi : i < li) (x : Bool) : Sd B b z w { q with isr := q.isr.set i x } gi gk gr di dk dr li lk lr us (W.setCell ⟨gi, i, none⟩ (.bool x)) := by
  obtain ⟨k1, k2, k3, k4, k5, k6, k7, k8, k9⟩ := h.apart
  exact ⟨h.o.setIsr i (by rw [h.hli]; exact hi) x, h.p.far (by assumption) _ _, h.r.far (by assumption) _ _, h.bel.setCell (by assumption) _, by simpa using h.s, by simpa using h.hli, h.hlk, h.hlr, h.ba, h.bu, h.zB, h.bz, h.wb, h.wz⟩
theorem Sd.setKn {B b z : Nat} {w W : World} {q : Prt} {gi gk gr di dk dr li lk lr : Nat} {us : Nat → Value} (h : Sd B b z w q gi gk gr di dk dr li lk lr us W) (i : Nat) (hi : i < lk) (x : Int) : Sd B b z w { q with kn := q.kn.set i x } gi gk gr di dk dr li lk lr us (W.setCell ⟨gk, i, none⟩ (.int .i64 x)) := by
  obtain ⟨k1, k2, k3, k4, k5, k6, k7, k8, k9⟩ := h.apart
  exact ⟨h.o.setKn i (by rw [h.hlk]; exact hi) x, h.p.far (by assumption) _ _, h.r.far (by assumption) _ _, h.bel.setCell (by assumption) _, by simpa using h.s, h.hli, by simpa using h.hlk, h.hlr, h.ba, h.bu, h.zB, h.bz, h.wb, h.wz⟩
theorem Sd.setUp {B b z : Nat} {w W : World} {q : Prt} {gi gk gr di dk dr li lk lr : Nat} {us : Nat → Value} (h : Sd B b z w q gi gk gr di dk dr li lk lr us W) (i : Nat) (hi : i < lr) (x : Bool) : Sd B b z w (q.setR i (fun r => { r with up := x })) gi gk gr di dk dr li lk lr us (W.setCell ⟨gr, i * 4, none⟩ (.bool x)) := by
  obtain ⟨k1, k2, k3, k4, k5, k6, k7, k8, k9⟩ := h.apart
  exact ⟨h.o.setUp i (by rw [h.hlr]; exact hi) x, h.p.far (by assumption) _ _, h.r.far (by assumption) _ _, h.bel.setCell (by assumption) _, by simpa using h.s, h.hli, h.hlk, by rw [(setR_len _ _ _).2.2]; exact h.hlr, h.ba, h.bu, h.zB, h.bz, h.wb, h.wz⟩
theorem Sd.setY {B b z : Nat} {w W : World} {q : Prt} {gi gk gr di dk dr li lk lr : Nat} {us : Nat → Value} (h : Sd B b z w q gi gk gr di dk dr li lk lr us W) (i : Nat) (hi : i < lr) (x : Int) : Sd B b z w (q.setR i (fun r => { r with y := x })) gi gk gr di dk dr li lk lr us (W.setCell ⟨gr, i * 4 + 2, none⟩ (.int .i64 x)) := by
  obtain ⟨k1, k2, k3, k4, k5, k6, k7, k8, k9⟩ := h.apart
  exact ⟨h.o.setY i (by rw [h.hlr]; exact hi) x, h.p.far (by assumption) _ _, h.r.far (by assumption) _ _, h.bel.setCell (by assumption) _, by simpa using h.s, h.hli, h.hlk, by rw [(setR_len _ _ _).2.2]; exact h.hlr, h.ba, h.bu, h.zB, h.bz, h.wb, h.wz⟩
theorem Sd.setH {B b z : Nat} {w W : World} {q : Prt} {gi gk gr di dk dr li lk lr : Nat} {us : Nat → Value} (h : Sd B b z w q gi gk gr di dk dr li lk lr us W) (i : Nat) (hi : i < lr) (x : Int) : Sd B b z w (q.setR i (fun r => { r with h := x })) gi gk gr di dk dr li lk lr us (W.setCell ⟨gr, i * 4 + 3, none⟩ (.int .i64 x)) := by
  obtain ⟨k1, k2, k3, k4, k5, k6, k7, k8, k9⟩ := h.apart
  exact ⟨h.o.setH i (by rw [h.hlr]; exact hi) x, h.p.far (by assumption) _ _, h.r.far (by assumption) _ _, h.bel.setCell (by assumption) _, by simpa using h.s, h.hli, h.hlk, by rw [(setR_len _ _ _).2.2]; exact h.hlr, h.ba, h.bu, h.zB, h.bz, h.wb, h.wz⟩
theorem Sd.setB {B b z : Nat} {w W : World} {q : Prt} {gi gk gr di dk dr li lk lr : Nat} {us : Nat → Value} (h : Sd B b z w q gi gk gr di dk dr li lk lr us W) (i : Nat) (hi : i < lr) (u : Value) (l : List Int) (hr : Rd W u l) (hk : ∀ k, u.ownBlock = some k → B ≤ k ∧ k < W.heap.size ∧ k ≠ gi ∧ k ≠ gk ∧ k ≠ gr ∧ k ≠ b) : Sd B b z w (q.setR i (fun r => { r with l := l })) gi gk gr di dk dr li lk lr (fun j => if j = i then u else us j) (W.setCell ⟨gr, i * 4 + 1, none⟩ u) := by
  obtain ⟨k1, k2, k3, k4, k5, k6, k7, k8, k9⟩ := h.apart
  exact ⟨h.o.setB i (by rw [h.hlr]; exact hi) u l hr (fun k e => by obtain ⟨x1, x2, x3, x4, x5, x6⟩ := hk k e; exact ⟨x1, x2, x3, x4, x5⟩), h.p.far (by assumption) _ _, h.r.far (by assumption) _ _, h.bel.setCell (by assumption) _, by simpa using h.s, h.hli, h.hlk, by rw [(setR_len _ _ _).2.2]; exact h.hlr, h.ba, fun j hj => by by_cases e : j = i <;> simp only [e, if_true, if_false] <;> first | exact fun e2 => (hk b e2).2.2.2.2.2 rfl | exact h.bu j hj, h.zB, h.bz, h.wb, h.wz⟩
/-- A number in the box. -/
theorem Sd.setInt {B b z : Nat} {w W : World} {q : Prt} {gi gk gr di dk dr li lk lr : Nat} {us : Nat → Value} (h : Sd B b z w q gi gk gr di dk dr li lk lr us W) (q' : Prt) (c : Nat) (x : Int) (hc : c = 0 ∨ c = 1 ∨ c = 5 ∨ c = 6) (h1 : q'.isr = q.isr) (h2 : q'.kn = q.kn) (h3 : q'.rs = q.rs)
    (e1 : q'.ep = if c = 0 then x else q.ep) (e2 : q'.ld = if c = 1 then x else q.ld) (e3 : q'.fw = if c = 5 then x else q.fw) (e4 : q'.bs = if c = 6 then x else q.bs) : Sd B b z w q' gi gk gr di dk dr li lk lr us (W.setCell ⟨b, c, none⟩ (.int .i64 x)) := by
  obtain ⟨k1, k2, k3, k4, k5, k6, k7, k8, k9⟩ := h.apart
  have ho := h.o.far h.p.2.2 (fun e => k1 e.symm) (fun e => k2 e.symm) (fun e => k3 e.symm) (fun i hi => h.bu i (by rw [← h.hlr]; exact hi)) c (.int .i64 x)
  have ho' : OwnP B (W.setCell ⟨b, c, none⟩ (.int .i64 x)) q' gi gk gr di dk dr us := by
    obtain ⟨⟨x1, x2, x3⟩, x4⟩ := ho
    refine ⟨⟨?_, ?_, ?_⟩, ?_⟩
    · rw [h1]; exact x1
    · rw [h2]; exact x2
    · rw [h3]; exact x3
    · rw [h3]; exact x4
  refine ⟨ho', ?_, h.r.far (fun e => h.bz e.symm) _ _, h.bel.setCell (p := ⟨b, c, none⟩) h.wb _, by simpa using h.s, by rw [h1]; exact h.hli, by rw [h2]; exact h.hlk, by rw [h3]; exact h.hlr, h.ba, h.bu, h.zB, h.bz, h.wb, h.wz⟩
  obtain ⟨s1, ⟨a0, a1, a2, a3, a4, a5, a6⟩, f1⟩ := h.p
  refine ⟨by simpa using s1, ?_, fun o' => by simp [go_sem, f1]⟩
  unfold PBox
  rw [e1, e2, e3, e4]
  rcases hc with rfl | rfl | rfl | rfl <;> refine ⟨?_, ?_, ?_, ?_, ?_, ?_, ?_⟩ <;> simp [go_sem, a0, a1, a2, a3, a4, a5, a6]
/-- The cells that a walk reads. -/
theorem Sd.cells {B b z : Nat} {w W : World} {q : Prt} {gi gk gr di dk dr li lk lr : Nat} {us : Nat → Value} (h : Sd B b z w q gi gk gr di dk dr li lk lr us W) (n : Nat) (hn : n < lr) : Rd W (us n) (q.at n).l ∧ W.cell? ⟨gr, n * 4, none⟩ = some (.bool (q.at n).up) ∧ W.cell? ⟨gr, n * 4 + 1, none⟩ = some (us n) ∧ W.cell? ⟨gr, n * 4 + 2, none⟩ = some (.int .i64 (q.at n).y) ∧ W.cell? ⟨gr, n * 4 + 3, none⟩ = some (.int .i64 (q.at n).h) ∧ ∀ o, W.frozen? ⟨gr, o, none⟩ = false :=
  have hc := h.o.cellsAt n (by rw [h.hlr]; exact hn)
  ⟨hc.1, hc.2.1, hc.2.2.1, hc.2.2.2.1, hc.2.2.2.2, h.o.2.fr⟩
theorem Sd.kn {B b z : Nat} {w W : World} {q : Prt} {gi gk gr di dk dr li lk lr : Nat} {us : Nat → Value} (h : Sd B b z w q gi gk gr di dk dr li lk lr us W) (n : Nat) (hn : n < lk) : W.cell? ⟨gk, n, none⟩ = some (.int .i64 (q.kn.getD n 0)) ∧ ∀ o, W.frozen? ⟨gk, o, none⟩ = false :=
  ⟨h.o.knCell n (by rw [h.hlk]; exact hn), h.o.2.fk⟩
theorem Sd.isr {B b z : Nat} {w W : World} {q : Prt} {gi gk gr di dk dr li lk lr : Nat} {us : Nat → Value} (h : Sd B b z w q gi gk gr di dk dr li lk lr us W) (n : Nat) (hn : n < li) : W.cell? ⟨gi, n, none⟩ = some (.bool (q.isr.getD n false)) ∧ ∀ o, W.frozen? ⟨gi, o, none⟩ = false :=
  ⟨h.o.isrCell n (by rw [h.hli]; exact hn), h.o.2.fi⟩
/-- What is new lies apart. -/
theorem Sd.fresh {B b z : Nat} {w W : World} {q : Prt} {gi gk gr di dk dr li lk lr : Nat} {us : Nat → Value} (h : Sd B b z w q gi gk gr di dk dr li lk lr us W) {W' : World} {u : Value} {l : List Int} (ho : Own W.heap.size u l W') (k : Nat) (hk : u.ownBlock = some k) : B ≤ k ∧ k < W'.heap.size ∧ k ≠ gi ∧ k ≠ gk ∧ k ≠ gr ∧ k ≠ b := by
  obtain ⟨x1, x2⟩ := ho.blk k hk
  have a := h.o.2.si
  have b' := h.o.2.sk
  have e := h.p.1
  have c := h.o.2.sr
  have d := h.s
  refine ⟨by omega, x2, by omega, by omega, by omega, by omega⟩
/-- All that is known is forgotten. -/
theorem Sd.clearFrom {B b z : Nat} {w W : World} {q : Prt} {gi gk gr di dk dr li lk lr : Nat} {us : Nat → Value} (h : Sd B b z w q gi gk gr di dk dr li lk lr us W) (m o : Nat) (hm : o + m = lk) : Sd B b z w { q with kn := q.kn.take o ++ List.replicate m 0 } gi gk gr di dk dr li lk lr us (W.setCells gk o (List.replicate m (.int .i64 0))) := by
  induction m generalizing o W q with
  | zero =>
    have e : q.kn.take o ++ List.replicate 0 0 = q.kn := by
      rw [List.replicate_zero, List.append_nil, List.take_of_length_le (by rw [h.hlk]; omega)]
    have : ({ q with kn := q.kn.take o ++ List.replicate 0 0 } : Prt) = q := by rw [e]
    rw [this]
    exact h
  | succ m ih =>
    have h1 := h.setKn o (by omega) 0
    have h2 := ih h1 (o + 1) (by omega)
    have hol : o < q.kn.length := by rw [h.hlk]; omega
    have e : (q.kn.set o 0).take (o + 1) ++ List.replicate m 0 = q.kn.take o ++ List.replicate (m + 1) 0 := by
      have e0 : List.take o (q.kn.set o 0) = List.take o q.kn := by
        rw [List.take_set, List.set_eq_of_length_le (by simp; omega)]
      rw [List.replicate_succ, List.take_succ_eq_append_getElem (by simpa using hol), e0]
      simp
    rw [show List.replicate (m + 1) (Value.int .i64 0) = .int .i64 0 :: List.replicate m (.int .i64 0) from rfl]
    show Sd B b z w _ gi gk gr di dk dr li lk lr us ((W.setCell ⟨gk, o, none⟩ (.int .i64 0)).setCells gk (o + 1) (List.replicate m (.int .i64 0)))
    have e2 : ({ ({ q with kn := q.kn.set o 0 } : Prt) with kn := (q.kn.set o 0).take (o + 1) ++ List.replicate m 0 } : Prt) = { q with kn := q.kn.take o ++ List.replicate (m + 1) 0 } := by rw [e]
    rw [← e2]
    exact h2
theorem Sd.clear {B b z : Nat} {w W : World} {q : Prt} {gi gk gr di dk dr li lk lr : Nat} {us : Nat → Value} (h : Sd B b z w q gi gk gr di dk dr li lk lr us W) : Sd B b z w { q with kn := List.replicate lk 0 } gi gk gr di dk dr li lk lr us (W.setCells gk 0 (List.replicate lk (.int .i64 0))) := by
  have := h.clearFrom lk 0 (by omega)
  simpa using this
/-- The end. -/
theorem Sd.done {B b z : Nat} {w W : World} {q : Prt} {gi gk gr di dk dr li lk lr : Nat} {us : Nat → Value} {q' : Prt} {more : List Value} (h : Sd B b z w q gi gk gr di dk dr li lk lr us W) (hq : q' = q) : Res w q' more (.returned (.tuple (.agg #[.int .i64 q.ep, .int .i64 q.ld, .slice (some ⟨gi, 0, none⟩) li di, .slice (some ⟨gk, 0, none⟩) lk dk, .slice (some ⟨gr, 0, none⟩) lr dr, .int .i64 q.fw, .int .i64 q.bs] :: more).toArray)) (put7 W z q (.slice (some ⟨gi, 0, none⟩) li di) (.slice (some ⟨gk, 0, none⟩) lk dk) (.slice (some ⟨gr, 0, none⟩) lr dr)) :=
  res_ok hq h.o h.zB h.r.2.2 h.bel h.wz h.hli h.hlk h.hlr rfl rfl rfl rfl
/-- All seven cells of the box stored anew. -/
theorem Sd.again {B b z : Nat} {w W : World} {q : Prt} {gi gk gr di dk dr li lk lr : Nat} {us : Nat → Value} (h : Sd B b z w q gi gk gr di dk dr li lk lr us W) : Sd B b z w q gi gk gr di dk dr li lk lr us (put7 W b q (.slice (some ⟨gi, 0, none⟩) li di) (.slice (some ⟨gk, 0, none⟩) lk dk) (.slice (some ⟨gr, 0, none⟩) lr dr)) := by
  obtain ⟨k1, k2, k3, k4, k5, k6, k7, k8, k9⟩ := h.apart
  refine ⟨?_, h.p.put _ _ _ _, h.r.putFar (fun e => h.bz e.symm) _ _ _ _, below_put h.bel h.wb _ _ _ _, by rw [put7_size]; exact h.s, h.hli, h.hlk, h.hlr, h.ba, h.bu, h.zB, h.bz, h.wb, h.wz⟩
  exact h.o.putOut h.p.2.2 (fun e => k1 e.symm) (fun e => k2 e.symm) (fun e => k3 e.symm) (fun i hi => h.bu i (by rw [← h.hlr]; exact hi)) _ _ _ _
theorem Sd.anew {B b z : Nat} {w W : World} {q : Prt} {gi gk gr di dk dr li lk lr : Nat} {us : Nat → Value} (h : Sd B b z w q gi gk gr di dk dr li lk lr us W) (p : Prt) (e1 : q.ep = p.ep) (e2 : q.ld = p.ld) (e3 : q.fw = p.fw) (e4 : q.bs = p.bs) : Sd B b z w q gi gk gr di dk dr li lk lr us (put7 W b p (.slice (some ⟨gi, 0, none⟩) li di) (.slice (some ⟨gk, 0, none⟩) lk dk) (.slice (some ⟨gr, 0, none⟩) lr dr)) := by
  have := h.again
  unfold put7 at this ⊢
  rw [e1, e2, e3, e4] at this
  exact this
/-- A copy, in a box of its own. -/
theorem Sd.start {w w1 w2 : World} {z : Nat} {p : Prt} {vi vk vr : Value} {us : Nat → Value} (hB : Below w.heap.size w w1) (hz : PB w1 z Prt.zero nilV nilV nilV) (hwz : w.heap.size ≤ z) (hfr : FreshP w1.heap.size w2 p vi vk vr us) (hb : Below w1.heap.size w1 w2) (h1 : 0 < p.isr.length) (h2 : 0 < p.kn.length) (h3 : 0 < p.rs.length) (T : TypeId) :
    ∃ gi gk gr di dk dr, vi = .slice (some ⟨gi, 0, none⟩) p.isr.length di ∧ vk = .slice (some ⟨gk, 0, none⟩) p.kn.length dk ∧ vr = .slice (some ⟨gr, 0, none⟩) p.rs.length dr ∧ Sd w1.heap.size w2.heap.size z w p gi gk gr di dk dr p.isr.length p.kn.length p.rs.length us (w2.alloc (.cells #[.int .i64 p.ep, .int .i64 p.ld, .slice (some ⟨gi, 0, none⟩) p.isr.length di, .slice (some ⟨gk, 0, none⟩) p.kn.length dk, .slice (some ⟨gr, 0, none⟩) p.rs.length dr, .int .i64 p.fw, .int .i64 p.bs] T)) := by
  obtain ⟨gi, gk, gr, di, dk, dr, rfl, rfl, rfl, ho⟩ := hfr.own h1 h2 h3
  have a1 := ho.2.si
  have a2 := ho.2.sk
  have a3 := ho.2.sr
  have a4 := hb.size
  have a5 := hz.1
  have a6 := hB.size
  have hal := bbox w2 (.cells #[.int .i64 p.ep, .int .i64 p.ld, .slice (some ⟨gi, 0, none⟩) p.isr.length di, .slice (some ⟨gk, 0, none⟩) p.kn.length dk, .slice (some ⟨gr, 0, none⟩) p.rs.length dr, .int .i64 p.fw, .int .i64 p.bs] T)
  refine ⟨gi, gk, gr, di, dk, dr, rfl, rfl, rfl, ho.below (Nat.le_refl _) hal, pb_new w2 p _ _ _ T _ rfl, (hz.below hz.1 hb).below (by omega) hal, hB.trans ((hb.trans (hal.mono a4)).mono a6), Nat.le_trans a4 hal.size, rfl, rfl, rfl, ⟨by omega, by omega, by omega⟩, fun i hi e => by have := (ho.2.un i hi _ e).2.1; omega, by omega, by omega, by omega, hwz⟩
end

section
open Go.RowKit
set_option linter.unusedVariables false
set_option linter.unusedSimpArgs false

structure Sn (B z : Nat) (w : World) (q : Prt) (gi gk gr di dk dr li lk lr : Nat) (us : Nat → Value) (W : World) : Prop where
  o : OwnP B W q gi gk gr di dk dr us
  r : PB W z Prt.zero nilV nilV nilV
  bel : Below w.heap.size w W
  s : B ≤ W.heap.size
  hli : q.isr.length = li
  hlk : q.kn.length = lk
  hlr : q.rs.length = lr
  zB : z < B
  wz : w.heap.size ≤ z

theorem Sn.apart {B z : Nat} {w W : World} {q : Prt} {gi gk gr di dk dr li lk lr : Nat} {us : Nat → Value} (h : Sn B z w q gi gk gr di dk dr li lk lr us W) : z ≠ gi ∧ z ≠ gk ∧ z ≠ gr ∧ w.heap.size ≤ gi ∧ w.heap.size ≤ gk ∧ w.heap.size ≤ gr := by
  have h1 := h.o.2.bi
  have h2 := h.o.2.bk
  have h3 := h.o.2.br
  have h5 := h.zB
  have h6 := h.wz
  refine ⟨?_, ?_, ?_, ?_, ?_, ?_⟩ <;> omega
theorem Sn.below {B z : Nat} {w W : World} {q : Prt} {gi gk gr di dk dr li lk lr : Nat} {us : Nat → Value} {W' : World} (h : Sn B z w q gi gk gr di dk dr li lk lr us W) (hb : Below W.heap.size W W') : Sn B z w q gi gk gr di dk dr li lk lr us W' :=
  ⟨h.o.below (Nat.le_refl _) hb, h.r.below h.r.1 hb, h.bel.trans (hb.mono h.bel.size), Nat.le_trans h.s hb.size, h.hli, h.hlk, h.hlr, h.zB, h.wz⟩
theorem Sn.drew {B z : Nat} {w W : World} {q : Prt} {gi gk gr di dk dr li lk lr : Nat} {us : Nat → Value} (h : Sn B z w q gi gk gr di dk dr li lk lr us W) : Sn B z w q gi gk gr di dk dr li lk lr us W.drew := h.below ((Below.refl _ _).drew)
theorem Sn.setIsr {B z : Nat} {w W : World} {q : Prt} {gi gk gr di dk dr li lk lr : Nat} {us : Nat → Value} (h : Sn B z w q gi gk gr di dk dr li lk lr us W) (i : Nat) (hi : i < li) (x : Bool) : Sn B z w { q with isr := q.isr.set i x } gi gk gr di dk dr li lk lr us (W.setCell ⟨gi, i, none⟩ (.bool x)) := by
  obtain ⟨k4, k5, k6, k7, k8, k9⟩ := h.apart
  exact ⟨h.o.setIsr i (by rw [h.hli]; exact hi) x, h.r.far (by assumption) _ _, h.bel.setCell (by assumption) _, by simpa using h.s, by simpa using h.hli, h.hlk, h.hlr, h.zB, h.wz⟩
theorem Sn.setKn {B z : Nat} {w W : World} {q : Prt} {gi gk gr di dk dr li lk lr : Nat} {us : Nat → Value} (h : Sn B z w q gi gk gr di dk dr li lk lr us W) (i : Nat) (hi : i < lk) (x : Int) : Sn B z w { q with kn := q.kn.set i x } gi gk gr di dk dr li lk lr us (W.setCell ⟨gk, i, none⟩ (.int .i64 x)) := by
  obtain ⟨k4, k5, k6, k7, k8, k9⟩ := h.apart
  exact ⟨h.o.setKn i (by rw [h.hlk]; exact hi) x, h.r.far (by assumption) _ _, h.bel.setCell (by assumption) _, by simpa using h.s, h.hli, by simpa using h.hlk, h.hlr, h.zB, h.wz⟩
theorem Sn.setUp {B z : Nat} {w W : World} {q : Prt} {gi gk gr di dk dr li lk lr : Nat} {us : Nat → Value} (h : Sn B z w q gi gk gr di dk dr li lk lr us W) (i : Nat) (hi : i < lr) (x : Bool) : Sn B z w (q.setR i (fun r => { r with up := x })) gi gk gr di dk dr li lk lr us (W.setCell ⟨gr, i * 4, none⟩ (.bool x)) := by
  obtain ⟨k4, k5, k6, k7, k8, k9⟩ := h.apart
  exact ⟨h.o.setUp i (by rw [h.hlr]; exact hi) x, h.r.far (by assumption) _ _, h.bel.setCell (by assumption) _, by simpa using h.s, h.hli, h.hlk, by rw [(setR_len _ _ _).2.2]; exact h.hlr, h.zB, h.wz⟩
theorem Sn.setY {B z : Nat} {w W : World} {q : Prt} {gi gk gr di dk dr li lk lr : Nat} {us : Nat → Value} (h : Sn B z w q gi gk gr di dk dr li lk lr us W) (i : Nat) (hi : i < lr) (x : Int) : Sn B z w (q.setR i (fun r => { r with y := x })) gi gk gr di dk dr li lk lr us (W.setCell ⟨gr, i * 4 + 2, none⟩ (.int .i64 x)) := by
  obtain ⟨k4, k5, k6, k7, k8, k9⟩ := h.apart
  exact ⟨h.o.setY i (by rw [h.hlr]; exact hi) x, h.r.far (by assumption) _ _, h.bel.setCell (by assumption) _, by simpa using h.s, h.hli, h.hlk, by rw [(setR_len _ _ _).2.2]; exact h.hlr, h.zB, h.wz⟩
theorem Sn.setH {B z : Nat} {w W : World} {q : Prt} {gi gk gr di dk dr li lk lr : Nat} {us : Nat → Value} (h : Sn B z w q gi gk gr di dk dr li lk lr us W) (i : Nat) (hi : i < lr) (x : Int) : Sn B z w (q.setR i (fun r => { r with h := x })) gi gk gr di dk dr li lk lr us (W.setCell ⟨gr, i * 4 + 3, none⟩ (.int .i64 x)) := by
  obtain ⟨k4, k5, k6, k7, k8, k9⟩ := h.apart
  exact ⟨h.o.setH i (by rw [h.hlr]; exact hi) x, h.r.far (by assumption) _ _, h.bel.setCell (by assumption) _, by simpa using h.s, h.hli, h.hlk, by rw [(setR_len _ _ _).2.2]; exact h.hlr, h.zB, h.wz⟩
theorem Sn.setB {B z : Nat} {w W : World} {q : Prt} {gi gk gr di dk dr li lk lr : Nat} {us : Nat → Value} (h : Sn B z w q gi gk gr di dk dr li lk lr us W) (i : Nat) (hi : i < lr) (u : Value) (l : List Int) (hr : Rd W u l) (hk : ∀ k, u.ownBlock = some k → B ≤ k ∧ k < W.heap.size ∧ k ≠ gi ∧ k ≠ gk ∧ k ≠ gr) : Sn B z w (q.setR i (fun r => { r with l := l })) gi gk gr di dk dr li lk lr (fun j => if j = i then u else us j) (W.setCell ⟨gr, i * 4 + 1, none⟩ u) := by
  obtain ⟨k4, k5, k6, k7, k8, k9⟩ := h.apart
  exact ⟨h.o.setB i (by rw [h.hlr]; exact hi) u l hr hk, h.r.far (by assumption) _ _, h.bel.setCell (by assumption) _, by simpa using h.s, h.hli, h.hlk, by rw [(setR_len _ _ _).2.2]; exact h.hlr, h.zB, h.wz⟩
/-- Other numbers of the box. -/
theorem Sn.ints {B z : Nat} {w W : World} {q : Prt} {gi gk gr di dk dr li lk lr : Nat} {us : Nat → Value} (h : Sn B z w q gi gk gr di dk dr li lk lr us W) (q' : Prt) (h1 : q'.isr = q.isr) (h2 : q'.kn = q.kn) (h3 : q'.rs = q.rs) : Sn B z w q' gi gk gr di dk dr li lk lr us W := by
  obtain ⟨⟨⟨x1, x2, x3⟩, x4⟩, b, c, d, e, f, g, i, j⟩ := h
  refine ⟨⟨⟨?_, ?_, ?_⟩, ?_⟩, b, c, d, by rw [h1]; exact e, by rw [h2]; exact f, by rw [h3]; exact g, i, j⟩
  · rw [h1]; exact x1
  · rw [h2]; exact x2
  · rw [h3]; exact x3
  · rw [h3]; exact x4
/-- The cells that a walk reads. -/
theorem Sn.cells {B z : Nat} {w W : World} {q : Prt} {gi gk gr di dk dr li lk lr : Nat} {us : Nat → Value} (h : Sn B z w q gi gk gr di dk dr li lk lr us W) (n : Nat) (hn : n < lr) : Rd W (us n) (q.at n).l ∧ W.cell? ⟨gr, n * 4, none⟩ = some (.bool (q.at n).up) ∧ W.cell? ⟨gr, n * 4 + 1, none⟩ = some (us n) ∧ W.cell? ⟨gr, n * 4 + 2, none⟩ = some (.int .i64 (q.at n).y) ∧ W.cell? ⟨gr, n * 4 + 3, none⟩ = some (.int .i64 (q.at n).h) ∧ ∀ o, W.frozen? ⟨gr, o, none⟩ = false :=
  have hc := h.o.cellsAt n (by rw [h.hlr]; exact hn)
  ⟨hc.1, hc.2.1, hc.2.2.1, hc.2.2.2.1, hc.2.2.2.2, h.o.2.fr⟩
theorem Sn.kn {B z : Nat} {w W : World} {q : Prt} {gi gk gr di dk dr li lk lr : Nat} {us : Nat → Value} (h : Sn B z w q gi gk gr di dk dr li lk lr us W) (n : Nat) (hn : n < lk) : W.cell? ⟨gk, n, none⟩ = some (.int .i64 (q.kn.getD n 0)) ∧ ∀ o, W.frozen? ⟨gk, o, none⟩ = false :=
  ⟨h.o.knCell n (by rw [h.hlk]; exact hn), h.o.2.fk⟩
theorem Sn.isr {B z : Nat} {w W : World} {q : Prt} {gi gk gr di dk dr li lk lr : Nat} {us : Nat → Value} (h : Sn B z w q gi gk gr di dk dr li lk lr us W) (n : Nat) (hn : n < li) : W.cell? ⟨gi, n, none⟩ = some (.bool (q.isr.getD n false)) ∧ ∀ o, W.frozen? ⟨gi, o, none⟩ = false :=
  ⟨h.o.isrCell n (by rw [h.hli]; exact hn), h.o.2.fi⟩
/-- What is new lies apart. -/
theorem Sn.fresh {B z : Nat} {w W : World} {q : Prt} {gi gk gr di dk dr li lk lr : Nat} {us : Nat → Value} (h : Sn B z w q gi gk gr di dk dr li lk lr us W) {W' : World} {u : Value} {l : List Int} (ho : Own W.heap.size u l W') (k : Nat) (hk : u.ownBlock = some k) : B ≤ k ∧ k < W'.heap.size ∧ k ≠ gi ∧ k ≠ gk ∧ k ≠ gr := by
  obtain ⟨x1, x2⟩ := ho.blk k hk
  have a := h.o.2.si
  have b := h.o.2.sk
  have c := h.o.2.sr
  have d := h.s
  refine ⟨by omega, x2, by omega, by omega, by omega⟩
/-- The box is laid. -/
theorem Sn.lay {B z : Nat} {w W : World} {q : Prt} {gi gk gr di dk dr li lk lr : Nat} {us : Nat → Value} (h : Sn B z w q gi gk gr di dk dr li lk lr us W) (T : TypeId) : Sd B W.heap.size z w q gi gk gr di dk dr li lk lr us (W.alloc (.cells #[.int .i64 q.ep, .int .i64 q.ld, .slice (some ⟨gi, 0, none⟩) li di, .slice (some ⟨gk, 0, none⟩) lk dk, .slice (some ⟨gr, 0, none⟩) lr dr, .int .i64 q.fw, .int .i64 q.bs] T)) := by
  have a1 := h.o.2.si
  have a2 := h.o.2.sk
  have a3 := h.o.2.sr
  have a5 := h.r.1
  have hal := bbox W (.cells #[.int .i64 q.ep, .int .i64 q.ld, .slice (some ⟨gi, 0, none⟩) li di, .slice (some ⟨gk, 0, none⟩) lk dk, .slice (some ⟨gr, 0, none⟩) lr dr, .int .i64 q.fw, .int .i64 q.bs] T)
  exact ⟨h.o.below (Nat.le_refl _) hal, pb_new W q _ _ _ T _ rfl, h.r.below h.r.1 hal, h.bel.trans (hal.mono h.bel.size), Nat.le_trans h.s hal.size, h.hli, h.hlk, h.hlr, ⟨by omega, by omega, by omega⟩, fun i hi e => by have := (h.o.2.un i (by rw [h.hlr]; exact hi) _ e).2.1; omega, h.zB, by omega, h.bel.size, h.wz⟩
theorem Sn.layAt {B z : Nat} {w W : World} {q : Prt} {gi gk gr di dk dr li lk lr : Nat} {us : Nat → Value} (h : Sn B z w q gi gk gr di dk dr li lk lr us W) (T : TypeId) (b : Nat) (hb : W.heap.size = b) : Sd B b z w q gi gk gr di dk dr li lk lr us (W.alloc (.cells #[.int .i64 q.ep, .int .i64 q.ld, .slice (some ⟨gi, 0, none⟩) li di, .slice (some ⟨gk, 0, none⟩) lk dk, .slice (some ⟨gr, 0, none⟩) lr dr, .int .i64 q.fw, .int .i64 q.bs] T)) := by
  subst hb
  exact h.lay T
/-- The end. -/
theorem Sn.done {B z : Nat} {w W : World} {q : Prt} {gi gk gr di dk dr li lk lr : Nat} {us : Nat → Value} {q' : Prt} {more : List Value} (h : Sn B z w q gi gk gr di dk dr li lk lr us W) (hq : q' = q) : Res w q' more (.returned (.tuple (.agg #[.int .i64 q.ep, .int .i64 q.ld, .slice (some ⟨gi, 0, none⟩) li di, .slice (some ⟨gk, 0, none⟩) lk dk, .slice (some ⟨gr, 0, none⟩) lr dr, .int .i64 q.fw, .int .i64 q.bs] :: more).toArray)) (put7 W z q (.slice (some ⟨gi, 0, none⟩) li di) (.slice (some ⟨gk, 0, none⟩) lk dk) (.slice (some ⟨gr, 0, none⟩) lr dr)) :=
  res_ok hq h.o h.zB h.r.2.2 h.bel h.wz h.hli h.hlk h.hlr rfl rfl rfl rfl
theorem Res.alloc {w W : World} {q : Prt} {more : List Value} {e : Ending} (h : Res w q more e W) (x : Obj) : Res w q more e (W.alloc x) := by
  obtain ⟨vi, vk, vr, us, h1, h2, h3⟩ := h
  exact ⟨vi, vk, vr, us, h1, h2.below (Nat.le_refl _) (bbox _ _), h3.trans ((bbox _ _).mono h3.size)⟩
theorem sn_start {w w1 w2 : World} {z : Nat} {p : Prt} {vi vk vr : Value} {us : Nat → Value} (hB : Below w.heap.size w w1) (hz : PB w1 z Prt.zero nilV nilV nilV) (hwz : w.heap.size ≤ z) (hfr : FreshP w1.heap.size w2 p vi vk vr us) (hb : Below w1.heap.size w1 w2) (h1 : 0 < p.isr.length) (h2 : 0 < p.kn.length) (h3 : 0 < p.rs.length) :
    ∃ gi gk gr di dk dr, vi = .slice (some ⟨gi, 0, none⟩) p.isr.length di ∧ vk = .slice (some ⟨gk, 0, none⟩) p.kn.length dk ∧ vr = .slice (some ⟨gr, 0, none⟩) p.rs.length dr ∧ Sn w1.heap.size z w p gi gk gr di dk dr p.isr.length p.kn.length p.rs.length us w2 := by
  obtain ⟨gi, gk, gr, di, dk, dr, rfl, rfl, rfl, ho⟩ := hfr.own h1 h2 h3
  exact ⟨gi, gk, gr, di, dk, dr, rfl, rfl, rfl, ho, hz.below hz.1 hb, hB.trans (hb.mono hB.size), hb.size, rfl, rfl, rfl, hz.1, hwz⟩
end

end Go.Proofs.Ytkolelpdedmkeaa
