/-
  Rows of a part that grow by append: what is kept, and the steps of regions that draw their order.
-/
import Derived.Test.YtkolelpdedmkeaaAown
import Derived.Deep.AppendLies
namespace Go.Proofs.Ytkolelpdedmkeaa
open Go.RowKit
set_option linter.unusedVariables false
set_option linter.unusedSimpArgs false
set_option maxRecDepth 100000

theorem rd_grown {w w' : World} {v : Value} {l : List Int} {r : Option Nat} (h : Rd w v l) (hg : w.grownBy w' r) (hne : ∀ k, v.ownBlock = some k → r ≠ some k) : Rd w' v l := by
  obtain ⟨hb, ao, cap, rfl, h1, h2, h3, h4⟩ := h
  refine ⟨hb, ao, cap, rfl, h1, h2, h3, fun h0 => ?_⟩
  obtain ⟨b, off, rfl, hc⟩ := h4 h0
  refine ⟨b, off, rfl, fun i hi => ?_⟩
  have := hc i hi
  rw [hg.cell_far _ (cell_lt this) (fun e => hne b rfl e.symm)]
  exact this
theorem PB.grown {w w' : World} {b : Nat} {p : Prt} {vi vk vr : Value} {r : Option Nat} (h : PB w b p vi vk vr) (hg : w.grownBy w' r) (hne : r ≠ some b) : PB w' b p vi vk vr := by
  obtain ⟨s, ⟨a0, a1, a2, a3, a4, a5, a6⟩, f⟩ := h
  have hn : some b ≠ r := fun e => hne e.symm
  refine ⟨Nat.lt_of_lt_of_le s hg.size, ⟨?_, ?_, ?_, ?_, ?_, ?_, ?_⟩, fun o => by rw [hg.frozen_far _ s hn]; exact f o⟩
  all_goals rw [hg.cell_far _ s hn]; assumption
theorem OwnP.putOut {B : Nat} {w : World} {p : Prt} {gi gk gr ci ck cr : Nat} {us : Nat → Value} (h : OwnP B w p gi gk gr ci ck cr us) {b : Nat} (hf : ∀ o, w.frozen? ⟨b, o, none⟩ = false) (h1 : gi ≠ b) (h2 : gk ≠ b) (h3 : gr ≠ b) (h4 : ∀ i, i < p.rs.length → (us i).ownBlock ≠ some b) (q : Prt) (x y z : Value) : OwnP B (put7 w b q x y z) p gi gk gr ci ck cr us := by
  have far : ∀ W, (∀ o, W.frozen? ⟨b, o, none⟩ = false) → OwnP B W p gi gk gr ci ck cr us → ∀ c x, OwnP B (W.setCell ⟨b, c, none⟩ x) p gi gk gr ci ck cr us ∧ ∀ o, (W.setCell ⟨b, c, none⟩ x).frozen? ⟨b, o, none⟩ = false := fun W hf ho c x =>
    ⟨ho.far hf h1 h2 h3 h4 c x, frozen_set hf b c x hf⟩
  unfold put7
  have f0 := far w hf h 0 (.int .i64 q.ep)
  have f1 := far _ f0.2 f0.1 1 (.int .i64 q.ld)
  have f2 := far _ f1.2 f1.1 2 x
  have f3 := far _ f2.2 f2.1 3 y
  have f4 := far _ f3.2 f3.1 4 z
  have f5 := far _ f4.2 f4.1 5 (.int .i64 q.fw)
  exact (far _ f5.2 f5.1 6 (.int .i64 q.bs)).1
theorem grown_put {w w' : World} {r : Option Nat} (h : w.grownBy w' r) {b : Nat} (hb : w.heap.size ≤ b) (q : Prt) (x y z : Value) : w.grownBy (put7 w' b q x y z) r :=
  grown_far (grown_far (grown_far (grown_far (grown_far (grown_far (grown_far h hb _ _) hb _ _) hb _ _) hb _ _) hb _ _) hb _ _) hb _ _
theorem FreshP.growI {B : Nat} {w w' : World} {q : Prt} {vi vk vr v' : Value} {us : Nat → Value} (h : FreshP B w q vi vk vr us) (b : Bool) (ho : OwnV B 4 1 v' (q.isr.length + 1) (q.isr.map Value.bool ++ [.bool b]) w') (hg : w.grownBy w' vi.ownBlock) (hat : ∀ k, v'.ownBlock = some k → vi.ownBlock = some k ∨ k = w.heap.size) :
    FreshP B w' { q with isr := q.isr ++ [b] } v' vk vr us := by
  refine ⟨by simpa using ho, h.ok.grown hg (fun k e e2 => h.ik k e2 e), h.or.grown hg (fun k e e2 => h.ir k e2 e), fun i hi => rd_grown (h.rd i hi) hg (fun k e e2 => (h.un i hi k e).2.2.1 e2), ?_, ?_, h.kr, ?_⟩
  · intro k e e2
    rcases hat k e with a | rfl
    · exact h.ik k a e2
    · have := (h.ok.blk _ e2).2; omega
  · intro k e e2
    rcases hat k e with a | rfl
    · exact h.ir k a e2
    · have := (h.or.blk _ e2).2; omega
  · intro i hi k hk
    obtain ⟨x1, x2, x3, x4, x5⟩ := h.un i hi k hk
    refine ⟨x1, Nat.lt_of_lt_of_le x2 hg.size, fun e => ?_, x4, x5⟩
    rcases hat k e with a | a
    · exact x3 a
    · omega
theorem FreshP.growK {B : Nat} {w w' : World} {q : Prt} {vi vk vr v' : Value} {us : Nat → Value} (h : FreshP B w q vi vk vr us) (n : Int) (ho : OwnV B 3 1 v' (q.kn.length + 1) (q.kn.map (Value.int .i64) ++ [.int .i64 n]) w') (hg : w.grownBy w' vk.ownBlock) (hat : ∀ k, v'.ownBlock = some k → vk.ownBlock = some k ∨ k = w.heap.size) :
    FreshP B w' { q with kn := q.kn ++ [n] } vi v' vr us := by
  refine ⟨h.oi.grown hg (fun k e e2 => h.ik k e e2), by simpa using ho, h.or.grown hg (fun k e e2 => h.kr k e2 e), fun i hi => rd_grown (h.rd i hi) hg (fun k e e2 => (h.un i hi k e).2.2.2.1 e2), ?_, h.ir, ?_, ?_⟩
  · intro k e e2
    rcases hat k e2 with a | rfl
    · exact h.ik k e a
    · have := (h.oi.blk _ e).2; omega
  · intro k e e2
    rcases hat k e with a | rfl
    · exact h.kr k a e2
    · have := (h.or.blk _ e2).2; omega
  · intro i hi k hk
    obtain ⟨x1, x2, x3, x4, x5⟩ := h.un i hi k hk
    refine ⟨x1, Nat.lt_of_lt_of_le x2 hg.size, x3, fun e => ?_, x5⟩
    rcases hat k e with a | a
    · exact x4 a
    · omega
theorem FreshP.growR {B : Nat} {w w' : World} {q : Prt} {vi vk vr v' : Value} {us : Nat → Value} (h : FreshP B w q vi vk vr us) (rep : Rep) (u : Value) (hu : Rd w u rep.l) (huk : ∀ k, u.ownBlock = some k → B ≤ k ∧ k < w.heap.size ∧ vi.ownBlock ≠ some k ∧ vk.ownBlock ≠ some k ∧ vr.ownBlock ≠ some k)
    (ho : OwnV B 63 4 v' (q.rs.length + 1) (repCells us q.rs 0 ++ [.bool rep.up, u, .int .i64 rep.y, .int .i64 rep.h]) w') (hg : w.grownBy w' vr.ownBlock) (hat : ∀ k, v'.ownBlock = some k → vr.ownBlock = some k ∨ k = w.heap.size) :
    FreshP B w' { q with rs := q.rs ++ [rep] } vi vk v' (fun j => if j = q.rs.length then u else us j) := by
  refine ⟨h.oi.grown hg (fun k e e2 => h.ir k e e2), h.ok.grown hg (fun k e e2 => h.kr k e e2), ?_, ?_, h.ik, ?_, ?_, ?_⟩
  · show OwnV B _ 4 v' (q.rs ++ [rep]).length (repCells _ (q.rs ++ [rep]) 0) w'
    rw [repCells_snoc, repCells_congr q.rs 0 (us' := us) (fun i hi => by simp [show ¬ i = q.rs.length by omega])]
    simpa using ho
  · intro i hi
    have hi' : i < q.rs.length + 1 := by simpa using hi
    by_cases e : i = q.rs.length
    · subst e
      simp only [if_true]
      have : ({ q with rs := q.rs ++ [rep] } : Prt).rs[q.rs.length]'hi = rep := by simp
      rw [this]
      exact rd_grown hu hg (fun k e e2 => (huk k e).2.2.2.2 e2)
    · simp only [if_neg e]
      have : ({ q with rs := q.rs ++ [rep] } : Prt).rs[i]'hi = q.rs[i]'(by omega) := by simp [List.getElem_append_left (show i < q.rs.length by omega)]
      rw [this]
      exact rd_grown (h.rd i (by omega)) hg (fun k e e2 => (h.un i (by omega) k e).2.2.2.2 e2)
  · intro k e e2
    rcases hat k e2 with a | rfl
    · exact h.ir k e a
    · have := (h.oi.blk _ e).2; omega
  · intro k e e2
    rcases hat k e2 with a | rfl
    · exact h.kr k e a
    · have := (h.ok.blk _ e).2; omega
  · intro i hi k hk
    have hi' : i < q.rs.length + 1 := by simpa using hi
    have hx : B ≤ k ∧ k < w.heap.size ∧ vi.ownBlock ≠ some k ∧ vk.ownBlock ≠ some k ∧ vr.ownBlock ≠ some k := by
      by_cases e : i = q.rs.length
      · simp only [if_pos e] at hk
        exact huk k hk
      · simp only [if_neg e] at hk
        exact h.un i (by omega) k hk
    obtain ⟨x1, x2, x3, x4, x5⟩ := hx
    refine ⟨x1, Nat.lt_of_lt_of_le x2 hg.size, x3, x4, fun e => ?_⟩
    rcases hat k e with a | a
    · exact x5 a
    · omega

section
variable {w : World} {ops : Array Oper} {o : Oper} {a : Act} {K : Act → World → Prop} {Q : Exit → Act → World → Prop} {E : Prop}
theorem step_rowB (hgd : o.guard = none) (s x : Operand)
    (ho : o.op = .call { callee := .builtin .append, args := #[s, x], argTypes := #[22, 22] })
    (B : Nat) (v : Value) (n : Nat) (xs : List Value) (hs : a.eval s = v) (hown : OwnV B 4 1 v n xs w) (g : Nat) (hx : a.eval x = .slice (some ⟨g, 0, none⟩) 1 1) (b : Bool) (hc : w.cell? ⟨g, 0, none⟩ = some (.bool b)) (hlen : n + 1 ≤ 140737488355328) (H : Nat) (hH : w.heap.size = H)
    (h : ∀ g' cap w', OwnV B 4 1 (.slice (some ⟨g', 0, none⟩) (n + 1) cap) (n + 1) (xs ++ [.bool b]) w' → w.grownBy w' v.ownBlock → (v.ownBlock = some g' ∨ g' = H) → g' < w'.heap.size → K (a.put o.dst (.slice (some ⟨g', 0, none⟩) (n + 1) cap)) w') :
    if Region.wanted o (yielded ops a.tmps) = true then Oper.wp Try.prog o a w K Q else E := by
  obtain ⟨i, hi, hz0, hz1, hz2⟩ := info_parts infoBool
  refine step_append_lies _ hgd s x _ ho B _ i (.bool false) 1 1 Try.underlying22 hi hz0 hz1 hz2 rfl (by decide) v n xs hs hown.1 ⟨g, 0, none⟩ 1 1 [.bool b] hx rfl ?_ ?_ (by omega) (by unfold maxLen; omega) (by omega) hown.2 H hH ?_
  · intro j u hj
    have hj' : j < 1 := by simpa using (List.getElem?_eq_some_iff.1 hj).1
    obtain rfl : j = 0 := by omega
    rw [Addr.add_lit]
    simp at hj
    subst hj
    exact hc
  · intro u hu
    simp at hu
    subst hu
    rfl
  · intro g' cap w' ho' hg hat hlt
    exact h g' cap w' ⟨ho', Nat.le_trans hown.2 hg.size⟩ hg hat hlt
theorem step_rowR (hgd : o.guard = none) (s x : Operand)
    (ho : o.op = .call { callee := .builtin .append, args := #[s, x], argTypes := #[24, 24] })
    (B : Nat) (v : Value) (n : Nat) (xs : List Value) (hs : a.eval s = v) (hown : OwnV B 63 4 v n xs w) (g : Nat) (hx : a.eval x = .slice (some ⟨g, 0, none⟩) 1 1) (up : Bool) (u : Value) (y hh : Int) (hu : u.oneCell' = true) (hc0 : w.cell? ⟨g, 0, none⟩ = some (.bool up)) (hc1 : w.cell? ⟨g, 1, none⟩ = some u) (hc2 : w.cell? ⟨g, 2, none⟩ = some (.int .i64 y)) (hc3 : w.cell? ⟨g, 3, none⟩ = some (.int .i64 hh)) (hlen : (n + 1) * 48 ≤ 140737488355328) (H : Nat) (hH : w.heap.size = H)
    (h : ∀ g' cap w', OwnV B 63 4 (.slice (some ⟨g', 0, none⟩) (n + 1) cap) (n + 1) (xs ++ [.bool up, u, .int .i64 y, .int .i64 hh]) w' → w.grownBy w' v.ownBlock → (v.ownBlock = some g' ∨ g' = H) → g' < w'.heap.size → K (a.put o.dst (.slice (some ⟨g', 0, none⟩) (n + 1) cap)) w') :
    if Region.wanted o (yielded ops a.tmps) = true then Oper.wp Try.prog o a w K Q else E := by
  obtain ⟨i, hi, hz0, hz1, hz2⟩ := info_parts infoRep
  refine step_append_lies _ hgd s x _ ho B _ i zeroR 4 48 Try.underlying24 hi hz0 hz1 hz2 rfl (by decide) v n xs hs hown.1 ⟨g, 0, none⟩ 1 1 [.bool up, u, .int .i64 y, .int .i64 hh] hx rfl ?_ ?_ (by omega) (by unfold maxLen; omega) (by omega) hown.2 H hH ?_
  · intro j x hj
    have hj' : j < 4 := by simpa using (List.getElem?_eq_some_iff.1 hj).1
    rw [Addr.add_lit, Nat.zero_add]
    rcases (show j = 0 ∨ j = 1 ∨ j = 2 ∨ j = 3 by omega) with rfl | rfl | rfl | rfl <;> (simp at hj; subst hj; assumption)
  · intro x hx
    simp at hx
    rcases hx with rfl | rfl | rfl | rfl
    · rfl
    · exact hu
    · rfl
    · rfl
  · intro g' cap w' ho' hg hat hlt
    exact h g' cap w' ⟨ho', Nat.le_trans hown.2 hg.size⟩ hg hat hlt
end

section
variable {w : World} {ops : Array Oper} {rest : List Oper} {o : Oper} {a : Act} {Q : Exit → Act → World → Prop}
theorem wp_rowB (hgd : o.guard = none) (s x : Operand)
    (ho : o.op = .call { callee := .builtin .append, args := #[s, x], argTypes := #[22, 22] })
    (B : Nat) (v : Value) (n : Nat) (xs : List Value) (hs : a.eval s = v) (hown : OwnV B 4 1 v n xs w) (g : Nat) (hx : a.eval x = .slice (some ⟨g, 0, none⟩) 1 1) (b : Bool) (hc : w.cell? ⟨g, 0, none⟩ = some (.bool b)) (hlen : n + 1 ≤ 140737488355328) (H : Nat) (hH : w.heap.size = H)
    (h : ∀ g' cap w', OwnV B 4 1 (.slice (some ⟨g', 0, none⟩) (n + 1) cap) (n + 1) (xs ++ [.bool b]) w' → w.grownBy w' v.ownBlock → (v.ownBlock = some g' ∨ g' = H) → g' < w'.heap.size → wpList Try.prog ops Q rest (a.put o.dst (.slice (some ⟨g', 0, none⟩) (n + 1) cap)) w') :
    wpList Try.prog ops Q (o :: rest) a w := by
  obtain ⟨i, hi, hz0, hz1, hz2⟩ := info_parts infoBool
  refine wpList_append_lies _ hgd s x _ ho B _ i (.bool false) 1 1 Try.underlying22 hi hz0 hz1 hz2 rfl (by decide) v n xs hs hown.1 ⟨g, 0, none⟩ 1 1 [.bool b] hx rfl ?_ ?_ (by omega) (by unfold maxLen; omega) (by omega) hown.2 H hH ?_
  · intro j u hj
    have hj' : j < 1 := by simpa using (List.getElem?_eq_some_iff.1 hj).1
    obtain rfl : j = 0 := by omega
    rw [Addr.add_lit]
    simp at hj
    subst hj
    exact hc
  · intro u hu
    simp at hu
    subst hu
    rfl
  · intro g' cap w' ho' hg hat hlt
    exact h g' cap w' ⟨ho', Nat.le_trans hown.2 hg.size⟩ hg hat hlt
theorem wp_rowR (hgd : o.guard = none) (s x : Operand)
    (ho : o.op = .call { callee := .builtin .append, args := #[s, x], argTypes := #[24, 24] })
    (B : Nat) (v : Value) (n : Nat) (xs : List Value) (hs : a.eval s = v) (hown : OwnV B 63 4 v n xs w) (g : Nat) (hx : a.eval x = .slice (some ⟨g, 0, none⟩) 1 1) (up : Bool) (u : Value) (y hh : Int) (hu : u.oneCell' = true) (hc0 : w.cell? ⟨g, 0, none⟩ = some (.bool up)) (hc1 : w.cell? ⟨g, 1, none⟩ = some u) (hc2 : w.cell? ⟨g, 2, none⟩ = some (.int .i64 y)) (hc3 : w.cell? ⟨g, 3, none⟩ = some (.int .i64 hh)) (hlen : (n + 1) * 48 ≤ 140737488355328) (H : Nat) (hH : w.heap.size = H)
    (h : ∀ g' cap w', OwnV B 63 4 (.slice (some ⟨g', 0, none⟩) (n + 1) cap) (n + 1) (xs ++ [.bool up, u, .int .i64 y, .int .i64 hh]) w' → w.grownBy w' v.ownBlock → (v.ownBlock = some g' ∨ g' = H) → g' < w'.heap.size → wpList Try.prog ops Q rest (a.put o.dst (.slice (some ⟨g', 0, none⟩) (n + 1) cap)) w') :
    wpList Try.prog ops Q (o :: rest) a w := by
  obtain ⟨i, hi, hz0, hz1, hz2⟩ := info_parts infoRep
  refine wpList_append_lies _ hgd s x _ ho B _ i zeroR 4 48 Try.underlying24 hi hz0 hz1 hz2 rfl (by decide) v n xs hs hown.1 ⟨g, 0, none⟩ 1 1 [.bool up, u, .int .i64 y, .int .i64 hh] hx rfl ?_ ?_ (by omega) (by unfold maxLen; omega) (by omega) hown.2 H hH ?_
  · intro j x hj
    have hj' : j < 4 := by simpa using (List.getElem?_eq_some_iff.1 hj).1
    rw [Addr.add_lit, Nat.zero_add]
    rcases (show j = 0 ∨ j = 1 ∨ j = 2 ∨ j = 3 by omega) with rfl | rfl | rfl | rfl <;> (simp at hj; subst hj; assumption)
  · intro x hx
    simp at hx
    rcases hx with rfl | rfl | rfl | rfl
    · rfl
    · exact hu
    · rfl
    · rfl
  · intro g' cap w' ho' hg hat hlt
    exact h g' cap w' ⟨ho', Nat.le_trans hown.2 hg.size⟩ hg hat hlt
end

end Go.Proofs.Ytkolelpdedmkeaa
