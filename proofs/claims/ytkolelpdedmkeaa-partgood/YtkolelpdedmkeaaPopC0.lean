/-
  What part.Crash leaves of a log.
-/
import Derived.Test.YtkolelpdedmkeaaPst
import Derived.Test.YtkolelpdedmkeaaAseg
import Derived.Deep.RegionWith
import Derived.Deep.DeepCutAuto
namespace Go.Proofs.Ytkolelpdedmkeaa
open Go.RowKit
set_option linter.unusedVariables false
set_option linter.unusedSimpArgs false

theorem crash_dec {l : List Int} {y : Int} (hb : Bytes l) (h : lft l y = 0) (k : Int) (hk : 0 ≤ k) : decL (l.take (stayOf l y k)) = ((decL (l.take (leftOf l y k))).1, stayOf l y k) ∧ stayOf l y k ≤ l.length ∧ (decL (l.take (leftOf l y k))).1.length ≤ 400 := by
  obtain ⟨h1, h2, h3, h4, h5, h6⟩ := lft_ok h
  have hle : leftOf l y k ≤ l.length := by unfold leftOf; split <;> omega
  obtain ⟨j, hj, e1, e2, e3⟩ := dec_cut l hb h2 (leftOf l y k) hle
  have es : stayOf l y k = (decL (l.take (leftOf l y k))).2 := rfl
  rw [es, e1]
  have hbk := dec_back l hb
  rw [h2, List.take_length] at hbk
  have e4 : l.take (endOf (decL l).1 j) = ((decL l).1.take j).flatMap Ent.enc := by
    have := endOf_take (decL l).1 j
    rwa [hbk.1] at this
  have e5 := dec_encs ((decL l).1.take j) (fun e he => hbk.2.2 e (List.mem_of_mem_take he))
  refine ⟨?_, ?_, ?_⟩
  · show decL (l.take (endOf (decL l).1 j)) = _
    rw [e4, e5]
    rfl
  · have := endOf_le (decL l).1 j
    rw [hbk.1] at this
    exact this
  · show ((decL l).1.take j).length ≤ 400
    rw [List.length_take]
    omega
theorem crash_may {l : List Int} {y : Int} (hb : Bytes l) (h : lft l y = 0) (k : Int) (hk : 0 ≤ k) : lft (l.take (stayOf l y k)) (stayOf l y k) = 0 := by
  obtain ⟨h1, h2, h3⟩ := crash_dec hb h k hk
  have h4 := (lft_ok h).1
  have hl : (l.take (stayOf l y k)).length = stayOf l y k := by rw [List.length_take]; omega
  unfold lft
  rw [hl, h1, if_neg (by omega), if_neg (by simp; omega), if_neg (by omega), Int.toNat_natCast, List.take_of_length_le (by omega), h1, if_neg (by simp)]

theorem crf_zero {l : List Int} {y k : Int} (h : crf l y k = 0) (h0 : lft l y = 0) : 0 ≤ k := by
  unfold crf at h
  rw [if_neg (by rw [h0]; simp)] at h
  by_cases hk : k < 0
  · rw [if_pos hk] at h; cases h
  · omega
theorem entriesOf_at (q : Prt) (r : Nat) (ep ld fw bs : Int) (vi vk vr : Value) (us : Nat → Value) (w : World) (h : RdP w q vi vk vr us) (hr : r < q.rs.length) (h0 : lft (q.at r).l (q.at r).y = 0) (e1 : q.ep = ep) (e2 : q.ld = ld) (e3 : q.fw = fw) (e4 : q.bs = bs) :
    Calls Try.prog 75 #[.agg #[.int .i64 ep, .int .i64 ld, vi, vk, vr, .int .i64 fw, .int .i64 bs], .int .i64 r] w fun e w' => ∃ v, e = .returned (.tuple #[v, .int .i64 (q.at r).safe]) ∧ OwnE w.heap.size v (q.at r).es w' ∧ Below w.heap.size w w' := by
  subst e1 e2 e3 e4
  exact entriesOf_may q r vi vk vr us w h hr h0
theorem segCrash_bad (l : List Int) (u : Value) (y k : Int) (w : World) (hl : l.length ≤ 140737488355328) (h : Rd w u l) (h0 : crf l y k ≠ 0) :
    Calls Try.prog 93 #[.agg #[u, .int .i64 y], .int .i64 k] w fun e w' => e = .returned (.tuple #[.agg #[.slice none 0 0, .int .i64 0], .int .i64 (crf l y k)]) ∧ Below w.heap.size w w' :=
  (segCrash_any l u y k w hl h).mono fun e w' ⟨hb, h, _⟩ => ⟨h h0, hb⟩
theorem segCrash_ok (l : List Int) (u : Value) (y k : Int) (w : World) (hl : l.length ≤ 140737488355328) (h : Rd w u l) (h0 : crf l y k = 0) (s : Nat) (NL : List Int) (hs : stayOf l y k = s) (hN : l.take s = NL) :
    Calls Try.prog 93 #[.agg #[u, .int .i64 y], .int .i64 k] w fun e w' => ∃ av cv, e = .returned (.tuple #[.agg #[.slice av NL.length cv, .int .i64 s], .int .i64 0]) ∧ Own w.heap.size (.slice av NL.length cv) NL w' ∧ Below w.heap.size w w' :=
  (segCrash_any l u y k w hl h).mono fun e w' ⟨hb, _, h⟩ => by
    obtain ⟨v, h1, h2⟩ := h h0
    have e1 : (decL (List.take (leftOf l y k) l)).2 = s := hs
    rw [e1] at h1 h2
    rw [hN] at h2
    obtain ⟨av, cv, rfl⟩ := h2.shape
    exact ⟨av, cv, h1, h2, hb⟩

end Go.Proofs.Ytkolelpdedmkeaa
