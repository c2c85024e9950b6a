/-
  The walks of the helpers that package seg goes by: slices.Grow, slices.Concat, bytes.Clone, encodeAll.
-/
import Derived.Test.YtkakagjffafdiaaSent
import Derived.Test.YtkakagjffafdiaaKeq
import Derived.Lib.AppendZeros
import Derived.Lib.BufferMore
import Derived.Deep.Heap
namespace Go.Proofs.Ytkakagjffafdiaa
open Go.RowKit
set_option linter.unusedVariables false
set_option linter.unusedSimpArgs false

/-- A new row with room, of which nothing is taken. -/
theorem own_room (w : World) (cur : Array Value) (cap : Nat) (hs : cur.size = cap) (hm : cap ≤ maxLen) : Own w.heap.size (.slice (some ⟨w.heap.size, 0, none⟩) 0 cap) [] (w.alloc (.cells cur 5)) := by
  refine ⟨⟨by simp, .inr ⟨w.heap.size, cap, cur, rfl, Nat.le_refl _, Deep.blk_alloc_new w _, by simp, hm, by omega, by simp⟩⟩, fun n hn => by simp at hn, ?_⟩
  exact ((Below.refl w.heap.size w).alloc (Nat.le_refl _) _).size

set_option maxRecDepth 100000 in
set_option maxHeartbeats 1000000 in
theorem grow_zero (w : World) : Calls Try.prog 131 #[.slice none 0 0, .int .i64 0] w fun e w' => ∃ v, e = .returned v ∧ Own w.heap.size v [] w' ∧ Below w.heap.size w w' := by
  go_enter Try.func131, Try.ntmps131
  go_wp2
  go_ret
  exact ⟨_, rfl, own_nil _ _ (Nat.le_refl _), Below.refl _ _⟩

set_option maxRecDepth 100000 in
set_option maxHeartbeats 1000000 in
theorem grow_some (n : Nat) (w : World) (h0 : 0 < n) (hn : n ≤ 100000000) : Calls Try.prog 131 #[.slice none 0 0, .int .i64 n] w fun e w' => ∃ v, e = .returned v ∧ Own w.heap.size v [] w' ∧ Below w.heap.size w w' := by
  obtain ⟨i, hi, hz0, hz1, hz2⟩ := info_parts infoByte
  have hrun := fun ty => Lib.run_append_nil_zeros (P := Try.prog) w 59 3 ty 5 i (.int .u8 0) .i64 .i64 Try.underlying59 Try.underlying3 hi hz0 n h0 (by omega) (by omega) (by rw [hz2]; omega)
  have hn' : (n : Int) ≤ 100000000 := by omega
  have h0' : 0 < (n : Int) := by omega
  have hcap := grownCap_ge w n 0 5
  have hcm := grownCap_le_maxLen w n 0 5 (by unfold maxLen; omega)
  clear hi hz0 hz1 hz2
  go_enter Try.func131, Try.ntmps131
  go_wp2_with (at_builtin; refine Lib.wpList_append_run _ rfl _ _ _ _ rfl _ _ rfl rfl _ _ (hrun _) ?_)
  go_ret
  refine ⟨_, rfl, (own_room w _ _ ?_ hcm).drew, below_drewN ((Below.refl _ _).alloc (Nat.le_refl _) _) 1⟩
  simp [Builtin.zeroCells]
  omega

theorem grow_any (n : Nat) (w : World) (hn : n ≤ 100000000) : Calls Try.prog 131 #[.slice none 0 0, .int .i64 n] w fun e w' => ∃ v, e = .returned v ∧ Own w.heap.size v [] w' ∧ Below w.heap.size w w' := by
  by_cases h0 : 0 < n
  · exact grow_some n w h0 hn
  · obtain rfl : n = 0 := by omega
    exact grow_zero w

set_option maxRecDepth 100000 in
set_option maxHeartbeats 1000000 in
theorem clone_none (w : World) : Calls Try.prog 72 #[.slice none 0 0] w fun e w' => ∃ v, e = .returned v ∧ Own w.heap.size v [] w' ∧ Below w.heap.size w w' := by
  have e0 := Lib.run_eql_slice_nil_nil (P := Try.prog) w (t := 59) 0 0 Try.underlying59
  go_enter Try.func72, Try.ntmps72
  go_wp2
  go_ret
  exact ⟨_, rfl, own_nil _ _ (Nat.le_refl _), Below.refl _ _⟩

set_option maxRecDepth 100000 in
set_option maxHeartbeats 1000000 in
theorem clone_some (l : List Int) (ad : Addr) (n cap : Nat) (w : World) (hl : l.length ≤ 140737488355328) (h : Rd w (.slice (some ad) n cap) l) : Calls Try.prog 72 #[.slice (some ad) n cap] w fun e w' => ∃ v, e = .returned v ∧ Own w.heap.size v l w' ∧ Below w.heap.size w w' := by
  have e0 := Lib.run_eql_slice_some_nil (P := Try.prog) w (t := 59) ad n cap Try.underlying59
  have H : Hid (Rd w (.slice (some ad) n cap) l) := h
  clear h
  have o0 : Own w.heap.size (.slice (some ⟨w.heap.size, 0, none⟩) 0 0) [] (w.alloc (.cells #[] 5)) := by
    simpa using own_lit w.heap.size w [] (fun n hn => by simp at hn) (Nat.le_refl _) (by simp [maxLen])
  go_enter Try.func72, Try.ntmps72
  go_wp2_with (at_builtin; refine wp_app rfl _ _ rfl _ _ _ rfl o0 _ _ rfl (H.out.below (Nat.le_refl _) (bbox _ _)) (by simp; omega) ?_)
  intro v' w' hown hb
  clear o0 H
  go_wp2
  go_ret
  exact ⟨_, rfl, by simpa using hown, (bbox _ _).trans hb⟩

theorem bclone_any (l : List Int) (u : Value) (w : World) (hl : l.length ≤ 140737488355328) (h : Rd w u l) : Calls Try.prog 72 #[u] w fun e w' => ∃ v, e = .returned v ∧ Own w.heap.size v l w' ∧ Below w.heap.size w w' := by
  have H := h
  obtain ⟨hb, ao, cap, rfl, h1, h2, h3, hc⟩ := h
  cases ao with
  | none =>
    obtain rfl := h3 rfl
    have hl : l = [] := List.eq_nil_of_length_eq_zero (by omega)
    subst hl
    exact clone_none w
  | some ad => exact clone_some l ad _ cap w hl H

set_option maxRecDepth 100000 in
set_option maxHeartbeats 2000000 in
theorem encodeAll_some (es : List Ent) (g cap : Nat) (w : World) (hl : es.length ≤ 1000) (hok : ∀ e ∈ es, e.flt = 0) (hE : ∀ i, (h : i < es.length) → ∀ j, j < 7 → w.cell? ⟨g, i * 7 + j, none⟩ = (es[i]'h).cells[j]?) : Calls Try.prog 121 #[.slice (some ⟨g, 0, none⟩) es.length cap] w fun e w' => ∃ v, e = .returned v ∧ Own w.heap.size v (es.flatMap Ent.enc) w' ∧ Below w.heap.size w w' := by
  have hfl := flat_len _ hok
  have hfl' : (es.flatMap Ent.enc).length ≤ 64000 := by omega
  have HE : Hid _ := hE
  have HOK : Hid _ := hok
  clear hE hok hfl
  go_enter Try.func121, Try.ntmps121
  go_wp2
  go_loopw [3, 10] (fun v i wr => ∃ k : Nat, k ≤ es.length ∧ i = .int .i64 k ∧ Own w.heap.size v ((es.take k).flatMap Ent.enc) wr ∧ Below w.heap.size w wr) (fun _ i _ => es.length - (intOf i).toNat)
  case atStart => exact ⟨0, by omega, rfl, own_nil _ _ (Nat.le_refl _), Below.refl _ _⟩
  case round =>
    obtain ⟨k, hk, rfl, hown, hbel⟩ := hrel
    have hkl := flat_take_len es k
    by_cases hlt : k < es.length
    · obtain ⟨a0, a1, a2, a3, a4, a5, a6⟩ := seven (HE.out k hlt)
      have hge := cell_lt a0
      have q0 := (hbel.cell (p := ⟨g, k * 7, none⟩) hge).trans a0
      have q1 := (hbel.cell (p := ⟨g, k * 7 + 1, none⟩) hge).trans a1
      have q2 := (hbel.cell (p := ⟨g, k * 7 + 2, none⟩) hge).trans a2
      have q3 := (hbel.cell (p := ⟨g, k * 7 + 3, none⟩) hge).trans a3
      have q4 := (hbel.cell (p := ⟨g, k * 7 + 4, none⟩) hge).trans a4
      have q5 := (hbel.cell (p := ⟨g, k * 7 + 5, none⟩) hge).trans a5
      have q6 := (hbel.cell (p := ⟨g, k * 7 + 6, none⟩) hge).trans a6
      have hok := HOK.out es[k] (List.getElem_mem hlt)
      have HS : Hid _ := flat_take_succ es k hlt
      have hen := enc_len es[k]
      have hbl := body_len' es[k] hok
      have HC : Hid (∀ w, _) := fun w => encode_ok es[k].a es[k].b es[k].c es[k].d es[k].k es[k].t es[k].s w hok
      have hfold : encL es[k].a es[k].b es[k].c es[k].d es[k].k es[k].t es[k].s = es[k].enc := rfl
      rw [hfold] at HC
      have hn1 : es[k].enc.length ≤ 64 := by omega
      generalize es[k] = e at *
      clear a0 a1 a2 a3 a4 a5 a6 hfold hen hbl hok
      go_wp2_with fail
      refine (HC.out _).mono ?_
      rintro e' w3 ⟨vb, rfl, hvb, hb3⟩
      have hown3 := (hown.alloc (.cells #[.int .i64 e.a, .int .i64 e.b, .int .i64 e.c, .int .i64 e.d, .int .i64 e.k, .bool e.t, .string e.s] 36)).below (Nat.le_refl _) hb3
      have hbel3 := (hbel.alloc hown.2.2 _).trans (hb3.mono (by simp only [World.size_alloc]; have := hown.2.2; omega))
      clear hb3 HC hown hbel q0 q1 q2 q3 q4 q5 q6
      go_wp2_with (at_builtin; refine wp_app rfl _ _ rfl _ _ _ rfl hown3 _ _ rfl hvb.rd (by omega) ?_)
      intro v4 w4 hown4 hb4
      have hbel4 := hbel3.trans hb4
      rw [← HS.out] at hown4
      clear hown3 hvb hb4 hbel3
      go_wp2
      go_roundw
      case rel => exact ⟨k + 1, by omega, by go_num, hown4, hbel4⟩
      case measure => simp [intOf]; omega
    · have hke : k = es.length := by omega
      rw [hke, List.take_length] at hown
      clear hke HE HOK hkl
      go_wp2
      go_ret
      exact ⟨_, rfl, hown, hbel⟩

set_option maxRecDepth 100000 in
set_option maxHeartbeats 1000000 in
theorem encodeAll_none (ao : Option Addr) (cap : Nat) (w : World) : Calls Try.prog 121 #[.slice ao 0 cap] w fun e w' => ∃ v, e = .returned v ∧ Own w.heap.size v [] w' ∧ Below w.heap.size w w' := by
  go_enter Try.func121, Try.ntmps121
  go_wp2
  refine wp_loop_rounds 1 ?_
  rw [rounds_succ]
  go_wp2
  go_ret
  exact ⟨_, rfl, own_nil _ _ (Nat.le_refl _), Below.refl _ _⟩

theorem encodeAll_any (es : List Ent) (v : Value) (w : World) (hl : es.length ≤ 1000) (hok : ∀ e ∈ es, e.flt = 0) (h : RdE w v es) :
    Calls Try.prog 121 #[v] w fun e w' => ∃ v, e = .returned v ∧ Own w.heap.size v (es.flatMap Ent.enc) w' ∧ Below w.heap.size w w' := by
  obtain ⟨a1, c1, rfl, _, _, h1⟩ := h
  by_cases h0 : 0 < es.length
  · obtain ⟨g1, rfl, h1'⟩ := h1 h0
    exact encodeAll_some es g1 c1 w hl hok h1'
  · have hl : es = [] := List.eq_nil_of_length_eq_zero (by omega)
    subst hl
    exact encodeAll_none a1 c1 w

/-- The first entries of a slice. -/
theorem RdE.take {w : World} {ao : Option Addr} {n cap : Nat} {es : List Ent} (h : RdE w (.slice ao n cap) es) (k : Nat) (hk : k ≤ es.length) : RdE w (.slice ao k cap) (es.take k) := by
  obtain ⟨a1, c1, e, h1, h2, h3⟩ := h
  simp only [Value.slice.injEq] at e
  obtain ⟨rfl, rfl, rfl⟩ := e
  have hl : (es.take k).length = k := by simp; omega
  refine ⟨ao, cap, by rw [hl], by omega, h2, fun h0 => ?_⟩
  obtain ⟨g, rfl, hg⟩ := h3 (by omega)
  refine ⟨g, rfl, fun i hi j hj => ?_⟩
  rw [hl] at hi
  rw [hg i (by omega) j hj, List.getElem_take]

set_option maxRecDepth 100000 in
set_option maxHeartbeats 1000000 in
theorem concat_any (l r : List Int) (u v : Value) (g : Nat) (w : World) (hl : l.length ≤ 50000) (hr : r.length ≤ 50000) (h1 : Rd w u l) (h2 : Rd w v r) (c0 : w.cell? ⟨g, 0, none⟩ = some u) (c1 : w.cell? ⟨g, 1, none⟩ = some v) :
    Calls Try.prog 113 #[.slice (some ⟨g, 0, none⟩) 2 2] w fun e w' => ∃ v, e = .returned v ∧ Own w.heap.size v (l ++ r) w' ∧ Below w.heap.size w w' := by
  have H1 : Hid (Rd w u l) := h1
  have H2 : Hid (Rd w v r) := h2
  obtain ⟨hb1, ao1, cap1, rfl, _⟩ := h1
  obtain ⟨hb2, ao2, cap2, rfl, _⟩ := h2
  have hlr : (((l.length + r.length : Nat)) : Int) = (l.length : Int) + r.length := by omega
  have HG : Hid (∀ W, _) := fun W => grow_any (l.length + r.length) W (by omega)
  rw [hlr] at HG
  have hg0 := cell_lt c0
  go_enter Try.func113, Try.ntmps113
  go_wp2
  refine wp_loop_rounds 3 ?_
  rw [rounds_succ]
  go_wp2
  rw [rounds_succ]
  go_wp2
  rw [rounds_succ]
  go_wp2_with fail
  refine (HG.out _).mono ?_
  rintro e w1 ⟨v1, rfl, ho1, hb1'⟩
  have hr1 := H1.out.below (Nat.le_refl _) hb1'
  have hr2 := H2.out.below (Nat.le_refl _) hb1'
  have q0 := (hb1'.cell (p := ⟨g, 0, none⟩) hg0).trans c0
  have q1 := (hb1'.cell (p := ⟨g, 1, none⟩) hg0).trans c1
  clear HG H1 c0 c1
  go_wp2
  refine wp_loop_rounds 3 ?_
  rw [rounds_succ]
  go_wp2_with (at_builtin; refine wp_app rfl _ _ rfl _ _ _ rfl ho1 _ _ rfl hr1 (by simp; omega) ?_)
  intro v2 w2 ho2 hb2'
  have hB2 := hb1'.trans hb2'
  have hr3 := H2.out.below (Nat.le_refl _) hB2
  have p1 := (hb2'.cell (p := ⟨g, 1, none⟩) hg0).trans q1
  clear hr1 hr2 q0 q1 ho1 hb1' hb2'
  go_wp2
  rw [rounds_succ]
  go_wp2_with (at_builtin; (refine wp_app rfl _ _ rfl _ _ _ rfl ho2 _ _ rfl hr3 (by omega) ?_))
  intro v3 w3 ho3 hb3'
  have hB3 := hB2.trans hb3'
  clear hB2 hb3' ho2 hr3 p1
  go_wp2
  rw [rounds_succ]
  go_wp2
  go_ret
  exact ⟨_, rfl, by simpa using ho3, hB3⟩

end Go.Proofs.Ytkakagjffafdiaa
