/-
  Logs of entries that may be: what the calls of package seg answer there; the walk of logOf.
-/
import Derived.Test.YtknipikmbfdcnaaAseg
import Derived.Test.YtknipikmbfdcnaaAraw
import Derived.Test.YtknipikmbfdcnaaKflat
namespace Go.Proofs.Ytknipikmbfdcnaa
open Go.RowKit
set_option linter.unusedVariables false
set_option linter.unusedSimpArgs false

theorem apf_flat {es : List Ent} (h : Oks es) (hl : es.length < 400) (k : Nat) (hk : k ≤ es.length) {x : Ent} (hx : x.flt = 0) : apf (flat es) (endOf es k) x = 0 := by
  obtain ⟨h1, h2, _⟩ := lft_flat h (by omega) k hk
  have hfl := flat_len es h
  have hb := body_len' x hx
  have he := enc_len x
  unfold apf
  rw [if_neg (by simp [h1]), if_neg (by simp [hx]), if_neg]
  rw [h2]
  show ¬ (400 ≤ es.length ∨ 40000 < (es.flatMap Ent.enc).length + x.enc.length)
  omega

theorem append_flat {es : List Ent} (h : Oks es) (hl : es.length < 400) (k : Nat) (hk : k ≤ es.length) {x : Ent} (hx : x.flt = 0) (u : Value) (y : Int) (hy : y = endOf es k) (w : World) (hr : Rd w u (flat es)) :
    Calls Try.prog 39 #[.agg #[u, .int .i64 y], .agg #[.int .i64 x.a, .int .i64 x.b, .int .i64 x.c, .int .i64 x.d, .int .i64 x.k, .bool x.t, .string x.s]] w fun e w' => ∃ a c, e = .returned (.tuple #[.agg #[.slice a (flat (es ++ [x])).length c, .int .i64 y], .int .i64 0]) ∧ Own w.heap.size (.slice a (flat (es ++ [x])).length c) (flat (es ++ [x])) w' ∧ Below w.heap.size w w' := by
  subst hy
  have hfl := flat_len es h
  refine (segAppend_any (flat es) u _ x w (by show (es.flatMap Ent.enc).length ≤ _; omega) hr).mono ?_
  rintro e w' ⟨hb, _, h0⟩
  obtain ⟨v, e1, e2⟩ := h0 (apf_flat h hl k hk hx)
  rw [flat_snoc]
  obtain ⟨a, c, rfl⟩ := e2.shape
  exact ⟨a, c, e1, e2, hb⟩

theorem lcell_far {w : World} {b c : Nat} (o o' : Nat) (v : Value) (h : b ≠ c) : (w.setCell ⟨c, o, none⟩ v).cell? ⟨b, o', none⟩ = w.cell? ⟨b, o', none⟩ := by
  simp [World.cell?, Deep.blk_setCell_other _ _ _ _ (show b ≠ (Addr.mk c o none).block from h)]
theorem lbox_set {w : World} {b : Nat} {u0 : Value} {y0 : Int} (h : LBox w b u0 y0) (V : Value) (y : Int) : LBox ((w.setCell ⟨b, 0, none⟩ V).setCell ⟨b, 1, none⟩ (.int .i64 y)) b V y := by
  obtain ⟨o1, o2, o3, o4⟩ := h
  exact ⟨by simpa using o1, by simp [go_sem, o2, o3], by simp [go_sem, o2, o3], fun o => by simp [o4]⟩
theorem lbox_far {w : World} {b c : Nat} {u : Value} {y : Int} (h : LBox w b u y) (hbc : b ≠ c) (o : Nat) (V : Value) : LBox (w.setCell ⟨c, o, none⟩ V) b u y := by
  obtain ⟨o1, o2, o3, o4⟩ := h
  exact ⟨by simpa using o1, by rw [lcell_far _ _ _ hbc]; exact o2, by rw [lcell_far _ _ _ hbc]; exact o3, fun o => by simp [o4]⟩

set_option maxRecDepth 100000 in
set_option maxHeartbeats 2000000 in
theorem logOf_some (es : List Ent) (g cap : Nat) (w : World) (hl : es.length ≤ 100) (hok : Oks es) (hE : ∀ i, (h : i < es.length) → ∀ j, j < 7 → w.cell? ⟨g, i * 7 + j, none⟩ = (es[i]'h).cells[j]?) :
    Calls Try.prog 48 #[.slice (some ⟨g, 0, none⟩) es.length cap] w fun e w' => ∃ a c, e = .returned (.tuple #[.agg #[.slice a (flat es).length c, .int .i64 0], .bool true]) ∧ Own w.heap.size (.slice a (flat es).length c) (flat es) w' ∧ Below w.heap.size w w' := by
  have HE : Hid _ := hE
  have HOK : Hid (Oks es) := hok
  have hl' : (es.length : Int) ≤ 100 := by omega
  have HLL : Hid (es.length ≤ 100) := hl
  clear hE hok hl
  go_enter Try.func48, Try.ntmps48
  go_wp2
  go_loopw [12] (fun i wr => ∃ k : Nat, k ≤ es.length ∧ i = .int .i64 k ∧ ∃ a c, LBox wr (w.heap.size + 1) (.slice a (flat (es.take k)).length c) 0 ∧ LBox wr w.heap.size (.slice none 0 0) 0 ∧ Own (w.heap.size + 1 + 1) (.slice a (flat (es.take k)).length c) (flat (es.take k)) wr ∧ Below w.heap.size w wr) (fun i _ => es.length - (intOf i).toNat)
  case atStart =>
    refine ⟨0, by omega, rfl, none, 0, lbox_new' _ _ _ _ _ (by simp), (lbox_new _ _ _ _).alloc _, own_nil _ _ (by simp), bstep (bbox _ _) (bbox _ _)⟩
  case round =>
    obtain ⟨k, hk, rfl, a, c, hL, hR, hown, hbel⟩ := hrel
    by_cases hlt : k < es.length
    · obtain ⟨a0, a1, a2, a3, a4, a5, a6⟩ := seven (HE.out k hlt)
      have hge := cell_lt a0
      have q0 := (hbel.cell (p := ⟨g, k * 7, none⟩) hge).trans a0
      have q1 := (hbel.cell (p := ⟨g, k * 7 + 1, none⟩) hge).trans a1
      have q2 := (hbel.cell (p := ⟨g, k * 7 + 2, none⟩) hge).trans a2
      have q3 := (hbel.cell (p := ⟨g, k * 7 + 3, none⟩) hge).trans a3
      have q4 := (hbel.cell (p := ⟨g, k * 7 + 4, none⟩) hge).trans a4
      have q5 := (hbel.cell (p := ⟨g, k * 7 + 5, none⟩) hge).trans a5
      have q6 := (hbel.cell (p := ⟨g, k * 7 + 6, none⟩) hge).trans a6
      have hok := HOK.out es[k] (List.getElem_mem hlt)
      have htl : (es.take k).length < 400 := by have := HLL.out; simp; omega
      have HC : Hid (∀ u w, Rd w u (flat (es.take k)) → _) := fun u w hr => append_flat (HOK.out.take k) htl 0 (by omega) hok u 0 (by rw [endOf_zero]; rfl) w hr
      have HS : Hid (es.take k ++ [es[k]] = es.take (k + 1)) := show _ = _ from (List.take_succ_eq_append_getElem hlt).symm
      rw [HS.out] at HC
      generalize es[k] = e at *
      clear a0 a1 a2 a3 a4 a5 a6 hok htl HS
      obtain ⟨l1, l2, l3, l4⟩ := hL
      have HL0 : Hid (LBox wr (w.heap.size + 1) (.slice a (flat (es.take k)).length c) 0) := ⟨l1, l2, l3, l4⟩
      generalize hF1 : flat (es.take (k + 1)) = F1 at *
      generalize flat (es.take k) = F0 at *
      go_wp2_with fail
      refine (HC.out _ _ (hown.rd.below (Nat.le_refl _) (bbox _ _))).mono ?_
      rintro e' w3 ⟨a3, c3, rfl, hown3, hb3⟩
      have hb3' := bstep (bbox _ _) hb3
      have L3 := LBox.below HL0.out hb3'
      have R3 := hR.below hb3'
      have hbel3 := bstep hbel hb3'
      have HL3 : Hid (LBox w3 (w.heap.size + 1) (.slice a F0.length c) 0) := L3
      obtain ⟨m1, m2, m3, m4⟩ := L3
      clear hb3 hb3' hown HC q0 q1 q2 q3 q4 q5 q6 l2 l3 l4 hbel hR HL0
      go_wp2
      go_roundw
      case rel =>
        refine ⟨k + 1, by omega, by go_num, a3, c3, ?_⟩
        rw [hF1]
        refine ⟨(lbox_set HL3.out _ _).alloc _, (lbox_far (lbox_far R3 (by omega) _ _) (by omega) _ _).alloc _, ?_, ?_⟩
        · exact (((hown3.mono (C := w.heap.size + 1 + 1) (by simp; omega)).setCell (by omega) _ _).setCell (by omega) _ _).alloc _
        · have hset := below_two (k := 1) (v0 := .slice a3 F1.length c3) (v1 := .int .i64 0) hbel3
          exact hset.alloc hset.size _
      case measure => simp [intOf]; omega
    · have hke : k = es.length := by omega
      rw [hke, List.take_length] at hL hown
      obtain ⟨l1, l2, l3, l4⟩ := hL
      obtain ⟨r1, r2, r3, r4⟩ := hR
      clear hke HE
      generalize hF : flat es = F at *
      have HF : Hid (flat es = F) := hF
      clear hF
      go_wp2
      refine bodyPost_ret (v := .tuple #[.agg #[.slice a F.length c, .int .i64 0], .bool true]) (by simp [results, Try.results48, go_sem, r1, r2, r3, r4]) rfl ?_
      rw [HF.out]
      refine ⟨a, c, rfl, ?_, ?_⟩
      · exact ((hown.setCell (by omega) _ _).setCell (by omega) _ _).mono (by omega)
      · exact below_two (k := 0) hbel

set_option maxRecDepth 100000 in
set_option maxHeartbeats 1000000 in
theorem logOf_none (ao : Option Addr) (cap : Nat) (w : World) :
    Calls Try.prog 48 #[.slice ao 0 cap] w fun e w' => ∃ a c, e = .returned (.tuple #[.agg #[.slice a 0 c, .int .i64 0], .bool true]) ∧ Own w.heap.size (.slice a 0 c) [] w' ∧ Below w.heap.size w w' := by
  go_enter Try.func48, Try.ntmps48
  go_wp2
  refine wp_loop_rounds 1 ?_
  rw [rounds_succ]
  go_wp2
  refine bodyPost_ret (v := .tuple #[.agg #[.slice none 0 0, .int .i64 0], .bool true]) (by simp [results, Try.results48, go_sem]) rfl ?_
  have hb : Below w.heap.size w (((w.alloc (.cells #[.slice none 0 0, .int .i64 0] 46)))) := bbox _ _
  refine ⟨none, 0, rfl, own_nil _ _ ?_, ?_⟩
  · simp <;> omega
  · repeat (first | exact Below.refl _ _ | refine Below.drew ?_ | refine Below.setCell ?_ (by first | (simp; done) | (simp; omega)) _ | refine Below.alloc ?_ (by first | (simp; done) | (simp; omega)) _)

theorem logOf_any (es : List Ent) (v : Value) (w : World) (hl : es.length ≤ 100) (hok : Oks es) (h : RdE w v es) :
    Calls Try.prog 48 #[v] w fun e w' => ∃ a c, e = .returned (.tuple #[.agg #[.slice a (flat es).length c, .int .i64 0], .bool true]) ∧ Own w.heap.size (.slice a (flat es).length c) (flat es) w' ∧ Below w.heap.size w w' := by
  obtain ⟨a1, c1, rfl, _, _, h1⟩ := h
  by_cases h0 : 0 < es.length
  · obtain ⟨g1, rfl, h1'⟩ := h1 h0
    exact logOf_some es g1 c1 w hl hok h1'
  · have hl : es = [] := List.eq_nil_of_length_eq_zero (by omega)
    subst hl
    exact logOf_none a1 c1 w

end Go.Proofs.Ytknipikmbfdcnaa
