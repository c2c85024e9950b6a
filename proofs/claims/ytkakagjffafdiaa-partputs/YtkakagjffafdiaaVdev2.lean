/-
  Package view: producers.
-/
import Derived.Test.YtkakagjffafdiaaVdev
namespace Go.Proofs.Ytkakagjffafdiaa
open Go.RowKit Go.Maps
set_option linter.unusedVariables false
set_option linter.unusedSimpArgs false

/-- Seven cells that hold an entry. -/
def Box7 (w : World) (g : Nat) (x : Ent) : Prop := w.cell? ⟨g, 0, none⟩ = some (.int .i64 x.a) ∧ w.cell? ⟨g, 1, none⟩ = some (.int .i64 x.b) ∧ w.cell? ⟨g, 2, none⟩ = some (.int .i64 x.c) ∧ w.cell? ⟨g, 3, none⟩ = some (.int .i64 x.d) ∧ w.cell? ⟨g, 4, none⟩ = some (.int .i64 x.k) ∧ w.cell? ⟨g, 5, none⟩ = some (.bool x.t) ∧ w.cell? ⟨g, 6, none⟩ = some (.string x.s)
theorem Box7.below {w w' : World} {g C : Nat} {x : Ent} (h : Box7 w g x) (hg : g < C) (hb : Below C w w') : Box7 w' g x := by
  obtain ⟨a0, a1, a2, a3, a4, a5, a6⟩ := h
  exact ⟨(hb.cell (p := ⟨g, 0, none⟩) hg).trans a0, (hb.cell (p := ⟨g, 1, none⟩) hg).trans a1, (hb.cell (p := ⟨g, 2, none⟩) hg).trans a2, (hb.cell (p := ⟨g, 3, none⟩) hg).trans a3, (hb.cell (p := ⟨g, 4, none⟩) hg).trans a4, (hb.cell (p := ⟨g, 5, none⟩) hg).trans a5, (hb.cell (p := ⟨g, 6, none⟩) hg).trans a6⟩
theorem Box7.grown {w w' : World} {g b : Nat} {x : Ent} (h : Box7 w g x) (hg : w.grownBy w' (some b)) (hne : g ≠ b) (hlt : g < w.heap.size) : Box7 w' g x := by
  have e : ∀ o, w'.cell? ⟨g, o, none⟩ = w.cell? ⟨g, o, none⟩ := fun o => by
    simp only [World.cell?]
    rw [hg.block g hlt (fun e => hne (by injection e))]
  obtain ⟨a0, a1, a2, a3, a4, a5, a6⟩ := h
  exact ⟨(e _).trans a0, (e _).trans a1, (e _).trans a2, (e _).trans a3, (e _).trans a4, (e _).trans a5, (e _).trans a6⟩
theorem box7_new (w : World) (x : Ent) (T : TypeId) : Box7 (w.alloc (.cells #[.int .i64 x.a, .int .i64 x.b, .int .i64 x.c, .int .i64 x.d, .int .i64 x.k, .bool x.t, .string x.s] T)) w.heap.size x :=
  ⟨by simp, by simp, by simp, by simp, by simp, by simp, by simp⟩

theorem prdM_step (es : List Ent) (k : Nat) (h0 : (Ent.at es k).b ≠ 0) : prdM es (k + 1) = fun j => if j = (Ent.at es k).b then some (((prdM es k (Ent.at es k).b).getD (Prd.new (Ent.at es k))).after (Ent.at es k) k) else prdM es k j := by
  funext p
  unfold prdM
  by_cases hp : p = 0
  · subst hp
    rw [if_pos rfl, if_neg (fun e => h0 e.symm), if_pos rfl]
  · rw [if_neg hp, if_neg hp, if_neg h0]
    simp only [prdK]
    by_cases h : p = (Ent.at es k).b
    · subst h; simp
    · rw [if_neg (fun e => h e.symm), if_neg h]
theorem prdM_skip (es : List Ent) (k : Nat) (h0 : (Ent.at es k).b = 0) : prdM es (k + 1) = prdM es k := by
  funext p
  unfold prdM
  by_cases hp : p = 0
  · rw [if_pos hp, if_pos hp]
  · rw [if_neg hp, if_neg hp]
    simp only [prdK]
    rw [if_neg (fun e => hp (by omega))]

set_option maxRecDepth 100000 in
set_option maxHeartbeats 1000000 in
theorem producers_some (es : List Ent) (g off cap : Nat) (w : World) (hl : (es.length : Int) ≤ 2199023255552) (hp : Plain es)
    (hc : ∀ i, (h : i < es.length) → ∀ j, j < 7 → w.cell? ⟨g, off + i * 7 + j, none⟩ = (es[i]'h).cells[j]?) (h0 : 0 < es.length) :
    Calls Try.prog 108 #[.slice (some ⟨g, off, none⟩) es.length cap] w fun e w' => e = .returned (.map (some w.heap.size)) ∧ (∃ n, n ≤ es.length ∧ MapP w' w.heap.size n (prdM es es.length)) ∧ Below w.heap.size w w' := by
  have hglt : g < w.heap.size := by
    have := hc 0 h0 0 (by omega)
    exact cell_lt (v := .int .i64 (es[0]'h0).a) (by simpa [Ent.cells] using this)
  have HC : Hid _ := hc
  have HP : Hid (Plain es) := hp
  clear hc hp
  have hmm := @run_makeMap Try.prog
  go_enter Try.func108, Try.ntmps108
  go_wp2
  go_loopw [9] (fun i wr => ∃ k n : Nat, k ≤ es.length ∧ n ≤ k ∧ i = .int .i64 k ∧ MapP wr w.heap.size n (prdM es k) ∧ Below w.heap.size w wr) (fun i _ => es.length - (intOf i).toNat)
  case atStart => exact ⟨0, 0, by omega, by omega, rfl, mapP_new w _ (fun p => by unfold prdM; split <;> rfl), bbox _ _⟩
  case round =>
    obtain ⟨k, n, hk, hn, rfl, hm, hb⟩ := hrel
    by_cases hlt : k < es.length
    · obtain ⟨q0, q1, q2, q3, q4, q5, q6⟩ := RdX.cells HC.out k hlt
      have hcc : ∀ j, wr.cell? ⟨g, j, none⟩ = w.cell? ⟨g, j, none⟩ := fun j => hb.cell (p := ⟨g, j, none⟩) hglt
      have hx := HP.out es[k] (List.getElem_mem hlt)
      rw [← at_get hlt] at hx
      have HF1 : Hid _ := prdM_step es k
      have HF2 : Hid _ := prdM_skip es k
      generalize Ent.at es k = x at *
      rw [← hcc] at q0 q1 q2 q3 q4 q5 q6
      have hB0 := bbox wr (.cells #[.int .i64 x.a, .int .i64 x.b, .int .i64 x.c, .int .i64 x.d, .int .i64 x.k, .bool x.t, .string x.s] 36)
      have hm0 : MapP (wr.alloc (.cells #[.int .i64 x.a, .int .i64 x.b, .int .i64 x.c, .int .i64 x.d, .int .i64 x.k, .bool x.t, .string x.s] 36)) w.heap.size n (prdM es k) := MapP.below hm (Nat.le_refl _) hB0
      have hbx := box7_new wr x 36
      have hsz : wr.heap.size < (wr.alloc (.cells #[.int .i64 x.a, .int .i64 x.b, .int .i64 x.c, .int .i64 x.d, .int .i64 x.k, .bool x.t, .string x.s] 36)).heap.size := by simp
      have hbw := hb.trans (hB0.mono hb.size)
      have HM : Hid (MapP _ w.heap.size n (prdM es k)) := hm0
      have HB : Hid (Below w.heap.size w _) := hbw
      have HX : Hid (1 ≤ x.k ∧ x.k ≤ 3 ∧ 0 ≤ x.b ∧ x.b ≤ 1073741824 ∧ 0 ≤ x.c ∧ x.c ≤ 1073741824 ∧ 0 ≤ x.d ∧ x.d ≤ 1073741824) := hx
      have HBX : Hid (Box7 _ wr.heap.size x) := hbx
      have HSZ : Hid (wr.heap.size < _) := hsz
      have HNE : Hid (wr.heap.size ≠ w.heap.size) := show _ ≠ _ from fun e => by have := hm.lt; omega
      have HML : Hid (n < maxLen) := show n < maxLen by unfold maxLen; omega
      clear hm hb hx hcc hB0 hm0 hbw hbx hsz
      by_cases hx0 : x.b = 0
      · have hx0' : (x.b != 0) = false := by simp [hx0]
        have hM := HM.out
        rw [← HF2.out hx0] at hM
        have HM' : Hid _ := hM
        clear hx0 HF1 HF2 hM
        go_wp2
        go_roundw
        case rel => exact ⟨k + 1, n, by omega, by omega, by go_num, HM'.out, HB.out⟩
        case measure => simp [intOf]; omega
      have hx0' : (x.b != 0) = true := by simp [hx0]
      have HF : Hid _ := HF1.out hx0
      clear hx0 HF1 HF2
      go_wp2
      generalize hW0 : wr.alloc (.cells #[.int .i64 x.a, .int .i64 x.b, .int .i64 x.c, .int .i64 x.d, .int .i64 x.k, .bool x.t, .string x.s] 36) = W0 at *
      clear hW0 q0 q1 q2 q3 q4 q5 q6
      obtain ⟨x0, x1, x2, x3, x4, x5, x6⟩ := HBX.out
      go_region_held3 (fun W => W.cell? ⟨wr.heap.size, 0, none⟩ = some (.int .i64 x.a) ∧ W.cell? ⟨wr.heap.size, 1, none⟩ = some (.int .i64 x.b) ∧ W.cell? ⟨wr.heap.size, 2, none⟩ = some (.int .i64 x.c) ∧ W.cell? ⟨wr.heap.size, 3, none⟩ = some (.int .i64 x.d) ∧ W.cell? ⟨wr.heap.size, 4, none⟩ = some (.int .i64 x.k) ∧ W.cell? ⟨wr.heap.size, 5, none⟩ = some (.bool x.t) ∧ W.cell? ⟨wr.heap.size, 6, none⟩ = some (.string x.s)) (first | exact ⟨by assumption, by assumption, by assumption, by assumption, by assumption, by assumption, by assumption⟩ | go_keep) (first | (go_at_call 107; go_must (refine (find_any w.heap.size n _ x _ (MapP.below HM.out (Nat.le_refl _) (by repeat (first | exact Below.refl _ _ | refine Below.drew ?_))) (by have := HX.out; omega)).mono ?_; rintro e w2 ⟨rfl, hb2'⟩; (have hb2 : Below W0.heap.size W0 w2 := bstep (Below.drew (Below.refl _ _)) hb2'); (have hm2 := MapP.below HM.out (Nat.le_refl _) hb2); (have hB2 : Below w.heap.size w w2 := bstep HB.out hb2); obtain ⟨s0, s1, s2, s3, s4, s5, s6⟩ := Box7.below HBX.out HSZ.out hb2)) | (go_at_call 128; go_must (refine (after_any _ x _ _ (by have := HX.out; omega) (by have := HX.out; omega)).mono ?_; rintro e w3 ⟨rfl, hb3⟩; (have hm3 := MapP.below hm2 (Nat.le_refl _) hb3); (have hB3 : Below w.heap.size w w3 := bstep hB2 hb3); obtain ⟨w4, hrun4, hm4, hg4⟩ := MapP.store hm3 HML.out x.b (by have := HX.out; omega) (((prdM es k x.b).getD (Prd.new x)).after x (k : Int)); (have hbx3 := Box7.below (Box7.below HBX.out HSZ.out hb2) (Nat.lt_of_lt_of_le HSZ.out hb2.size) hb3); obtain ⟨z0, z1, z2, z3, z4, z5, z6⟩ := Box7.grown hbx3 hg4 HNE.out (Nat.lt_of_lt_of_le (Nat.lt_of_lt_of_le HSZ.out hb2.size) hb3.size); obtain ⟨y0, y1, y2, y3, y4, y5, y6⟩ := hbx3)))
      clear x0 x1 x2 x3 x4 x5 x6 s0 s1 s2 s3 s4 s5 s6 y0 y1 y2 y3 y4 y5 y6 z0 z1 z2 z3 z4 z5 z6 hrun4
      have hB4 : Below w.heap.size w w4 := hB3.grown hg4 hB3.size (fun j hj => by cases hj; exact Nat.le_refl _)
      rw [← HF.out] at hm4
      go_wp2
      go_roundw
      case rel => exact ⟨k + 1, n + 1, by omega, by omega, by go_num, hm4, hB4⟩
      case measure => simp [intOf]; omega
    · have hke : k = es.length := by omega
      subst hke
      go_wp2
      go_ret
      exact ⟨rfl, ⟨n, hn, hm⟩, hb⟩

set_option maxRecDepth 100000 in
set_option maxHeartbeats 400000 in
theorem producers_none (ao : Option Addr) (cap : Nat) (w : World) :
    Calls Try.prog 108 #[.slice ao 0 cap] w fun e w' => e = .returned (.map (some w.heap.size)) ∧ (∃ n, n ≤ 0 ∧ MapP w' w.heap.size n (prdM [] 0)) ∧ Below w.heap.size w w' := by
  have hmm := @run_makeMap Try.prog
  go_enter Try.func108, Try.ntmps108
  go_wp2
  refine wp_loop_rounds 1 ?_
  rw [rounds_succ]
  go_wp2
  go_ret
  exact ⟨rfl, ⟨0, Nat.le_refl _, mapP_new w _ (fun p => by unfold prdM; split <;> rfl)⟩, bbox _ _⟩

theorem producers_any (es : List Ent) (v : Value) (w : World) (hl : (es.length : Int) ≤ 2199023255552) (hp : Plain es) (h : RdX w v es) :
    Calls Try.prog 108 #[v] w fun e w' => e = .returned (.map (some w.heap.size)) ∧ (∃ n, n ≤ es.length ∧ MapP w' w.heap.size n (prdM es es.length)) ∧ Below w.heap.size w w' := by
  obtain ⟨ao, cap, rfl, _, _, _, h1⟩ := h
  by_cases h0 : 0 < es.length
  · obtain ⟨g, off, rfl, h1'⟩ := h1 h0
    exact producers_some es g off cap w hl hp h1' h0
  · have hl : es = [] := List.eq_nil_of_length_eq_zero (by omega)
    subst hl
    exact producers_none ao cap w

end Go.Proofs.Ytkakagjffafdiaa
