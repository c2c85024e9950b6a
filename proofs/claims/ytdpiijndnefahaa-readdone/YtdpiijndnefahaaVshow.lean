/-
  Package view: readable: of which entries the Text is read.
-/
import Derived.Test.YtdpiijndnefahaaVmapi
import Derived.Test.YtdpiijndnefahaaAdev
namespace Go.Proofs.Ytdpiijndnefahaa
open Go.RowKit Go.Maps
set_option linter.unusedVariables false
set_option linter.unusedSimpArgs false

theorem infoBoolV : (Try.prog.info? 4).map (fun i => (i.zero, i.size, i.bytes)) = some (some (.bool false), 1, 1) := by kernel_rfl

section
variable {w : World} {ops : Array Oper} {rest : List Oper} {o : Oper} {a : Act} {Q : Exit → Act → World → Prop}
/-- make([]bool, n). -/
theorem wp_mkB (hgd : o.guard = none) (x y : Operand) (ho : o.op = Op.makeSlice 61 x y) (kl kc : IntKind) (L C : Int) (n : Nat) (hx : a.eval x = .int kl L) (hy : a.eval y = .int kc C) (hL : L = (n : Int)) (hC : C = (n : Int)) (hn : (n : Int) ≤ 2199023255552)
    (h : ∀ w', Bools w' w.heap.size n (fun _ => false) → Below w.heap.size w w' → wpList Try.prog ops Q rest (a.put o.dst (.slice (some ⟨w.heap.size, 0, none⟩) n n)) w') : wpList Try.prog ops Q (o :: rest) a w := by
  obtain ⟨i, hi, hz0, hz1, hz2⟩ := info_parts infoBoolV
  refine wpList_make_full w hgd x y _ ho w.heap.size _ i (.bool false) 1 Try.underlying61 hi hz0 hz1 kl kc L C n hx hy hL hC (by rw [hz2]; omega) (by unfold maxLen; omega) (Nat.le_refl _) ?_
  intro w' ho' hg
  have e : (madeCells (Value.bool false).cells (n * 1)).toList = List.replicate n (Value.bool false) := by
    rw [Nat.mul_one]
    show (madeCells #[Value.bool false] n).toList = _
    rw [toList_madeCells_one]
  rw [e] at ho'
  refine h w' ?_ ((Below.refl _ w).grown hg (Nat.le_refl _) (fun k hk => by cases hk))
  rcases ho'.2 with ⟨h1, h2⟩ | ⟨g, cap, cur, h1, h2, h3, h4, h5, h6, h7⟩
  · cases h1
  · injection h1 with h1 _ h1c
    injection h1 with h1
    injection h1 with h1
    subst h1
    subst h1c
    have hlt : w.heap.size < w'.heap.size := (Array.getElem?_eq_some_iff.1 h3).1
    refine ⟨hlt, fun j hj => ⟨?_, ?_⟩⟩
    · have := ho'.cellAt j (by omega)
      rw [this]
      simp [List.getD, hj]
    · simp [World.frozen?, h3]
end

theorem show_round {w : World} {g n j : Nat} {es : List Ent} (h : Bools w g n (fun i => if j + 1 ≤ i then seenD es n i else false)) (hj : j < n) (v : Bool) (hv : seenD es n j = v) : Bools (w.setCell ⟨g, j, none⟩ (.bool v)) g n (fun i => if j ≤ i then seenD es n i else false) := by
  refine Bools.congr (h.set j hj v) (fun i hi => ?_)
  by_cases e : i = j
  · subst e
    simp [hv]
  · by_cases h2 : j ≤ i
    · simp [e, h2, show j + 1 ≤ i by omega]
    · simp [e, h2, show ¬ j + 1 ≤ i by omega]

set_option maxRecDepth 100000 in
set_option maxHeartbeats 2000000 in
theorem readable_some (es : List Ent) (g off cap : Nat) (w : World) (hl : (es.length : Int) ≤ 2199023255552) (hp : Plain es)
    (hc : ∀ i, (h : i < es.length) → ∀ j, j < 7 → w.cell? ⟨g, off + i * 7 + j, none⟩ = (es[i]'h).cells[j]?) (h0 : 0 < es.length) :
    Calls Try.prog 41 #[.slice (some ⟨g, off, none⟩) es.length cap] w fun e w' => e = .returned (.slice (some ⟨w.heap.size, 0, none⟩) es.length es.length) ∧ Bools w' w.heap.size es.length (seenD es es.length) ∧ Below w.heap.size w w' := by
  have hglt : g < w.heap.size := by
    have := hc 0 h0 0 (by omega)
    exact cell_lt (v := .int .i64 (es[0]'h0).a) (by simpa [Ent.cells] using this)
  have HC : Hid _ := hc
  have HP : Hid (Plain es) := hp
  clear hc hp
  have hmm := @run_makeMap Try.prog
  go_enter Try.func41, Try.ntmps41
  go_wp2_with (at_make; refine wp_mkB rfl _ _ rfl _ _ _ _ es.length rfl rfl (by omega) (by omega) hl ?_; intro w1 hbl1 hb1)
  have hbs : w.heap.size < w1.heap.size := hbl1.1
  have HB1 : Hid _ := hb1.trans ((bbox w1 (.map #[] 0)).mono hb1.size)
  have HBL1 : Hid _ := hbl1.below hbl1.1 (bbox w1 (.map #[] 0))
  have HM1 : Hid _ := mapI_new w1 (fun p => nextD es es.length p es.length) (fun p => nextD_end es _ p _ (Nat.le_refl _))
  clear hbl1 hb1
  go_loopw [5] (fun i wr => ∃ k m : Nat, k ≤ es.length ∧ m + k ≤ es.length ∧ i = .int .i64 ((k : Int) - 1) ∧ MapI wr w1.heap.size m (fun p => nextD es es.length p k) ∧ Bools wr w.heap.size es.length (fun j => if k ≤ j then seenD es es.length j else false) ∧ Below w.heap.size w wr) (fun i _ => (intOf i + 1).toNat)
  case atStart => exact ⟨es.length, 0, Nat.le_refl _, by omega, rfl, HM1.out, Bools.congr HBL1.out (fun i hi => by rw [if_neg (by omega)]), HB1.out⟩
  case round =>
    obtain ⟨k, m, hk, hmk, rfl, hm, hbl, hb⟩ := hrel
    clear HM1 HBL1 HB1
    rcases k with _ | j
    · go_wp2
      go_ret
      exact ⟨rfl, Bools.congr hbl (fun i hi => by rw [if_pos (by omega)]), hb⟩
    · have hlt : j < es.length := by omega
      have hjc : ((j + 1 : Nat) : Int) - 1 = (j : Int) := by omega
      obtain ⟨q0, q1, q2, q3, q4, q5, q6⟩ := RdX.cells HC.out j hlt
      have hcc : ∀ o, wr.cell? ⟨g, o, none⟩ = w.cell? ⟨g, o, none⟩ := fun o => hb.cell (p := ⟨g, o, none⟩) hglt
      have hx := HP.out es[j] (List.getElem_mem hlt)
      rw [← at_get hlt] at hx
      have HN : Hid (∀ p, _) := fun p => nextD_step es es.length p j hlt
      have HS : Hid _ := show seenD es es.length j = (decide ((Ent.at es j).k = 1) && (!(Ent.at es j).t || decide (nextD es es.length (Ent.at es j).b j = 2))) from rfl
      generalize Ent.at es j = x at *
      rw [← hcc] at q0 q1 q2 q3 q4 q5 q6
      rw [hjc]
      have hB0 := bbox wr (.cells #[.int .i64 x.a, .int .i64 x.b, .int .i64 x.c, .int .i64 x.d, .int .i64 x.k, .bool x.t, .string x.s] 24)
      have HM0 : Hid (MapI _ _ m _) := hm.below hm.lt hB0
      have HBL0 : Hid (Bools _ _ _ _) := hbl.below hbl.1 hB0
      have HBX : Hid (Box7 _ wr.heap.size x) := box7_new wr x 24
      have HSZ : Hid (wr.heap.size < _) := show wr.heap.size < (wr.alloc (.cells #[.int .i64 x.a, .int .i64 x.b, .int .i64 x.c, .int .i64 x.d, .int .i64 x.k, .bool x.t, .string x.s] 24)).heap.size by simp
      have HB0 : Hid (Below w.heap.size w _) := hb.trans (hB0.mono hb.size)
      have hx1 : (j : Int) < es.length := by omega
      have HX : Hid (1 ≤ x.k ∧ x.k ≤ 3 ∧ 0 ≤ x.b ∧ x.b ≤ 1073741824 ∧ 0 ≤ x.c ∧ x.c ≤ 1073741824 ∧ 0 ≤ x.d ∧ x.d ≤ 1073741824) := hx
      have HML : Hid (m < maxLen) := show m < maxLen by unfold maxLen; omega
      have HWB : Hid (w1.heap.size < wr.heap.size) := hm.lt
      have HNB : Hid (w.heap.size ≠ w1.heap.size) := Nat.ne_of_lt hbs
      clear hm hbl hb hB0 hcc hx
      by_cases hk1 : x.k = 1
      · have hk1' : (x.k == 1) = true := by simp [hk1]
        have HK : Hid (x.k = 1) := hk1
        have HF : Hid ((fun p => nextD es es.length p j) = fun p => nextD es es.length p (j + 1)) := show _ = _ by funext p; rw [HN.out p, if_neg (fun h => h.2.1 hk1)]
        clear hk1
        go_wp2_with fail
        generalize hW0 : wr.alloc (.cells #[.int .i64 x.a, .int .i64 x.b, .int .i64 x.c, .int .i64 x.d, .int .i64 x.k, .bool x.t, .string x.s] 24) = W0 at *
        clear hW0 q0 q1 q2 q3 q4 q5 q6
        refine (isMarker_no _ _ _ _ _ _ _ _ HK.out).mono ?_
        rintro e w2 ⟨rfl, hb2⟩
        obtain ⟨x0, x1, x2, x3, x4, x5, x6⟩ := Box7.below HBX.out HSZ.out hb2
        have hm2 := HM0.out.below HM0.out.lt hb2
        have hbl2 := HBL0.out.below HBL0.out.1 hb2
        have hB2 := bstep HB0.out hb2
        obtain ⟨y1, y2⟩ := hbl2.2 j hlt
        have HM2 : Hid _ := hm2
        have HBL2 : Hid _ := hbl2
        have HB2 : Hid _ := hB2
        have hlk := hm2.look x.b (by have := HX.out; omega)
        clear hm2 hbl2 hB2 hb2
        cases ht : x.t with
        | false =>
          rw [ht] at x5
          have HV : Hid (seenD es es.length j = true) := show _ = _ by rw [HS.out, HK.out, ht]; rfl
          clear ht
          go_wp2
          exact ⟨⟨j, m, by omega, by omega, rfl, by rw [HF.out]; exact MapI.setCell HM2.out (Ne.symm HNB.out) _, show_round HBL2.out hlt _ HV.out, HB2.out.setCell (Nat.le_refl _) _⟩, by simp [intOf]⟩
        | true =>
          rw [ht] at x5
          have HV : Hid (seenD es es.length j = (nextD es es.length x.b (j + 1) == 2)) := show _ = _ by rw [HS.out, HK.out, ht, congrFun HF.out x.b]; rfl
          clear ht
          go_wp2
          exact ⟨⟨j, m, by omega, by omega, rfl, by rw [HF.out]; exact MapI.setCell HM2.out (Ne.symm HNB.out) _, show_round HBL2.out hlt _ HV.out, HB2.out.setCell (Nat.le_refl _) _⟩, by simp [intOf]⟩
      · have hk1' : (x.k == 1) = false := by simp [hk1]
        have HK : Hid (x.k = 2 ∨ x.k = 3) := show _ ∨ _ by have := HX.out; omega
        have HV : Hid (seenD es es.length j = false) := show _ = _ by rw [HS.out]; simp [hk1]
        by_cases hx0 : x.b = 0
        · have hx0' : (x.b != 0) = false := by simp [hx0]
          have HF : Hid ((fun p => nextD es es.length p j) = fun p => nextD es es.length p (j + 1)) := show _ = _ by funext p; rw [HN.out p, if_neg (fun h => h.2.2 (by omega))]
          clear hk1 hx0
          go_wp2_with fail
          generalize hW0 : wr.alloc (.cells #[.int .i64 x.a, .int .i64 x.b, .int .i64 x.c, .int .i64 x.d, .int .i64 x.k, .bool x.t, .string x.s] 24) = W0 at *
          clear hW0 q0 q1 q2 q3 q4 q5 q6
          refine (isMarker_yes _ _ _ _ _ _ _ _ HK.out).mono ?_
          rintro e w2 ⟨rfl, hb2⟩
          obtain ⟨x0, x1, x2, x3, x4, x5, x6⟩ := Box7.below HBX.out HSZ.out hb2
          have hm2 := HM0.out.below HM0.out.lt hb2
          have hbl2 := HBL0.out.below HBL0.out.1 hb2
          have hB2 := bstep HB0.out hb2
          obtain ⟨y1, y2⟩ := hbl2.2 j hlt
          have HM2 : Hid _ := hm2
          have HBL2 : Hid _ := hbl2
          have HB2 : Hid _ := hB2
          clear hm2 hbl2 hB2 hb2
          go_wp2
          exact ⟨⟨j, m, by omega, by omega, rfl, by rw [HF.out]; exact MapI.setCell HM2.out (Ne.symm HNB.out) _, show_round HBL2.out hlt _ HV.out, HB2.out.setCell (Nat.le_refl _) _⟩, by simp [intOf]⟩
        · have hx0' : (x.b != 0) = true := by simp [hx0]
          have HF : Hid ((fun p => nextD es es.length p j) = fun p => if p = x.b then x.k else nextD es es.length p (j + 1)) := show _ = _ by
            funext p
            rw [HN.out p]
            by_cases hpx : p = x.b
            · rw [if_pos ⟨hpx, hk1, by omega⟩, if_pos hpx]
            · rw [if_neg (fun h => hpx h.1), if_neg hpx]
          clear hk1 hx0
          go_wp2_with fail
          generalize hW0 : wr.alloc (.cells #[.int .i64 x.a, .int .i64 x.b, .int .i64 x.c, .int .i64 x.d, .int .i64 x.k, .bool x.t, .string x.s] 24) = W0 at *
          clear hW0 q0 q1 q2 q3 q4 q5 q6
          refine (isMarker_yes _ _ _ _ _ _ _ _ HK.out).mono ?_
          rintro e w2 ⟨rfl, hb2⟩
          obtain ⟨x0, x1, x2, x3, x4, x5, x6⟩ := Box7.below HBX.out HSZ.out hb2
          have HBX2 : Hid _ := Box7.below HBX.out HSZ.out hb2
          have hm2 := HM0.out.below HM0.out.lt hb2
          have hbl2 := HBL0.out.below HBL0.out.1 hb2
          have hB2 := bstep HB0.out hb2
          have HM2 : Hid _ := hm2
          have HBL2' : Hid _ := hbl2
          have HB2' : Hid _ := hB2
          have hsz2 := Nat.lt_of_lt_of_le HSZ.out hb2.size
          clear hm2 hbl2 hB2 hb2
          go_wp2_with (at_mapUpdate; refine wp_storeI rfl _ _ _ rfl w1.heap.size m _ rfl HM2.out HML.out _ rfl (by have := HX.out; omega) _ rfl (by have := HX.out; omega) ?_; intro w3 hm3 hg3; clear x0 x1 x2 x3 x4 x5 x6; obtain ⟨x0, x1, x2, x3, x4, x5, x6⟩ := Box7.grown HBX2.out hg3 (Nat.ne_of_gt HWB.out) hsz2; (have hbl3 := Bools.grown HBL2'.out hg3 HNB.out); obtain ⟨y1, y2⟩ := hbl3.2 j hlt)
          have hB3 : Below w.heap.size w w3 := HB2'.out.grown hg3 HB2'.out.size (fun i hi => by cases hi; exact Nat.le_of_lt hbs)
          exact ⟨⟨j, m + 1, by omega, by omega, rfl, by rw [HF.out]; exact MapI.setCell hm3 (Ne.symm HNB.out) _, show_round hbl3 hlt _ HV.out, hB3.setCell (Nat.le_refl _) _⟩, by simp [intOf]⟩

set_option maxRecDepth 100000 in
set_option maxHeartbeats 400000 in
theorem readable_none (ao : Option Addr) (cap : Nat) (w : World) :
    Calls Try.prog 41 #[.slice ao 0 cap] w fun e w' => e = .returned (.slice (some ⟨w.heap.size, 0, none⟩) 0 0) ∧ Bools w' w.heap.size 0 (seenD [] 0) ∧ Below w.heap.size w w' := by
  have hmm := @run_makeMap Try.prog
  go_enter Try.func41, Try.ntmps41
  go_wp2_with (at_make; refine wp_mkB rfl _ _ rfl _ _ _ _ 0 rfl rfl (by omega) (by omega) (by omega) ?_; intro w1 hbl1 hb1)
  refine wp_loop_rounds 1 ?_
  rw [rounds_succ]
  go_wp2
  go_ret
  exact ⟨rfl, ⟨by have := hbl1.1; simp; omega, fun i hi => by omega⟩, hb1.trans ((bbox w1 _).mono hb1.size)⟩

theorem readable_any (es : List Ent) (v : Value) (w : World) (hl : (es.length : Int) ≤ 2199023255552) (hp : Plain es) (h : RdX w v es) :
    Calls Try.prog 41 #[v] w fun e w' => e = .returned (.slice (some ⟨w.heap.size, 0, none⟩) es.length es.length) ∧ Bools w' w.heap.size es.length (seenD es es.length) ∧ Below w.heap.size w w' := by
  obtain ⟨ao, cap, rfl, _, _, _, h1⟩ := h
  by_cases h0 : 0 < es.length
  · obtain ⟨g, off, rfl, h1'⟩ := h1 h0
    exact readable_some es g off cap w hl hp h1' h0
  · have hl : es = [] := List.eq_nil_of_length_eq_zero (by omega)
    subst hl
    exact readable_none ao cap w

end Go.Proofs.Ytdpiijndnefahaa
