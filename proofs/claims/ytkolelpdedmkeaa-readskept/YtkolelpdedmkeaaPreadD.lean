/-
  Maps from numbers to numbers, looked up without asking whether the key is there, as functions; rows of bools that are written in place.
  Package view: readable: of which entries the Text is read.
  Package view: Stable: the least beginning of an open transaction, whatever the order in which the map is gone through.
  Package view: Read, where nobody's entries are of no transaction.
  The walk of part.Read.
  What replicas hold where nobody's texts alone are put: it is read as it stands.
-/
import Derived.Test.YtkolelpdedmkeaaAdev
import Derived.Maps.OwnOps
import Derived.Test.YtkolelpdedmkeaaAlaw
import Derived.Test.YtkolelpdedmkeaaPopD0
import Derived.Test.YtkolelpdedmkeaaApch
import Derived.Test.YtkolelpdedmkeaaPraise
import Derived.Test.YtkolelpdedmkeaaAapp
import Derived.Test.YtkolelpdedmkeaaAq
namespace Go.Proofs.Ytkolelpdedmkeaa

section
open Go.RowKit Go.Maps
set_option linter.unusedVariables false
set_option linter.unusedSimpArgs false
set_option maxRecDepth 100000

/-- Block b is a map that gives M of each number; at most n entries. -/
def MapI (w : World) (b n : Nat) (M : Int → Int) : Prop :=
  ∃ D : DataW Unit, w.ownsMap Try.prog 3 (plainElem Try.prog 3) b n D ∧ ∀ k : Int, -9223372036854775808 ≤ k → k ≤ 9223372036854775807 → D.atKey (.int .i64 k) (.lit (.int .i64 0)) = .lit (.int .i64 (M k))
theorem MapI.lt {w : World} {b n : Nat} {M : Int → Int} (h : MapI w b n M) : b < w.heap.size := by
  obtain ⟨D, h, _⟩ := h
  exact h.lt
theorem MapI.below {w w' : World} {b n C : Nat} {M : Int → Int} (h : MapI w b n M) (hC : b < C) (hb : Below C w w') : MapI w' b n M := by
  obtain ⟨D, ⟨es, clock, h1, r⟩, h2⟩ := h
  exact ⟨D, ⟨es, clock, by rw [hb.block b (by omega)]; exact h1, r⟩, h2⟩
theorem MapI.setCell {w : World} {b n : Nat} {M : Int → Int} (h : MapI w b n M) {a : Addr} (ha : b ≠ a.block) (u : Value) : MapI (w.setCell a u) b n M := by
  obtain ⟨D, h1, h2⟩ := h
  exact ⟨D, h1.setCell ha u, h2⟩
theorem MapI.mono {w : World} {b n m : Nat} {M : Int → Int} (h : MapI w b n M) (hm : n ≤ m) : MapI w b m M := by
  obtain ⟨D, h1, h2⟩ := h
  exact ⟨D, h1.mono hm, h2⟩
theorem mapI_new (w : World) (M : Int → Int) (hM : ∀ k, M k = 0) : MapI (w.alloc (.map #[] 0)) w.heap.size 0 M :=
  ⟨.map [], World.ownsMap_made _ _ _ _, fun k _ _ => by rw [hM]; rfl⟩
theorem zeroI (w : World) : (zeroValue 3).run Try.prog w = .ok (.int .i64 0) w := by kernel_rfl

theorem MapI.look {w : World} {b n : Nat} {M : Int → Int} (h : MapI w b n M) (k : Int) (hk : -9223372036854775808 ≤ k ∧ k ≤ 9223372036854775807) :
    (Instr.lookup 126 (.map (some b)) (.int .i64 k) false).run Try.prog w = .ok (.int .i64 (M k)) w := by
  obtain ⟨D, h1, h2⟩ := h
  have a1 := h2 k hk.1 hk.2
  obtain ⟨c, hrun, hat, hwc⟩ := h1.lookup_int lawI Try.underlying126 Try.underlying3 (zeroI w) (key_i k hk)
  rw [a1] at hat
  injection hat with hat
  injection hat with _ hat
  rw [hrun, hat]

theorem MapI.store {w : World} {b n : Nat} {M : Int → Int} (h : MapI w b n M) (hn : n < maxLen) (k c : Int) (hk : -9223372036854775808 ≤ k ∧ k ≤ 9223372036854775807) (hc : -9223372036854775808 ≤ c ∧ c ≤ 9223372036854775807) :
    ∃ w', (Instr.mapUpdate 126 (.map (some b)) (.int .i64 k) (.int .i64 c)).run Try.prog w = .ok () w' ∧ MapI w' b (n + 1) (fun j => if j = k then c else M j) ∧ w.grownBy w' (some b) := by
  obtain ⟨D, h1, h2⟩ := h
  obtain ⟨w', hrun, hown, hg⟩ := h1.update lawI Try.underlying126 hn (key_i k hk) (plainElem_int Try.underlying3 (wf_i c hc))
  refine ⟨w', hrun, ⟨_, hown, fun j j1 j2 => ?_⟩, hg⟩
  by_cases hj : j = k
  · subst hj
    simp only [if_true]
    exact atKey_put_same h1.isMap (lawI.key (key_i j hk)) _ _
  · have hne : Lit.int .i64 j ≠ Lit.int .i64 k := fun e => hj (by injection e)
    simp only [if_neg hj]
    rw [atKey_put_other hne]
    exact h2 j j1 j2

section
variable {w : World} {ops : Array Oper} {rest : List Oper} {o : Oper} {a : Act} {Q : Exit → Act → World → Prop}
theorem wp_storeI (hg : o.guard = none) (m x v : Operand) (hop : o.op = Op.mapUpdate 126 m x v) (b n : Nat) (M : Int → Int) (hm : a.eval m = .map (some b)) (h : MapI w b n M) (hn : n < maxLen)
    (k : Int) (hx : a.eval x = .int .i64 k) (hk : -9223372036854775808 ≤ k ∧ k ≤ 9223372036854775807) (c : Int) (hv : a.eval v = .int .i64 c) (hc : -9223372036854775808 ≤ c ∧ c ≤ 9223372036854775807)
    (hK : ∀ w', MapI w' b (n + 1) (fun j => if j = k then c else M j) → w.grownBy w' (some b) → wpList Try.prog ops Q rest (a.put o.dst undef) w') :
    wpList Try.prog ops Q (o :: rest) a w := by
  refine wpList_plain hg fun K' hK' => ?_
  obtain ⟨w', hrun, r1, r2⟩ := h.store hn k c hk hc
  unfold Oper.wp
  simp [execOp, hop, hm, hx, hv, hrun, Result.andThen]
  exact hK' _ _ (hK w' r1 r2)
end

/-- Block g is a row of n bools that may be written. -/
def Bools (w : World) (g n : Nat) (f : Nat → Bool) : Prop := g < w.heap.size ∧ ∀ i, i < n → w.cell? ⟨g, i, none⟩ = some (.bool (f i)) ∧ w.frozen? ⟨g, i, none⟩ = false
theorem Bools.below {w w' : World} {g n C : Nat} {f : Nat → Bool} (h : Bools w g n f) (hg : g < C) (hb : Below C w w') : Bools w' g n f := by
  obtain ⟨h1, h2⟩ := h
  exact ⟨Nat.lt_of_lt_of_le h1 hb.size, fun i hi => ⟨(hb.cell (p := ⟨g, i, none⟩) hg).trans (h2 i hi).1, (hb.frozen (p := ⟨g, i, none⟩) hg).trans (h2 i hi).2⟩⟩
theorem Bools.congr {w : World} {g n : Nat} {f f' : Nat → Bool} (h : Bools w g n f) (hf : ∀ i, i < n → f i = f' i) : Bools w g n f' :=
  ⟨h.1, fun i hi => by rw [← hf i hi]; exact h.2 i hi⟩
theorem Bools.grown {w w' : World} {g n b : Nat} {f : Nat → Bool} (h : Bools w g n f) (hg : w.grownBy w' (some b)) (hne : g ≠ b) : Bools w' g n f := by
  obtain ⟨h1, h2⟩ := h
  have e1 : ∀ o, w'.cell? ⟨g, o, none⟩ = w.cell? ⟨g, o, none⟩ := fun o => by
    simp only [World.cell?]
    rw [hg.block g h1 (fun e => hne (by injection e))]
  have e2 : ∀ o, w'.frozen? ⟨g, o, none⟩ = w.frozen? ⟨g, o, none⟩ := fun o => by
    simp only [World.frozen?]
    rw [hg.block g h1 (fun e => hne (by injection e))]
  exact ⟨Nat.lt_of_lt_of_le h1 hg.size, fun i hi => ⟨(e1 i).trans (h2 i hi).1, (e2 i).trans (h2 i hi).2⟩⟩
theorem Bools.set {w : World} {g n : Nat} {f : Nat → Bool} (h : Bools w g n f) (i : Nat) (hi : i < n) (b : Bool) : Bools (w.setCell ⟨g, i, none⟩ (.bool b)) g n (fun j => if j = i then b else f j) := by
  obtain ⟨h1, h2⟩ := h
  refine ⟨by simpa using h1, fun j hj => ?_⟩
  obtain ⟨c1, c2⟩ := h2 j hj
  obtain ⟨d1, d2⟩ := h2 i hi
  by_cases e : j = i
  · subst e
    simp [go_sem, c1, c2]
  · simp [go_sem, c1, c2, d1, e]
end

section
open Go.RowKit Go.Maps
set_option linter.unusedVariables false
set_option linter.unusedSimpArgs false

theorem infoBoolV : (Try.prog.info? 4).map (fun i => (i.zero, i.size, i.bytes)) = some (some (.bool false), 1, 1) := by kernel_rfl

section
variable {w : World} {ops : Array Oper} {rest : List Oper} {o : Oper} {a : Act} {Q : Exit → Act → World → Prop}
/-- make([]bool, n). -/
theorem wp_mkB (hgd : o.guard = none) (x y : Operand) (ho : o.op = Op.makeSlice 22 x y) (kl kc : IntKind) (L C : Int) (n : Nat) (hx : a.eval x = .int kl L) (hy : a.eval y = .int kc C) (hL : L = (n : Int)) (hC : C = (n : Int)) (hn : (n : Int) ≤ 2199023255552)
    (h : ∀ w', Bools w' w.heap.size n (fun _ => false) → Below w.heap.size w w' → wpList Try.prog ops Q rest (a.put o.dst (.slice (some ⟨w.heap.size, 0, none⟩) n n)) w') : wpList Try.prog ops Q (o :: rest) a w := by
  obtain ⟨i, hi, hz0, hz1, hz2⟩ := info_parts infoBoolV
  refine wpList_make_full w hgd x y _ ho w.heap.size _ i (.bool false) 1 Try.underlying22 hi hz0 hz1 kl kc L C n hx hy hL hC (by rw [hz2]; omega) (by unfold maxLen; omega) (Nat.le_refl _) ?_
  intro w' ho' hg
  have e : (madeCells (Value.bool false).cells (n * 1)).toList = List.replicate n (Value.bool false) := by
    rw [Nat.mul_one]
    show (madeCells #[Value.bool false] n).toList = _
    rw [toList_madeCells_one]
  rw [e] at ho'
  refine h w' ?_ ((Below.refl _ w).grown hg (Nat.le_refl _) (fun k hk => by cases hk))
  rcases ho'.2 with ⟨h1, h2⟩ | ⟨g, cap, cur, h1, h2, h3, h4, h5, h6, h7⟩
  · cases h1
  · injection h1 with h1 _ h1c
    injection h1 with h1
    injection h1 with h1
    subst h1
    subst h1c
    have hlt : w.heap.size < w'.heap.size := (Array.getElem?_eq_some_iff.1 h3).1
    refine ⟨hlt, fun j hj => ⟨?_, ?_⟩⟩
    · have := ho'.cellAt j (by omega)
      rw [this]
      simp [List.getD, hj]
    · simp [World.frozen?, h3]
end

theorem show_round {w : World} {g n j : Nat} {es : List Ent} (h : Bools w g n (fun i => if j + 1 ≤ i then seenD es n i else false)) (hj : j < n) (v : Bool) (hv : seenD es n j = v) : Bools (w.setCell ⟨g, j, none⟩ (.bool v)) g n (fun i => if j ≤ i then seenD es n i else false) := by
  refine Bools.congr (h.set j hj v) (fun i hi => ?_)
  by_cases e : i = j
  · subst e
    simp [hv]
  · by_cases h2 : j ≤ i
    · simp [e, h2, show j + 1 ≤ i by omega]
    · simp [e, h2, show ¬ j + 1 ≤ i by omega]

set_option maxRecDepth 100000 in
set_option maxHeartbeats 2000000 in
theorem readable_some (es : List Ent) (g off cap : Nat) (w : World) (hl : (es.length : Int) ≤ 2199023255552) (hp : Plain es)
    (hc : ∀ i, (h : i < es.length) → ∀ j, j < 7 → w.cell? ⟨g, off + i * 7 + j, none⟩ = (es[i]'h).cells[j]?) (h0 : 0 < es.length) :
    Calls Try.prog 123 #[.slice (some ⟨g, off, none⟩) es.length cap] w fun e w' => e = .returned (.slice (some ⟨w.heap.size, 0, none⟩) es.length es.length) ∧ Bools w' w.heap.size es.length (seenD es es.length) ∧ Below w.heap.size w w' := by
  have hglt : g < w.heap.size := by
    have := hc 0 h0 0 (by omega)
    exact cell_lt (v := .int .i64 (es[0]'h0).a) (by simpa [Ent.cells] using this)
  have HC : Hid _ := hc
  have HP : Hid (Plain es) := hp
  clear hc hp
  have hmm := @run_makeMap Try.prog
  go_enter Try.func123, Try.ntmps123
  go_wp2_with (at_make; refine wp_mkB rfl _ _ rfl _ _ _ _ es.length rfl rfl (by omega) (by omega) hl ?_; intro w1 hbl1 hb1)
  have hbs : w.heap.size < w1.heap.size := hbl1.1
  have HB1 : Hid _ := hb1.trans ((bbox w1 (.map #[] 0)).mono hb1.size)
  have HBL1 : Hid _ := hbl1.below hbl1.1 (bbox w1 (.map #[] 0))
  have HM1 : Hid _ := mapI_new w1 (fun p => nextD es es.length p es.length) (fun p => nextD_end es _ p _ (Nat.le_refl _))
  clear hbl1 hb1
  go_loopw [5] (fun i wr => ∃ k m : Nat, k ≤ es.length ∧ m + k ≤ es.length ∧ i = .int .i64 ((k : Int) - 1) ∧ MapI wr w1.heap.size m (fun p => nextD es es.length p k) ∧ Bools wr w.heap.size es.length (fun j => if k ≤ j then seenD es es.length j else false) ∧ Below w.heap.size w wr) (fun i _ => (intOf i + 1).toNat)
  case atStart => exact ⟨es.length, 0, Nat.le_refl _, by omega, rfl, HM1.out, Bools.congr HBL1.out (fun i hi => by rw [if_neg (by omega)]), HB1.out⟩
  case round =>
    obtain ⟨k, m, hk, hmk, rfl, hm, hbl, hb⟩ := hrel
    clear HM1 HBL1 HB1
    rcases k with _ | j
    · go_wp2
      go_ret
      exact ⟨rfl, Bools.congr hbl (fun i hi => by rw [if_pos (by omega)]), hb⟩
    · have hlt : j < es.length := by omega
      have hjc : ((j + 1 : Nat) : Int) - 1 = (j : Int) := by omega
      obtain ⟨q0, q1, q2, q3, q4, q5, q6⟩ := RdX.cells HC.out j hlt
      have hcc : ∀ o, wr.cell? ⟨g, o, none⟩ = w.cell? ⟨g, o, none⟩ := fun o => hb.cell (p := ⟨g, o, none⟩) hglt
      have hx := HP.out es[j] (List.getElem_mem hlt)
      rw [← at_get hlt] at hx
      have HN : Hid (∀ p, _) := fun p => nextD_step es es.length p j hlt
      have HS : Hid _ := show seenD es es.length j = (decide ((Ent.at es j).k = 1) && (!(Ent.at es j).t || decide (nextD es es.length (Ent.at es j).b j = 2))) from rfl
      generalize Ent.at es j = x at *
      rw [← hcc] at q0 q1 q2 q3 q4 q5 q6
      rw [hjc]
      have hB0 := bbox wr (.cells #[.int .i64 x.a, .int .i64 x.b, .int .i64 x.c, .int .i64 x.d, .int .i64 x.k, .bool x.t, .string x.s] 36)
      have HM0 : Hid (MapI _ _ m _) := hm.below hm.lt hB0
      have HBL0 : Hid (Bools _ _ _ _) := hbl.below hbl.1 hB0
      have HBX : Hid (Box7 _ wr.heap.size x) := box7_new wr x 36
      have HSZ : Hid (wr.heap.size < _) := show wr.heap.size < (wr.alloc (.cells #[.int .i64 x.a, .int .i64 x.b, .int .i64 x.c, .int .i64 x.d, .int .i64 x.k, .bool x.t, .string x.s] 36)).heap.size by simp
      have HB0 : Hid (Below w.heap.size w _) := hb.trans (hB0.mono hb.size)
      have hx1 : (j : Int) < es.length := by omega
      have HX : Hid (1 ≤ x.k ∧ x.k ≤ 3 ∧ 0 ≤ x.b ∧ x.b ≤ 1073741824 ∧ 0 ≤ x.c ∧ x.c ≤ 1073741824 ∧ 0 ≤ x.d ∧ x.d ≤ 1073741824) := hx
      have HML : Hid (m < maxLen) := show m < maxLen by unfold maxLen; omega
      have HWB : Hid (w1.heap.size < wr.heap.size) := hm.lt
      have HNB : Hid (w.heap.size ≠ w1.heap.size) := Nat.ne_of_lt hbs
      clear hm hbl hb hB0 hcc hx
      by_cases hk1 : x.k = 1
      · have hk1' : (x.k == 1) = true := by simp [hk1]
        have HK : Hid (x.k = 1) := hk1
        have HF : Hid ((fun p => nextD es es.length p j) = fun p => nextD es es.length p (j + 1)) := show _ = _ by funext p; rw [HN.out p, if_neg (fun h => h.2.1 hk1)]
        clear hk1
        go_wp2_with fail
        generalize hW0 : wr.alloc (.cells #[.int .i64 x.a, .int .i64 x.b, .int .i64 x.c, .int .i64 x.d, .int .i64 x.k, .bool x.t, .string x.s] 36) = W0 at *
        clear hW0 q0 q1 q2 q3 q4 q5 q6
        refine (isMarker_no _ _ _ _ _ _ _ _ HK.out).mono ?_
        rintro e w2 ⟨rfl, hb2⟩
        obtain ⟨x0, x1, x2, x3, x4, x5, x6⟩ := Box7.below HBX.out HSZ.out hb2
        have hm2 := HM0.out.below HM0.out.lt hb2
        have hbl2 := HBL0.out.below HBL0.out.1 hb2
        have hB2 := bstep HB0.out hb2
        obtain ⟨y1, y2⟩ := hbl2.2 j hlt
        have HM2 : Hid _ := hm2
        have HBL2 : Hid _ := hbl2
        have HB2 : Hid _ := hB2
        have hlk := hm2.look x.b (by have := HX.out; omega)
        clear hm2 hbl2 hB2 hb2
        cases ht : x.t with
        | false =>
          rw [ht] at x5
          have HV : Hid (seenD es es.length j = true) := show _ = _ by rw [HS.out, HK.out, ht]; rfl
          clear ht
          go_wp2
          exact ⟨⟨j, m, by omega, by omega, rfl, by rw [HF.out]; exact MapI.setCell HM2.out (Ne.symm HNB.out) _, show_round HBL2.out hlt _ HV.out, HB2.out.setCell (Nat.le_refl _) _⟩, by simp [intOf]⟩
        | true =>
          rw [ht] at x5
          have HV : Hid (seenD es es.length j = (nextD es es.length x.b (j + 1) == 2)) := show _ = _ by rw [HS.out, HK.out, ht, congrFun HF.out x.b]; rfl
          clear ht
          go_wp2
          exact ⟨⟨j, m, by omega, by omega, rfl, by rw [HF.out]; exact MapI.setCell HM2.out (Ne.symm HNB.out) _, show_round HBL2.out hlt _ HV.out, HB2.out.setCell (Nat.le_refl _) _⟩, by simp [intOf]⟩
      · have hk1' : (x.k == 1) = false := by simp [hk1]
        have HK : Hid (x.k = 2 ∨ x.k = 3) := show _ ∨ _ by have := HX.out; omega
        have HV : Hid (seenD es es.length j = false) := show _ = _ by rw [HS.out]; simp [hk1]
        by_cases hx0 : x.b = 0
        · have hx0' : (x.b != 0) = false := by simp [hx0]
          have HF : Hid ((fun p => nextD es es.length p j) = fun p => nextD es es.length p (j + 1)) := show _ = _ by funext p; rw [HN.out p, if_neg (fun h => h.2.2 (by omega))]
          clear hk1 hx0
          go_wp2_with fail
          generalize hW0 : wr.alloc (.cells #[.int .i64 x.a, .int .i64 x.b, .int .i64 x.c, .int .i64 x.d, .int .i64 x.k, .bool x.t, .string x.s] 36) = W0 at *
          clear hW0 q0 q1 q2 q3 q4 q5 q6
          refine (isMarker_yes _ _ _ _ _ _ _ _ HK.out).mono ?_
          rintro e w2 ⟨rfl, hb2⟩
          obtain ⟨x0, x1, x2, x3, x4, x5, x6⟩ := Box7.below HBX.out HSZ.out hb2
          have hm2 := HM0.out.below HM0.out.lt hb2
          have hbl2 := HBL0.out.below HBL0.out.1 hb2
          have hB2 := bstep HB0.out hb2
          obtain ⟨y1, y2⟩ := hbl2.2 j hlt
          have HM2 : Hid _ := hm2
          have HBL2 : Hid _ := hbl2
          have HB2 : Hid _ := hB2
          clear hm2 hbl2 hB2 hb2
          go_wp2
          exact ⟨⟨j, m, by omega, by omega, rfl, by rw [HF.out]; exact MapI.setCell HM2.out (Ne.symm HNB.out) _, show_round HBL2.out hlt _ HV.out, HB2.out.setCell (Nat.le_refl _) _⟩, by simp [intOf]⟩
        · have hx0' : (x.b != 0) = true := by simp [hx0]
          have HF : Hid ((fun p => nextD es es.length p j) = fun p => if p = x.b then x.k else nextD es es.length p (j + 1)) := show _ = _ by
            funext p
            rw [HN.out p]
            by_cases hpx : p = x.b
            · rw [if_pos ⟨hpx, hk1, by omega⟩, if_pos hpx]
            · rw [if_neg (fun h => hpx h.1), if_neg hpx]
          clear hk1 hx0
          go_wp2_with fail
          generalize hW0 : wr.alloc (.cells #[.int .i64 x.a, .int .i64 x.b, .int .i64 x.c, .int .i64 x.d, .int .i64 x.k, .bool x.t, .string x.s] 36) = W0 at *
          clear hW0 q0 q1 q2 q3 q4 q5 q6
          refine (isMarker_yes _ _ _ _ _ _ _ _ HK.out).mono ?_
          rintro e w2 ⟨rfl, hb2⟩
          obtain ⟨x0, x1, x2, x3, x4, x5, x6⟩ := Box7.below HBX.out HSZ.out hb2
          have HBX2 : Hid _ := Box7.below HBX.out HSZ.out hb2
          have hm2 := HM0.out.below HM0.out.lt hb2
          have hbl2 := HBL0.out.below HBL0.out.1 hb2
          have hB2 := bstep HB0.out hb2
          have HM2 : Hid _ := hm2
          have HBL2' : Hid _ := hbl2
          have HB2' : Hid _ := hB2
          have hsz2 := Nat.lt_of_lt_of_le HSZ.out hb2.size
          clear hm2 hbl2 hB2 hb2
          go_wp2_with (at_mapUpdate; refine wp_storeI rfl _ _ _ rfl w1.heap.size m _ rfl HM2.out HML.out _ rfl (by have := HX.out; omega) _ rfl (by have := HX.out; omega) ?_; intro w3 hm3 hg3; clear x0 x1 x2 x3 x4 x5 x6; obtain ⟨x0, x1, x2, x3, x4, x5, x6⟩ := Box7.grown HBX2.out hg3 (Nat.ne_of_gt HWB.out) hsz2; (have hbl3 := Bools.grown HBL2'.out hg3 HNB.out); obtain ⟨y1, y2⟩ := hbl3.2 j hlt)
          have hB3 : Below w.heap.size w w3 := HB2'.out.grown hg3 HB2'.out.size (fun i hi => by cases hi; exact Nat.le_of_lt hbs)
          exact ⟨⟨j, m + 1, by omega, by omega, rfl, by rw [HF.out]; exact MapI.setCell hm3 (Ne.symm HNB.out) _, show_round hbl3 hlt _ HV.out, hB3.setCell (Nat.le_refl _) _⟩, by simp [intOf]⟩

set_option maxRecDepth 100000 in
set_option maxHeartbeats 400000 in
theorem readable_none (ao : Option Addr) (cap : Nat) (w : World) :
    Calls Try.prog 123 #[.slice ao 0 cap] w fun e w' => e = .returned (.slice (some ⟨w.heap.size, 0, none⟩) 0 0) ∧ Bools w' w.heap.size 0 (seenD [] 0) ∧ Below w.heap.size w w' := by
  have hmm := @run_makeMap Try.prog
  go_enter Try.func123, Try.ntmps123
  go_wp2_with (at_make; refine wp_mkB rfl _ _ rfl _ _ _ _ 0 rfl rfl (by omega) (by omega) (by omega) ?_; intro w1 hbl1 hb1)
  refine wp_loop_rounds 1 ?_
  rw [rounds_succ]
  go_wp2
  go_ret
  exact ⟨rfl, ⟨by have := hbl1.1; simp; omega, fun i hi => by omega⟩, hb1.trans ((bbox w1 _).mono hb1.size)⟩

theorem readable_any (es : List Ent) (v : Value) (w : World) (hl : (es.length : Int) ≤ 2199023255552) (hp : Plain es) (h : RdX w v es) :
    Calls Try.prog 123 #[v] w fun e w' => e = .returned (.slice (some ⟨w.heap.size, 0, none⟩) es.length es.length) ∧ Bools w' w.heap.size es.length (seenD es es.length) ∧ Below w.heap.size w w' := by
  obtain ⟨ao, cap, rfl, _, _, _, h1⟩ := h
  by_cases h0 : 0 < es.length
  · obtain ⟨g, off, rfl, h1'⟩ := h1 h0
    exact readable_some es g off cap w hl hp h1' h0
  · have hl : es = [] := List.eq_nil_of_length_eq_zero (by omega)
    subst hl
    exact readable_none ao cap w
end

section
open Go.RowKit Go.Maps
set_option linter.unusedVariables false
set_option linter.unusedSimpArgs false

section
variable {w : World} {ops : Array Oper} {rest : List Oper} {o : Oper} {a : Act} {Q : Exit → Act → World → Prop}
/-- The step of a range over producers. -/
theorem wp_nextP (hg : o.guard = none) (it : Operand) (hop : o.op = Op.next it false) (b r n : Nat) (D : DataW Unit) (left : Lit → Bool) (cnt : Nat)
    (hit : a.eval it = .pointer (some ⟨r, 0, none⟩)) (h : w.ranges Try.prog 3 prdElem b r n D left cnt)
    (hDone : cnt = 0 → (∀ kl, left kl = false) → wpList Try.prog ops Q rest (a.put o.dst (.tuple #[.bool false])) w)
    (hMore : ∀ (x : Int) (q : Prd) (w' : World) (cnt' : Nat), (Lit.int .i64 x).wf = true → left (.int .i64 x) = true → (∀ zd, D.atKey (.int .i64 x) zd = q.dat) → w'.ranges Try.prog 3 prdElem b r n D (fun z => left z && !z.sameKey (.int .i64 x)) cnt' → cnt' < cnt →
      w.grownBy w' (some r) → w'.heap.size = w.heap.size → (Instr.entry (.pointer (some ⟨r, 0, none⟩))).run Try.prog w' = .ok (.tuple #[.int .i64 x, .agg #[.int .i64 q.v, .int .i64 q.n, .int .i64 q.b, .int .i64 q.m]]) w' →
      wpList Try.prog ops Q rest (a.put o.dst (.tuple #[.bool true, .int .i64 x, .agg #[.int .i64 q.v, .int .i64 q.n, .int .i64 q.b, .int .i64 q.m]])) w') :
    wpList Try.prog ops Q (o :: rest) a w := by
  refine wpList_next_ranges w hg it hop 3 lawI prdElem (fun x : Int => .int .i64 x) (fun q : Prd => q.val) (fun key kl h => ?_) (fun v y h => ?_) b r n D left cnt hit h hDone ?_
  · obtain ⟨x, rfl, _, _⟩ := keyOf_int_inv Try.underlying3 h
    exact ⟨x, rfl⟩
  · obtain ⟨q, rfl, _⟩ := prdElem_inv h
    exact ⟨q, rfl⟩
  · intro x q kl y w' cnt' hk hl hR hat hrg hlt hgr hsz hen
    obtain ⟨x', e1, e2, hw⟩ := keyOf_int_inv Try.underlying3 hk
    injection e1 with _ e1
    subst e1
    subst e2
    rw [prdElem_mk] at hR
    cases hR
    exact hMore x q w' cnt' hw hl hat hrg hlt hgr hsz hen
end

/-- What a number holds while producers come, whichever are left. -/
def StbInv (M : Int → Option Prd) (left : Lit → Bool) (high e : Int) : Prop :=
  e ≤ high ∧ (∀ k q, M k = some q → left (.int .i64 k) = false → q.b ≠ -1 → e ≤ q.b) ∧ (e = high ∨ ∃ k q, M k = some q ∧ q.b = e ∧ q.b ≠ -1)
theorem stbInv_step {M : Int → Option Prd} {left : Lit → Bool} {high e x e' : Int} {q : Prd} (h : StbInv M left high e) (hx : M x = some q)
    (he : q.b = -1 ∧ e' = e ∨ q.b ≠ -1 ∧ (e ≤ q.b ∧ e' = e ∨ q.b ≤ e ∧ e' = q.b)) : StbInv M (fun z => left z && !z.sameKey (.int .i64 x)) high e' := by
  obtain ⟨h1, h2, h3⟩ := h
  have H3 : Hid _ := h3
  clear h3
  have hle : e' ≤ e := by omega
  refine ⟨by omega, fun k q' hk hl hb => ?_, ?_⟩
  · by_cases hkx : k = x
    · subst hkx
      rw [hx] at hk
      obtain rfl := Option.some.inj hk
      omega
    · have hne : Lit.int .i64 k ≠ Lit.int .i64 x := fun e => hkx (by injection e)
      simp only [sameKey_ne hne, Bool.not_false, Bool.and_true] at hl
      have := h2 k q' hk hl hb
      omega
  · by_cases hee : e' = e
    · subst hee
      exact H3.out
    · exact .inr ⟨x, q, hx, by omega, by omega⟩

theorem stable_of {es : List Ent} (hp : Plain es) (h : Nat) (hh : h ≤ es.length) (left : Lit → Bool) (e : Int) (hI : StbInv (prdM (es.take h) h) left h e) (hl : ∀ kl, left kl = false) : e = stb es h := by
  obtain ⟨h1, h2, h3⟩ := hI
  have hle : (es.take h).length = h := by simp; omega
  have ho : ∀ p, openN (es.take h) p h = openN es p h := fun p => by
    have := openN_take es p h hh
    rw [hle] at this
    exact this
  have hs := fun p => prd_spec (es.take h) p h
  refine stb_least hp h hh e h1 (fun p p0 hp0 => ?_) ?_
  · cases hq : prdK (es.take h) p h with
    | none =>
      obtain ⟨_, _, _, a4⟩ := (hs p).1 hq
      rw [ho] at a4
      omega
    | some q =>
      obtain ⟨_, _, _, _, a5⟩ := (hs p).2 q hq
      rw [ho] at a5
      have hm : prdM (es.take h) h p = some q := by unfold prdM; rw [if_neg p0]; exact hq
      have := h2 p q hm (hl _) (by omega)
      omega
  · rcases h3 with h3 | ⟨k, q, hk, hb, hn⟩
    · exact .inl h3
    · right
      unfold prdM at hk
      by_cases k0 : k = 0
      · rw [if_pos k0] at hk
        cases hk
      · rw [if_neg k0] at hk
        obtain ⟨_, _, _, _, a5⟩ := (hs k).2 q hk
        rw [ho] at a5
        have := openN_bd es k h
        exact ⟨k, k0, by omega, by omega⟩

theorem prdK_key {es : List Ent} (hp : Plain es) {p : Int} (k : Nat) (hk : k ≤ es.length) {q : Prd} (h : prdK es p k = some q) : -9223372036854775808 ≤ p ∧ p ≤ 9223372036854775807 := by
  induction k generalizing q with
  | zero => simp [prdK] at h
  | succ k ih =>
    simp only [prdK] at h
    by_cases e : (Ent.at es k).b = p
    · have hlt : k < es.length := by omega
      have hm := hp es[k] (List.getElem_mem hlt)
      rw [← at_get hlt] at hm
      omega
    · rw [if_neg e] at h
      exact ih (by omega) h

set_option maxRecDepth 100000 in
set_option maxHeartbeats 1000000 in
theorem stable_in (es : List Ent) (ao : Option Addr) (cap n : Nat) (w : World) (hl : (es.length : Int) ≤ 2199023255552) (hp : Plain es) (hr : RdX w (.slice ao es.length cap) es) (hn : n ≤ es.length) :
    Calls Try.prog 122 #[.slice ao es.length cap, .int .i64 n] w fun e w' => e = .returned (.tuple #[.int .i64 (stb es n), .int .i64 0]) ∧ Below w.heap.size w w' := by
  have hcn : (n : Int) ≤ cap := by
    obtain ⟨_, _, e, c1, _⟩ := hr
    cases e
    omega
  have hn' : (n : Int) ≤ es.length := by omega
  have HRT : Hid (RdX w (.slice ao n cap) (es.take n)) := hr.take n hn
  have HPT : Hid (Plain (es.take n)) := fun e he => hp e (List.mem_of_mem_take he)
  have HFIN : Hid _ := fun left e => stable_of hp n hn left e
  have HLT : Hid ((es.take n).length = n) := show _ = _ by simp; omega
  have HLL : Hid (((es.take n).length : Int) ≤ 2199023255552) := show _ ≤ _ by simp; omega
  clear hr hp
  go_enter Try.func122, Try.ntmps122
  go_wp2_with fail
  refine (producers_any (es.take n) _ _ HLL.out HPT.out HRT.out).mono ?_
  rw [HLT.out]
  rintro e w1 ⟨rfl, ⟨m, hm, hmap⟩, hb1⟩
  obtain ⟨D, hown, hD⟩ := hmap
  have HD : Hid _ := hD
  clear hD
  go_wp2_with (at_range; refine wpList_range_own _ rfl _ 106 rfl 3 104 lawI Try.underlying106 prdElem w.heap.size m D rfl hown ?_; intro w2 hrg0 hg0 hs0)
  go_frame
  have hb2 : Below w.heap.size w w2 := hb1.grown (hg0.but (some w1.heap.size)) hb1.size (fun k hk => by cases hk; exact hb1.size)
  have hr0 : w.heap.size ≤ w1.heap.size := hb1.size
  have hrs : w1.heap.size < w2.heap.size := by omega
  have hI0 : StbInv (prdM (es.take n) n) (has D) n n := by
    refine ⟨Int.le_refl _, fun k q hk hh hb => ?_, .inl rfl⟩
    exfalso
    have hkr : -9223372036854775808 ≤ k ∧ k ≤ 9223372036854775807 := by
      unfold prdM at hk
      by_cases k0 : k = 0
      · rw [if_pos k0] at hk; cases hk
      · rw [if_neg k0] at hk
        exact prdK_key HPT.out n (by rw [HLT.out]; exact Nat.le_refl _) hk
    have := (HD.out k hkr.1 hkr.2).1
    rw [hh, hk] at this
    cases this
  have HI0 : Hid _ := hI0
  clear hg0 hs0 hown hI0 hb1 hm
  generalize hr1 : w1.heap.size = r at *
  clear hr1
  go_loopw [6] (fun e wr => ∃ (left : Lit → Bool) (cnt : Nat) (x : Int), e = .int .i64 x ∧ wr.ranges Try.prog 3 prdElem w.heap.size r m D left cnt ∧ Hid (StbInv (prdM (es.take n) n) left n x) ∧ r < wr.heap.size ∧ Below w.heap.size w wr) (fun _ wr => wr.rangeLeft w.heap.size r)
  case atStart => exact ⟨_, _, n, rfl, hrg0, HI0, hrs, hb2⟩
  case round =>
    obtain ⟨left, cnt, x, rfl, hrg, HI, hrw, hb⟩ := hrel
    clear hrg0 HI0 hrs hb2
    go_wp2_with (at_next; refine wp_nextP rfl _ rfl w.heap.size r m D left cnt rfl hrg ?_ ?_)
    · intro hc0 hl0
      have HE : Hid (x = stb es n) := HFIN.out left x HI.out hl0
      clear hc0 hl0
      go_wp2
      go_ret2
      rw [HE.out]
      exact ⟨rfl, hb⟩
    · intro k q w3 cnt3 hwk hlk hat hrg3 hlt hg3 hs3 hen
      have hkr : -9223372036854775808 ≤ k ∧ k ≤ 9223372036854775807 := by simp [Lit.wf, IntKind.min, IntKind.max, IntKind.signed, IntKind.bits] at hwk; omega
      have HM : Hid (prdM (es.take n) n k = some q) := by
        obtain ⟨g1, g2⟩ := HD.out k hkr.1 hkr.2
        rw [has_true_of_atKey hat] at g1
        obtain ⟨q', hq'⟩ := Option.isSome_iff_exists.1 g1.symm
        have := g2 q' hq' (q.dat)
        rw [hat] at this
        rw [hq', dat_inj this]
        exact rfl
      have hB3 : Below w.heap.size w w3 := hb.grown hg3 hb.size (fun j hj => by cases hj; exact hr0)
      have HSTEP : Hid _ := fun e' he => stbInv_step (e' := e') HI.out HM.out he
      have hr3 : r < w3.heap.size := by omega
      clear hat hwk hlk HI HM hkr hb hg3
      by_cases hqb : q.b = -1
      · have hqb' : (q.b != -1) = false := by simp [hqb]
        have HS : Hid _ := HSTEP.out x (.inl ⟨hqb, rfl⟩)
        clear hqb HSTEP
        go_wp2
        exact ⟨⟨_, cnt3, x, rfl, hrg3.alloc _, HS, by simp; omega, hB3.alloc hB3.size _⟩, by rw [(hrg3.alloc _).left_eq, hrg.left_eq]; exact hlt⟩
      · have hqb' : (q.b != -1) = true := by simp [hqb]
        by_cases hle : x ≤ q.b
        · have HS : Hid _ := HSTEP.out x (.inr ⟨hqb, .inl ⟨hle, rfl⟩⟩)
          clear hqb HSTEP
          go_wp2
          exact ⟨⟨_, cnt3, x, rfl, hrg3.alloc _, HS, by simp; omega, hB3.alloc hB3.size _⟩, by rw [(hrg3.alloc _).left_eq, hrg.left_eq]; exact hlt⟩
        · have HS : Hid _ := HSTEP.out q.b (.inr ⟨hqb, .inr ⟨by omega, rfl⟩⟩)
          clear hqb HSTEP
          go_wp2
          exact ⟨⟨_, cnt3, q.b, by rw [if_pos (by omega)], hrg3.alloc _, HS, by simp; omega, hB3.alloc hB3.size _⟩, by rw [(hrg3.alloc _).left_eq, hrg.left_eq]; exact hlt⟩

set_option maxRecDepth 100000 in
set_option maxHeartbeats 400000 in
theorem stable_out (es : List Ent) (ao : Option Addr) (cap : Nat) (h : Int) (w : World) (hl : (es.length : Int) ≤ 2199023255552) (hh : h < 0 ∨ (es.length : Int) < h) :
    Calls Try.prog 122 #[.slice ao es.length cap, .int .i64 h] w fun e w' => e = .returned (.tuple #[.int .i64 0, .int .i64 2]) ∧ Below w.heap.size w w' := by
  rcases hh with hh | hh
  · have h1 : decide (h < 0) = true := by simp [hh]
    clear hh
    go_enter Try.func122, Try.ntmps122
    go_wp2
    go_ret2
    exact ⟨rfl, Below.refl _ _⟩
  · have h1 : decide (h < 0) = false := by simp; omega
    have h2 : decide (h > (es.length : Int)) = true := by simp; omega
    go_enter Try.func122, Try.ntmps122
    go_wp2
    go_ret2
    exact ⟨rfl, Below.refl _ _⟩

theorem stable_c : StableC := by
  intro es v h w hl hp hr
  obtain ⟨ao, cap, rfl⟩ : ∃ ao cap, v = .slice ao es.length cap := by obtain ⟨ao, cap, e, _⟩ := hr; exact ⟨ao, cap, e⟩
  by_cases hh : h < 0 ∨ (es.length : Int) < h
  · have E : stf es h = (0, 2) := by unfold stf; rw [if_pos hh]
    rw [E]
    exact stable_out es ao cap h w hl hh
  · obtain ⟨n, rfl⟩ := Int.eq_ofNat_of_zero_le (show 0 ≤ h by omega)
    have E : stf es n = ((stb es n : Int), 0) := by unfold stf; rw [if_neg hh, Int.toNat_natCast]
    rw [E]
    exact stable_in es ao cap n w hl hp hr (by omega)
end

section
open Go.RowKit Go.Maps
set_option linter.unusedVariables false
set_option linter.unusedSimpArgs false

theorem seenD_take {es : List Ent} (hn : NoTx es) (h i : Nat) (hi : i < h) (hh : h ≤ es.length) : seenD (es.take h) (es.take h).length i = seen es h i := by
  have e : (es.take h).length = h := by simp; omega
  rw [e, seenD_eq (fun x hx => hn x (List.mem_of_mem_take hx)) h i hi (by omega), seen_take es h i hi hh]

set_option maxRecDepth 100000 in
set_option maxHeartbeats 2000000 in
theorem read_ok (es : List Ent) (ao : Option Addr) (cap : Nat) (n fr ms : Nat) (w : World) (hl : (es.length : Int) ≤ 2199023255552) (hp : Plain es) (hnt : NoTx es) (hr : RdX w (.slice ao es.length cap) es) (hn : n ≤ es.length) (hfr : fr ≤ es.length) (hms : 1 ≤ ms ∧ ms ≤ 20) :
    Calls Try.prog 96 #[.slice ao es.length cap, .int .i64 n, .int .i64 fr, .int .i64 ms] w fun e w' => ∃ v, e = .returned (.tuple #[v, .int .i64 (rdF es n (stb es n) es.length fr ms).2, .int .i64 0]) ∧ OwnS w.heap.size v (rdF es n (stb es n) es.length fr ms).1 w' ∧ Below w.heap.size w w' := by
  have hst := stb_le es n
  have hcn : (n : Int) ≤ cap := by
    obtain ⟨_, _, e, c1, _⟩ := hr
    cases e
    omega
  have hn' : (n : Int) ≤ es.length := by omega
  have HR : Hid (RdX w (.slice ao es.length cap) es) := hr
  have hsf : stf es n = ((stb es n : Int), 0) := by unfold stf; rw [if_neg (by omega)]; simp
  have HPT : Hid (Plain (es.take n)) := fun e he => hp e (List.mem_of_mem_take he)
  have HST : Hid _ := stable_c es (.slice ao es.length cap) n w hl hp hr
  have HSD : Hid (∀ i, i < n → _) := fun i hi => seenD_take hnt n i hi hn
  have HLT : Hid ((es.take n).length = n) := show _ = _ by simp; omega
  have HLL : Hid (((es.take n).length : Int) ≤ 2199023255552) := show _ ≤ _ by simp; omega
  rw [hsf] at HST
  clear hr hp hnt hsf
  have hfrl : (fr : Int) ≤ es.length := by omega
  have hms1 : (1 : Int) ≤ ms := by omega
  have hms2 : (ms : Int) ≤ 20 := by omega
  go_enter Try.func96, Try.ntmps96
  go_wp2_with fail
  refine Calls.mono HST.out ?_
  rintro e w1 ⟨rfl, hb1⟩
  have hR1 := RdX.below HR.out (Nat.le_refl _) hb1
  have HR1 : Hid (RdX w1 (.slice ao es.length cap) es) := hR1
  have HR1T : Hid (RdX w1 (.slice ao n cap) (es.take n)) := hR1.take n hn
  clear hR1 HR HST
  generalize hfin : stb es n = fin at *
  have hfl : (fin : Int) ≤ n := by omega
  have HN : Hid (n ≤ es.length ∧ fr ≤ es.length ∧ fin ≤ n ∧ ms ≤ 20) := ⟨hn, hfr, hst, hms.2⟩
  have HFIN : Hid (stb es n = fin) := hfin
  clear hfin hst hn hfr hms
  go_wp2_with fail
  refine (readable_any (es.take n) _ _ HLL.out HPT.out HR1T.out).mono ?_
  rintro e w2 ⟨rfl, hbl2, hb2⟩
  rw [HLT.out] at hbl2 ⊢
  have hbl : Bools w2 w1.heap.size n (seen es n) := Bools.congr hbl2 (fun i hi => by have := HSD.out i hi; rw [HLT.out] at this; exact this)
  have HBL : Hid _ := hbl
  have HR2 : Hid (RdX w2 (.slice ao es.length cap) es) := RdX.below HR1.out (Nat.le_refl _) hb2
  have HB2 : Hid (Below w.heap.size w w2) := bstep hb1 hb2
  have hs12 : w1.heap.size < w2.heap.size := hbl.1
  clear hbl hbl2 HR1 HR1T hb1 hb2
  go_wp2
  go_loopw [14, 15] (fun v a wr => ∃ (k : Nat) (ts : List ByteArray), k ≤ es.length ∧ a = .int .i64 k ∧ Hid (RdSt es n fin fr ms k ts) ∧ OwnS w2.heap.size v ts wr ∧ Below w2.heap.size w2 wr) (fun _ a _ => es.length - (intOf a).toNat)
  case atStart => exact ⟨fr, [], HN.out.2.1, rfl, rdSt_0 es n fin fr ms (by have := HN.out; omega), ownS_nil _ _ (Nat.le_refl _), Below.refl _ _⟩
  case round =>
    obtain ⟨k, ts, hk, rfl, H, hown, hbel⟩ := hrel
    obtain ⟨av, cv, rfl⟩ := hown.shape
    have htl := H.out.1
    by_cases hlt : k < fin
    · have hlt' : (k : Int) < fin := by omega
      by_cases htm : ts.length < ms
      · have htm' : (ts.length : Int) < ms := by omega
        have hke : k < es.length := by have := HN.out; omega
        have hke' : (k : Int) < es.length := by omega
        have hkn' : (k : Int) < n := by omega
        have hRr := RdX.below HR2.out (Nat.le_refl _) hbel
        obtain ⟨ao', cap', e0, _, _, _, h3⟩ := hRr
        simp only [Value.slice.injEq] at e0
        obtain ⟨rfl, _, rfl⟩ := e0
        obtain ⟨g, off, rfl, hc⟩ := h3 (by omega)
        obtain ⟨q0, q1, q2, q3, q4, q5, q6⟩ := RdX.cells hc k hke
        obtain ⟨hn1, hn2⟩ := rdSt_next H.out hlt htm
        have HN1 : Hid _ := hn1
        have HN2 : Hid _ := hn2
        obtain ⟨y1, y2⟩ := (Bools.below HBL.out hs12 hbel).2 k (by omega)
        clear hc h3 hn1 hn2 H
        generalize Ent.at es k = x at HN1 q0 q1 q2 q3 q4 q5 q6
        cases hse : seen es n k with
        | true =>
          rw [hse] at y1
          have HB : Hid _ := HN1.out hse
          clear HN1 HN2 hse
          go_wp2_with (at_builtin; refine wp_appS rfl _ _ rfl _ _ ts rfl x.s hown _ rfl (by simp) (by omega) ?_)
          intro v2 w3 hown2 hb3
          have hbel2 := hbel.trans hb3
          clear hb3 hown hbel q0 q1 q2 q3 q4 q5 q6 y1 y2
          go_wp2
          go_roundw
          case rel => exact ⟨k + 1, ts ++ [x.s], by omega, by go_num, HB, hown2, hbel2⟩
          case measure => simp [intOf]; omega
        | false =>
          rw [hse] at y1
          have HB : Hid _ := HN2.out hse
          clear HN1 HN2 hse
          go_wp2
          go_roundw
          case rel => exact ⟨k + 1, ts, by omega, by go_num, HB, hown, hbel⟩
          case measure => simp [intOf]; omega
      · have htm' : ¬ (ts.length : Int) < ms := by omega
        have HE : Hid _ := rdSt_stop H.out (.inr (by omega))
        clear H
        go_wp2
        go_ret3
        rw [HFIN.out, HE.out]
        exact ⟨_, rfl, hown.mono HB2.out.size, HB2.out.trans (hbel.mono HB2.out.size)⟩
    · have hlt' : ¬ (k : Int) < fin := by omega
      have HE : Hid _ := rdSt_stop H.out (.inl (by omega))
      clear H
      go_wp2
      go_ret3
      rw [HFIN.out, HE.out]
      exact ⟨_, rfl, hown.mono HB2.out.size, HB2.out.trans (hbel.mono HB2.out.size)⟩

set_option maxRecDepth 100000 in
set_option maxHeartbeats 1000000 in
theorem read_high (es : List Ent) (v : Value) (h fr ms : Int) (w : World) (hl : (es.length : Int) ≤ 2199023255552) (hp : Plain es) (hr : RdX w v es) (hh : h < 0 ∨ (es.length : Int) < h) :
    Calls Try.prog 96 #[v, .int .i64 h, .int .i64 fr, .int .i64 ms] w fun e w' => e = .returned (.tuple #[.slice none 0 0, .int .i64 0, .int .i64 2]) ∧ Below w.heap.size w w' := by
  have HST : Hid _ := stable_c es v h w hl hp hr
  have hsf : stf es h = (0, 2) := by unfold stf; rw [if_pos hh]
  rw [hsf] at HST
  clear hr hh hsf hp
  go_enter Try.func96, Try.ntmps96
  go_wp2_with fail
  refine Calls.mono HST.out ?_
  rintro e w1 ⟨rfl, hb1⟩
  go_wp2
  go_ret3
  exact ⟨rfl, hb1⟩

set_option maxRecDepth 100000 in
set_option maxHeartbeats 1000000 in
theorem read_range (es : List Ent) (ao : Option Addr) (cap : Nat) (h fr ms : Int) (w : World) (hl : (es.length : Int) ≤ 2199023255552) (hp : Plain es) (hr : RdX w (.slice ao es.length cap) es) (hh : ¬ (h < 0 ∨ (es.length : Int) < h)) (hb : fr < 0 ∨ (es.length : Int) < fr ∨ ms < 1 ∨ 20 < ms) :
    Calls Try.prog 96 #[.slice ao es.length cap, .int .i64 h, .int .i64 fr, .int .i64 ms] w fun e w' => e = .returned (.tuple #[.slice none 0 0, .int .i64 0, .int .i64 2]) ∧ Below w.heap.size w w' := by
  have HST : Hid _ := stable_c es (.slice ao es.length cap) h w hl hp hr
  have hsf : stf es h = ((stb es h.toNat : Int), 0) := by unfold stf; rw [if_neg hh]
  rw [hsf] at HST
  clear hr hh hsf hp
  by_cases h1 : fr < 0
  · have h1' : decide (fr < 0) = true := by simp [h1]
    clear hb h1
    go_enter Try.func96, Try.ntmps96
    go_wp2_with fail
    refine Calls.mono HST.out ?_
    rintro e w1 ⟨rfl, hb1⟩
    go_wp2
    go_ret3
    exact ⟨rfl, hb1⟩
  · have h1' : decide (fr < 0) = false := by simp; omega
    by_cases h2 : (es.length : Int) < fr
    · have h2' : decide (fr > (es.length : Int)) = true := by simp; omega
      clear hb h1
      go_enter Try.func96, Try.ntmps96
      go_wp2_with fail
      refine Calls.mono HST.out ?_
      rintro e w1 ⟨rfl, hb1⟩
      go_wp2
      go_ret3
      exact ⟨rfl, hb1⟩
    · have h2' : decide (fr > (es.length : Int)) = false := by simp; omega
      by_cases h3 : ms < 1
      · have h3' : decide (ms < 1) = true := by simp [h3]
        clear hb h3
        go_enter Try.func96, Try.ntmps96
        go_wp2_with fail
        refine Calls.mono HST.out ?_
        rintro e w1 ⟨rfl, hb1⟩
        go_wp2
        go_ret3
        exact ⟨rfl, hb1⟩
      · have h3' : decide (ms < 1) = false := by simp; omega
        have h4' : decide (ms > 20) = true := by simp; omega
        clear hb
        go_enter Try.func96, Try.ntmps96
        go_wp2_with fail
        refine Calls.mono HST.out ?_
        rintro e w1 ⟨rfl, hb1⟩
        go_wp2
        go_ret3
        exact ⟨rfl, hb1⟩

theorem read_c : ReadC := by
  intro es v h fr ms w hl hp hnt hr
  obtain ⟨ao, cap, rfl⟩ : ∃ ao cap, v = .slice ao es.length cap := by obtain ⟨ao, cap, e, _⟩ := hr; exact ⟨ao, cap, e⟩
  by_cases hh : h < 0 ∨ (es.length : Int) < h
  · have hs : stf es h = (0, 2) := by unfold stf; rw [if_pos hh]
    have E : rdA es h fr ms = ([], 0, 2) := by unfold rdA; rw [hs, if_pos (by simp)]
    rw [E]
    refine (read_high es _ h fr ms w hl hp hr hh).mono ?_
    rintro e w' ⟨e1, hb⟩
    exact ⟨_, e1, ownS_nil _ _ hb.size, hb⟩
  · have hs : stf es h = ((stb es h.toNat : Int), 0) := by unfold stf; rw [if_neg hh]
    by_cases hb : fr < 0 ∨ (es.length : Int) < fr ∨ ms < 1 ∨ 20 < ms
    · have E : rdA es h fr ms = ([], 0, 2) := by unfold rdA; rw [hs, if_neg (by simp), if_pos hb]
      rw [E]
      refine (read_range es ao cap h fr ms w hl hp hr hh hb).mono ?_
      rintro e w' ⟨e1, hb⟩
      exact ⟨_, e1, ownS_nil _ _ hb.size, hb⟩
    · obtain ⟨n, rfl⟩ := Int.eq_ofNat_of_zero_le (show 0 ≤ h by omega)
      obtain ⟨f, rfl⟩ := Int.eq_ofNat_of_zero_le (show 0 ≤ fr by omega)
      obtain ⟨m, rfl⟩ := Int.eq_ofNat_of_zero_le (show 0 ≤ ms by omega)
      have E : rdA es n f m = ((rdF es n (stb es n) es.length f m).1, ((rdF es n (stb es n) es.length f m).2 : Int), 0) := by
        unfold rdA
        rw [hs, if_neg (by simp), if_neg hb]
        simp
      rw [E]
      exact read_ok es ao cap n f m w hl hp hnt hr (by omega) (by omega) (by omega)
end

section
open Go.RowKit
set_option linter.unusedVariables false
set_option linter.unusedSimpArgs false

set_option maxRecDepth 100000 in
set_option maxHeartbeats 2000000 in
theorem partRead_any (p : Prt) (fr ms : Int) (vi vk vr : Value) (us : Nat → Value) (w : World) (h : RdP w p vi vk vr us) (hs : p.small) :
    Calls Try.prog 49 #[.agg #[.int .i64 p.ep, .int .i64 p.ld, vi, vk, vr, .int .i64 p.fw, .int .i64 p.bs], .int .i64 fr, .int .i64 ms] w fun e w' => ∃ u, e = .returned (.tuple #[u, .int .i64 (p.readP fr ms).2.1, .int .i64 (p.readP fr ms).2.2]) ∧ OwnS w.heap.size u (p.readP fr ms).1 w' ∧ Below w.heap.size w w' := by
  obtain ⟨ai, ci, ak, ck, ar, cr, rfl, rfl, rfl, l1, l2, l3⟩ := h.lens
  have hB := bbox w (.cells #[.int .i64 p.ep, .int .i64 p.ld, .slice ai p.isr.length ci, .slice ak p.kn.length ck, .slice ar p.rs.length cr, .int .i64 p.fw, .int .i64 p.bs] 26)
  have HB : Hid (Below w.heap.size w _) := hB
  have HP : Hid (PBox _ w.heap.size p _ _ _) := pbox_new w p (.slice ai p.isr.length ci) (.slice ak p.kn.length ck) (.slice ar p.rs.length cr) 26
  have HR : Hid (RdP _ p _ _ _ us) := h.below (Nat.le_refl _) hB
  have HSZ : Hid (w.heap.size < _) := show w.heap.size < (w.alloc (.cells #[.int .i64 p.ep, .int .i64 p.ld, .slice ai p.isr.length ci, .slice ak p.kn.length ck, .slice ar p.rs.length cr, .int .i64 p.fw, .int .i64 p.bs] 26)).heap.size by simp
  have HS : Hid p.small := hs
  clear h hB hs
  go_enter Try.func49, Try.ntmps49
  go_wp2_with fail
  refine (partCheck_any p _ _ _ us _ HR.out HS.out).mono ?_
  rintro e w1 ⟨rfl, hb⟩
  have HB1 : Hid (Below w.heap.size w w1) := HB.out.trans (hb.mono HB.out.size)
  have HR1 : Hid (RdP w1 p _ _ _ us) := RdP.below HR.out (Nat.le_refl _) hb
  have HP1 : Hid (PBox w1 w.heap.size p _ _ _) := PBox.below HP.out HSZ.out hb
  have hw1 : w.heap.size < w1.heap.size := Nat.lt_of_lt_of_le HSZ.out hb.size
  obtain ⟨b0, b1, b2, b3, b4, b5, b6⟩ := HP1.out
  clear hb
  cases hm : p.mayB with
  | false =>
    have HE : Hid _ := readP_may hm fr ms
    rw [cfl_no hm]
    clear hm
    go_wp2
    exact bodyPost_ret (v := .tuple #[.slice none 0 0, .int .i64 0, .int .i64 12]) (by simp [results, Try.results49, go_sem]) rfl (by rw [HE.out]; exact ⟨_, rfl, ownS_nil _ _ HB1.out.size, HB1.out⟩)
  | true =>
    have HM : Hid (May p) := may_iff.1 hm
    have HMB : Hid (p.mayB = true) := hm
    rw [cfl_yes hm]
    clear hm
    by_cases h0 : p.ld < 0
    · have HE : Hid _ := readP_lead HMB.out h0 fr ms
      have d0 : (p.ld == -1) = true := by have := HM.out.ld; simp; omega
      clear h0
      go_wp2
      exact bodyPost_ret (v := .tuple #[.slice none 0 0, .int .i64 0, .int .i64 8]) (by simp [results, Try.results49, go_sem]) rfl (by rw [HE.out]; exact ⟨_, rfl, ownS_nil _ _ HB1.out.size, HB1.out⟩)
    · have h0' : 0 ≤ p.ld := by omega
      have HE : Hid _ := readP_ok HMB.out h0' fr ms
      have d0 : (p.ld == -1) = false := by simp; omega
      have hd : p.ld.toNat < p.rs.length := by have := HM.out.ld; omega
      have hd1 : p.ld < p.rs.length := by omega
      have HL : Hid (lft (p.at p.ld.toNat).l (p.at p.ld.toNat).y = 0) := show _ = _ from (HM.out.ok _ hd).1
      obtain ⟨g, off, rfl, -, y0, y1, y2, y3, y4⟩ := HR1.out.2.2.cells p.ld.toNat hd
      have HPL : Hid (Plain (p.at p.ld.toNat).es ∧ NoTx (p.at p.ld.toNat).es) := show _ ∧ _ from es_plain y0.1
      have HLL : Hid (((p.at p.ld.toNat).es.length : Int) ≤ 2199023255552) := show _ ≤ _ by have := may_es HM.out hd; omega
      have hgl : g < w1.heap.size := cell_lt y4
      clear y0 y1 y2 y3 h0
      go_wp2_with fail
      refine (entriesOf_int p p.ld _ _ _ us _ HR1.out h0' hd1 HL.out).mono ?_
      rintro e w2 ⟨v, rfl, hv, hb2⟩
      have HB2 : Hid (Below w.heap.size w w2) := HB1.out.trans (hb2.mono HB1.out.size)
      have HX2 : Hid (RdX w2 v _) := hv.rdX
      obtain ⟨ae, ce, rfl⟩ := hv.shape
      have y4' : w2.cell? ⟨g, off + p.ld.toNat * 4 + 3, none⟩ = some (.int .i64 (p.at p.ld.toNat).h) := (hb2.cell (p := ⟨g, off + p.ld.toNat * 4 + 3, none⟩) hgl).trans y4
      clear b0 b1 b2 b3 b4 b5 b6 hv y4
      obtain ⟨b0, b1, b2, b3, b4, b5, b6⟩ := PBox.below HP1.out hw1 hb2
      clear hb2
      go_wp2_with fail
      refine (read_c _ _ (p.at p.ld.toNat).h fr ms _ HLL.out HPL.out.1 HPL.out.2 HX2.out).mono ?_
      rintro e w3 ⟨u, rfl, hu, hb3⟩
      have HB3 : Hid (Below w.heap.size w w3) := HB2.out.trans (hb3.mono HB2.out.size)
      have HU : Hid _ := OwnS.mono hu HB2.out.size
      clear b0 b1 b2 b3 b4 b5 b6 hu hb3 y4'
      generalize rdA (p.at p.ld.toNat).es (p.at p.ld.toNat).h fr ms = RR at *
      go_wp2
      exact bodyPost_ret (v := .tuple #[u, .int .i64 RR.2.1, .int .i64 RR.2.2]) (by simp [results, Try.results49, go_sem]) rfl (by rw [HE.out]; exact ⟨_, rfl, HU.out, HB3.out⟩)
end

section
open Go.RowKit
set_option linter.unusedVariables false
set_option linter.unusedSimpArgs false

def dataE (e : Ent) : Prop := e.b = 0 ∧ e.k = 1 ∧ e.t = false
def DataA (A : Ap) : Prop := ∀ i, ∀ e ∈ A.es i, dataE e
theorem DataA.upd {A B : Ap} (h : DataA A) (r : Nat) (l : List Ent) (he : B.es = upd A.es r l) (hl : ∀ e ∈ l, dataE e) : DataA B := by
  intro i e hm
  rw [he] at hm
  by_cases ei : i = r
  · subst ei; rw [upd_same] at hm; exact hl e hm
  · rw [upd_other _ _ ei] at hm; exact h i e hm
theorem DataA.fetchA {A : Ap} (h : DataA A) (r d : Nat) : DataA (A.fetchA r d) := by
  have h1 : DataA (A.meet r d) := DataA.upd h r _ rfl (fun e he => h r e (List.mem_of_mem_take he))
  exact DataA.upd (A := (A.meet r d).raise) h1 r _ rfl (fun e he => h1 d e (List.mem_of_mem_take he))
def KeptD (p : Prt) (C : List Ent) : Prop := ∃ A : Ap, p = A.prt ∧ Fine A ∧ Inv A C ∧ DataA A
theorem KeptD.kept {p : Prt} {C : List Ent} (h : KeptD p C) : Kept p C := by
  obtain ⟨A, h1, h2, h3, _⟩ := h
  exact ⟨A, h1, h2, h3⟩
theorem KeptD.sync {p : Prt} {C : List Ent} (h : KeptD p C) {r : Nat} (hr : r < p.rs.length) (h0 : (p.syncP r).2 = 0) : ∃ C', Pre C C' ∧ KeptD (p.syncP r).1 C' := by
  obtain ⟨A, rfl, F, I, D⟩ := h
  have hr' : r < A.n := by rw [← (prt_len A).1]; exact hr
  rw [sync_prt F hr'] at h0 ⊢
  by_cases hu : A.up r = false
  · rw [if_pos hu] at h0; simp at h0
  · rw [if_neg hu]
    have FS := F.syncA r
    unfold Ap.syncA at FS ⊢
    by_cases hd : A.ld = some r
    · rw [if_pos hd] at FS ⊢
      obtain ⟨C', hp, hI⟩ := ((I.sync r hr').know (d := r) hd (by simp only [Ap.sync, upd_same])).raise
      exact ⟨C', hp, _, rfl, FS, hI, D⟩
    · rw [if_neg hd] at FS ⊢
      exact ⟨C, Pre.refl C, _, rfl, FS, I.sync r hr', D⟩
theorem KeptD.rise {p : Prt} {C : List Ent} (h : KeptD p C) {r : Nat} (hr : r < p.rs.length) (h0 : (p.riseP r).2 = 0) : ∃ C', Pre C C' ∧ KeptD (p.riseP r).1 C' := by
  obtain ⟨A, rfl, F, I, D⟩ := h
  have hr' : r < A.n := by rw [← (prt_len A).1]; exact hr
  rw [rise_prt F hr'] at h0 ⊢
  by_cases hu : A.up r = true
  · rw [if_pos hu] at h0; simp at h0
  · rw [if_neg hu]
    exact ⟨C, Pre.refl C, _, rfl, F.rise r, I.rise r, D⟩
theorem KeptD.wipe {p : Prt} {C : List Ent} (h : KeptD p C) {r : Nat} (hr : r < p.rs.length) (h0 : (p.wipeP r).2 = 0) : ∃ C', Pre C C' ∧ KeptD (p.wipeP r).1 C' := by
  obtain ⟨A, rfl, F, I, D⟩ := h
  have hr' : r < A.n := by rw [← (prt_len A).1]; exact hr
  rw [wipe_prt F hr'] at h0 ⊢
  by_cases hu : A.up r = true
  · rw [if_pos hu] at h0; simp at h0
  · rw [if_neg hu] at h0 ⊢
    have hu' : A.up r = false := by simpa using hu
    by_cases ho : A.prt.other r A.n = false
    · rw [if_pos ho] at h0; simp at h0
    · rw [if_neg ho]
      have ho' := (prt_other r A.n (Nat.le_refl _)).1 (by simpa using ho)
      exact ⟨C, Pre.refl C, _, rfl, F.wipe r hu' ho', I.wipe r hu', DataA.upd (A := A) (B := A.wipe r) D r [] rfl (by simp)⟩
theorem KeptD.elect {p : Prt} {C : List Ent} (h : KeptD p C) {r : Nat} (hr : r < p.rs.length) (h0 : (p.electP r).2 = 0) : ∃ C', Pre C C' ∧ KeptD (p.electP r).1 C' := by
  obtain ⟨A, rfl, F, I, D⟩ := h
  have hr' : r < A.n := by rw [← (prt_len A).1]; exact hr
  rw [elect_prt F hr'] at h0 ⊢
  by_cases hu : A.up r = false
  · rw [if_pos hu] at h0; simp at h0
  rw [if_neg hu] at h0 ⊢
  by_cases hi : A.isr r = false
  · rw [if_pos hi] at h0; simp at h0
  rw [if_neg hi] at h0 ⊢
  by_cases hd : A.ld = some r
  · rw [if_pos hd] at h0; simp at h0
  rw [if_neg hd] at h0 ⊢
  by_cases he : A.ep = 1073741824
  · rw [if_pos he] at h0; simp at h0
  rw [if_neg he]
  have e := F.epo
  have hu' : A.up r = true := by simpa using hu
  have hi' : A.isr r = true := by simpa using hi
  obtain ⟨C', hp, hI⟩ := (I.lead r hr' hi' hu').raise
  exact ⟨C', hp, _, rfl, (F.lead r hr' hi' hu' (by omega)).raise, hI, D⟩
theorem KeptD.shrink {p : Prt} {C : List Ent} (h : KeptD p C) {r : Nat} (hr : r < p.rs.length) (h0 : (p.shrinkP r).2 = 0) : ∃ C', Pre C C' ∧ KeptD (p.shrinkP r).1 C' := by
  obtain ⟨A, rfl, F, I, D⟩ := h
  have hr' : r < A.n := by rw [← (prt_len A).1]; exact hr
  rw [shrink_prt F hr'] at h0 ⊢
  by_cases h1 : A.ld = none ∨ A.ld = some r
  · rw [if_pos h1] at h0; simp at h0
  rw [if_neg h1] at h0 ⊢
  by_cases hi : A.isr r = false
  · rw [if_pos hi] at h0; simp at h0
  rw [if_neg hi]
  rcases ld_cases A with hd | ⟨d, hd⟩
  · exact absurd (.inl hd) h1
  · have hn : d ≠ r := fun e => h1 (.inr (by rw [← e]; exact hd))
    obtain ⟨C', hp, hI⟩ := (I.shrink r (fun e => h1 (.inr e))).raise
    exact ⟨C', hp, _, rfl, (F.shrink r hd hn).raise, hI, D⟩
theorem KeptD.expand {p : Prt} {C : List Ent} (h : KeptD p C) {r : Nat} (hr : r < p.rs.length) (h0 : (p.expandP r).2 = 0) : ∃ C', Pre C C' ∧ KeptD (p.expandP r).1 C' := by
  obtain ⟨A, rfl, F, I, D⟩ := h
  have hr' : r < A.n := by rw [← (prt_len A).1]; exact hr
  by_cases h1 : A.ld = none ∨ A.ld = some r
  · exfalso
    unfold Prt.expandP at h0
    rw [ofl_prt F hr', if_pos h1, if_pos (by simp)] at h0
    simp at h0
  rcases ld_cases A with hd | ⟨d, hd⟩
  · exact absurd (.inl hd) h1
  have hn : d ≠ r := fun e => h1 (.inr (by rw [← e]; exact hd))
  rw [expand_prt F hr' hd hn] at h0 ⊢
  by_cases h2 : A.isr r = true
  · rw [if_pos h2] at h0; simp at h0
  rw [if_neg h2] at h0 ⊢
  by_cases h3 : A.up r = false
  · rw [if_pos h3] at h0; simp at h0
  rw [if_neg h3] at h0 ⊢
  by_cases h4 : A.kn r < A.bs ∨ A.kn r < A.hi d
  · rw [if_pos h4] at h0; simp at h0
  rw [if_neg h4]
  exact ⟨C, Pre.refl C, _, rfl, F.expand r, I.expand hr' hd (by omega) (by omega), D⟩
theorem KeptD.crash {p : Prt} {C : List Ent} (h : KeptD p C) {r : Nat} (hr : r < p.rs.length) (k : Int) (hk : 0 ≤ k) (h0 : (p.crashP r k).2 = 0) : ∃ C', Pre C C' ∧ KeptD (p.crashP r k).1 C' := by
  obtain ⟨A, rfl, F, I, D⟩ := h
  have hr' : r < A.n := by rw [← (prt_len A).1]; exact hr
  obtain ⟨m, m1, m2, _, e⟩ := crash_prt F hr' k hk
  rw [e] at h0 ⊢
  by_cases hu : A.up r = false
  · rw [if_pos hu] at h0; simp at h0
  · rw [if_neg hu]
    exact ⟨C, Pre.refl C, _, rfl, F.crash r m m2, I.crash r m hr' m1 m2, DataA.upd (A := A) (B := A.crash r m) D r _ rfl (fun e he => D r e (List.mem_of_mem_take he))⟩
theorem KeptD.fetch {p : Prt} {C : List Ent} (h : KeptD p C) {r : Nat} (hr : r < p.rs.length) (h0 : (p.fetchP r).2.2 = 0) : ∃ C', Pre C C' ∧ KeptD (p.fetchP r).1 C' := by
  obtain ⟨A, rfl, F, I, D⟩ := h
  have hr' : r < A.n := by rw [← (prt_len A).1]; exact hr
  by_cases h1 : A.ld = none ∨ A.ld = some r
  · exfalso
    unfold Prt.fetchP at h0
    rw [fine_flt F hr', if_neg (by simp), if_pos] at h0
    · simp at h0
    · rcases h1 with h1 | h1
      · exact .inl ((ld_prt A).1.2 h1)
      · exact .inr (((ld_prt A).2.1 r).2 h1)
  rcases ld_cases A with hd | ⟨d, hd⟩
  · exact absurd (.inl hd) h1
  have hn : d ≠ r := fun e => h1 (.inr (by rw [← e]; exact hd))
  obtain ⟨hh, hcs⟩ := I.hh hr' hd
  rw [fetch_prt F hr' hd hn hh hcs] at h0 ⊢
  by_cases hu : A.up r = false
  · rw [if_pos hu] at h0; simp at h0
  · rw [if_neg hu]
    obtain ⟨C', hp, hI⟩ := I.fetchA hr' hd (Ne.symm hn)
    exact ⟨C', hp, _, rfl, F.fetchA hr' hd hh, hI, DataA.fetchA D r d⟩
theorem KeptD.put {p : Prt} {C : List Ent} (h : KeptD p C) (x : Ent) (hb : x.b = 0) (hx : (p.ent x).flt = 0) (hdx : dataE (p.ent x)) (h0 : (p.putP x).2.2 = 0) : ∃ C', Pre C C' ∧ KeptD (p.putP x).1 C' := by
  obtain ⟨A, rfl, F, I, D⟩ := h
  rw [put_prt F x hb hx] at h0 ⊢
  rcases ld_cases A with hd | ⟨d, hd⟩
  · rw [hd] at h0; simp at h0
  · rw [hd] at h0 ⊢
    simp only at h0 ⊢
    by_cases h1 : A.ups A.n < A.fw
    · rw [if_pos h1] at h0; simp at h0
    rw [if_neg h1] at h0 ⊢
    by_cases h2 : (A.es d).length = 400
    · rw [if_pos h2] at h0; simp at h0
    rw [if_neg h2]
    obtain ⟨q1, q2, q3⟩ := F.led d hd
    have hl := (F.ent d q1).2
    exact ⟨C, Pre.refl C, _, rfl, F.put d _ hx (by omega), I.put hd _ rfl, DataA.upd (A := A) (B := A.put d _) D d _ rfl (fun e he => by rcases List.mem_append.1 he with h | h; exact D d e h; rw [List.mem_singleton] at h; rw [h]; exact hdx)⟩
theorem keptD_new {n few : Nat} (h1 : 1 ≤ n) (h2 : n ≤ 5) (h3 : 1 ≤ few) (h4 : few ≤ n) : (newP n few).2 = 0 ∧ KeptD (newP n few).1 [] := by
  have hin : (inR (n : Int) 1 5 && inR (few : Int) 1 n) = true := by unfold inR; simp; omega
  unfold newP
  rw [if_pos hin, Int.toNat_natCast]
  refine ⟨rfl, ⟨n, 0, none, 0, few, fun _ => true, fun _ => 0, fun _ => true, fun _ => [], fun _ => 0, fun _ => 0⟩, ?_, ?_, inv_new n few, fun i e he => by cases he⟩
  · unfold Ap.prt
    have e1 : ∀ {α : Type} (x : α), List.replicate n x = (List.range n).map (fun _ => x) := fun x => by
      apply List.ext_getElem
      · simp
      · intro i h1 h2; simp
    rw [e1 true, e1 (0 : Int), e1 (⟨true, [], 0, 0⟩ : Rep)]
    rfl
  · exact ⟨⟨h1, h2⟩, ⟨h3, h4⟩, ⟨Int.le_refl _, by show (0 : Int) ≤ _; omega⟩, Nat.zero_le _, fun i hi => Nat.zero_le _, fun i hi => ⟨fun e he => by simp at he, by simp⟩, fun i hi => Nat.le_refl _, fun i hi => Nat.le_refl _, (fun d hd => by cases hd), ⟨0, h1, rfl⟩⟩
theorem stepR_keptD {p : Prt} {C : List Ent} {n : Nat} (hard : Bool) (r : Raw4) (s : Int) (h : KeptD p C) (hn : p.rs.length = n) (h0 : 0 < n) (he : (stepR n hard r p s).2 = 0) : (∃ C', Pre C C' ∧ KeptD (stepR n hard r p s).1 C') ∧ (stepR n hard r p s).1.rs.length = n := by
  obtain ⟨b0, b1⟩ := pick_bd r.a (n : Int) (by omega)
  obtain ⟨i, hi⟩ := Int.eq_ofNat_of_zero_le b0
  obtain ⟨c0, c1⟩ := pick_bd r.b 30 (by omega)
  have hin : i < p.rs.length := by omega
  unfold stepR at he ⊢
  rw [hi] at he ⊢
  by_cases k1 : pick r.k 16 < 5
  · rw [if_pos k1] at he ⊢
    have hm : (p.ent (putE s)).flt = 0 := by
      obtain ⟨A, rfl, F, _⟩ := h
      exact putE_ok _ s F.epo.1 F.epo.2
    exact ⟨h.put _ rfl hm ⟨rfl, rfl, rfl⟩ he, (put_rs he).trans hn⟩
  rw [if_neg k1] at he ⊢
  by_cases k2 : pick r.k 16 < 9
  · rw [if_pos k2] at he ⊢
    exact ⟨h.fetch hin he, (fetch_rs he).trans hn⟩
  rw [if_neg k2] at he ⊢
  by_cases k3 : pick r.k 16 < 12 ∨ hard = false
  · rw [if_pos k3] at he ⊢
    exact ⟨h.sync hin he, (sync_rs he).trans hn⟩
  rw [if_neg k3] at he ⊢
  by_cases k4 : pick r.k 16 = 12
  · rw [if_pos k4] at he ⊢
    exact ⟨h.crash hin _ c0 he, (crash_rs he).trans hn⟩
  rw [if_neg k4] at he ⊢
  by_cases k5 : pick r.k 16 = 13
  · rw [if_pos k5] at he ⊢
    exact ⟨h.rise hin he, (rise_rs he).trans hn⟩
  rw [if_neg k5] at he ⊢
  by_cases k6 : pick r.k 16 = 14
  · rw [if_pos k6] at he ⊢
    exact ⟨h.elect hin he, (elect_rs he).trans hn⟩
  rw [if_neg k6] at he ⊢
  by_cases k7 : pick r.c 3 = 0
  · rw [if_pos k7] at he ⊢
    exact ⟨h.wipe hin he, (wipe_rs he).trans hn⟩
  rw [if_neg k7] at he ⊢
  by_cases k8 : pick r.c 3 = 1
  · rw [if_pos k8] at he ⊢
    exact ⟨h.shrink hin he, (shrink_rs he).trans hn⟩
  rw [if_neg k8] at he ⊢
  exact ⟨h.expand hin he, (expand_rs he).trans hn⟩
theorem step_keptD {p : Prt} {C : List Ent} {n : Nat} (hard : Bool) (r : Raw4) (s : Int) (h : KeptD p C) (hn : p.rs.length = n) (h0 : 0 < n) : (∃ C', Pre C C' ∧ KeptD (stepP n hard r p s) C') ∧ (stepP n hard r p s).rs.length = n := by
  unfold stepP orP
  by_cases he : (stepR n hard r p s).2 = 0
  · rw [if_pos he]
    exact stepR_keptD hard r s h hn h0 he
  · rw [if_neg he]
    exact ⟨⟨C, Pre.refl C, h⟩, hn⟩

theorem foldD {n : Nat} (hard : Bool) (rs : List Raw4) (h0 : 0 < n) : ∀ (a : Pl) (C : List Ent), KeptD a.p C → a.p.rs.length = n → ∃ C', Pre C C' ∧ KeptD (rs.foldl (plS n hard) a).p C' ∧ (rs.foldl (plS n hard) a).p.rs.length = n := by
  induction rs with
  | nil => intro a C h hn; exact ⟨C, Pre.refl C, h, hn⟩
  | cons r rs ih =>
    intro a C h hn
    obtain ⟨⟨C1, hp, hk⟩, hl⟩ := step_keptD hard r a.s h hn h0
    obtain ⟨C2, hp2, hk2, hl2⟩ := ih (plS n hard a r) C1 hk hl
    exact ⟨C2, Pre.trans hp hp2, hk2, hl2⟩
/-- The first plays, and all of them. -/
theorem playD {n few : Nat} (hard : Bool) (rs ss : List Raw4) (h1 : 1 ≤ n) (h2 : n ≤ 5) (h3 : 1 ≤ few) (h4 : few ≤ n) : ∃ C C', Pre C C' ∧ KeptD (plL n few hard rs).p C ∧ KeptD (plL n few hard (rs ++ ss)).p C' := by
  obtain ⟨_, k⟩ := keptD_new h1 h2 h3 h4
  obtain ⟨_, hz, hn, _⟩ := new_elect h1 h2 h3 h4
  obtain ⟨C0, _, k0⟩ := k.elect (r := 0) (by omega) hz
  have l0 : (pl0 (n : Int) few).p.rs.length = n := (elect_rs hz).trans hn
  obtain ⟨C1, p1, k1, l1⟩ := foldD hard rs (by omega) (pl0 n few) C0 k0 l0
  obtain ⟨C2, p2, k2, _⟩ := foldD hard ss (by omega) _ C1 k1 l1
  exact ⟨C1, C2, p2, k1, by unfold plL; rw [List.foldl_append]; exact k2⟩
theorem KeptD.es {p : Prt} {C : List Ent} (h : KeptD p C) {i : Nat} (hi : i < p.rs.length) : ∀ e ∈ (p.at i).es, dataE e := by
  obtain ⟨A, rfl, F, I, D⟩ := h
  have hi' : i < A.n := by rw [← (prt_len A).1]; exact hi
  rw [prt_at A i hi', (rep_es F hi').1]
  exact D i
theorem at_mem {es : List Ent} {i : Nat} (h : i < es.length) : Ent.at es i ∈ es := by
  rw [at_get h]; exact List.getElem_mem h
theorem rdF_data {es : List Ent} (hd : ∀ e ∈ es, dataE e) {h : Nat} (hh : h ≤ es.length) : ∀ (f i m : Nat), h ≤ i + f → (rdF es h h f i m).1 = (((es.take h).drop i).map (·.s)).take m := by
  intro f
  induction f with
  | zero =>
    intro i m hf
    rw [List.drop_eq_nil_of_le (by rw [List.length_take]; omega)]
    simp [rdF]
  | succ f ih =>
    intro i m hf
    simp only [rdF]
    by_cases hs : h ≤ i ∨ m = 0
    · rw [if_pos hs]
      rcases hs with hs | hs
      · rw [List.drop_eq_nil_of_le (by rw [List.length_take]; omega)]
        simp
      · subst hs; simp
    · rw [if_neg hs]
      have hi : i < es.length := by omega
      obtain ⟨_, d2, d3⟩ := hd _ (at_mem hi)
      have hseen : seen es h i = true := by
        unfold seen
        rw [if_neg (by rw [d2]; simp), if_pos d3]
      rw [if_pos hseen]
      have hdr : (es.take h).drop i = (Ent.at es i) :: (es.take h).drop (i + 1) := by
        rw [List.drop_eq_getElem_cons (by rw [List.length_take]; omega)]
        congr 1
        rw [at_get hi, List.getElem_take]
      obtain ⟨m', rfl⟩ : ∃ m', m = m' + 1 := ⟨m - 1, by omega⟩
      rw [hdr, List.map_cons, List.take_succ_cons]
      simp only
      rw [ih (i + 1) (m' + 1 - 1) (by omega)]
      simp
theorem stb_data {es : List Ent} (hd : ∀ e ∈ es, dataE e) {h : Nat} (hh : h ≤ es.length) : stb es h = h := by
  unfold stb
  rw [if_pos]
  rw [scan_none]
  intro j _ hj hb
  have := (hd _ (at_mem (show j < es.length by omega))).1
  have := hb.1
  omega
theorem rdA_data {es : List Ent} (hd : ∀ e ∈ es, dataE e) {h : Nat} (hh : h ≤ es.length) : ∃ at_, rdA es h 0 20 = ((((es.take h).map (·.s)).take 20), at_, 0) := by
  have e1 : (stf es (h : Int)).2 = 0 := by unfold stf; rw [if_neg (by omega)]
  unfold rdA
  rw [e1, if_neg (by simp), if_neg (by omega)]
  refine ⟨((rdF es h h es.length 0 20).2 : Int), ?_⟩
  rw [Int.toNat_natCast, stb_data hd hh]
  have := rdF_data hd hh es.length 0 20 (by omega)
  rw [List.drop_zero] at this
  have e0 : (0 : Int).toNat = 0 := rfl
  have e20 : (20 : Int).toNat = 20 := rfl
  rw [e0, e20]
  exact Prod.ext this rfl
/-- What is read of a part, by what was ever kept. -/
theorem read_data {p : Prt} {C D : List Ent} (h : KeptD p C) (hp : Pre C D) : (p.readP 0 20 = ([], 0, 8)) ∨ ∃ k at_, p.readP 0 20 = ((((D.take k).map (·.s)).take 20), at_, 0) := by
  have hm := h.kept.may
  by_cases hl : p.ld < 0
  · left; exact readP_lead hm hl 0 20
  · right
    obtain ⟨hlt, _⟩ := h.kept.lead (by omega)
    obtain ⟨k, k1, k2, k3⟩ := h.kept.high hlt
    obtain ⟨at_, e⟩ := rdA_data (h.es hlt) k2
    refine ⟨k, at_, ?_⟩
    rw [readP_ok hm (by omega), k1, e]
    have h1 : Pre ((p.at p.ld.toNat).es.take k) D := Pre.trans k3 hp
    have h2 : (p.at p.ld.toNat).es.take k = D.take k := by
      have := h1
      unfold Pre at this
      rw [List.length_take, Nat.min_eq_left k2] at this
      exact this
    rw [h2]
theorem takeD_two {α : Type} (L : List α) (i j : Nat) (h : ¬ (L.take j).length < (L.take i).length) : L.take i = (L.take j).take (L.take i).length := by
  rw [List.take_take]
  simp only [List.length_take] at h ⊢
  by_cases hi : i ≤ L.length
  · rw [show min (min i L.length) j = i by omega]
  · rw [List.take_of_length_le (by omega), List.take_of_length_le (by omega)]
/-- Two readings of one list: each begins the other one. -/
theorem read_two {D : List Ent} (i j : Nat) : (¬ ((((D.take j).map (·.s)).take 20).length < (((D.take i).map (·.s)).take 20).length) → ((D.take i).map (·.s)).take 20 = (((D.take j).map (·.s)).take 20).take (((D.take i).map (·.s)).take 20).length) := by
  have e : ∀ i, ((D.take i).map (·.s)).take 20 = (D.map (·.s)).take (min i 20) := fun i => by
    rw [List.map_take, List.take_take, Nat.min_comm]
  intro h
  rw [e i, e j] at h ⊢
  exact takeD_two _ _ _ h
end

end Go.Proofs.Ytkolelpdedmkeaa
