/-
  The walks of the laws ViewStable, ViewChecks and ViewReads, given what package view answers.
  The walk of the law ViewChecks, given what view.Check answers.
-/
import Derived.Test.YtdpiijndnefahaaAapp
import Derived.Test.YtdpiijndnefahaaAread
import Derived.Test.YtdpiijndnefahaaLsameE
import Derived.Deep.RegionHeld3
import Derived.Deep.DeepCutAuto
namespace Go.Proofs.Ytdpiijndnefahaa

section
open Go.RowKit
set_option linter.unusedVariables false
set_option linter.unusedSimpArgs false

/-- view.Stable answers what P3.4 says. -/
def StableC : Prop := ∀ (es : List Ent) (v : Value) (h : Int) (w : World), (es.length : Int) ≤ 2199023255552 → Plain es → RdX w v es →
    Calls Try.prog 16 #[v, .int .i64 h] w fun e w' => e = .returned (.tuple #[.int .i64 (stf es h).1, .int .i64 (stf es h).2]) ∧ Below w.heap.size w w'

/-- view.Check answers what P3.3 says. -/
def CheckC : Prop := ∀ (es : List Ent) (v : Value) (x : Ent) (w : World), (es.length : Int) ≤ 2199023255552 → Plain es → Plain [x] → RdX w v es →
    Calls Try.prog 13 #[v, .agg #[.int .i64 x.a, .int .i64 x.b, .int .i64 x.c, .int .i64 x.d, .int .i64 x.k, .bool x.t, .string x.s]] w fun e w' => e = .returned (.tuple #[.int .i64 (chk es x).1, .int .i64 (chk es x).2]) ∧ Below w.heap.size w w'

/-- view.Read answers what P3.5 says, where nobody's entries are of no transaction. -/
def ReadC : Prop := ∀ (es : List Ent) (v : Value) (h fr ms : Int) (w : World), (es.length : Int) ≤ 2199023255552 → Plain es → NoTx es → RdX w v es →
    Calls Try.prog 18 #[v, .int .i64 h, .int .i64 fr, .int .i64 ms] w fun e w' => ∃ u, e = .returned (.tuple #[u, .int .i64 (rdA es h fr ms).2.1, .int .i64 (rdA es h fr ms).2.2]) ∧ OwnS w.heap.size u (rdA es h fr ms).1 w' ∧ Below w.heap.size w w'

set_option maxRecDepth 100000 in
set_option maxHeartbeats 1000000 in
theorem viewStable_core (HV : StableC) (es : List Ent) (v : Value) (h : Int) (w : World) (hl : (es.length : Int) ≤ 2199023255552) (hr : RdX w v es) :
    Calls Try.prog 4 #[v, .int .i64 h] w fun e w' => e = .returned (.bool true) ∧ Below w.heap.size w w' := by
  have HR : Hid (RdX w v es) := hr
  have HVV : Hid StableC := HV
  clear hr HV
  go_enter Try.func4, Try.ntmps4
  go_wp2_with fail
  refine (plain_any es _ _ hl HR.out).mono ?_
  rintro e w1 ⟨⟨hp, rfl⟩ | ⟨hp, rfl⟩, rfl⟩
  · have HPL : Hid (Plain es) := hp
    clear hp
    go_wp2_with fail
    refine (entriesCopy_any es _ _ (by omega) HR.out).mono ?_
    rintro e w2 ⟨u, rfl, hu, hb2⟩
    go_wp2_with fail
    refine (HVV.out es _ h _ hl HPL.out hu.rdX).mono ?_
    rintro e w3 ⟨rfl, hb3⟩
    have B3 := bstep hb2 hb3
    have hR3 := RdX.below HR.out (Nat.le_refl _) B3
    clear hb2 hb3 hu HVV
    go_wp2_with fail
    refine (stableOf_any es _ h _ hl hR3).mono ?_
    rintro e w4 ⟨rfl, hb4⟩
    have B4 := bstep B3 hb4
    have e1 : ((stf es h).1 == (stf es h).1) = true := by simp
    have e2 : ((stf es h).2 == (stf es h).2) = true := by simp
    clear hb4 B3 hR3 HR
    go_wp2
    go_ret
    exact ⟨rfl, B4⟩
  · go_wp2
    go_ret
    exact ⟨rfl, Below.refl _ _⟩

theorem rdF_len (es : List Ent) (h fin f i m : Nat) : (rdF es h fin f i m).1.length ≤ m := by
  induction f generalizing i m with
  | zero => simp [rdF]
  | succ f ih =>
    simp only [rdF]
    split
    · simp
    · split
      · have := ih (i + 1) (m - 1)
        simp only [List.length_cons]
        omega
      · exact ih (i + 1) m
theorem rdA_len (es : List Ent) (h fr ms : Int) : (rdA es h fr ms).1.length ≤ 20 := by
  unfold rdA
  split
  · simp
  · split
    · simp
    · have := rdF_len es h.toNat (stb es h.toNat) es.length fr.toNat ms.toNat
      simp only
      omega

set_option maxRecDepth 100000 in
set_option maxHeartbeats 1000000 in
theorem sameX_some (es : List Ent) (g1 o1 c1 g2 o2 c2 : Nat) (w : World) (hl : (es.length : Int) ≤ 2199023255552)
    (h1 : ∀ i, (h : i < es.length) → ∀ j, j < 7 → w.cell? ⟨g1, o1 + i * 7 + j, none⟩ = (es[i]'h).cells[j]?) (h2 : ∀ i, (h : i < es.length) → ∀ j, j < 7 → w.cell? ⟨g2, o2 + i * 7 + j, none⟩ = (es[i]'h).cells[j]?) :
    Calls Try.prog 15 #[.slice (some ⟨g1, o1, none⟩) es.length c1, .slice (some ⟨g2, o2, none⟩) es.length c2] w fun e w' => e = .returned (.bool true) ∧ Below w.heap.size w w' := by
  have hne : ((es.length : Int) != es.length) = false := by simp
  go_enter Try.func15, Try.ntmps15
  go_wp2
  go_loopw [5] (fun i wr => ∃ k : Nat, k ≤ es.length ∧ i = .int .i64 k ∧ ∃ q, wr = w.drewN q) (fun i _ => es.length - (intOf i).toNat)
  case atStart => exact ⟨0, by omega, rfl, 0, rfl⟩
  case round =>
    obtain ⟨k, hk, rfl, q, rfl⟩ := hrel
    by_cases hlt : k < es.length
    · have A := seven (h1 k hlt)
      have B := seven (h2 k hlt)
      obtain ⟨a0, a1, a2, a3, a4, a5, a6⟩ := A
      obtain ⟨b0, b1, b2, b3, b4, b5, b6⟩ := B
      clear h1 h2
      generalize es[k] = e at *
      go_wp2
      go_quiet (fail)
      go_wp2
      go_roundw
      case rel => exact ⟨k + 1, by omega, by go_num, q + nq, rfl⟩
      case measure => simp [intOf]; omega
    · clear h1 h2
      go_wp2
      go_ret
      exact ⟨rfl, below_drewN (Below.refl _ _) _⟩
theorem sameX_any (es : List Ent) (v u : Value) (w : World) (hl : (es.length : Int) ≤ 2199023255552) (h1 : RdX w v es) (h2 : RdX w u es) :
    Calls Try.prog 15 #[v, u] w fun e w' => e = .returned (.bool true) ∧ Below w.heap.size w w' := by
  obtain ⟨a1, c1, rfl, _, _, _, h1⟩ := h1
  obtain ⟨a2, c2, rfl, _, _, _, h2⟩ := h2
  by_cases h0 : 0 < es.length
  · obtain ⟨g1, o1, rfl, h1'⟩ := h1 h0
    obtain ⟨g2, o2, rfl, h2'⟩ := h2 h0
    exact sameX_some es g1 o1 c1 g2 o2 c2 w hl h1' h2'
  · have hl : es = [] := List.eq_nil_of_length_eq_zero (by omega)
    subst hl
    exact sameEntries_none a1 a2 c1 c2 w
end

section
open Go.RowKit
set_option linter.unusedVariables false
set_option linter.unusedSimpArgs false

/-- Seven cells that hold an entry. -/
def Seven (w : World) (g : Nat) (x : Ent) : Prop := w.cell? ⟨g, 0, none⟩ = some (.int .i64 x.a) ∧ w.cell? ⟨g, 1, none⟩ = some (.int .i64 x.b) ∧ w.cell? ⟨g, 2, none⟩ = some (.int .i64 x.c) ∧ w.cell? ⟨g, 3, none⟩ = some (.int .i64 x.d) ∧ w.cell? ⟨g, 4, none⟩ = some (.int .i64 x.k) ∧ w.cell? ⟨g, 5, none⟩ = some (.bool x.t) ∧ w.cell? ⟨g, 6, none⟩ = some (.string x.s)
theorem Seven.below {w w' : World} {g C : Nat} {x : Ent} (h : Seven w g x) (hg : g < C) (hb : Below C w w') : Seven w' g x := by
  obtain ⟨a0, a1, a2, a3, a4, a5, a6⟩ := h
  exact ⟨(hb.cell (p := ⟨g, 0, none⟩) hg).trans a0, (hb.cell (p := ⟨g, 1, none⟩) hg).trans a1, (hb.cell (p := ⟨g, 2, none⟩) hg).trans a2, (hb.cell (p := ⟨g, 3, none⟩) hg).trans a3, (hb.cell (p := ⟨g, 4, none⟩) hg).trans a4, (hb.cell (p := ⟨g, 5, none⟩) hg).trans a5, (hb.cell (p := ⟨g, 6, none⟩) hg).trans a6⟩
theorem seven_new (w : World) (x : Ent) (T : TypeId) (g : Nat) (hg : g = w.heap.size) : Seven (w.alloc (.cells #[.int .i64 x.a, .int .i64 x.b, .int .i64 x.c, .int .i64 x.d, .int .i64 x.k, .bool x.t, .string x.s] T)) g x := by
  subst hg
  exact ⟨by simp, by simp, by simp, by simp, by simp, by simp, by simp⟩

theorem seven_old {w w1 w2 w3 : World} {x : Ent} {T : TypeId} (h1 : Below (w.heap.size + 1) (w.alloc (.cells #[.int .i64 x.a, .int .i64 x.b, .int .i64 x.c, .int .i64 x.d, .int .i64 x.k, .bool x.t, .string x.s] T)) w1) (h2 : Below w1.heap.size w1 w2) (h3 : Below w2.heap.size w2 w3) : Seven w3 w.heap.size x := by
  have s1 := h1.size
  have s2 := h2.size
  simp only [World.size_alloc] at s1
  exact ((seven_new w x T _ rfl).below (Nat.lt_succ_self _) ((h1.trans (h2.mono s1)).trans (h3.mono (Nat.le_trans s1 s2))))

section
variable {w : World} {ops : Array Oper} {o : Oper} {a : Act} {K : Act → World → Prop} {Q : Exit → Act → World → Prop} {E : Prop}
/-- An entry more, as one step of a region that draws its order. -/
theorem step_appV (hw : Region.wanted o (yielded ops a.tmps) = true) (s x : Operand)
    (ho : o.op = .call { callee := .builtin .append, args := #[s, x], argTypes := #[22, 22] })
    (B : Nat) (v : Value) (es : List Ent) (hs : a.eval s = v) (e : Ent) (hown : OwnE B v es w) (g : Nat) (hx : a.eval x = .slice (some ⟨g, 0, none⟩) 1 1)
    (hc : Seven w g e) (hlen : es.length + 1 ≤ 2199023255552)
    (h : ∀ v' w', OwnE B v' (es ++ [e]) w' → Below B w w' → K (a.put o.dst v') w') :
    if Region.wanted o (yielded ops a.tmps) = true then Oper.wp Try.prog o a w K Q else E := by
  rw [if_pos hw]
  obtain ⟨i, hi, hz0, hz1, hz2⟩ := info_parts infoEntry
  obtain ⟨c0, c1, c2, c3, c4, c5, c6⟩ := hc
  refine wp_append_own w s x _ ho B _ i zeroE.val 7 64 Try.underlying22 hi hz0 hz1 hz2 rfl (by decide) v _ _ hs hown.1 ⟨g, 0, none⟩ 1 1 e.cells hx rfl ?_ ?_ (by unfold maxLen; omega) (by omega) hown.2 ?_
  · intro j u hj
    have hj' : j < 7 := by
      have := (List.getElem?_eq_some_iff.1 hj).1
      simpa [Ent.cells] using this
    rw [Addr.add_lit, Nat.zero_add]
    rcases (show j = 0 ∨ j = 1 ∨ j = 2 ∨ j = 3 ∨ j = 4 ∨ j = 5 ∨ j = 6 from by omega) with rfl | rfl | rfl | rfl | rfl | rfl | rfl <;> (simp [Ent.cells] at hj; subst hj; assumption)
  · intro u hu
    simp [Ent.cells] at hu
    rcases hu with rfl | rfl | rfl | rfl | rfl | rfl | rfl <;> rfl
  · intro v' w' ho' hg _
    refine h v' w' ⟨by simpa [List.flatMap_append] using ho', Nat.le_trans hown.2 hg.size⟩ ?_
    exact (Below.refl B w).grown hg hown.2 (fun k hk => (hown.1.lt k hk).1)
end

set_option maxRecDepth 100000 in
set_option maxHeartbeats 2000000 in
theorem viewChecks_core (HV : CheckC) (es : List Ent) (v : Value) (x : Ent) (w : World) (hl : (es.length : Int) + 1 ≤ 2199023255552) (hr : RdX w v es) :
    Calls Try.prog 3 #[v, .agg #[.int .i64 x.a, .int .i64 x.b, .int .i64 x.c, .int .i64 x.d, .int .i64 x.k, .bool x.t, .string x.s]] w fun e w' => e = .returned (.bool true) ∧ Below w.heap.size w w' := by
  have HVV : Hid CheckC := HV
  have HR : Hid (RdX (w.alloc (.cells #[.int .i64 x.a, .int .i64 x.b, .int .i64 x.c, .int .i64 x.d, .int .i64 x.k, .bool x.t, .string x.s] 24)) v es) := hr.below (Nat.le_refl _) (bbox _ _)
  have HS0 : Hid (Seven (w.alloc (.cells #[.int .i64 x.a, .int .i64 x.b, .int .i64 x.c, .int .i64 x.d, .int .i64 x.k, .bool x.t, .string x.s] 24)) w.heap.size x) := seven_new w x _ _ rfl
  have HB0 : Hid (Below w.heap.size w (w.alloc (.cells #[.int .i64 x.a, .int .i64 x.b, .int .i64 x.c, .int .i64 x.d, .int .i64 x.k, .bool x.t, .string x.s] 24))) := bbox _ _
  have HPL : Hid (∀ W u, RdX W u (es ++ [x]) → _) := fun W u h => plain_any (es ++ [x]) u W (by simp; omega) h
  have hs0 : (w.alloc (.cells #[.int .i64 x.a, .int .i64 x.b, .int .i64 x.c, .int .i64 x.d, .int .i64 x.k, .bool x.t, .string x.s] 24)).heap.size = w.heap.size + 1 := by simp
  have HLL : Hid ((es.length : Int) + 1 ≤ 2199023255552) := hl
  clear hr HV hl
  go_enter Try.func3, Try.ntmps3
  go_wp2_with fail
  generalize hW0 : w.alloc (.cells #[.int .i64 x.a, .int .i64 x.b, .int .i64 x.c, .int .i64 x.d, .int .i64 x.k, .bool x.t, .string x.s] 24) = W0 at *
  clear hW0 hs0
  obtain ⟨x0, x1, x2, x3, x4, x5, x6⟩ := HS0.out
  have hx0 := cell_lt x0
  have hxn := Nat.ne_of_lt hx0
  go_cut [16] (fun b W => ((Plain (es ++ [x]) ∧ b = .bool false) ∨ (¬ Plain (es ++ [x]) ∧ b = .bool true)) ∧ Below W0.heap.size W0 W)
  case first =>
    clear HVV
    by_cases hp : Plain (es ++ [x])
    · go_region_held3 (fun W => W.cell? ⟨w.heap.size, 0, none⟩ = some (.int .i64 x.a) ∧ W.cell? ⟨w.heap.size, 1, none⟩ = some (.int .i64 x.b) ∧ W.cell? ⟨w.heap.size, 2, none⟩ = some (.int .i64 x.c) ∧ W.cell? ⟨w.heap.size, 3, none⟩ = some (.int .i64 x.d) ∧ W.cell? ⟨w.heap.size, 4, none⟩ = some (.int .i64 x.k) ∧ W.cell? ⟨w.heap.size, 5, none⟩ = some (.bool x.t) ∧ W.cell? ⟨w.heap.size, 6, none⟩ = some (.string x.s)) (first | exact ⟨by assumption, by assumption, by assumption, by assumption, by assumption, by assumption, by assumption⟩ | go_keep) (first | (go_at_call 12; (refine (entriesCopy_any es _ _ (by have := HLL.out; omega) (RdX.below HR.out (Nat.le_refl _) (by repeat (first | exact Below.refl _ _ | refine Below.drew ?_ | refine Below.alloc ?_ (by simp) _)))).mono ?_; rintro e w2 ⟨u, rfl, hu, hb2⟩; (have hB2 : Below W0.heap.size W0 w2 := bstep (by repeat (first | exact Below.refl _ _ | refine Below.drew ?_ | refine Below.alloc ?_ (by simp) _)) hb2); obtain ⟨s0, s1, s2, s3, s4, s5, s6⟩ := Seven.below HS0.out hx0 hB2)) | (go_at_call 11; (refine (HPL.out _ _ (RdX.below hv3.rdX (Nat.le_refl _) (by repeat (first | exact Below.refl _ _ | refine Below.drew ?_ | refine Below.alloc ?_ (by simp) _)))).mono ?_; rintro e w4 ⟨hpl, rfl⟩; (obtain rfl : e = .returned (.bool true) := by (rcases hpl with ⟨h1, h2⟩ | ⟨h1, h2⟩; (· exact h2); (· exact absurd hp h1))))) | (refine step_appV (by rfl) _ _ rfl _ _ es rfl x (OwnE.below hu (Nat.le_refl _) (by repeat (first | exact Below.refl _ _ | refine Below.drew ?_ | refine Below.alloc ?_ (by simp) _))) _ rfl (Seven.below (C := w2.heap.size + 1) (seven_new w2 x 24 _ rfl) (Nat.lt_succ_self _) (by repeat (first | exact Below.refl _ _ | refine Below.drew ?_ | refine Below.alloc ?_ (by simp) _))) (by have := HLL.out; omega) ?_; intro v3 w3 hv3 hb3; (have hB3 : Below W0.heap.size W0 w3 := (bstep hB2 (by repeat (first | exact Below.refl _ _ | refine Below.drew ?_ | refine Below.alloc ?_ (by simp) _))).trans (hb3.mono (by simp))); obtain ⟨y0, y1, y2, y3, y4, y5, y6⟩ := Seven.below HS0.out hx0 hB3) | (refine step_appV (by rfl) _ _ rfl _ _ es rfl x (OwnE.below hu (Nat.le_refl _) (by repeat (first | exact Below.refl _ _ | refine Below.drew ?_ | refine Below.alloc ?_ (by simp) _))) _ rfl (seven_old (T := 24) (by repeat (first | exact Below.refl _ _ | refine Below.drew ?_ | refine Below.alloc ?_ (by simp) _)) hb2 (by repeat (first | exact Below.refl _ _ | refine Below.drew ?_ | refine Below.alloc ?_ (by simp) _))) (by have := HLL.out; omega) ?_; intro v3 w3 hv3 hb3; (have hB3 : Below W0.heap.size W0 w3 := (bstep hB2 (by repeat (first | exact Below.refl _ _ | refine Below.drew ?_ | refine Below.alloc ?_ (by simp) _))).trans (hb3.mono (by simp))); obtain ⟨y0, y1, y2, y3, y4, y5, y6⟩ := Seven.below HS0.out hx0 hB3))
      all_goals
        (try go_wp2_with fail)
        go_meet
      all_goals
        exact ⟨.inl ⟨hp, rfl⟩, hB3⟩
    · go_region_held3 (fun W => W.cell? ⟨w.heap.size, 0, none⟩ = some (.int .i64 x.a) ∧ W.cell? ⟨w.heap.size, 1, none⟩ = some (.int .i64 x.b) ∧ W.cell? ⟨w.heap.size, 2, none⟩ = some (.int .i64 x.c) ∧ W.cell? ⟨w.heap.size, 3, none⟩ = some (.int .i64 x.d) ∧ W.cell? ⟨w.heap.size, 4, none⟩ = some (.int .i64 x.k) ∧ W.cell? ⟨w.heap.size, 5, none⟩ = some (.bool x.t) ∧ W.cell? ⟨w.heap.size, 6, none⟩ = some (.string x.s)) (first | exact ⟨by assumption, by assumption, by assumption, by assumption, by assumption, by assumption, by assumption⟩ | go_keep) (first | (go_at_call 12; (refine (entriesCopy_any es _ _ (by have := HLL.out; omega) (RdX.below HR.out (Nat.le_refl _) (by repeat (first | exact Below.refl _ _ | refine Below.drew ?_ | refine Below.alloc ?_ (by simp) _)))).mono ?_; rintro e w2 ⟨u, rfl, hu, hb2⟩; (have hB2 : Below W0.heap.size W0 w2 := bstep (by repeat (first | exact Below.refl _ _ | refine Below.drew ?_ | refine Below.alloc ?_ (by simp) _)) hb2); obtain ⟨s0, s1, s2, s3, s4, s5, s6⟩ := Seven.below HS0.out hx0 hB2)) | (go_at_call 11; (refine (HPL.out _ _ (RdX.below hv3.rdX (Nat.le_refl _) (by repeat (first | exact Below.refl _ _ | refine Below.drew ?_ | refine Below.alloc ?_ (by simp) _)))).mono ?_; rintro e w4 ⟨hpl, rfl⟩; (obtain rfl : e = .returned (.bool false) := by (rcases hpl with ⟨h1, h2⟩ | ⟨h1, h2⟩; (· exact absurd h1 hp); (· exact h2))))) | (refine step_appV (by rfl) _ _ rfl _ _ es rfl x (OwnE.below hu (Nat.le_refl _) (by repeat (first | exact Below.refl _ _ | refine Below.drew ?_ | refine Below.alloc ?_ (by simp) _))) _ rfl (Seven.below (C := w2.heap.size + 1) (seven_new w2 x 24 _ rfl) (Nat.lt_succ_self _) (by repeat (first | exact Below.refl _ _ | refine Below.drew ?_ | refine Below.alloc ?_ (by simp) _))) (by have := HLL.out; omega) ?_; intro v3 w3 hv3 hb3; (have hB3 : Below W0.heap.size W0 w3 := (bstep hB2 (by repeat (first | exact Below.refl _ _ | refine Below.drew ?_ | refine Below.alloc ?_ (by simp) _))).trans (hb3.mono (by simp))); obtain ⟨y0, y1, y2, y3, y4, y5, y6⟩ := Seven.below HS0.out hx0 hB3) | (refine step_appV (by rfl) _ _ rfl _ _ es rfl x (OwnE.below hu (Nat.le_refl _) (by repeat (first | exact Below.refl _ _ | refine Below.drew ?_ | refine Below.alloc ?_ (by simp) _))) _ rfl (seven_old (T := 24) (by repeat (first | exact Below.refl _ _ | refine Below.drew ?_ | refine Below.alloc ?_ (by simp) _)) hb2 (by repeat (first | exact Below.refl _ _ | refine Below.drew ?_ | refine Below.alloc ?_ (by simp) _))) (by have := HLL.out; omega) ?_; intro v3 w3 hv3 hb3; (have hB3 : Below W0.heap.size W0 w3 := (bstep hB2 (by repeat (first | exact Below.refl _ _ | refine Below.drew ?_ | refine Below.alloc ?_ (by simp) _))).trans (hb3.mono (by simp))); obtain ⟨y0, y1, y2, y3, y4, y5, y6⟩ := Seven.below HS0.out hx0 hB3))
      all_goals
        (try go_wp2_with fail)
        go_meet
      all_goals
        exact ⟨.inr ⟨hp, rfl⟩, hB3⟩
  case rest =>
    obtain ⟨hpl, hb1⟩ := hcut
    clear x0 x1 x2 x3 x4 x5 x6
    rcases hpl with ⟨hp, rfl⟩ | ⟨hp, rfl⟩
    · have HP1 : Hid (Plain es) := fun e he => hp e (List.mem_append_left _ he)
      have HP2 : Hid (Plain [x]) := fun e he => hp e (List.mem_append_right _ he)
      have B1 := HB0.out.trans (hb1.mono HB0.out.size)
      have hR1 := RdX.below HR.out (Nat.le_refl _) hb1
      clear hp HPL
      go_wp2_with fail
      refine (entriesCopy_any es _ _ (by have := HLL.out; omega) hR1).mono ?_
      rintro e w2 ⟨u, rfl, hu, hb2⟩
      have hb2' := bstep hb1 hb2
      have B2 := bstep B1 hb2
      obtain ⟨x0, x1, x2, x3, x4, x5, x6⟩ := Seven.below HS0.out hx0 hb2'
      clear hb1 hb2 hR1 B1
      go_wp2_with fail
      refine (HVV.out es _ x _ (by have := HLL.out; omega) HP1.out HP2.out hu.rdX).mono ?_
      rintro e w3 ⟨rfl, hb3⟩
      have hb3' := bstep hb2' hb3
      have B3 := bstep B2 hb3
      have hu3 := hu.below (Nat.le_refl _) hb3
      have hR3 := RdX.below HR.out (Nat.le_refl _) hb3'
      clear x0 x1 x2 x3 x4 x5 x6 hb2' B2 hb3 hu HVV
      obtain ⟨x0, x1, x2, x3, x4, x5, x6⟩ := Seven.below HS0.out hx0 hb3'
      go_wp2_with fail
      refine (checkedOf_any es _ x _ (by have := HLL.out; omega) HP1.out hR3).mono ?_
      rintro e w4 ⟨rfl, hb4⟩
      have hb4' := bstep hb3' hb4
      have B4 := bstep B3 hb4
      have hu4 := hu3.below (Nat.le_refl _) hb4
      have hR4 := RdX.below HR.out (Nat.le_refl _) hb4'
      have e1 : ((chk es x).1 == (chk es x).1) = true := by simp
      have e2 : ((chk es x).2 == (chk es x).2) = true := by simp
      clear x0 x1 x2 x3 x4 x5 x6 hb3' B3 hb4 hu3 hR3
      go_wp2_with fail
      refine (sameX_any es _ _ _ (by have := HLL.out; omega) hu4.rdX hR4).mono ?_
      rintro e w5 ⟨rfl, hb5⟩
      have B5 := bstep B4 hb5
      clear hb5 B4 hu4 hR4
      go_wp2_with fail
      go_ret
      exact ⟨rfl, B5⟩
    · go_wp2
      go_ret
      exact ⟨rfl, HB0.out.trans (hb1.mono HB0.out.size)⟩
end

end Go.Proofs.Ytdpiijndnefahaa
