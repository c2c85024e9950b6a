/-
  Texts: append of a slice of texts, slices.Equal of one list twice; viewTells, given what view.Check and view.Read answer.
-/
import Derived.Test.YtdpiijndnefahaaAlaw
import Derived.Test.YtdpiijndnefahaaVpage
import Derived.Deep.QuietTactic
import Derived.BigQuiet
namespace Go.Proofs.Ytdpiijndnefahaa
open Go.RowKit
set_option linter.unusedVariables false
set_option linter.unusedSimpArgs false

section
variable {w : World} {ops : Array Oper} {rest : List Oper} {o : Oper} {a : Act} {Q : Exit → Act → World → Prop}
/-- append(ts, rs...). -/
theorem wp_appSS (hgd : o.guard = none) (s x : Operand)
    (ho : o.op = .call { callee := .builtin .append, args := #[s, x], argTypes := #[34, 34] })
    (B C : Nat) (v : Value) (ts : List ByteArray) (hs : a.eval s = v) (hown : OwnS B v ts w) (vx : Value) (rs : List ByteArray) (hx : a.eval x = vx) (hr : OwnS C vx rs w) (hlen : ts.length + rs.length ≤ 1099511627776)
    (h : ∀ v' w', OwnS B v' (ts ++ rs) w' → Below B w w' → wpList Try.prog ops Q rest (a.put o.dst v') w') : wpList Try.prog ops Q (o :: rest) a w := by
  obtain ⟨i, hi, hz0, hz1, hz2⟩ := info_parts infoStr
  have hbel : ∀ w', w.grownBy w' v.ownBlock → Below B w w' := fun w' hg => (Below.refl B w).grown hg hown.2 (fun k hk => (hown.1.lt k hk).1)
  have hr1 := hr.1
  rcases hr.1.2 with ⟨rfl, h0⟩ | ⟨g, cap, cur, rfl, r2, r3, r4, r5, r6⟩
  · have hr0 : rs = [] := List.eq_nil_of_length_eq_zero h0
    subst hr0
    refine wpList_append_own_none hgd s x _ ho B _ i 1 Try.underlying34 hi v _ _ hs hown.1 hx ?_
    exact h v w (by simpa using hown) (Below.refl _ _)
  · refine wpList_append_own w hgd s x _ ho B _ i (.string ⟨#[]⟩) 1 16 Try.underlying34 hi hz0 hz1 hz2 rfl (by decide) v _ _ hs hown.1 ⟨g, 0, none⟩ rs.length cap (rs.map Value.string) hx (by simp) ?_ ?_ (by unfold maxLen; omega) (by omega) hown.2 ?_
    · intro j u hj
      have hj' : j < rs.length := by
        have := (List.getElem?_eq_some_iff.1 hj).1
        simpa using this
      have hc := hr1.cellAt j (by simpa using hj')
      rw [Addr.add_lit, Nat.zero_add, hc]
      simp [hj'] at hj
      subst hj
      simp [hj']
    · intro u hu
      simp at hu
      obtain ⟨n, _, rfl⟩ := hu
      rfl
    · intro v' w' ho' hg _
      exact h v' w' ⟨by simpa using ho', Nat.le_trans hown.2 hg.size⟩ (hbel w' hg)
end

set_option maxRecDepth 100000 in
set_option maxHeartbeats 1000000 in
theorem eqTexts_some (ts : List ByteArray) (g1 c1 g2 c2 : Nat) (w : World) (hl : (ts.length : Int) ≤ 1099511627776)
    (h1 : ∀ i, (h : i < ts.length) → w.cell? ⟨g1, i, none⟩ = some (.string (ts[i]'h))) (h2 : ∀ i, (h : i < ts.length) → w.cell? ⟨g2, i, none⟩ = some (.string (ts[i]'h))) :
    Calls Try.prog 28 #[.slice (some ⟨g1, 0, none⟩) ts.length c1, .slice (some ⟨g2, 0, none⟩) ts.length c2] w fun e w' => e = .returned (.bool true) ∧ Below w.heap.size w w' := by
  have hne : ((ts.length : Int) != ts.length) = false := by simp
  go_enter Try.func28, Try.ntmps28
  go_wp2
  go_loopw [13] (fun i wr => ∃ k : Nat, k ≤ ts.length ∧ i = .int .i64 k ∧ ∃ q, wr = w.drewN q) (fun i _ => ts.length - (intOf i).toNat)
  case atStart => exact ⟨0, by omega, rfl, 0, rfl⟩
  case round =>
    obtain ⟨k, hk, rfl, q, rfl⟩ := hrel
    by_cases hlt : k < ts.length
    · have A := h1 k hlt
      have B := h2 k hlt
      clear h1 h2
      generalize ts[k] = t at *
      go_wp2
      go_quiet (fail)
      go_wp2
      go_roundw
      case rel => exact ⟨k + 1, by omega, by go_num, q + nq, rfl⟩
      case measure => simp [intOf]; omega
    · clear h1 h2
      go_wp2
      go_ret
      exact ⟨rfl, below_drewN (Below.refl _ _) _⟩

set_option maxRecDepth 100000 in
set_option maxHeartbeats 400000 in
theorem eqTexts_none (a1 a2 : Option Addr) (c1 c2 : Nat) (w : World) :
    Calls Try.prog 28 #[.slice a1 0 c1, .slice a2 0 c2] w fun e w' => e = .returned (.bool true) ∧ Below w.heap.size w w' := by
  go_enter Try.func28, Try.ntmps28
  go_wp2
  refine wp_loop_rounds 1 ?_
  rw [rounds_succ]
  go_wp2
  go_ret
  exact ⟨rfl, Below.refl _ _⟩

theorem eqTexts_any (ts : List ByteArray) (v u : Value) (w : World) (hl : (ts.length : Int) ≤ 1099511627776) (h1 : RdS w v ts) (h2 : RdS w u ts) :
    Calls Try.prog 28 #[v, u] w fun e w' => e = .returned (.bool true) ∧ Below w.heap.size w w' := by
  obtain ⟨a1, c1, rfl, h1⟩ := h1
  obtain ⟨a2, c2, rfl, h2⟩ := h2
  by_cases h0 : 0 < ts.length
  · obtain ⟨g1, rfl, h1'⟩ := h1 h0
    obtain ⟨g2, rfl, h2'⟩ := h2 h0
    exact eqTexts_some ts g1 c1 g2 c2 w hl h1' h2'
  · have hl : ts = [] := List.eq_nil_of_length_eq_zero (by omega)
    subst hl
    exact eqTexts_none a1 a2 c1 c2 w

/-- The entry that viewTells sends. -/
def tellE : Ent := ⟨0, 0, 0, 0, 1, false, ⟨#[97]⟩⟩
theorem tellE_plain : Plain [tellE] := by intro e he; simp at he; subst he; simp [tellE]
theorem tellE_chk : chk [] tellE = (-1, 0) := by decide
theorem tellE_rd : rdA [tellE] 1 0 20 = ([⟨#[97]⟩], 1, 0) := by decide

theorem rdX_one (w : World) (x : Ent) : RdX (w.alloc (.cells #[.int .i64 x.a, .int .i64 x.b, .int .i64 x.c, .int .i64 x.d, .int .i64 x.k, .bool x.t, .string x.s] 24)) (.slice (some ⟨w.heap.size, 0, none⟩) 1 1) [x] := by
  refine ⟨_, _, rfl, by simp, by simp [maxLen], fun h => by simp at h, fun _ => ⟨w.heap.size, 0, rfl, fun i hi j hj => ?_⟩⟩
  obtain rfl : i = 0 := by simp at hi; omega
  rcases (show j = 0 ∨ j = 1 ∨ j = 2 ∨ j = 3 ∨ j = 4 ∨ j = 5 ∨ j = 6 from by omega) with rfl | rfl | rfl | rfl | rfl | rfl | rfl <;> simp [Ent.cells]

set_option maxRecDepth 100000 in
set_option maxHeartbeats 1000000 in
theorem viewTells_any (HV : CheckC) (HR : ReadC) (w : World) :
    Calls Try.prog 21 #[] w fun e w' => e = .returned (.bool true) ∧ Below w.heap.size w w' := by
  have HVV : Hid _ := HV [] (.slice none 0 0) tellE
  have HRR : Hid _ := HR [tellE]
  clear HV HR
  go_enter Try.func21, Try.ntmps21
  go_wp2_with fail
  have hS0 := seven_new w tellE 24 _ rfl
  refine (HVV.out _ (by simp) (by intro e he; simp at he) tellE_plain ⟨none, 0, rfl, by simp, by simp [maxLen], fun _ => rfl, fun h => by simp at h⟩).mono ?_
  rintro e w1 ⟨rfl, hb1⟩
  rw [tellE_chk]
  have hlt : w.heap.size < w1.heap.size := Nat.lt_of_lt_of_le (by simp) hb1.size
  have hS1 := hS0.below (by simp) hb1
  have hB1 : Below w.heap.size w w1 := bstep (bbox _ _) hb1
  obtain ⟨s0, s1, s2, s3, s4, s5, s6⟩ := hS1
  simp only [tellE] at s0 s1 s2 s3 s4 s5 s6
  clear hS0 hb1
  go_wp2_with fail
  refine (HRR.out _ 1 0 20 _ (by simp) tellE_plain (by intro e he; simp at he; subst he; simp [tellE]) (rdX_one w1 tellE)).mono ?_
  rw [tellE_rd]
  rintro e w2 ⟨u, rfl, hu, hb2⟩
  have hB2 := bstep (hB1.alloc hB1.size _) hb2
  obtain ⟨au, cu, rfl⟩ := hu.shape
  clear hu hb2 hB1
  go_wp2
  go_ret
  exact ⟨rfl, hB2⟩

end Go.Proofs.Ytdpiijndnefahaa
