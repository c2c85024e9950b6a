/-
  Entries appended to entries, wherever they lie; the law's copy of a slice of entries.
  The walk of the law's own test 'plain'.
-/
import Derived.Test.YtdpiijndnefahaaAview
import Derived.Laws.AppendOwnNone
namespace Go.Proofs.Ytdpiijndnefahaa

section
open Go.RowKit
set_option linter.unusedVariables false
set_option linter.unusedSimpArgs false

theorem OwnE.rdX {B : Nat} {v : Value} {es : List Ent} {w : World} (h : OwnE B v es w) : RdX w v es := by
  obtain ⟨h1, h4⟩ := h
  rcases h1.2 with ⟨rfl, h0⟩ | ⟨g, cap, cur, rfl, r2, r3, r4, r5, r6⟩
  · exact ⟨none, 0, by rw [h0], by omega, by unfold maxLen; omega, fun _ => rfl, fun h => by omega⟩
  · refine ⟨_, _, rfl, r4, r5, (fun h => by simp at h), fun _ => ⟨g, 0, rfl, fun i hi j hj => ?_⟩⟩
    have := h1.cellAt (i * 7 + j) (by omega)
    rw [Nat.zero_add, this, flat_get es i j hi hj]

section
variable {w : World} {ops : Array Oper} {rest : List Oper} {o : Oper} {a : Act} {Q : Exit → Act → World → Prop}
theorem wp_appX (hgd : o.guard = none) (s x : Operand)
    (ho : o.op = .call { callee := .builtin .append, args := #[s, x], argTypes := #[22, 22] })
    (B : Nat) (v : Value) (es : List Ent) (hs : a.eval s = v) (hown : OwnE B v es w) (vx : Value) (r : List Ent) (hx : a.eval x = vx) (hr : RdX w vx r) (hlen : es.length + r.length ≤ 2199023255552)
    (h : ∀ v' w', OwnE B v' (es ++ r) w' → Below B w w' → wpList Try.prog ops Q rest (a.put o.dst v') w') :
    wpList Try.prog ops Q (o :: rest) a w := by
  obtain ⟨i, hi, hz0, hz1, hz2⟩ := info_parts infoEntry
  obtain ⟨ao, cap, rfl, h1, h2, h4, h3⟩ := hr
  cases ao with
  | none =>
    have h0 : r.length = 0 := by have := h4 rfl; omega
    have hr0 : r = [] := List.eq_nil_of_length_eq_zero h0
    subst hr0
    obtain rfl := h4 rfl
    refine wpList_append_own_none hgd s x _ ho B _ i 7 Try.underlying22 hi v _ _ hs hown.1 hx ?_
    exact h v w (by simpa using hown) (Below.refl _ _)
  | some ad =>
    have hfl : (r.flatMap Ent.cells).length = r.length * 7 := by
      clear h3 h1 hlen h hx
      induction r with
      | nil => simp
      | cons e r ih => rw [List.flatMap_cons, List.length_append, ih, cells_len, List.length_cons]; omega
    refine wpList_append_own _ hgd s x _ ho B _ i zeroE.val 7 64 Try.underlying22 hi hz0 hz1 hz2 rfl (by decide) v _ _ hs hown.1 ad r.length cap (r.flatMap Ent.cells) hx hfl ?_ ?_ (by unfold maxLen; omega) (by omega) hown.2 ?_
    · intro j u hj
      have hj' : j < r.length * 7 := by
        have := (List.getElem?_eq_some_iff.1 hj).1
        omega
      obtain ⟨g, off, e, hc⟩ := h3 (by omega)
      obtain rfl := Option.some.inj e
      have hd : j = j / 7 * 7 + j % 7 := by omega
      have hq := hc (j / 7) (by omega) (j % 7) (by omega)
      rw [← flat_get r (j / 7) (j % 7) (by omega) (by omega), ← hd, hj, Nat.add_assoc, ← hd] at hq
      rw [Addr.add_lit]
      exact hq
    · intro u hu
      obtain ⟨e, _, hu⟩ := List.mem_flatMap.1 hu
      simp [Ent.cells] at hu
      rcases hu with rfl | rfl | rfl | rfl | rfl | rfl | rfl <;> rfl
    · intro v' w' ho' hg _
      refine h v' w' ⟨by simpa [List.flatMap_append] using ho', Nat.le_trans hown.2 hg.size⟩ ?_
      exact (Below.refl B w).grown hg hown.2 (fun k hk => (hown.1.lt k hk).1)
end

set_option maxRecDepth 100000 in
set_option maxHeartbeats 400000 in
theorem entriesCopy_any (es : List Ent) (v : Value) (w : World) (hl : es.length ≤ 2199023255552) (h : RdX w v es) :
    Calls Try.prog 12 #[v] w fun e w' => ∃ u, e = .returned u ∧ OwnE w.heap.size u es w' ∧ Below w.heap.size w w' := by
  have h0 := ownE_nil w.heap.size w (Nat.le_refl _)
  have H : Hid (RdX w v es) := h
  clear h
  go_enter Try.func12, Try.ntmps12
  go_wp2_with (at_builtin; refine wp_appX rfl _ _ rfl _ _ _ rfl h0 _ _ rfl H.out (by simp; omega) ?_)
  intro v' w' hown hb
  clear H h0
  go_wp2
  go_ret
  exact ⟨_, rfl, by simpa using hown, hb⟩
end

section
open Go.RowKit
set_option linter.unusedVariables false
set_option linter.unusedSimpArgs false

abbrev plainE (e : Ent) : Prop := 1 ≤ e.k ∧ e.k ≤ 3 ∧ 0 ≤ e.b ∧ e.b ≤ 1073741824 ∧ 0 ≤ e.c ∧ e.c ≤ 1073741824 ∧ 0 ≤ e.d ∧ e.d ≤ 1073741824
theorem plain_iff (es : List Ent) : Plain es ↔ ∀ i, i < es.length → plainE (Ent.at es i) := by
  constructor
  · intro h i hi
    rw [at_get hi]
    exact h _ (List.getElem_mem hi)
  · intro h e he
    obtain ⟨i, hi, rfl⟩ := List.getElem_of_mem he
    have := h i hi
    rw [at_get hi] at this
    exact this

set_option maxRecDepth 100000 in
set_option maxHeartbeats 4000000 in
theorem plain_some (es : List Ent) (g off cap : Nat) (w : World) (hl : (es.length : Int) ≤ 2199023255552)
    (hc : ∀ i, (h : i < es.length) → ∀ j, j < 7 → w.cell? ⟨g, off + i * 7 + j, none⟩ = (es[i]'h).cells[j]?) :
    Calls Try.prog 11 #[.slice (some ⟨g, off, none⟩) es.length cap] w fun e w' => ((Plain es ∧ e = .returned (.bool true)) ∨ (¬ Plain es ∧ e = .returned (.bool false))) ∧ w' = w := by
  have HC : Hid _ := hc
  have HP : Hid _ := plain_iff es
  clear hc
  go_enter Try.func11, Try.ntmps11
  go_wp2
  go_loop [3] (fun i => ∃ k : Nat, k ≤ es.length ∧ i = .int .i64 k ∧ Hid (∀ j, j < k → plainE (Ent.at es j))) (fun i => es.length - (intOf i).toNat)
  case atStart => exact ⟨0, by omega, rfl, fun j h => by omega⟩
  case round =>
    obtain ⟨k, hk, rfl, HN⟩ := hrel
    by_cases hlt : k < es.length
    · obtain ⟨q0, q1, q2, q3, q4, q5, q6⟩ := RdX.cells HC.out k hlt
      have HB : Hid (¬ plainE (Ent.at es k) → ¬ Plain es) := fun h hp => h (HP.out.1 hp k hlt)
      have HG : Hid (plainE (Ent.at es k) → ∀ j, j < k + 1 → plainE (Ent.at es j)) := fun h j hj => by
        by_cases e : j = k
        · subst e; exact h
        · exact HN.out j (by omega)
      generalize Ent.at es k = x at HB HG q0 q1 q2 q3 q4 q5 q6
      clear HN HP
      by_cases c0 : x.k < 1
      · have HX : Hid _ := HB.out (fun h => by unfold plainE at h; omega)
        clear HB HG
        go_wp2
        go_ret
        exact ⟨.inr ⟨HX.out, rfl⟩, rfl⟩
      have d0 : 1 ≤ x.k := by omega
      clear c0
      by_cases c1 : 3 < x.k
      · have HX : Hid _ := HB.out (fun h => by unfold plainE at h; omega)
        clear HB HG
        go_wp2
        go_ret
        exact ⟨.inr ⟨HX.out, rfl⟩, rfl⟩
      have d1 : x.k ≤ 3 := by omega
      clear c1
      by_cases c2 : x.b < 0
      · have HX : Hid _ := HB.out (fun h => by unfold plainE at h; omega)
        clear HB HG
        go_wp2
        go_ret
        exact ⟨.inr ⟨HX.out, rfl⟩, rfl⟩
      have d2 : 0 ≤ x.b := by omega
      clear c2
      by_cases c3 : x.c < 0
      · have HX : Hid _ := HB.out (fun h => by unfold plainE at h; omega)
        clear HB HG
        go_wp2
        go_ret
        exact ⟨.inr ⟨HX.out, rfl⟩, rfl⟩
      have d3 : 0 ≤ x.c := by omega
      clear c3
      by_cases c4 : x.d < 0
      · have HX : Hid _ := HB.out (fun h => by unfold plainE at h; omega)
        clear HB HG
        go_wp2
        go_ret
        exact ⟨.inr ⟨HX.out, rfl⟩, rfl⟩
      have d4 : 0 ≤ x.d := by omega
      clear c4
      by_cases c5 : 1073741824 < x.b
      · have HX : Hid _ := HB.out (fun h => by unfold plainE at h; omega)
        clear HB HG
        go_wp2
        go_ret
        exact ⟨.inr ⟨HX.out, rfl⟩, rfl⟩
      have d5 : x.b ≤ 1073741824 := by omega
      clear c5
      by_cases c6 : 1073741824 < x.c
      · have HX : Hid _ := HB.out (fun h => by unfold plainE at h; omega)
        clear HB HG
        go_wp2
        go_ret
        exact ⟨.inr ⟨HX.out, rfl⟩, rfl⟩
      have d6 : x.c ≤ 1073741824 := by omega
      clear c6
      by_cases c7 : 1073741824 < x.d
      · have HX : Hid _ := HB.out (fun h => by unfold plainE at h; omega)
        clear HB HG
        go_wp2
        go_ret
        exact ⟨.inr ⟨HX.out, rfl⟩, rfl⟩
      have d7 : x.d ≤ 1073741824 := by omega
      clear c7
      have HX : Hid _ := HG.out ⟨d0, d1, d2, d5, d3, d6, d4, d7⟩
      clear HB HG
      go_wp2
      go_round
      case rel => exact ⟨k + 1, by omega, by go_num, HX⟩
      case measure => simp [intOf]; omega
    · have hke : k = es.length := by omega
      subst hke
      have HX : Hid _ := HP.out.2 HN.out
      clear HN HP
      go_wp2
      go_ret
      exact ⟨.inl ⟨HX.out, rfl⟩, rfl⟩

set_option maxRecDepth 100000 in
set_option maxHeartbeats 400000 in
theorem plain_none (ao : Option Addr) (cap : Nat) (w : World) :
    Calls Try.prog 11 #[.slice ao 0 cap] w fun e w' => e = .returned (.bool true) ∧ w' = w := by
  go_enter Try.func11, Try.ntmps11
  go_wp2
  refine wp_loop_rounds 1 ?_
  rw [rounds_succ]
  go_wp2
  go_ret
  exact ⟨rfl, rfl⟩

theorem plain_any (es : List Ent) (v : Value) (w : World) (hl : (es.length : Int) ≤ 2199023255552) (h : RdX w v es) :
    Calls Try.prog 11 #[v] w fun e w' => ((Plain es ∧ e = .returned (.bool true)) ∨ (¬ Plain es ∧ e = .returned (.bool false))) ∧ w' = w := by
  obtain ⟨ao, cap, rfl, _, _, _, h1⟩ := h
  by_cases h0 : 0 < es.length
  · obtain ⟨g, off, rfl, h1'⟩ := h1 h0
    exact plain_some es g off cap w hl h1'
  · have hl : es = [] := List.eq_nil_of_length_eq_zero (by omega)
    subst hl
    refine (plain_none ao cap w).mono ?_
    rintro e w' ⟨h1, h2⟩
    exact ⟨.inl ⟨fun e he => by simp at he, h1⟩, h2⟩
end

end Go.Proofs.Ytdpiijndnefahaa
