/-
  The walk of sent, given what view.Check answers: what comes of entries that are checked one by one.
-/
import Derived.Test.YtdpiijndnefahaaAlaw
import Derived.Test.YtdpiijndnefahaaAraw
namespace Go.Proofs.Ytdpiijndnefahaa
open Go.RowKit
set_option linter.unusedVariables false
set_option linter.unusedSimpArgs false

/-- What is left of the first k entries. -/
def sentK (es : List Ent) : Nat → List Ent
  | 0 => []
  | k + 1 => if (chk (sentK es k) (Ent.at es k)).2 = 0 ∧ (chk (sentK es k) (Ent.at es k)).1 < 0 then sentK es k ++ [Ent.at es k] else sentK es k
theorem sentK_len (es : List Ent) (k : Nat) : (sentK es k).length ≤ k := by
  induction k with
  | zero => simp [sentK]
  | succ k ih =>
    simp only [sentK]
    split
    · simp; omega
    · omega
theorem sentK_mem (es : List Ent) (k : Nat) (hk : k ≤ es.length) : ∀ e ∈ sentK es k, e ∈ es := by
  induction k with
  | zero => intro e he; simp [sentK] at he
  | succ k ih =>
    intro e he
    simp only [sentK] at he
    split at he
    · rcases List.mem_append.1 he with h | h
      · exact ih (by omega) e h
      · simp at h
        subst h
        rw [at_get (show k < es.length by omega)]
        exact List.getElem_mem _
    · exact ih (by omega) e he
theorem Plain.sent {es : List Ent} (h : Plain es) (k : Nat) (hk : k ≤ es.length) : Plain (sentK es k) := fun e he => h e (sentK_mem es k hk e he)
theorem Plain.at {es : List Ent} (h : Plain es) (k : Nat) (hk : k < es.length) : Plain [Ent.at es k] := by
  intro e he
  simp at he
  subst he
  rw [at_get hk]
  exact h _ (List.getElem_mem _)

set_option maxRecDepth 100000 in
set_option maxHeartbeats 1000000 in
theorem sent_any (HV : CheckC) (es : List Ent) (v : Value) (w : World) (hl : es.length ≤ 1000) (hp : Plain es) (hr : RdX w v es) :
    Calls Try.prog 22 #[v] w fun e w' => ∃ u, e = .returned u ∧ OwnE w.heap.size u (sentK es es.length) w' ∧ Below w.heap.size w w' := by
  have HVV : Hid CheckC := HV
  have HP : Hid (Plain es) := hp
  obtain ⟨ao, cap, rfl, h1, h2, h4, h3⟩ := hr
  have H3 : Hid _ := h3
  clear h1 h2 h4 h3 HV hp
  go_enter Try.func22, Try.ntmps22
  go_wp2
  go_loopw [3, 10] (fun u i wr => ∃ k : Nat, k ≤ es.length ∧ i = .int .i64 k ∧ OwnE w.heap.size u (sentK es k) wr ∧ Below w.heap.size w wr) (fun _ i _ => es.length - (intOf i).toNat)
  case atStart => exact ⟨0, by omega, rfl, ownE_nil _ _ (Nat.le_refl _), Below.refl _ _⟩
  case round =>
    obtain ⟨k, hk, rfl, hown, hbel⟩ := hrel
    by_cases hlt : k < es.length
    · obtain ⟨g, off, rfl, hg⟩ := H3.out (by omega)
      obtain ⟨a0, a1, a2, a3, a4, a5, a6⟩ := RdX.cells hg k hlt
      have hgl := cell_lt a0
      have q0 := (hbel.cell (p := ⟨g, off + k * 7, none⟩) hgl).trans a0
      have q1 := (hbel.cell (p := ⟨g, off + k * 7 + 1, none⟩) hgl).trans a1
      have q2 := (hbel.cell (p := ⟨g, off + k * 7 + 2, none⟩) hgl).trans a2
      have q3 := (hbel.cell (p := ⟨g, off + k * 7 + 3, none⟩) hgl).trans a3
      have q4 := (hbel.cell (p := ⟨g, off + k * 7 + 4, none⟩) hgl).trans a4
      have q5 := (hbel.cell (p := ⟨g, off + k * 7 + 5, none⟩) hgl).trans a5
      have q6 := (hbel.cell (p := ⟨g, off + k * 7 + 6, none⟩) hgl).trans a6
      have HS : Hid (sentK es (k + 1) = if (chk (sentK es k) (Ent.at es k)).2 = 0 ∧ (chk (sentK es k) (Ent.at es k)).1 < 0 then sentK es k ++ [Ent.at es k] else sentK es k) := show _ = _ from rfl
      have HPo : Hid (Plain (sentK es k)) := HP.out.sent k hk
      have HPx : Hid (Plain [Ent.at es k]) := HP.out.at k hlt
      have hol := sentK_len es k
      clear a0 a1 a2 a3 a4 a5 a6 hg
      generalize Ent.at es k = x at *
      generalize sentK es k = o at *
      go_wp2_with fail
      have hown0 := hown.alloc (.cells #[.int .i64 x.a, .int .i64 x.b, .int .i64 x.c, .int .i64 x.d, .int .i64 x.k, .bool x.t, .string x.s] 24)
      have hS0 := seven_new wr x 24 _ rfl
      have hbel0 := hbel.alloc hown.2 (.cells #[.int .i64 x.a, .int .i64 x.b, .int .i64 x.c, .int .i64 x.d, .int .i64 x.k, .bool x.t, .string x.s] 24)
      refine (HVV.out o _ x _ (by omega) HPo.out HPx.out hown0.rdX).mono ?_
      rintro e w1 ⟨rfl, hb1⟩
      have hown1 := hown0.below (Nat.le_refl _) hb1
      have hbel1 := bstep hbel0 hb1
      obtain ⟨s0, s1, s2, s3, s4, s5, s6⟩ := hS0.below (by simp) hb1
      clear q0 q1 q2 q3 q4 q5 q6 hb1 hown0 hown hS0 hbel0 hbel HPo HPx HVV
      generalize chk o x = pr at *
      obtain ⟨pa, pe⟩ := pr
      simp only at HS ⊢
      by_cases he : pe = 0
      · subst he
        by_cases ha : pa < 0
        · rw [if_pos ⟨rfl, ha⟩] at HS
          go_wp2_with (at_builtin; refine wp_appE rfl _ _ rfl _ _ _ rfl x hown1 _ rfl (by simp) (by omega) ?_)
          intro v2 w2 hown2 hb2
          have hbel2 := hbel1.trans hb2
          rw [← HS.out] at hown2
          clear hb2 hown1 hbel1 s0 s1 s2 s3 s4 s5 s6
          go_wp2
          go_roundw
          case rel => exact ⟨k + 1, by omega, by go_num, hown2, hbel2⟩
          case measure => simp [intOf]; omega
        · rw [if_neg (fun h => ha h.2)] at HS
          rw [← HS.out] at hown1
          go_wp2
          go_roundw
          case rel => exact ⟨k + 1, by omega, by go_num, hown1, hbel1⟩
          case measure => simp [intOf]; omega
      · rw [if_neg (fun h => he h.1)] at HS
        rw [← HS.out] at hown1
        go_wp2
        go_roundw
        case rel => exact ⟨k + 1, by omega, by go_num, hown1, hbel1⟩
        case measure => simp [intOf]; omega
    · have E : Hid (sentK es es.length = sentK es k) := show _ = _ by rw [show k = es.length by omega]
      go_wp2
      go_ret
      rw [E.out]
      exact ⟨_, rfl, hown, hbel⟩

end Go.Proofs.Ytdpiijndnefahaa
