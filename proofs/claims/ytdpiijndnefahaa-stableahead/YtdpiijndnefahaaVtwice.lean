/-
  The walk of TwiceSame, given what view.Check answers.
-/
import Derived.Test.YtdpiijndnefahaaVkeep
import Derived.Test.YtdpiijndnefahaaVfunc2
import Derived.Test.YtdpiijndnefahaaVtdrop
namespace Go.Proofs.Ytdpiijndnefahaa
open Go.RowKit
set_option linter.unusedVariables false
set_option linter.unusedSimpArgs false

theorem scan_drop (es : List Ent) (x : Ent) (k : Nat) (hk : k ≤ es.length) : (0 ≤ scan (fun i => (fun y : Ent => y.b == x.b && decide (x.c < y.c)) (Ent.at (es.drop k) i) = true) (es.drop k).length 0) ↔ ∃ j, k ≤ j ∧ j < es.length ∧ (Ent.at es j).b = x.b ∧ x.c < (Ent.at es j).c := by
  have hn := scan_none (P := fun i => (fun y : Ent => y.b == x.b && decide (x.c < y.c)) (Ent.at (es.drop k) i) = true) (f := (es.drop k).length) (i := 0)
  constructor
  · intro h
    apply Classical.byContradiction
    intro hc
    have := hn.2 (fun j _ hj hp => by
      rw [List.length_drop] at hj
      simp only [at_drop, Bool.and_eq_true, beq_iff_eq, decide_eq_true_eq] at hp
      exact hc ⟨k + j, by omega, by omega, hp.1, hp.2⟩)
    omega
  · rintro ⟨j, h1, h2, h3, h4⟩
    apply Classical.byContradiction
    intro hc
    refine hn.1 (by omega) (j - k) (by omega) (by rw [List.length_drop]; omega) ?_
    simp only [at_drop, Bool.and_eq_true, beq_iff_eq, decide_eq_true_eq]
    rw [show k + (j - k) = j by omega]
    exact ⟨h3, h4⟩

set_option maxRecDepth 100000 in
set_option maxHeartbeats 2000000 in
theorem twiceSame_core (HV : CheckC) (rs : List Raw4) (v : Value) (i : Int) (w : World) (hl : (rs.length : Int) ≤ 9223372036854775807) (hi : I64 i) (h : RdR w v rs) :
    Calls Try.prog 7 #[v, .int .i64 i] w fun e w' => e = .returned (.bool true) ∧ Below w.heap.size w w' := by
  have HVV : Hid CheckC := HV
  have HR : Hid (RdR w v rs) := h
  have HL : Hid ((rs.length : Int) ≤ 9223372036854775807) := hl
  have HSent : Hid (∀ v1 w1, RdX w1 v1 (manyL rs 60) → _) := fun v1 w1 h1 => sent_any HV (manyL rs 60) v1 w1 (by simp [manyL]; omega) (manyL_plain rs 60) h1
  have HPl : Hid (Plain (sentL rs 60)) := sentL_plain rs 60
  have HOn : Hid (Once (sentL rs 60) (sentL rs 60).length) := sentL_once rs 60
  have hln := sentL_len rs 60
  clear h hl HV
  go_enter Try.func7, Try.ntmps7
  go_wp2_with fail
  refine (many_any rs v 60 w (by omega) HL.out HR.out).mono ?_
  rintro e w1 ⟨v1, rfl, hv1, hb1⟩
  go_wp2_with fail
  refine (HSent.out v1 w1 hv1.rdX).mono ?_
  rintro e w2 ⟨u, rfl, hu, hb2⟩
  have B2 := bstep hb1 hb2
  have HU : Hid (RdX w2 u (sentL rs 60)) := hu.rdX
  clear HR HL HSent hv1 hb1 hb2 hu
  generalize sentL rs 60 = es at *
  obtain ⟨ao, cap, rfl, h1, h2, h4, h3⟩ := HU.out
  have H3 : Hid _ := h3
  clear h3 h2
  by_cases h0 : es.length = 0
  · have hz : es = [] := List.eq_nil_of_length_eq_zero h0
    subst hz
    have hc : chk [] ⟨0, 1, 0, 1, 1, false, ⟨#[]⟩⟩ = (0, 11) := by simp [chk, verK]
    go_wp2_with fail
    refine (HVV.out [] _ ⟨0, 1, 0, 1, 1, false, ⟨#[]⟩⟩ w2 (by simp) HPl.out (by intro e he; simp at he; subst he; simp) ⟨none, 0, rfl, by simp, by simp [maxLen], fun _ => rfl, fun h => by simp at h⟩).mono ?_
    rintro e w3 ⟨rfl, hb3⟩
    rw [hc]
    go_wp2
    go_ret
    exact ⟨rfl, bstep B2 hb3⟩
  · obtain ⟨g, off, rfl, hg⟩ := H3.out (by omega)
    go_wp2_with fail
    refine (picked_any i es.length _ hi (by omega)).mono ?_
    rintro e w3 ⟨rfl, rfl⟩
    have hpk := pick_bd i es.length (by omega)
    obtain ⟨k, hk⟩ : ∃ k : Nat, pick i es.length = k := ⟨(pick i es.length).toNat, by omega⟩
    rw [hk] at hpk ⊢
    have hkl : k < es.length := by omega
    obtain ⟨a0, a1, a2, a3, a4, a5, a6⟩ := RdX.cells hg k hkl
    have HD : Hid _ := HU.out.drop k hkl
    have HPx : Hid (Plain [Ent.at es k]) := HPl.out.at k hkl
    have HC0 : Hid ((Ent.at es k).b = 0 → chk es (Ent.at es k) = (-1, 0)) := fun h => by unfold chk; rw [if_pos h]
    have HC1 : Hid ((Ent.at es k).b ≠ 0 → (∃ j, k ≤ j ∧ j < es.length ∧ (Ent.at es j).b = (Ent.at es k).b ∧ (Ent.at es k).c < (Ent.at es j).c) → chk es (Ent.at es k) = (0, 10)) := fun hb ⟨j, j1, j2, j3, j4⟩ => twice_later HOn.out hkl hb j2 j3 j4
    have HC2 : Hid ((Ent.at es k).b ≠ 0 → ¬ (∃ j, k ≤ j ∧ j < es.length ∧ (Ent.at es j).b = (Ent.at es k).b ∧ (Ent.at es k).c < (Ent.at es j).c) → (Ent.at es k).k = 1 → chk es (Ent.at es k) = ((k : Int), 0)) := fun hb hn hd => twice_same HOn.out (plain_ver HPl.out) hkl hb hd (fun j j1 j2 j3 => by
      apply Classical.byContradiction
      intro hc
      exact hn ⟨j, j1, j2, j3, by omega⟩)
    have HSc : Hid _ := scan_drop es (Ent.at es k) k (by omega)
    clear hg H3 HOn
    generalize Ent.at es k = x at *
    go_wp2_with fail
    have hS0 := seven_new w3 x 24 _ rfl
    refine (HVV.out es _ x _ (by omega) HPl.out HPx.out (HU.out.below (Nat.le_refl _) (bbox _ _))).mono ?_
    rintro e w4 ⟨rfl, hb4⟩
    have hB4 : Below w3.heap.size w3 w4 := bstep (bbox _ _) hb4
    have B4 := bstep B2 hB4
    have hS4 := hS0.below (by simp) hb4
    have HS4 : Hid (Seven w4 w3.heap.size x) := hS4
    have hlt4 := cell_lt hS4.1
    have HD4 : Hid (RdX w4 (.slice (some ⟨g, off + k * 7, none⟩) (es.length - k) (cap - k)) (es.drop k)) := RdX.below HD.out (Nat.le_refl _) hB4
    obtain ⟨s0, s1, s2, s3, s4, s5, s6⟩ := hS4
    clear a0 a1 a2 a3 a4 a5 a6 hS0 hb4 HD HPx HPl HVV HU B2 hB4
    by_cases hb : x.b = 0
    · rw [HC0.out hb]
      go_wp2
      go_ret
      exact ⟨rfl, B4⟩
    · have HCC := containsFunc_any 26 #[.pointer (some ⟨w3.heap.size, 0, none⟩)] (fun y => y.b == x.b && decide (x.c < y.c)) (enters_of Try.func26 (by kernel_rfl) rfl) (es.drop k) _ w4 (by simp; omega) HD4.out (twiceSame_fn w3.heap.size x w4 hlt4 HS4.out)
      by_cases hlat : ∃ j, k ≤ j ∧ j < es.length ∧ (Ent.at es j).b = x.b ∧ x.c < (Ent.at es j).c
      · rw [HC1.out hb hlat]
        rw [decide_eq_true (HSc.out.2 hlat)] at HCC
        clear HC0 HC1 HC2 HSc hlat
        go_wp2_with fail
        refine HCC.mono ?_
        rintro e w5 ⟨rfl, hb5⟩
        go_wp2
        go_ret
        exact ⟨rfl, bstep B4 hb5⟩
      · rw [decide_eq_false (fun h => hlat (HSc.out.1 h))] at HCC
        by_cases hd : x.k = 1
        · rw [HC2.out hb hlat hd]
          clear HC0 HC1 HC2 HSc hlat
          go_wp2_with fail
          refine HCC.mono ?_
          rintro e w5 ⟨rfl, hb5⟩
          have B5 := bstep B4 hb5
          obtain ⟨t0, t1, t2, t3, t4, t5, t6⟩ := HS4.out.below hlt4 hb5
          clear s0 s1 s2 s3 s4 s5 s6 HCC HS4 HD4 hb5
          go_wp2
          go_ret
          exact ⟨rfl, B5⟩
        · generalize chk es x = pr
          obtain ⟨pa, pe⟩ := pr
          clear HC0 HC1 HC2 HSc hlat
          go_wp2_with fail
          refine HCC.mono ?_
          rintro e w5 ⟨rfl, hb5⟩
          have B5 := bstep B4 hb5
          obtain ⟨t0, t1, t2, t3, t4, t5, t6⟩ := HS4.out.below hlt4 hb5
          clear s0 s1 s2 s3 s4 s5 s6 HCC HS4 HD4 hb5
          go_wp2
          go_ret
          exact ⟨rfl, B5⟩

end Go.Proofs.Ytdpiijndnefahaa
