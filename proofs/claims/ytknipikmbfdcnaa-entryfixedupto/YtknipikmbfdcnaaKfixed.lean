/-
  The walks of wireTells and of the law EntryFixed.
-/
import Derived.Test.YtknipikmbfdcnaaAdec
import Derived.Deep.QuietTactic
import Derived.BigQuiet
namespace Go.Proofs.Ytknipikmbfdcnaa
open Go.RowKit
set_option linter.unusedVariables false
set_option linter.unusedSimpArgs false

def tellE : Ent := ⟨0, 1, 0, 0, 2, true, ⟨#[]⟩⟩
theorem tellE_ok : tellE.flt = 0 := by decide +kernel

set_option maxRecDepth 100000 in
set_option maxHeartbeats 1000000 in
theorem wireTells_any (w : World) : Calls Try.prog 30 #[] w fun e w' => e = .returned (.bool true) ∧ Below w.heap.size w w' := by
  have HC : Hid (∀ w, _) := fun w => encode_ok 0 1 0 0 2 true ⟨#[]⟩ w tellE_ok
  have hlen := enc_len tellE
  have hbl := body_len' tellE tellE_ok
  have HO : Hid _ := dec_one tellE tellE_ok
  have hfold : encL 0 1 0 0 2 true ⟨#[]⟩ = tellE.enc := rfl
  rw [hfold] at HC
  have hn0 : 0 < tellE.enc.length := by omega
  have hn1 : tellE.enc.length ≤ 64 := by omega
  generalize tellE.enc = L at *
  clear hfold hlen hbl
  go_enter Try.func30, Try.ntmps30
  go_wp2_with fail
  refine (HC.out _).mono ?_
  rintro e' w2 ⟨vb, rfl, hvb, hb2⟩
  go_wp2_with fail
  refine (decode_any L _ _ (by omega) hvb.rd).mono ?_
  rintro e' w3 ⟨va, rfl, hva, hb3⟩
  rw [HO.out] at hva ⊢
  have hB := bstep hb2 hb3
  obtain ⟨ao, cap, rfl⟩ := hvb.shape
  obtain ⟨ae, ce, rfl, _⟩ := hva.rd
  have hl1 : (([tellE].length : Nat) : Int) = 1 := rfl
  clear hvb hva hb2 hb3 HC HO
  go_wp2_with fail
  go_ret
  exact ⟨rfl, hB⟩

set_option maxRecDepth 100000 in
set_option maxHeartbeats 2000000 in
theorem entryFixed_walk (l : List Int) (v : Value) (w : World) (hl : l.length ≤ 1048576) (h : Rd w v l) :
    Calls Try.prog 7 #[v] w fun e w' => e = .returned (.bool true) ∧ Below w.heap.size w w' := by
  obtain ⟨hd1, hd2, hd3⟩ := dec_back l h.1
  have hel := (decP_len l.length l h.1).1
  have hes : (decL l).1.length ≤ l.length := hel
  have HD1 : Hid _ := hd1
  have HD3 : Hid _ := hd3
  have hfl : ((decL l).1.flatMap Ent.enc).length ≤ 1048576 := by rw [hd1]; simp; omega
  go_enter Try.func7, Try.ntmps7
  go_wp2_with fail
  refine (wireTells_any _).mono ?_
  rintro e' w1 ⟨rfl, hb1⟩
  have h1 := h.below (Nat.le_refl _) hb1
  go_wp2_with fail
  refine (decode_any l v _ (by omega) h1).mono ?_
  rintro e' w2 ⟨va, rfl, hva, hb2⟩
  have hB2 := bstep hb1 hb2
  have h2 := h.below (Nat.le_refl _) hB2
  clear h h1 hb1 hb2 hd1 hd3 hel
  generalize (decL l).1 = es at *
  generalize (decL l).2 = nn at *
  obtain ⟨ae, ce, rfl, hce1, hce2, hE⟩ := hva.rd
  have HE : Hid _ := hE
  clear hva hE
  go_wp2
  go_loopw [5, 19] (fun v i wr => ∃ k : Nat, k ≤ es.length ∧ i = .int .i64 k ∧ Own w2.heap.size v ((es.take k).flatMap Ent.enc) wr ∧ Below w2.heap.size w2 wr) (fun _ i _ => es.length - (intOf i).toNat)
  case atStart => exact ⟨0, by omega, rfl, own_nil _ _ (Nat.le_refl _), Below.refl _ _⟩
  case round =>
    obtain ⟨k, hk, rfl, hown, hbel⟩ := hrel
    have hkl := flat_take_len es k
    by_cases hlt : k < es.length
    · obtain ⟨ge, rfl, hF⟩ := HE.out (by omega)
      obtain ⟨a0, a1, a2, a3, a4, a5, a6⟩ := seven (hF k hlt)
      have hge := cell_lt a0
      have q0 := (hbel.cell (p := ⟨ge, k * 7, none⟩) hge).trans a0
      have q1 := (hbel.cell (p := ⟨ge, k * 7 + 1, none⟩) hge).trans a1
      have q2 := (hbel.cell (p := ⟨ge, k * 7 + 2, none⟩) hge).trans a2
      have q3 := (hbel.cell (p := ⟨ge, k * 7 + 3, none⟩) hge).trans a3
      have q4 := (hbel.cell (p := ⟨ge, k * 7 + 4, none⟩) hge).trans a4
      have q5 := (hbel.cell (p := ⟨ge, k * 7 + 5, none⟩) hge).trans a5
      have q6 := (hbel.cell (p := ⟨ge, k * 7 + 6, none⟩) hge).trans a6
      have hok := HD3.out es[k] (List.getElem_mem hlt)
      have HS : Hid _ := flat_take_succ es k hlt
      have hen := enc_len es[k]
      have hbl := body_len' es[k] hok
      have HC : Hid (∀ w, _) := fun w => encode_ok es[k].a es[k].b es[k].c es[k].d es[k].k es[k].t es[k].s w hok
      have hfold : encL es[k].a es[k].b es[k].c es[k].d es[k].k es[k].t es[k].s = es[k].enc := rfl
      rw [hfold] at HC
      have hn1 : es[k].enc.length ≤ 64 := by omega
      generalize es[k] = e at *
      clear a0 a1 a2 a3 a4 a5 a6 hF hfold hen hbl hok
      go_wp2_with fail
      refine (HC.out _).mono ?_
      rintro e' w3 ⟨vb, rfl, hvb, hb3⟩
      have hown3 := (hown.alloc (.cells #[.int .i64 e.a, .int .i64 e.b, .int .i64 e.c, .int .i64 e.d, .int .i64 e.k, .bool e.t, .string e.s] 23)).below (Nat.le_refl _) hb3
      have hbel3 := (hbel.alloc hown.2.2 _).trans (hb3.mono (by simp only [World.size_alloc]; have := hown.2.2; omega))
      clear hb3 HC hown hbel q0 q1 q2 q3 q4 q5 q6
      go_wp2_with (at_builtin; refine wp_app rfl _ _ rfl _ _ _ rfl hown3 _ _ rfl hvb.rd (by omega) ?_)
      intro v4 w4 hown4 hb4
      have hbel4 := hbel3.trans hb4
      rw [← HS.out] at hown4
      clear hown3 hvb hb4 hbel3
      go_wp2
      go_roundw
      case rel => exact ⟨k + 1, by omega, by go_num, hown4, hbel4⟩
      case measure => simp [intOf]; omega
    · have hke : k = es.length := by omega
      rw [hke, List.take_length, HD1.out] at hown
      have hR := h2.below (Nat.le_refl _) hbel
      have hBe := hB2.trans (hbel.mono hB2.size)
      have hnn : (nn : Int) ≤ (l.length : Int) := by omega
      have c1 := fun q => conv_str (hown.rd.drewN q)
      clear hke HE HD1 HD3 hkl hfl h2 hbel hB2 hown hce1 hce2
      obtain ⟨hbb, ao, cap, rfl, hq1, hq2, hq3, hq4⟩ := hR
      by_cases h0 : 0 < l.length
      · obtain ⟨b, off, rfl, hc'⟩ := hq4 h0
        have hcut := rd_cut hbb hq1 hq2 hc' 0 nn (by omega)
        rw [if_neg (by omega)] at hcut
        simp only [Nat.add_zero, Nat.sub_zero, List.drop_zero] at hcut
        have c2 := fun q => conv_str (hcut.drewN q)
        unfold maxLen at hq2
        clear hcut hc' hq4 hq3 hbb
        go_wp2
        go_quiet (fail)
        go_wp2
        go_ret
        exact ⟨rfl, below_drewN hBe _⟩
      · have hl0 : l = [] := List.eq_nil_of_length_eq_zero (by omega)
        subst hl0
        have hn0 : nn = 0 := by simp at hnn; omega
        subst hn0
        have c2 := fun q => conv_str (Rd.drewN (w := wr) (v := .slice ao 0 cap) (l := []) ⟨hbb, ao, cap, rfl, hq1, hq2, hq3, hq4⟩ q)
        unfold maxLen at hq2
        clear hq4 hbb
        cases ao with
        | none =>
          obtain rfl := hq3 rfl
          go_wp2
          go_quiet (fail)
          go_wp2
          go_ret
          exact ⟨rfl, below_drewN hBe _⟩
        | some ad =>
          clear hq3
          go_wp2
          go_quiet (fail)
          go_wp2
          go_ret
          exact ⟨rfl, below_drewN hBe _⟩

end Go.Proofs.Ytknipikmbfdcnaa
