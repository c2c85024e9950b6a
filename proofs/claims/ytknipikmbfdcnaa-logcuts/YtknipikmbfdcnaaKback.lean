/-
  The walk of the law EntryBack, and of slices.Equal of one list twice.
-/
import Derived.Test.YtknipikmbfdcnaaAdec
import Derived.Test.YtknipikmbfdcnaaAraw
import Derived.Deep.QuietTactic
import Derived.BigQuiet
namespace Go.Proofs.Ytknipikmbfdcnaa
open Go.RowKit
set_option linter.unusedVariables false
set_option linter.unusedSimpArgs false

set_option maxRecDepth 100000 in
set_option maxHeartbeats 1000000 in
theorem eqEntries_some (es : List Ent) (g1 c1 g2 c2 : Nat) (w : World) (hl : (es.length : Int) ≤ 1099511627776)
    (h1 : ∀ i, (h : i < es.length) → ∀ j, j < 7 → w.cell? ⟨g1, i * 7 + j, none⟩ = (es[i]'h).cells[j]?) (h2 : ∀ i, (h : i < es.length) → ∀ j, j < 7 → w.cell? ⟨g2, i * 7 + j, none⟩ = (es[i]'h).cells[j]?) :
    Calls Try.prog 29 #[.slice (some ⟨g1, 0, none⟩) es.length c1, .slice (some ⟨g2, 0, none⟩) es.length c2] w fun e w' => e = .returned (.bool true) ∧ Below w.heap.size w w' := by
  have hne : ((es.length : Int) != es.length) = false := by simp
  go_enter Try.func29, Try.ntmps29
  go_wp2
  go_loopw [13] (fun i wr => ∃ k : Nat, k ≤ es.length ∧ i = .int .i64 k ∧ ∃ q, wr = w.drewN q) (fun i _ => es.length - (intOf i).toNat)
  case atStart => exact ⟨0, by omega, rfl, 0, rfl⟩
  case round =>
    obtain ⟨k, hk, rfl, q, rfl⟩ := hrel
    by_cases hlt : k < es.length
    · obtain ⟨a0, a1, a2, a3, a4, a5, a6⟩ := seven (h1 k hlt)
      obtain ⟨b0, b1, b2, b3, b4, b5, b6⟩ := seven (h2 k hlt)
      clear h1 h2
      generalize es[k] = e at *
      go_wp2
      go_quiet (fail)
      go_wp2
      go_roundw
      case rel => exact ⟨k + 1, by omega, by go_num, q + nq, rfl⟩
      case measure => simp [intOf]; omega
    · clear h1 h2
      go_wp2
      go_ret
      exact ⟨rfl, below_drewN (Below.refl _ _) _⟩

set_option maxRecDepth 100000 in
set_option maxHeartbeats 400000 in
theorem eqEntries_none (a1 a2 : Option Addr) (c1 c2 : Nat) (w : World) :
    Calls Try.prog 29 #[.slice a1 0 c1, .slice a2 0 c2] w fun e w' => e = .returned (.bool true) ∧ Below w.heap.size w w' := by
  go_enter Try.func29, Try.ntmps29
  go_wp2
  refine wp_loop_rounds 1 ?_
  rw [rounds_succ]
  go_wp2
  go_ret
  exact ⟨rfl, Below.refl _ _⟩

theorem eqEntries_any (es : List Ent) (v u : Value) (w : World) (hl : (es.length : Int) ≤ 1099511627776) (h1 : RdE w v es) (h2 : RdE w u es) :
    Calls Try.prog 29 #[v, u] w fun e w' => e = .returned (.bool true) ∧ Below w.heap.size w w' := by
  obtain ⟨a1, c1, rfl, _, _, h1⟩ := h1
  obtain ⟨a2, c2, rfl, _, _, h2⟩ := h2
  by_cases h0 : 0 < es.length
  · obtain ⟨g1, rfl, h1'⟩ := h1 h0
    obtain ⟨g2, rfl, h2'⟩ := h2 h0
    exact eqEntries_some es g1 c1 g2 c2 w hl h1' h2'
  · have hl : es = [] := List.eq_nil_of_length_eq_zero (by omega)
    subst hl
    exact eqEntries_none a1 a2 c1 c2 w

set_option maxRecDepth 100000 in
set_option maxHeartbeats 2000000 in
theorem entryBack_core (rs : List Raw4) (v : Value) (w : World) (hl : (rs.length : Int) ≤ 9223372036854775807) (h : RdR w v rs) :
    Calls Try.prog 6 #[v] w fun e w' => e = .returned (.bool true) ∧ Below w.heap.size w w' := by
  have hok : ∀ e ∈ (rs.map Raw4.ent).take 30, e.flt = 0 := fun e he => by
    obtain ⟨r, _, rfl⟩ := List.mem_map.1 (List.mem_of_mem_take he)
    exact r.ent_ok
  have hes : ((rs.map Raw4.ent).take 30).length ≤ 30 := by simp; omega
  have hfl := flat_len _ hok
  have HD : Hid _ := dec_encs _ hok
  have HOK : Hid _ := hok
  have HM : Hid (∀ w, _) := fun w (h : RdR w v rs) => many_any rs v 30 w (by omega) hl h
  go_enter Try.func6, Try.ntmps6
  go_wp2_with fail
  refine (HM.out _ h).mono ?_
  rintro e' w2 ⟨va, rfl, hva, hb2⟩
  clear h HM hok
  generalize (rs.map Raw4.ent).take 30 = es at *
  have hfl' : (es.flatMap Ent.enc).length ≤ 1920 := by omega
  obtain ⟨ae, ce, rfl, hce1, hce2, hE⟩ := hva.rd
  have HE : Hid _ := hE
  have HV : Hid _ := hva
  clear hva hE hfl
  go_wp2
  go_loopw [4, 15] (fun v i wr => ∃ k : Nat, k ≤ es.length ∧ i = .int .i64 k ∧ Own w2.heap.size v ((es.take k).flatMap Ent.enc) wr ∧ Below w2.heap.size w2 wr) (fun _ i _ => es.length - (intOf i).toNat)
  case atStart => exact ⟨0, by omega, rfl, own_nil _ _ (Nat.le_refl _), Below.refl _ _⟩
  case round =>
    obtain ⟨k, hk, rfl, hown, hbel⟩ := hrel
    have hkl := flat_take_len es k
    by_cases hlt : k < es.length
    · obtain ⟨ge, rfl, hF⟩ := HE.out (by omega)
      obtain ⟨a0, a1, a2, a3, a4, a5, a6⟩ := seven (hF k hlt)
      have hge := cell_lt a0
      have q0 := (hbel.cell (p := ⟨ge, k * 7, none⟩) hge).trans a0
      have q1 := (hbel.cell (p := ⟨ge, k * 7 + 1, none⟩) hge).trans a1
      have q2 := (hbel.cell (p := ⟨ge, k * 7 + 2, none⟩) hge).trans a2
      have q3 := (hbel.cell (p := ⟨ge, k * 7 + 3, none⟩) hge).trans a3
      have q4 := (hbel.cell (p := ⟨ge, k * 7 + 4, none⟩) hge).trans a4
      have q5 := (hbel.cell (p := ⟨ge, k * 7 + 5, none⟩) hge).trans a5
      have q6 := (hbel.cell (p := ⟨ge, k * 7 + 6, none⟩) hge).trans a6
      have hok := HOK.out es[k] (List.getElem_mem hlt)
      have HS : Hid _ := flat_take_succ es k hlt
      have hen := enc_len es[k]
      have hbl := body_len' es[k] hok
      have HC : Hid (∀ w, _) := fun w => encode_ok es[k].a es[k].b es[k].c es[k].d es[k].k es[k].t es[k].s w hok
      have HK : Hid (∀ w, _) := fun w => check_any es[k].a es[k].b es[k].c es[k].d es[k].k es[k].t es[k].s w
      have hfold : encL es[k].a es[k].b es[k].c es[k].d es[k].k es[k].t es[k].s = es[k].enc := rfl
      have hfold2 : flt es[k].a es[k].b es[k].c es[k].d es[k].k es[k].t es[k].s.size = 0 := hok
      rw [hfold] at HC
      rw [hfold2] at HK
      have hn1 : es[k].enc.length ≤ 64 := by omega
      generalize es[k] = e at *
      clear a0 a1 a2 a3 a4 a5 a6 hF hfold hfold2 hen hbl hok
      go_wp2_with fail
      refine (HC.out _).mono ?_
      rintro e' w3 ⟨vb, rfl, hvb, hb3⟩
      have hown3 := (hown.alloc (.cells #[.int .i64 e.a, .int .i64 e.b, .int .i64 e.c, .int .i64 e.d, .int .i64 e.k, .bool e.t, .string e.s] 23)).below (Nat.le_refl _) hb3
      have hbel3 := (hbel.alloc hown.2.2 _).trans (hb3.mono (by simp only [World.size_alloc]; have := hown.2.2; omega))
      have hx3 := box_cells (by simpa using hb3 : Below (wr.heap.size + 1) _ w3)
      clear hb3 HC hown hbel q0 q1 q2 q3 q4 q5 q6
      go_wp2_with fail
      refine (HK.out _).mono ?_
      rintro e' w4 ⟨rfl, hb4⟩
      have hown4 := hown3.below (Nat.le_refl _) hb4
      have hbel4 := hbel3.trans (hb4.mono hown3.2.2)
      have hvb4 := hvb.below (Nat.le_refl _) hb4
      clear hb4 hown3 hbel3 hvb HK hx3
      go_wp2_with (at_builtin; refine wp_app rfl _ _ rfl _ _ _ rfl hown4 _ _ rfl hvb4.rd (by omega) ?_)
      intro v5 w5 hown5 hb5
      have hbel5 := hbel4.trans hb5
      rw [← HS.out] at hown5
      clear hown4 hvb4 hb5 hbel4
      go_wp2
      go_roundw
      case rel => exact ⟨k + 1, by omega, by go_num, hown5, hbel5⟩
      case measure => simp [intOf]; omega
    · have hke : k = es.length := by omega
      rw [hke, List.take_length] at hown
      have hvaR := OwnE.below (show OwnE w.heap.size _ es w2 from HV.out) (Nat.le_refl _) hbel
      have hBe := hb2.trans (hbel.mono hb2.size)
      clear hke HE HV HOK hkl hbel hb2
      go_wp2_with fail
      refine (decode_any _ _ _ (by omega) hown.rd).mono ?_
      rintro e' w3 ⟨vg, rfl, hvg, hb3⟩
      rw [HD.out] at hvg ⊢
      have hva3 := hvaR.below (Nat.le_refl _) hb3
      have hB3 := bstep hBe hb3
      obtain ⟨ao, cap, rfl⟩ := hown.shape
      have hnn : (((es.flatMap Ent.enc).length : Int) == ((es.flatMap Ent.enc).length : Int)) = true := by simp
      clear hown hb3 hvaR hBe HD
      go_wp2_with fail
      refine (eqEntries_any es _ _ _ (by omega) hva3.rd hvg.rd).mono ?_
      rintro e' w4 ⟨rfl, hb4⟩
      have hB4 := bstep hB3 hb4
      clear hva3 hvg hb4 hB3
      go_wp2_with fail
      go_ret
      exact ⟨rfl, hB4⟩

end Go.Proofs.Ytknipikmbfdcnaa
