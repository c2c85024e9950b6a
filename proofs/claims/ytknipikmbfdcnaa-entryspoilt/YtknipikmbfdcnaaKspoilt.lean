/-
  The walk of the law EntrySpoilt.
-/
import Derived.Test.YtknipikmbfdcnaaAdec
import Derived.Test.YtknipikmbfdcnaaAraw
import Derived.Deep.QuietTactic
import Derived.BigQuiet
namespace Go.Proofs.Ytknipikmbfdcnaa
open Go.RowKit
set_option linter.unusedVariables false
set_option linter.unusedSimpArgs false

set_option maxRecDepth 100000 in
set_option maxHeartbeats 400000 in
theorem clone_any (B : Nat) (l : List Int) (v : Value) (w : World) (hl : l.length ≤ 1000000) (h0 : 0 < l.length) (h : Own B v l w) :
    Calls Try.prog 32 #[v] w fun e w' => ∃ u, e = .returned u ∧ Own w.heap.size u l w' ∧ Below w.heap.size w w' := by
  have hr := h.rd
  obtain ⟨hb, ao, cap, rfl, r4, r5, r6, hc⟩ := h.rd
  obtain ⟨b, off, rfl, hc'⟩ := hc h0
  have hq := fun wx => Lib.run_eql_slice_nil (P := Try.prog) wx 27 5 (some ⟨b, off, none⟩) l.length cap 0 0 Try.underlying27
  have h1 := own_lit w.heap.size w [] (by intro n hn; simp at hn) (Nat.le_refl _) (by simp [maxLen])
  simp only [List.map_nil, List.length_nil] at h1
  have h2 := hr.below (Nat.le_refl _) (bbox w (.cells #[] 5))
  clear hr h hc hc' hb
  go_enter Try.func32, Try.ntmps32
  go_wp2_with (at_builtin; refine wp_app rfl _ _ rfl _ _ _ rfl h1 _ _ rfl h2 (by simp; omega) ?_)
  intro v' w' hown hb
  have hbel := (bbox _ _).trans hb
  clear h1 h2 hb
  go_wp2
  go_ret
  exact ⟨_, rfl, by simpa using hown, hbel⟩

theorem Own.block {B : Nat} {v : Value} {l : List Int} {w : World} (h : Own B v l w) (h0 : 0 < l.length) : ∃ g cap, v = .slice (some ⟨g, 0, none⟩) l.length cap ∧ B ≤ g ∧ g < w.heap.size := by
  rcases h.1.2 with ⟨h1, h2⟩ | ⟨g, cap, cur, r1, r2, r3, r4⟩
  · omega
  · refine ⟨g, cap, r1, r2, ?_⟩
    rcases Nat.lt_or_ge g w.heap.size with hg | hg
    · exact hg
    · rw [Array.getElem?_eq_none hg] at r3; simp at r3

theorem Own.stored {B g cap : Nat} {l : List Int} {w : World} (h : Own B (.slice (some ⟨g, 0, none⟩) l.length cap) l w) (j : Nat) (u : Int) (hu : 0 ≤ u ∧ u ≤ 255) :
    Own B (.slice (some ⟨g, 0, none⟩) (l.set j u).length cap) (l.set j u) (w.setCell ⟨g, j, none⟩ (.int .u8 u)) := by
  refine ⟨?_, ?_, ?_⟩
  · have := (h.1.stored j (.int .u8 u)).1
    rw [List.length_set, List.map_set]
    exact this
  · intro n hn
    rcases List.mem_or_eq_of_mem_set hn with hn | rfl
    · exact h.2.1 n hn
    · exact hu
  · exact Nat.le_trans h.2.2 (h.1.stored j (.int .u8 u)).2.size

set_option maxRecDepth 100000 in
set_option maxHeartbeats 1000000 in
theorem entrySpoilt_core (kd a b c at_ by_ : Int) (w : World) (hk : -9223372036854775808 ≤ kd ∧ kd ≤ 9223372036854775807) (ha : -9223372036854775808 ≤ a ∧ a ≤ 9223372036854775807) (hb : -9223372036854775808 ≤ b ∧ b ≤ 9223372036854775807) (hc : -9223372036854775808 ≤ c ∧ c ≤ 9223372036854775807)
    (hat : -9223372036854775808 ≤ at_ ∧ at_ ≤ 9223372036854775807) (hby : 0 ≤ by_ ∧ by_ ≤ 255) :
    Calls Try.prog 8 #[.agg #[.int .i64 kd, .int .i64 a, .int .i64 b, .int .i64 c], .int .i64 at_, .int .u8 by_] w fun e w' => e = .returned (.bool true) ∧ Below w.heap.size w w' := by
  have HE : Hid (∀ w, _) := fun w => entry_any kd a b c w hk ha hb hc
  have hok := rawE_ok kd a b c
  generalize rawE kd a b c = e at *
  have HC : Hid (∀ w, _) := fun w => encode_ok e.a e.b e.c e.d e.k e.t e.s w hok
  have hlen := enc_len e
  have hbl := body_len' e hok
  have hby' := enc_bytes e hok
  have hfold : encL e.a e.b e.c e.d e.k e.t e.s = e.enc := rfl
  rw [hfold] at HC
  have HD := dec_same e
  have HO := dec_one e hok
  have HD' : Hid _ := HD
  have HO' : Hid _ := HO
  have hn0 : 0 < e.enc.length := by omega
  have hn1 : e.enc.length ≤ 64 := by omega
  generalize hL : e.enc = L at *
  have hp := pick_bd at_ L.length (by omega)
  obtain ⟨k, hkp⟩ := Int.eq_ofNat_of_zero_le hp.1
  clear HD HO hfold hok hlen hbl hL hk ha hb hc
  go_enter Try.func8, Try.ntmps8
  go_wp2_with fail
  refine (HE.out _).mono ?_
  rintro e' w1 ⟨rfl, hb1⟩
  have hB1 := bstep (bbox _ _) hb1
  clear hb1 HE
  simp only [Ent.val]
  go_wp2_with fail
  refine (HC.out _).mono ?_
  rintro e' w2 ⟨vb, rfl, hvb, hb2⟩
  have hx2 := box_cells (by simpa using hb2 : Below (w1.heap.size + 1) _ w2)
  have hz2 : w1.heap.size < w2.heap.size := by (have := hb2.size; simp at this; omega)
  have hB2 := bstep (bstep hB1 (bbox _ _)) hb2
  clear hb2 HC hB1
  obtain ⟨ao, cap, rfl⟩ := hvb.shape
  have hl0 : ((L.length : Int) == 0) = false := by rw [beq_eq_false_iff_ne]; omega
  go_wp2_with fail
  refine (clone_any _ L _ _ (by omega) hn0 hvb).mono ?_
  rintro e' w3 ⟨vc, rfl, hvc, hb3⟩
  obtain ⟨g, cap', rfl, hg1, hg2⟩ := hvc.block hn0
  have hB3 := bstep hB2 hb3
  have hx3 : ∀ o, w3.cell? ⟨w1.heap.size, o, none⟩ = _ := fun o => (hb3.cell (p := ⟨w1.heap.size, o, none⟩) hz2).trans (hx2 o)
  clear hvb hb3 hx2 hl0
  go_wp2_with fail
  refine (picked_any at_ L.length _ hat (by omega)).mono ?_
  rintro e' w4 ⟨rfl, rfl⟩
  rw [hkp]
  have hkl : k < L.length := by omega
  have hck : w4.cell? ⟨g, k, none⟩ = some (.int .u8 (L.getD k 0)) := by (have := hvc.1.cellAt k (by omega); rw [this]; simp [List.getD, hkl])
  have hfk : w4.frozen? ⟨g, k, none⟩ = false := hvc.1.frozenAt k
  have hxk := bytes_getD hby' k
  generalize hq : L.getD k 0 = q at *
  have HQ : Hid (L.getD k 0 = q) := hq
  clear hq hkp
  have hst := hvc.stored k ((q + by_) % 256) (by omega)
  rw [List.length_set] at hst
  have hBs : Below w.heap.size w (w4.setCell ⟨g, k, none⟩ (.int .u8 ((q + by_) % 256))) := hB3.setCell (p := ⟨g, k, none⟩) (by show w.heap.size ≤ g; have := hB2.size; omega) _
  have hxs : ∀ o, (w4.setCell ⟨g, k, none⟩ (.int .u8 ((q + by_) % 256))).cell? ⟨w1.heap.size, o, none⟩ = _ := fun o => (World.cell?_of_block (w := w4) (a := ⟨w1.heap.size, o, none⟩) (Below.heap_setCell w4 ⟨g, k, none⟩ _ w1.heap.size (by show w1.heap.size ≠ g; omega))).trans (hx3 o)
  have hls : (L.set k ((q + by_) % 256)).length = L.length := List.length_set
  clear hB3 hx3 hB2
  go_wp2_with fail
  refine (decode_any (L.set k ((q + by_) % 256)) _ _ (by omega) (by (have := hst.rd; exact this))).mono ?_
  rintro e' w5 ⟨va, rfl, hva, hb5⟩
  have hB5 := bstep hBs hb5
  have hx5 : ∀ o, w5.cell? ⟨w1.heap.size, o, none⟩ = _ := fun o => (hb5.cell (p := ⟨w1.heap.size, o, none⟩) (by show w1.heap.size < (w4.setCell _ _).heap.size; have : w4.heap.size ≤ (w4.setCell ⟨g, k, none⟩ (.int .u8 ((q + by_) % 256))).heap.size := ((Below.refl 0 w4).setCell (Nat.zero_le _) _).size; omega)).trans (hxs o)
  have hbs : Bytes (L.set k ((q + by_) % 256)) := hst.2.1
  clear hb5 hxs hBs hst hvc hck hfk
  by_cases hb0 : by_ = 0
  · have e1 : L.set k ((q + by_) % 256) = L := by
      rw [hb0, show (q + 0) % 256 = q by omega, ← HQ.out]
      apply List.ext_getElem
      · simp
      · intro i h1 h2
        by_cases hik : k = i
        · subst hik; simp [List.getD, hkl]
        · simp [hik]
    rw [e1, HO'.out] at hva
    subst hb0
    clear e1 hbs HD' HO' hby' HQ hls
    obtain ⟨ae, ce, rfl, hce1, hce2, hE⟩ := hva.rd
    obtain ⟨ge, rfl, hF⟩ := hE (by simp)
    have hE0 := hF 0 (by simp)
    simp only [Nat.zero_mul, List.getElem_cons_zero] at hE0
    obtain ⟨a0, a1, a2, a3, a4, a5, a6⟩ := seven hE0
    simp only [Nat.zero_add] at a1 a2 a3 a4 a5 a6
    clear hE hF hE0 hva
    go_wp2_with fail
    go_quiet (fail)
    go_wp2
    go_ret
    exact ⟨rfl, below_drewN hB5 _⟩
  · have hb1 : (by_ == 0) = false := by rw [beq_eq_false_iff_ne]; exact hb0
    have HX : Hid ((decL (L.set k ((q + by_) % 256))).1 ≠ [e]) := fun h => by
      have := HD'.out _ hbs hls h
      have h2 : (L.set k ((q + by_) % 256)).getD k 0 = L.getD k 0 := by rw [this]
      rw [HQ.out] at h2
      simp [List.getD, hkl] at h2
      omega
    generalize (decL (L.set k ((q + by_) % 256))).1 = es at *
    generalize (decL (L.set k ((q + by_) % 256))).2 = nn at *
    clear hbs HD' HO' hby' HQ hls
    obtain ⟨ae, ce, rfl, hce1, hce2, hE⟩ := hva.rd
    by_cases h1 : es.length = 1
    · obtain ⟨e', rfl⟩ := List.length_eq_one_iff.1 h1
      obtain ⟨ge, rfl, hF⟩ := hE (by simp)
      have hE0 := hF 0 (by simp)
      simp only [Nat.zero_mul, List.getElem_cons_zero] at hE0
      obtain ⟨a0, a1, a2, a3, a4, a5, a6⟩ := seven hE0
      simp only [Nat.zero_add] at a1 a2 a3 a4 a5 a6
      have hne := fun wx => ent_ne e' e wx (fun h => HX.out (by rw [h]))
      clear hE hF hE0 hva h1
      go_wp2_with fail
      go_quiet (fail)
      go_wp2
      go_ret
      exact ⟨rfl, below_drewN hB5 _⟩
    · have hn1 : ((es.length : Int) == 1) = false := by rw [beq_eq_false_iff_ne]; omega
      clear hE hva h1
      go_wp2_with fail
      go_quiet (fail)
      go_wp2
      go_ret
      exact ⟨rfl, below_drewN hB5 _⟩

end Go.Proofs.Ytknipikmbfdcnaa
