/-
  The walk of many: the first so many entries of raw numbers; each may be.
-/
import Derived.Test.YtimnfgfomlegpaeKraw
import Derived.Test.YtimnfgfomlegpaeKeq
namespace Go.Proofs.Ytimnfgfomlegpae
open Go.RowKit
set_option linter.unusedVariables false
set_option linter.unusedSimpArgs false

/-- Raw numbers. -/
structure Raw4 where
  k : Int
  a : Int
  b : Int
  c : Int
def I64 (n : Int) : Prop := -9223372036854775808 ≤ n ∧ n ≤ 9223372036854775807
def Raw4.ok (r : Raw4) : Prop := I64 r.k ∧ I64 r.a ∧ I64 r.b ∧ I64 r.c
def Raw4.ent (r : Raw4) : Ent := rawE r.k r.a r.b r.c
theorem Raw4.ent_ok (r : Raw4) : r.ent.flt = 0 := rawE_ok r.k r.a r.b r.c

/-- A slice of raw numbers that reads as rs. -/
def RdR (w : World) (v : Value) (rs : List Raw4) : Prop :=
  (∀ r ∈ rs, r.ok) ∧ ∃ ao cap, v = .slice ao rs.length cap ∧ (0 < rs.length → ∃ b off, ao = some ⟨b, off, none⟩ ∧ ∀ i, (h : i < rs.length) →
    w.cell? ⟨b, off + i * 4, none⟩ = some (.int .i64 (rs[i]'h).k) ∧ w.cell? ⟨b, off + i * 4 + 1, none⟩ = some (.int .i64 (rs[i]'h).a) ∧ w.cell? ⟨b, off + i * 4 + 2, none⟩ = some (.int .i64 (rs[i]'h).b) ∧ w.cell? ⟨b, off + i * 4 + 3, none⟩ = some (.int .i64 (rs[i]'h).c))

set_option maxHeartbeats 1000000 in
theorem many_some (rs : List Raw4) (b off cap : Nat) (m : Nat) (w : World) (hm : (m : Int) ≤ 1000) (hl : (rs.length : Int) ≤ 9223372036854775807) (hok : ∀ r ∈ rs, r.ok)
    (hc : ∀ i, (h : i < rs.length) → w.cell? ⟨b, off + i * 4, none⟩ = some (.int .i64 (rs[i]'h).k) ∧ w.cell? ⟨b, off + i * 4 + 1, none⟩ = some (.int .i64 (rs[i]'h).a) ∧ w.cell? ⟨b, off + i * 4 + 2, none⟩ = some (.int .i64 (rs[i]'h).b) ∧ w.cell? ⟨b, off + i * 4 + 3, none⟩ = some (.int .i64 (rs[i]'h).c)) :
    Calls Try.prog 6 #[.slice (some ⟨b, off, none⟩) rs.length cap, .int .i64 m] w fun e w' => ∃ v, e = .returned v ∧ OwnE w.heap.size v ((rs.map Raw4.ent).take m) w' ∧ Below w.heap.size w w' := by
  have HC : Hid _ := hc
  have HO : Hid _ := hok
  clear hc hok
  go_enter Try.func6, Try.ntmps6
  go_wp2
  go_loopw [5, 6] (fun v i wr => ∃ k : Nat, k ≤ rs.length ∧ k ≤ m ∧ i = .int .i64 k ∧ OwnE w.heap.size v ((rs.map Raw4.ent).take k) wr ∧ Below w.heap.size w wr) (fun _ i _ => rs.length - (intOf i).toNat)
  case atStart => exact ⟨0, by omega, by omega, rfl, ownE_nil _ _ (Nat.le_refl _), Below.refl _ _⟩
  case round =>
    obtain ⟨k, hk, hkm, rfl, hown, hbel⟩ := hrel
    by_cases hlt : k < rs.length
    · by_cases hlm : k < m
      · obtain ⟨a0, a1, a2, a3⟩ := HC.out k hlt
        have hb := cell_lt a0
        have q0 := (hbel.cell (p := ⟨b, off + k * 4, none⟩) hb).trans a0
        have q1 := (hbel.cell (p := ⟨b, off + k * 4 + 1, none⟩) hb).trans a1
        have q2 := (hbel.cell (p := ⟨b, off + k * 4 + 2, none⟩) hb).trans a2
        have q3 := (hbel.cell (p := ⟨b, off + k * 4 + 3, none⟩) hb).trans a3
        have hr := HO.out rs[k] (List.getElem_mem hlt)
        have HE : Hid (∀ w, _) := fun w => entry_any rs[k].k rs[k].a rs[k].b rs[k].c w hr.1 hr.2.1 hr.2.2.1 hr.2.2.2
        have HF : Hid (rawE rs[k].k rs[k].a rs[k].b rs[k].c = rs[k].ent) := rfl
        have HS : Hid ((rs.map Raw4.ent).take (k + 1) = (rs.map Raw4.ent).take k ++ [rs[k].ent]) := show _ = _ by (rw [List.take_succ_eq_append_getElem (by simpa using hlt), List.getElem_map])
        have hll : ((rs.map Raw4.ent).take k).length ≤ k := by simp; omega
        rw [HF.out] at HE
        generalize rs[k].ent = e at *
        clear a0 a1 a2 a3 hr
        go_wp2_with fail
        refine (HE.out _).mono ?_
        rintro e' w1 ⟨rfl, hb1⟩
        have hown1 := hown.below (Nat.le_refl _) hb1
        have hbel1 := bstep hbel hb1
        clear hb1 HE hown hbel q0 q1 q2 q3
        simp only [Ent.val]
        go_wp2_with (at_builtin; refine wp_appE rfl _ _ rfl _ _ _ rfl e hown1 _ rfl (by simp) (by omega) ?_)
        intro v2 w2 hown2 hb2
        have hbel2 := hbel1.trans hb2
        rw [← HS.out] at hown2
        clear hb2 hown1 hbel1
        go_wp2
        go_roundw
        case rel => exact ⟨k + 1, by omega, by omega, by go_num, hown2, hbel2⟩
        case measure => simp [intOf]; omega
      · have E : Hid ((rs.map Raw4.ent).take m = (rs.map Raw4.ent).take k) := show _ = _ by rw [show k = m by omega]
        go_wp2
        go_ret
        rw [E.out]
        exact ⟨_, rfl, hown, hbel⟩
    · have E : Hid ((rs.map Raw4.ent).take m = (rs.map Raw4.ent).take k) := show _ = _ by rw [List.take_of_length_le (by simp; omega), List.take_of_length_le (by simp; omega)]
      go_wp2
      go_ret
      rw [E.out]
      exact ⟨_, rfl, hown, hbel⟩

set_option maxHeartbeats 400000 in
theorem many_none (ao : Option Addr) (cap : Nat) (m : Int) (w : World) :
    Calls Try.prog 6 #[.slice ao 0 cap, .int .i64 m] w fun e w' => ∃ v, e = .returned v ∧ OwnE w.heap.size v [] w' ∧ Below w.heap.size w w' := by
  go_enter Try.func6, Try.ntmps6
  go_wp2
  refine wp_loop_rounds 1 ?_
  rw [rounds_succ]
  go_wp2
  go_ret
  exact ⟨_, rfl, ownE_nil _ _ (Nat.le_refl _), Below.refl _ _⟩

theorem many_any (rs : List Raw4) (v : Value) (m : Nat) (w : World) (hm : (m : Int) ≤ 1000) (hl : (rs.length : Int) ≤ 9223372036854775807) (h : RdR w v rs) :
    Calls Try.prog 6 #[v, .int .i64 m] w fun e w' => ∃ v, e = .returned v ∧ OwnE w.heap.size v ((rs.map Raw4.ent).take m) w' ∧ Below w.heap.size w w' := by
  obtain ⟨hok, ao, cap, rfl, hc⟩ := h
  by_cases h0 : 0 < rs.length
  · obtain ⟨b, off, rfl, hc'⟩ := hc h0
    exact many_some rs b off cap m w hm hl hok hc'
  · have hl : rs = [] := List.eq_nil_of_length_eq_zero (by omega)
    subst hl
    simpa using many_none ao cap m w

theorem RdR.below {v : Value} {rs : List Raw4} {w w' : World} (h : RdR w v rs) (hb : Below w.heap.size w w') : RdR w' v rs := by
  obtain ⟨hok, ao, cap, rfl, h3⟩ := h
  refine ⟨hok, ao, cap, rfl, fun h0 => ?_⟩
  obtain ⟨b, off, rfl, hg⟩ := h3 h0
  have hlt : b < w.heap.size := cell_lt (hg 0 h0).1
  refine ⟨b, off, rfl, fun i hi => ?_⟩
  obtain ⟨q0, q1, q2, q3⟩ := hg i hi
  exact ⟨(hb.cell (p := ⟨b, off + i * 4, none⟩) hlt).trans q0, (hb.cell (p := ⟨b, off + i * 4 + 1, none⟩) hlt).trans q1, (hb.cell (p := ⟨b, off + i * 4 + 2, none⟩) hlt).trans q2, (hb.cell (p := ⟨b, off + i * 4 + 3, none⟩) hlt).trans q3⟩

end Go.Proofs.Ytimnfgfomlegpae
