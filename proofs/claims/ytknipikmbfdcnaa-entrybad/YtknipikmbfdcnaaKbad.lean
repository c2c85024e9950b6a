/-
  The walk of the law EntryBad.
-/
import Derived.Test.YtknipikmbfdcnaaKlog
import Derived.Deep.RegionHeld3
namespace Go.Proofs.Ytknipikmbfdcnaa
open Go.RowKit
set_option linter.unusedVariables false
set_option linter.unusedSimpArgs false

def odds (q : Int) (S : ByteArray) : List Ent := [⟨0, 0, 0, 0, 0, false, ⟨#[]⟩⟩, ⟨0, 0, 0, 0, 3 + (1 + q), false, ⟨#[]⟩⟩, ⟨-(1 + q), 0, 0, 0, 1, false, ⟨#[]⟩⟩, ⟨0, 1073741824 + (1 + q), 0, 0, 1, false, ⟨#[]⟩⟩, ⟨0, 0, 0, 0, 1, false, S⟩, ⟨0, 0, 0, 0, 2, false, ⟨#[]⟩⟩, ⟨0, 1 + q, 0, 0, 2, false, ⟨#[]⟩⟩, ⟨0, 1 + q, 0, 1 + q, 3, true, ⟨#[]⟩⟩, ⟨0, 0, 0, 0, 1, true, ⟨#[]⟩⟩, ⟨0, 0, 0, 1 + q, 1, false, ⟨#[]⟩⟩]
def oddErrs : List Int := [3, 3, 2, 2, 1, 4, 4, 4, 4, 4]
theorem ten {i : Nat} (h : i < 10) : i = 0 ∨ i = 1 ∨ i = 2 ∨ i = 3 ∨ i = 4 ∨ i = 5 ∨ i = 6 ∨ i = 7 ∨ i = 8 ∨ i = 9 := by omega
theorem odds_flt (q : Int) (S : ByteArray) (h0 : 0 ≤ q) (h1 : q < 100) (hS : (S.size : Int) = 40 + (1 + q)) (i : Nat) (h : i < (odds q S).length) : ((odds q S)[i]'h).flt = oddErrs.getD i 0 ∧ oddErrs.getD i 0 ≠ 0 := by
  have hS' : 40 < S.size := by omega
  have i1 : inB (1 + q) = true := by simp [inB]; omega
  have k2 : mkB 2 = true := by decide
  have k3 : mkB 3 = true := by decide
  have k1 : mkB 1 = false := by decide
  have i0 : inB 0 = true := by decide
  rcases ten h with rfl | rfl | rfl | rfl | rfl | rfl | rfl | rfl | rfl | rfl
  · exact ⟨by show flt 0 0 0 0 0 false 0 = 3; decide, by decide⟩
  · refine ⟨?_, by decide⟩
    show flt 0 0 0 0 (3 + (1 + q)) false 0 = 3
    unfold flt
    rw [if_pos ⟨by omega, by simp [mkB]; omega⟩]
  · refine ⟨?_, by decide⟩
    show flt (-(1 + q)) 0 0 0 1 false 0 = 2
    have : inB (-(1 + q)) = false := by simp [inB]; omega
    unfold flt
    rw [if_neg (by simp), if_pos (.inl this)]
  · refine ⟨?_, by decide⟩
    show flt 0 (1073741824 + (1 + q)) 0 0 1 false 0 = 2
    have : inB (1073741824 + (1 + q)) = false := by simp [inB]; omega
    unfold flt
    rw [if_neg (by simp), if_pos (.inr (.inl this))]
  · refine ⟨?_, by decide⟩
    show flt 0 0 0 0 1 false S.size = 1
    unfold flt
    rw [if_neg (by simp), if_neg (by simp [i0]), if_pos hS']
  · exact ⟨by show flt 0 0 0 0 2 false 0 = 4; decide, by decide⟩
  · refine ⟨?_, by decide⟩
    show flt 0 (1 + q) 0 0 2 false 0 = 4
    unfold flt
    rw [if_neg (by simp [k2]), if_neg (by simp [i0, i1]), if_neg (by omega), if_pos ⟨k2, by simp [fmB]⟩]
  · refine ⟨?_, by decide⟩
    show flt 0 (1 + q) 0 (1 + q) 3 true 0 = 4
    unfold flt
    rw [if_neg (by simp [k3]), if_neg (by simp [i0, i1]), if_neg (by omega), if_pos ⟨k3, by simp [fmB]⟩]
  · exact ⟨by show flt 0 0 0 0 1 true 0 = 4; decide, by decide⟩
  · refine ⟨?_, by decide⟩
    show flt 0 0 0 (1 + q) 1 false 0 = 4
    unfold flt
    rw [if_neg (by simp), if_neg (by simp [i0, i1]), if_neg (by omega), if_neg (by simp [k1]), if_pos ⟨rfl, by simp [fnB]; omega⟩]

section
variable {w : World} {ops : Array Oper} {rest : List Oper} {o : Oper} {a : Act} {Q : Exit → Act → World → Prop}
/-- make([]byte, n): zeros. -/
theorem wp_mkz (hgd : o.guard = none) (x y : Operand) (ho : o.op = Op.makeSlice 27 x y) (kl kc : IntKind) (L C : Int) (n : Nat) (hx : a.eval x = .int kl L) (hy : a.eval y = .int kc C) (hL : L = (n : Int)) (hC : C = (n : Int)) (hn : n ≤ 100000000)
    (h : ∀ w', Own w.heap.size (.slice (some ⟨w.heap.size, 0, none⟩) n n) (List.replicate n 0) w' → Below w.heap.size w w' → wpList Try.prog ops Q rest (a.put o.dst (.slice (some ⟨w.heap.size, 0, none⟩) n n)) w') : wpList Try.prog ops Q (o :: rest) a w := by
  obtain ⟨i, hi, hz0, hz1, hz2⟩ := info_parts infoByte
  refine wpList_make_full w hgd x y _ ho w.heap.size _ i (.int .u8 0) 1 Try.underlying27 hi hz0 hz1 kl kc L C n hx hy hL hC (by rw [hz2]; omega) (by unfold maxLen; omega) (Nat.le_refl _) ?_
  intro w' ho' hg
  refine h w' ⟨?_, fun x hx => ?_, hg.size⟩ ((Below.refl _ w).grown hg (Nat.le_refl _) (fun k hk => by cases hk))
  · have e : (madeCells (Value.int .u8 0).cells (n * 1)).toList = (List.replicate n (0 : Int)).map (Value.int .u8) := by
      rw [Nat.mul_one]
      show (madeCells #[Value.int .u8 0] n).toList = _
      rw [toList_madeCells_one, List.map_replicate]
    rw [← e, List.length_replicate]
    exact ho'
  · have := List.eq_of_mem_replicate hx
    omega
end

set_option maxRecDepth 100000 in
set_option maxHeartbeats 2000000 in
theorem entryBad_core (m n : Int) (w : World) (hm : I64 m) (hn : I64 n) :
    Calls Try.prog 16 #[.int .i64 m, .int .i64 n] w fun e w' => e = .returned (.bool true) ∧ Below w.heap.size w w' := by
  have hpk := pick_bd n 100 (by omega)
  have HP : Hid (∀ w, _) := fun w => picked_any n 100 w hn (by omega)
  go_enter Try.func16, Try.ntmps16
  go_wp2_with fail
  refine (HP.out _).mono ?_
  rintro e' w1 ⟨rfl, rfl⟩
  generalize pick n 100 = q at *
  clear HP
  obtain ⟨q, rfl⟩ := Int.eq_ofNat_of_zero_le hpk.1
  have hq' : (q : Int) < 100 := hpk.2
  have hqn : q < 100 := by omega
  go_wp2_with (at_make; refine wp_mkz rfl _ _ rfl _ _ _ _ (40 + (1 + q)) rfl rfl (by simp) (by simp) (by omega) ?_)
  intro w2 hz hb2
  have c2 := conv_str hz.rd
  have hS : (strOfNums (List.replicate (40 + (1 + q)) 0)).size = 40 + (1 + q) := by
    unfold strOfNums
    simp [ByteArray.size]
  generalize strOfNums (List.replicate (40 + (1 + q)) 0) = S at *
  have HS : Hid _ := hS
  clear hz hS
  have hpm := pick_bd m 10 (by omega)
  go_wp2_with fail
  refine (picked_any m 10 _ hm (by omega)).mono ?_
  rintro e' W ⟨rfl, hW⟩
  obtain ⟨i, hi⟩ := Int.eq_ofNat_of_zero_le hpm.1
  rw [hi]
  have hi10 : i < 10 := by omega
  have hE : RdE W (.slice (some ⟨w2.heap.size, 0, none⟩) 10 10) (odds q S) := by
    have h1 : OwnE w2.heap.size (.slice (some ⟨w2.heap.size, 0, none⟩) 10 10) (odds q S) (w2.alloc (.cells ((odds q S).flatMap Ent.cells).toArray 23)) := by
      have := World.ownsRow_lit (e := 23) (size := 7) (base := w2.heap.size) w2 ((odds q S).flatMap Ent.cells).toArray 10 (Nat.le_refl _) (by simp [maxLen]) rfl
      exact ⟨this, (bbox _ _).size⟩
    rw [hW]
    exact (h1.alloc _).rd
  have hErr : ∀ i, i < 10 → W.cell? ⟨w2.heap.size + 1, i, none⟩ = some (.int .i64 (oddErrs.getD i 0)) := by
    intro i hi
    rw [hW]
    rcases ten hi with rfl | rfl | rfl | rfl | rfl | rfl | rfl | rfl | rfl | rfl <;> simp [oddErrs]
  have hBW : Below w1.heap.size w1 W := by
    rw [hW]
    exact bstep (bstep hb2 (bbox _ _)) (bbox _ _)
  have hlen : i < (odds q S).length := hi10
  obtain ⟨hf, hr0⟩ := odds_flt q S (by omega) hq' (by have := HS.out; omega) i hlen
  have hcr := hErr i hi10
  have hc : ∀ i, (h : i < (odds q S).length) → ∀ j, j < 7 → W.cell? ⟨w2.heap.size, i * 7 + j, none⟩ = ((odds q S)[i]'h).cells[j]? := by
    obtain ⟨ao, cc, e0, _, _, h3⟩ := hE
    simp only [Value.slice.injEq] at e0
    obtain ⟨rfl, _, rfl⟩ := e0
    obtain ⟨g, eg, hc⟩ := h3 (by show 0 < 10; omega)
    simp only [Option.some.injEq, Addr.mk.injEq] at eg
    obtain ⟨rfl, _, _⟩ := eg
    exact hc
  obtain ⟨q0, q1, q2, q3, q4, q5, q6⟩ := seven (hc i hlen)
  have hi' : (i : Int) < 10 := by omega
  have hg1 := cell_lt q0
  have hg2 := cell_lt hcr
  generalize (odds q S)[i] = x at *
  generalize oddErrs.getD i 0 = r at *
  have hr1 : (r != 0) = true := by simp [hr0]
  have hrr : (r == r) = true := by simp
  have HC : Hid (∀ W, _) := fun W => encode_bad x.a x.b x.c x.d x.k x.t x.s W r hf hr1
  have HK : Hid (∀ W, _) := fun W => check_any x.a x.b x.c x.d x.k x.t x.s W
  have hfold : flt x.a x.b x.c x.d x.k x.t x.s.size = r := hf
  rw [hfold] at HK
  have HAP : Hid (∀ W, Calls Try.prog 39 #[.agg #[.slice none 0 0, .int .i64 0], .agg #[.int .i64 x.a, .int .i64 x.b, .int .i64 x.c, .int .i64 x.d, .int .i64 x.k, .bool x.t, .string x.s]] W fun e w' => e = .returned (.tuple #[noLog, .int .i64 r]) ∧ Below W.heap.size W w') := fun W => by
    have ha : apf [] 0 x = r := by
      unfold apf
      rw [lft_nil, if_neg (show ¬ ((0 : Int) < 0 ∨ (0 : Int) < 0) by omega), if_neg (by simp), if_pos (by rw [hf]; exact hr0), hf]
    refine (segAppend_any [] (.slice none 0 0) 0 x W (by simp) ⟨fun n hn => by simp at hn, none, 0, rfl, by simp, by simp [maxLen], fun _ => rfl, fun h => by simp at h⟩).mono ?_
    rintro e w' ⟨hb, h1, _⟩
    rw [ha] at h1
    exact ⟨h1 hr0, hb⟩
  have HRB : Hid (∀ W', Below W.heap.size W W' → W'.cell? ⟨w2.heap.size, i * 7, none⟩ = some (.int .i64 x.a) ∧ W'.cell? ⟨w2.heap.size, i * 7 + 1, none⟩ = some (.int .i64 x.b) ∧ W'.cell? ⟨w2.heap.size, i * 7 + 2, none⟩ = some (.int .i64 x.c) ∧ W'.cell? ⟨w2.heap.size, i * 7 + 3, none⟩ = some (.int .i64 x.d) ∧ W'.cell? ⟨w2.heap.size, i * 7 + 4, none⟩ = some (.int .i64 x.k) ∧ W'.cell? ⟨w2.heap.size, i * 7 + 5, none⟩ = some (.bool x.t) ∧ W'.cell? ⟨w2.heap.size, i * 7 + 6, none⟩ = some (.string x.s) ∧ W'.cell? ⟨w2.heap.size + 1, i, none⟩ = some (.int .i64 r)) := fun W' hb =>
    ⟨(hb.cell (p := ⟨w2.heap.size, i * 7, none⟩) hg1).trans q0, (hb.cell (p := ⟨w2.heap.size, i * 7 + 1, none⟩) hg1).trans q1, (hb.cell (p := ⟨w2.heap.size, i * 7 + 2, none⟩) hg1).trans q2, (hb.cell (p := ⟨w2.heap.size, i * 7 + 3, none⟩) hg1).trans q3, (hb.cell (p := ⟨w2.heap.size, i * 7 + 4, none⟩) hg1).trans q4, (hb.cell (p := ⟨w2.heap.size, i * 7 + 5, none⟩) hg1).trans q5, (hb.cell (p := ⟨w2.heap.size, i * 7 + 6, none⟩) hg1).trans q6, (hb.cell (p := ⟨w2.heap.size + 1, i, none⟩) hg2).trans hcr⟩
  clear hW hErr hE hc hlen hf hfold hi hpm hi10 hr0 hb2 c2 HS hqn hpk
  go_wp2_with fail
  refine (HC.out _).mono ?_
  rintro e' w3 ⟨rfl, hb3⟩
  have B3 := bstep hBW hb3
  have HB3 : Hid _ := hb3
  obtain ⟨s0, s1, s2, s3, s4, s5, s6, s7⟩ := HRB.out _ hb3
  clear hb3 hBW q0 q1 q2 q3 q4 q5 q6 hcr HC
  go_wp2_with fail
  refine (HAP.out _).mono ?_
  rintro e' w4 ⟨rfl, hb4⟩
  have B4 := bstep B3 hb4
  have hBB4 := bstep HB3.out hb4
  have HB4 : Hid _ := hBB4
  obtain ⟨t0, t1, t2, t3, t4, t5, t6, t7⟩ := HRB.out _ hBB4
  clear hb4 hBB4 B3 HB3 s0 s1 s2 s3 s4 s5 s6 s7 HAP
  simp only [noLog]
  have hz1 := Nat.ne_of_lt (cell_lt t0)
  have hz2 := Nat.ne_of_lt (cell_lt t7)
  have hi0 : (0 : Int) ≤ (i : Int) := by omega
  go_wp2_with fail
  go_region_held3 (fun W' => W'.cell? ⟨w2.heap.size, i * 7, none⟩ = some (.int .i64 x.a) ∧ W'.cell? ⟨w2.heap.size, i * 7 + 1, none⟩ = some (.int .i64 x.b) ∧ W'.cell? ⟨w2.heap.size, i * 7 + 2, none⟩ = some (.int .i64 x.c) ∧ W'.cell? ⟨w2.heap.size, i * 7 + 3, none⟩ = some (.int .i64 x.d) ∧ W'.cell? ⟨w2.heap.size, i * 7 + 4, none⟩ = some (.int .i64 x.k) ∧ W'.cell? ⟨w2.heap.size, i * 7 + 5, none⟩ = some (.bool x.t) ∧ W'.cell? ⟨w2.heap.size, i * 7 + 6, none⟩ = some (.string x.s) ∧ W'.cell? ⟨w2.heap.size + 1, i, none⟩ = some (.int .i64 r)) (first | exact ⟨by assumption, by assumption, by assumption, by assumption, by assumption, by assumption, by assumption, by assumption⟩ | go_keep) (first | (go_at_call 20; refine (HK.out _).mono ?_; rintro e w5 ⟨rfl, hb5⟩; (have hB5 : Below w4.heap.size w4 w5 := bstep (by repeat (first | exact Below.refl _ _ | refine Below.drew ?_ | refine Below.alloc ?_ (by simp) _)) hb5); obtain ⟨y0, y1, y2, y3, y4, y5, y6, y7⟩ := HRB.out _ (bstep HB4.out hB5)))
  all_goals
    go_wp2
    go_ret
    exact ⟨rfl, bstep B4 hB5⟩

end Go.Proofs.Ytknipikmbfdcnaa
