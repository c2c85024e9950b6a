/-
  The walk of seg.Cut.
-/
import Derived.Test.YtkakagjffafdiaaSseg2
namespace Go.Proofs.Ytkakagjffafdiaa
open Go.RowKit
set_option linter.unusedVariables false
set_option linter.unusedSimpArgs false

/-- What P2.4 refuses. -/
def cuf (l : List Int) (y n : Int) : Int := if lft l y ≠ 0 then lft l y else if n < 0 ∨ ((decL l).1.length : Int) < n then 2 else 0
/-- How much of it is safe then. -/
def cutY (l : List Int) (y : Int) (n : Nat) : Int := if y ≤ (endOf (decL l).1 n : Int) then y else endOf (decL l).1 n

set_option maxRecDepth 100000 in
set_option maxHeartbeats 2000000 in
theorem segCut_any (l : List Int) (u : Value) (y n : Int) (w : World) (hl : l.length ≤ 140737488355328) (h : Rd w u l) :
    Calls Try.prog 89 #[.agg #[u, .int .i64 y], .int .i64 n] w fun e w' => Below w.heap.size w w' ∧
      (cuf l y n ≠ 0 → e = .returned (.tuple #[noLog, .int .i64 (cuf l y n)])) ∧
      (cuf l y n = 0 → ∃ v, e = .returned (.tuple #[.agg #[v, .int .i64 (cutY l y n.toNat)], .int .i64 0]) ∧ Own w.heap.size v (((decL l).1.take n.toNat).flatMap Ent.enc) w') := by
  have H : Hid (Rd w u l) := h
  have hbs := h.1
  obtain ⟨au, cu, rfl⟩ : ∃ au cu, u = .slice au l.length cu := by obtain ⟨_, au, cu, e, _⟩ := h; exact ⟨au, cu, e⟩
  clear h
  by_cases h0 : lft l y = 0
  · obtain ⟨hq1, hq2, hq3, hq4, hq5, hq6⟩ := lft_ok h0
    have HK : Hid (∀ e ∈ (decL l).1, e.flt = 0) := (dec_back l hbs).2.2
    have HC : Hid (∀ w, Rd w (.slice au l.length cu) l → _) := fun w h => segEntries_ok l (.slice au l.length cu) y w hl h h0
    have HA : Hid (cuf l y n = if n < 0 ∨ ((decL l).1.length : Int) < n then 2 else 0) := show _ = _ by unfold cuf; rw [if_neg (by simp [h0])]
    have hes : ((decL l).1.length : Int) ≤ 400 := by omega
    have HES : Hid ((decL l).1.length ≤ 400) := hq3
    clear h0 hl hq1 hq2 hq3 hq6
    go_enter Try.func89, Try.ntmps89
    go_wp2_with fail
    have B0 : Below w.heap.size w ((w.alloc (.cells #[.slice au l.length cu, .int .i64 y] 61)).alloc (.cells #[.slice none 0 0, .int .i64 0] 61)) := bstep (bbox _ _) (bbox _ _)
    have L0 := (lbox_new w (.slice au l.length cu) y 61).alloc (.cells #[.slice none 0 0, .int .i64 0] 61)
    have R0 := lbox_new' (w.alloc (.cells #[.slice au l.length cu, .int .i64 y] 61)) (.slice none 0 0) 0 61 (w.heap.size + 1) (by simp)
    refine (HC.out _ (H.out.below (Nat.le_refl _) B0)).mono ?_
    rintro e w1 ⟨va, rfl, hva, hb1⟩
    have B1 := bstep B0 hb1
    have L1 := L0.below hb1
    have R1 := R0.below hb1
    clear B0 L0 R0 hb1 HC H
    obtain ⟨ae, ce, rfl⟩ := hva.shape
    have HE : Hid (RdE w1 (.slice ae (decL l).1.length ce) (decL l).1) := hva.rd
    obtain ⟨hce1, hce2, hce3⟩ : (decL l).1.length ≤ ce ∧ ce ≤ maxLen ∧ (ae = none → ce = 0) := by
      obtain ⟨a', c', e, h1, h2, h3⟩ := hva.rd
      simp only [Value.slice.injEq] at e
      obtain ⟨rfl, _, rfl⟩ := e
      refine ⟨h1, h2, fun h => ?_⟩
      rcases hva.1.2 with ⟨h4, _⟩ | ⟨g, cap, cur, r1, _⟩
      · simp only [Value.slice.injEq] at h4
        exact h4.2.2
      · simp [h] at r1
    clear hva
    by_cases hn : n < 0 ∨ ((decL l).1.length : Int) < n
    · rw [if_pos hn] at HA
      obtain ⟨r1, r2, r3, r4⟩ := R1
      unfold maxLen at hce2
      clear hce1 HES
      by_cases hn' : n < 0
      all_goals
        go_wp2
        refine bodyPost_ret (v := .tuple #[noLog, .int .i64 2]) (by simp [results, Try.results89, go_sem, noLog, r1, r2, r3, r4]) rfl ⟨below_two (k := 1) B1, fun _ => by rw [HA.out], fun h => by rw [HA.out] at h; simp at h⟩
    · rw [if_neg hn] at HA
      obtain ⟨m, rfl⟩ := Int.eq_ofNat_of_zero_le (show 0 ≤ n by omega)
      have hm : (m : Int) ≤ (decL l).1.length := by omega
      have hce1' : ((decL l).1.length : Int) ≤ ce := by omega
      have HM : Hid (m ≤ (decL l).1.length) := show _ ≤ _ by omega
      obtain ⟨l1, l2, l3, l4⟩ := L1
      unfold maxLen at hce2
      clear hn hce1
      go_wp2_with fail
      refine (encodeAll_any ((decL l).1.take m) _ _ (by have := HES.out; simp; omega) (fun e he => HK.out e (List.mem_of_mem_take he)) (HE.out.take m HM.out)).mono ?_
      rintro e w2 ⟨v5, rfl, ho5, hb5⟩
      have B2 := bstep B1 hb5
      have L2 := LBox.below ⟨l1, l2, l3, l4⟩ hb5
      have R2 := R1.below hb5
      clear l1 l2 l3 l4
      obtain ⟨l1, l2, l3, l4⟩ := L2
      obtain ⟨r1, r2, r3, r4⟩ := R2
      obtain ⟨a5, c5, rfl⟩ := ho5.shape
      have HZ : Hid ((cutY l y m) = if y ≤ ((((decL l).1.take m).flatMap Ent.enc).length : Int) then y else ((((decL l).1.take m).flatMap Ent.enc).length : Int)) := show _ = _ from rfl
      generalize hF : ((decL l).1.take m).flatMap Ent.enc = F at *
      have HF : Hid (((decL l).1.take m).flatMap Ent.enc = F) := hF
      clear hF HE
      by_cases hyF : y ≤ F.length
      · rw [if_pos hyF] at HZ
        go_wp2
        refine bodyPost_ret (v := .tuple #[.agg #[.slice a5 F.length c5, .int .i64 y], .int .i64 0]) (by simp [results, Try.results89, go_sem, r1, r2, r3, r4]) rfl ⟨below_two (k := 1) B2, fun h => absurd HA.out h, fun _ => ?_⟩
        simp only [Int.toNat_natCast]
        rw [HF.out, HZ.out]
        refine ⟨_, rfl, ?_⟩
        have hr := R1.1
        exact ((ho5.setCell hr _ _).setCell hr _ _).mono (by omega)
      · rw [if_neg hyF] at HZ
        go_wp2
        refine bodyPost_ret (v := .tuple #[.agg #[.slice a5 F.length c5, .int .i64 F.length], .int .i64 0]) (by simp [results, Try.results89, go_sem, r1, r2, r3, r4]) rfl ⟨below_two (k := 1) B2, fun h => absurd HA.out h, fun _ => ?_⟩
        simp only [Int.toNat_natCast]
        rw [HF.out, HZ.out]
        refine ⟨_, rfl, ?_⟩
        have hr := R1.1
        exact ((ho5.setCell hr _ _).setCell hr _ _).mono (by omega)
  · have h0' : (lft l y != 0) = true := by simp [h0]
    have E : Hid (cuf l y n = lft l y) := show _ = _ by unfold cuf; rw [if_pos h0]
    have HC : Hid (∀ w, Rd w (.slice au l.length cu) l → _) := fun w h => segEntries_bad l (.slice au l.length cu) y w hl h h0
    go_enter Try.func89, Try.ntmps89
    go_wp2_with fail
    have B0 : Below w.heap.size w ((w.alloc (.cells #[.slice au l.length cu, .int .i64 y] 61)).alloc (.cells #[.slice none 0 0, .int .i64 0] 61)) := bstep (bbox _ _) (bbox _ _)
    have R0 := lbox_new' (w.alloc (.cells #[.slice au l.length cu, .int .i64 y] 61)) (.slice none 0 0) 0 61 (w.heap.size + 1) (by simp)
    refine (HC.out _ (H.out.below (Nat.le_refl _) B0)).mono ?_
    rintro e w1 ⟨rfl, hb1⟩
    have B1 := bstep B0 hb1
    obtain ⟨r1, r2, r3, r4⟩ := R0.below hb1
    clear B0 R0 hb1 HC hl
    go_wp2
    refine bodyPost_ret (v := .tuple #[noLog, .int .i64 (lft l y)]) (by simp [results, Try.results89, go_sem, noLog, r1, r2, r3, r4]) rfl ⟨below_two (k := 1) B1, fun _ => by rw [E.out], fun h => absurd (E.out ▸ h) h0⟩

end Go.Proofs.Ytkakagjffafdiaa
