/-
  What the law GroupSilent walks.
-/
import Derived.Test.YtmkbbhdmfpjfdaaGsilp
import Derived.Test.YtmkbbhdmfpjfdaaShelf4
import Derived.Test.YtmkbbhdmfpjfdaaGnew
namespace Go.Proofs.Ytmkbbhdmfpjfdaa
open Go.RowKit
set_option linter.unusedVariables false
set_option linter.unusedSimpArgs false

def pick (n m : Int) : Int := (if n < 0 then -(n + 1) else n) % m
theorem pick_bd (n m : Int) (h : 0 < m) : 0 ≤ pick n m ∧ pick n m < m := by
  unfold pick
  exact ⟨Int.emod_nonneg _ (by omega), Int.emod_lt_of_pos _ h⟩

theorem i64_bd {n : Int} (h : (Lit.int .i64 n).wf = true) : -9223372036854775808 ≤ n ∧ n ≤ 9223372036854775807 := by
  simp [Lit.wf, IntKind.min, IntKind.max, IntKind.signed, IntKind.bits] at h
  omega

set_option maxRecDepth 100000 in
set_option maxHeartbeats 400000 in
theorem picked_any (n m : Int) (w : World) (hn : -9223372036854775808 ≤ n ∧ n ≤ 9223372036854775807) (hm : 0 < m ∧ m ≤ 1000000000) :
    Calls Try.prog 41 #[.int .i64 n, .int .i64 m] w fun e w' => e = .returned (.int .i64 (pick n m)) ∧ w' = w := by
  by_cases h : n < 0
  · have e : pick n m = (-(n + 1)) % m := by simp [pick, h]
    have hz : (m == 0) = false := by rw [beq_eq_false_iff_ne]; omega
    rw [e]
    go_enter Try.func41, Try.ntmps41
    go_wp2
    go_ret
    exact ⟨ret_int (by rw [← Int.neg_tmod, Int.tmod_eq_emod_of_nonneg (by omega)]), rfl⟩
  · have e : pick n m = n % m := by simp [pick, h]
    have hz : (m == 0) = false := by rw [beq_eq_false_iff_ne]; omega
    rw [e]
    go_enter Try.func41, Try.ntmps41
    go_wp2
    go_ret
    exact ⟨rfl, rfl⟩


theorem eqI_any (l : List Int) (v u : Value) (w : World) (h1 : RdV w v (ints l)) (h2 : RdV w u (ints l)) (hl : l.length ≤ 1000) :
    Calls Try.prog 45 #[v, u] w fun e w' => e = .returned (.bool true) ∧ Below w.heap.size w w' := by
  obtain ⟨a1, c1, rfl, _, _, _, h3⟩ := h1
  obtain ⟨a2, c2, rfl, _, _, _, h4⟩ := h2
  have hln := ints_len l
  rcases Nat.eq_zero_or_pos l.length with h0 | h0
  · have e : (ints l).length = 0 := by omega
    rw [e]
    refine (Any.slices_Equal_int_empty Try.lays111 a1 a2 c1 0 c2 w (by omega)).mono ?_
    rintro e w' ⟨rfl, rfl⟩
    exact ⟨rfl, Below.refl _ _⟩
  · obtain ⟨g1, o1, rfl, hg1⟩ := h3 (by omega)
    obtain ⟨g2, o2, rfl, hg2⟩ := h4 (by omega)
    have key : ∀ (g o : Nat), (∀ i, (h : i < (ints l).length) → w.cell? ⟨g, o + i, none⟩ = some ((ints l)[i]'h)) → ∀ j, j < l.length → w.cell? ⟨g, o + j, none⟩ = some (.int .i64 (l.getD j 0)) := fun g o hg j hj => by
      rw [hg j (by omega)]
      simp [ints, List.getD, hj]
    rw [hln]
    refine (Any.slices_Equal_int Try.lays111 g1 o1 l.length c1 g2 o2 l.length c2 l l w (Nat.le_refl _) (Nat.le_refl _) (by omega) (by omega) (key g1 o1 hg1) (key g2 o2 hg2)).mono ?_
    rintro e w' ⟨rfl, q, rfl⟩
    exact ⟨by simp, below_drewN (Below.refl _ _) _⟩

theorem newS {k : Int} (h0 : 2 ≤ k) (h1 : k ≤ 31) : newG k = (k, 0) := by unfold newG; rw [if_pos (inR_iff.2 ⟨by omega, by omega⟩)]
theorem fitS {c k n : Int} {l : List Mem} (hl : l.length ≤ 6) (h : ∀ m ∈ l, m.ps.length ≤ 4 ∧ m.nm.size ≤ 8) : (gS c k n l).fits :=
  ⟨by show l.length * 48 ≤ _; omega, by simp [gS], fun m hm => by have := (h m hm).1; omega, fun m hm => by have := (h m hm).2; unfold maxLen; omega⟩
/-- A group in a box of the caller's. -/
structure StG (w : World) (o : Nat) (g : Grp) (vm vo : Value) (us : Nat → Value) (W : World) : Prop where
  bel : Below w.heap.size w W
  bb : GB W o g vm vo
  rd : RdG W g vm vo us
  wo : w.heap.size ≤ o
theorem StG.next {w W W' : World} {o : Nat} {g g' : Grp} {vm vo vm' vo' : Value} {us us' : Nat → Value} (h : StG w o g vm vo us W) (hf : FreshG W.heap.size W' g' vm' vo' us') (hb : Below W.heap.size W W') : StG w o g' vm' vo' us' (put5 W' o g' vm' vo') :=
  ⟨below_put5 (bstep h.bel hb) h.wo _ _ _, (h.bb.below h.bb.1 hb).put g' vm' vo', (hf.put (off_lt hf h.bb.1) _ _ _).rd, h.wo⟩
theorem stg_new {w W : World} (g : Grp) (hm : g.ms = []) (ho : g.os = []) (hb : Below w.heap.size w W) : StG w W.heap.size g (.slice none 0 0) (.slice none 0 0) nilS (W.alloc (.cells #[.int .i64 g.ck, .int .i64 g.wt, .int .i64 g.gn, .slice none 0 0, .slice none 0 0] 25)) :=
  ⟨bstep hb (bbox _ _), gb_new _ _ _ _ _ rfl, (freshG_nil (B := 0) g hm ho (Nat.zero_le _)).rd, hb.size⟩
theorem nm8 : nmA.size ≤ 8 ∧ nmB.size ≤ 8 := by decide +kernel
theorem nmMax : nmA.size ≤ maxLen ∧ nmB.size ≤ maxLen := by have := nm8; unfold maxLen; omega


theorem lit01 (w : World) (T b : Nat) (hb : b = w.heap.size) : RdV (w.alloc (.cells #[.int .i64 0, .int .i64 1] T)) (.slice (some ⟨b, 0, none⟩) 2 2) (ints [0, 1]) := by
  subst hb
  refine ⟨_, 2, rfl, by simp [ints], by unfold maxLen; omega, (fun h => nomatch h), fun _ => ⟨_, 0, rfl, fun i hi => ?_⟩⟩
  have h2 : i < 2 := by simpa [ints] using hi
  rcases (by omega : i = 0 ∨ i = 1) with rfl | rfl
  · simp [ints, go_sem]
  · simp [ints, go_sem]
set_option maxRecDepth 100000 in
set_option maxHeartbeats 8000000 in
theorem groupSilent_walk (a : Int) (wa : (Lit.int .i64 a).wf = true) (b : Int) (wb : (Lit.int .i64 b).wf = true) (w : World) :
    Calls Try.prog 17 #[.int .i64 a, .int .i64 b] w fun e w' => e = .returned (.bool true) ∧ Below w.heap.size w w' := by
  obtain ⟨hx0, hx1⟩ := pick_bd a 30 (by omega)
  obtain ⟨x, hx⟩ : ∃ x, pick a 30 = x := ⟨_, rfl⟩
  rw [hx] at hx0 hx1
  obtain ⟨ht0, ht1⟩ := pick_bd b (2 + x) (by omega)
  obtain ⟨t, ht⟩ : ∃ t, pick b (2 + x) = t := ⟨_, rfl⟩
  rw [ht] at ht0 ht1
  have p1 := picked_any a 30 w (i64_bd wa) (by omega)
  have p2 := picked_any b (2 + x) w (i64_bd wb) (by omega)
  rw [hx] at p1
  rw [ht] at p2
  have hk0 : 2 ≤ 2 + x := by omega
  have hk1 : 2 + x ≤ 31 := by omega
  clear hx ht
  go_enter Try.func17, Try.ntmps17
  go_wp2_with fail
  refine p1.mono ?_
  rintro e w' ⟨rfl, hw⟩
  rw [hw]
  clear hw w'
  go_wp2_with fail
  refine p2.mono ?_
  rintro e w' ⟨rfl, hw⟩
  rw [hw]
  clear hw w'
  go_wp2_with fail
  clear p1 p2
  refine (gnew_any _ _).mono ?_
  rintro e wn ⟨rfl, hb1⟩
  rw [newS hk0 hk1]
  unfold grpV
  dsimp only
  have H0 : Hid (StG w wn.heap.size (gS 0 (2 + x) 0 []) (.slice none 0 0) (.slice none 0 0) nilS (wn.alloc (.cells #[.int .i64 0, .int .i64 (2 + x), .int .i64 0, .slice none 0 0, .slice none 0 0] 25))) := stg_new (w := w) (gS 0 (2 + x) 0 []) rfl rfl hb1
  clear hb1
  go_upto_region 4 with fail
  generalize wn.alloc (.cells #[.int .i64 0, .int .i64 (2 + x), .int .i64 0, .slice none 0 0, .slice none 0 0] 25) = W0 at *
  generalize wn.heap.size = bx at *
  obtain ⟨s1, ⟨a0, a1, a2, a3, a4⟩, f1⟩ := H0.out.bb
  go_wp2_with fail
  refine (gjoin_any (gS 0 (2 + x) 0 []) nmA 2 _ _ _ _ H0.out.rd (fitS (by simp) (fun m hm => by cases hm)) nmMax.1).mono ?_
  rintro e w1 ⟨v1, o1, us1, rfl, hf1, hb1⟩
  rw [S0 hk0 hk1] at hf1 ⊢
  dsimp only at hf1 ⊢
  obtain ⟨k1, c1, rfl⟩ : ∃ k1 c1, v1 = .slice k1 (gS 0 (2 + x) 1 [⟨nmA, 0, [0, 1]⟩]).ms.length c1 := hf1.m.o.shape
  obtain ⟨l1, d1, rfl⟩ : ∃ l1 d1, o1 = .slice l1 (gS 0 (2 + x) 1 [⟨nmA, 0, [0, 1]⟩]).os.length d1 := hf1.o.o.shape
  have H1 : Hid (StG w bx (gS 0 (2 + x) 1 [⟨nmA, 0, [0, 1]⟩]) (.slice k1 (gS 0 (2 + x) 1 [⟨nmA, 0, [0, 1]⟩]).ms.length c1) (.slice l1 (gS 0 (2 + x) 1 [⟨nmA, 0, [0, 1]⟩]).os.length d1) us1 (put5 w1 bx (gS 0 (2 + x) 1 [⟨nmA, 0, [0, 1]⟩]) (.slice k1 (gS 0 (2 + x) 1 [⟨nmA, 0, [0, 1]⟩]).ms.length c1) (.slice l1 (gS 0 (2 + x) 1 [⟨nmA, 0, [0, 1]⟩]).os.length d1))) := H0.out.next hf1 hb1
  have hB1 := H0.out.bb.below H0.out.bb.1 hb1
  unfold put5 at H1
  clear s1 a0 a1 a2 a3 a4 f1 hf1 hb1
  obtain ⟨s1, ⟨a0, a1, a2, a3, a4⟩, f1⟩ := hB1
  go_upto_region 5 with fail
  generalize (((((w1.setCell ⟨bx, 0, none⟩ (.int .i64 ((gS 0 (2 + x) 1 [⟨nmA, 0, [0, 1]⟩])).ck)).setCell ⟨bx, 1, none⟩ (.int .i64 ((gS 0 (2 + x) 1 [⟨nmA, 0, [0, 1]⟩])).wt)).setCell ⟨bx, 2, none⟩ (.int .i64 ((gS 0 (2 + x) 1 [⟨nmA, 0, [0, 1]⟩])).gn)).setCell ⟨bx, 3, none⟩ (.slice k1 (gS 0 (2 + x) 1 [⟨nmA, 0, [0, 1]⟩]).ms.length c1)).setCell ⟨bx, 4, none⟩ (.slice l1 (gS 0 (2 + x) 1 [⟨nmA, 0, [0, 1]⟩]).os.length d1)) = W1 at *
  clear s1 a0 a1 a2 a3 a4 f1
  obtain ⟨s1, ⟨a0, a1, a2, a3, a4⟩, f1⟩ := H1.out.bb
  go_wp2_with fail
  refine (gjoin_any (gS 0 (2 + x) 1 [⟨nmA, 0, [0, 1]⟩]) nmB 2 _ _ _ _ H1.out.rd (fitS (by simp) (fun m hm => by simp only [List.mem_cons, List.not_mem_nil, or_false] at hm; subst hm; exact ⟨by simp, nm8.1⟩)) nmMax.2).mono ?_
  rintro e w2 ⟨v2, o2, us2, rfl, hf2, hb2⟩
  rw [S1 hk0 hk1] at hf2 ⊢
  dsimp only at hf2 ⊢
  obtain ⟨k2, c2, rfl⟩ : ∃ k2 c2, v2 = .slice k2 (gS 0 (2 + x) 2 [⟨nmA, 0, [0]⟩, ⟨nmB, 0, [1]⟩]).ms.length c2 := hf2.m.o.shape
  obtain ⟨l2, d2, rfl⟩ : ∃ l2 d2, o2 = .slice l2 (gS 0 (2 + x) 2 [⟨nmA, 0, [0]⟩, ⟨nmB, 0, [1]⟩]).os.length d2 := hf2.o.o.shape
  have H2 : Hid (StG w bx (gS 0 (2 + x) 2 [⟨nmA, 0, [0]⟩, ⟨nmB, 0, [1]⟩]) (.slice k2 (gS 0 (2 + x) 2 [⟨nmA, 0, [0]⟩, ⟨nmB, 0, [1]⟩]).ms.length c2) (.slice l2 (gS 0 (2 + x) 2 [⟨nmA, 0, [0]⟩, ⟨nmB, 0, [1]⟩]).os.length d2) us2 (put5 w2 bx (gS 0 (2 + x) 2 [⟨nmA, 0, [0]⟩, ⟨nmB, 0, [1]⟩]) (.slice k2 (gS 0 (2 + x) 2 [⟨nmA, 0, [0]⟩, ⟨nmB, 0, [1]⟩]).ms.length c2) (.slice l2 (gS 0 (2 + x) 2 [⟨nmA, 0, [0]⟩, ⟨nmB, 0, [1]⟩]).os.length d2))) := H1.out.next hf2 hb2
  have hB2 := H1.out.bb.below H1.out.bb.1 hb2
  unfold put5 at H2
  clear s1 a0 a1 a2 a3 a4 f1 hf2 hb2
  obtain ⟨s1, ⟨a0, a1, a2, a3, a4⟩, f1⟩ := hB2
  go_upto_region 6 with fail
  generalize (((((w2.setCell ⟨bx, 0, none⟩ (.int .i64 ((gS 0 (2 + x) 2 [⟨nmA, 0, [0]⟩, ⟨nmB, 0, [1]⟩])).ck)).setCell ⟨bx, 1, none⟩ (.int .i64 ((gS 0 (2 + x) 2 [⟨nmA, 0, [0]⟩, ⟨nmB, 0, [1]⟩])).wt)).setCell ⟨bx, 2, none⟩ (.int .i64 ((gS 0 (2 + x) 2 [⟨nmA, 0, [0]⟩, ⟨nmB, 0, [1]⟩])).gn)).setCell ⟨bx, 3, none⟩ (.slice k2 (gS 0 (2 + x) 2 [⟨nmA, 0, [0]⟩, ⟨nmB, 0, [1]⟩]).ms.length c2)).setCell ⟨bx, 4, none⟩ (.slice l2 (gS 0 (2 + x) 2 [⟨nmA, 0, [0]⟩, ⟨nmB, 0, [1]⟩]).os.length d2)) = W2 at *
  clear s1 a0 a1 a2 a3 a4 f1
  obtain ⟨s1, ⟨a0, a1, a2, a3, a4⟩, f1⟩ := H2.out.bb
  go_wp2_with fail
  refine (gtick_any (gS 0 (2 + x) 2 [⟨nmA, 0, [0]⟩, ⟨nmB, 0, [1]⟩]) t 2 _ _ _ _ H2.out.rd (fitS (by simp) (fun m hm => by simp only [List.mem_cons, List.not_mem_nil, or_false] at hm; rcases hm with rfl | rfl <;> exact ⟨by simp, by first | exact nm8.1 | exact nm8.2⟩))).mono ?_
  rintro e w3 ⟨v3, o3, us3, rfl, hf3, hb3⟩
  rw [S2 hk0 hk1 ht0 ht1] at hf3 ⊢
  dsimp only at hf3 ⊢
  obtain ⟨k3, c3, rfl⟩ : ∃ k3 c3, v3 = .slice k3 (gS t (2 + x) 2 [⟨nmA, 0, [0]⟩, ⟨nmB, 0, [1]⟩]).ms.length c3 := hf3.m.o.shape
  obtain ⟨l3, d3, rfl⟩ : ∃ l3 d3, o3 = .slice l3 (gS t (2 + x) 2 [⟨nmA, 0, [0]⟩, ⟨nmB, 0, [1]⟩]).os.length d3 := hf3.o.o.shape
  have H3 : Hid (StG w bx (gS t (2 + x) 2 [⟨nmA, 0, [0]⟩, ⟨nmB, 0, [1]⟩]) (.slice k3 (gS t (2 + x) 2 [⟨nmA, 0, [0]⟩, ⟨nmB, 0, [1]⟩]).ms.length c3) (.slice l3 (gS t (2 + x) 2 [⟨nmA, 0, [0]⟩, ⟨nmB, 0, [1]⟩]).os.length d3) us3 (put5 w3 bx (gS t (2 + x) 2 [⟨nmA, 0, [0]⟩, ⟨nmB, 0, [1]⟩]) (.slice k3 (gS t (2 + x) 2 [⟨nmA, 0, [0]⟩, ⟨nmB, 0, [1]⟩]).ms.length c3) (.slice l3 (gS t (2 + x) 2 [⟨nmA, 0, [0]⟩, ⟨nmB, 0, [1]⟩]).os.length d3))) := H2.out.next hf3 hb3
  have hB3 := H2.out.bb.below H2.out.bb.1 hb3
  unfold put5 at H3
  clear s1 a0 a1 a2 a3 a4 f1 hf3 hb3
  obtain ⟨s1, ⟨a0, a1, a2, a3, a4⟩, f1⟩ := hB3
  go_upto_region 7 with fail
  generalize (((((w3.setCell ⟨bx, 0, none⟩ (.int .i64 ((gS t (2 + x) 2 [⟨nmA, 0, [0]⟩, ⟨nmB, 0, [1]⟩])).ck)).setCell ⟨bx, 1, none⟩ (.int .i64 ((gS t (2 + x) 2 [⟨nmA, 0, [0]⟩, ⟨nmB, 0, [1]⟩])).wt)).setCell ⟨bx, 2, none⟩ (.int .i64 ((gS t (2 + x) 2 [⟨nmA, 0, [0]⟩, ⟨nmB, 0, [1]⟩])).gn)).setCell ⟨bx, 3, none⟩ (.slice k3 (gS t (2 + x) 2 [⟨nmA, 0, [0]⟩, ⟨nmB, 0, [1]⟩]).ms.length c3)).setCell ⟨bx, 4, none⟩ (.slice l3 (gS t (2 + x) 2 [⟨nmA, 0, [0]⟩, ⟨nmB, 0, [1]⟩]).os.length d3)) = W3 at *
  clear s1 a0 a1 a2 a3 a4 f1
  obtain ⟨s1, ⟨a0, a1, a2, a3, a4⟩, f1⟩ := H3.out.bb
  go_wp2_with fail
  refine (gbeat_any (gS t (2 + x) 2 [⟨nmA, 0, [0]⟩, ⟨nmB, 0, [1]⟩]) nmA 2 _ _ _ _ H3.out.rd (fitS (by simp) (fun m hm => by simp only [List.mem_cons, List.not_mem_nil, or_false] at hm; rcases hm with rfl | rfl <;> exact ⟨by simp, by first | exact nm8.1 | exact nm8.2⟩)) nmMax.1).mono ?_
  rintro e w4 ⟨v4, o4, us4, rfl, hf4, hb4⟩
  rw [S3 hk0 hk1 ht0 ht1] at hf4 ⊢
  dsimp only at hf4 ⊢
  obtain ⟨k4, c4, rfl⟩ : ∃ k4 c4, v4 = .slice k4 (gS t (2 + x) 2 [⟨nmA, t, [0]⟩, ⟨nmB, 0, [1]⟩]).ms.length c4 := hf4.m.o.shape
  obtain ⟨l4, d4, rfl⟩ : ∃ l4 d4, o4 = .slice l4 (gS t (2 + x) 2 [⟨nmA, t, [0]⟩, ⟨nmB, 0, [1]⟩]).os.length d4 := hf4.o.o.shape
  have H4 : Hid (StG w bx (gS t (2 + x) 2 [⟨nmA, t, [0]⟩, ⟨nmB, 0, [1]⟩]) (.slice k4 (gS t (2 + x) 2 [⟨nmA, t, [0]⟩, ⟨nmB, 0, [1]⟩]).ms.length c4) (.slice l4 (gS t (2 + x) 2 [⟨nmA, t, [0]⟩, ⟨nmB, 0, [1]⟩]).os.length d4) us4 (put5 w4 bx (gS t (2 + x) 2 [⟨nmA, t, [0]⟩, ⟨nmB, 0, [1]⟩]) (.slice k4 (gS t (2 + x) 2 [⟨nmA, t, [0]⟩, ⟨nmB, 0, [1]⟩]).ms.length c4) (.slice l4 (gS t (2 + x) 2 [⟨nmA, t, [0]⟩, ⟨nmB, 0, [1]⟩]).os.length d4))) := H3.out.next hf4 hb4
  have hB4 := H3.out.bb.below H3.out.bb.1 hb4
  unfold put5 at H4
  clear s1 a0 a1 a2 a3 a4 f1 hf4 hb4
  obtain ⟨s1, ⟨a0, a1, a2, a3, a4⟩, f1⟩ := hB4
  go_upto_region 8 with fail
  generalize (((((w4.setCell ⟨bx, 0, none⟩ (.int .i64 ((gS t (2 + x) 2 [⟨nmA, t, [0]⟩, ⟨nmB, 0, [1]⟩])).ck)).setCell ⟨bx, 1, none⟩ (.int .i64 ((gS t (2 + x) 2 [⟨nmA, t, [0]⟩, ⟨nmB, 0, [1]⟩])).wt)).setCell ⟨bx, 2, none⟩ (.int .i64 ((gS t (2 + x) 2 [⟨nmA, t, [0]⟩, ⟨nmB, 0, [1]⟩])).gn)).setCell ⟨bx, 3, none⟩ (.slice k4 (gS t (2 + x) 2 [⟨nmA, t, [0]⟩, ⟨nmB, 0, [1]⟩]).ms.length c4)).setCell ⟨bx, 4, none⟩ (.slice l4 (gS t (2 + x) 2 [⟨nmA, t, [0]⟩, ⟨nmB, 0, [1]⟩]).os.length d4)) = W4 at *
  clear s1 a0 a1 a2 a3 a4 f1
  obtain ⟨s1, ⟨a0, a1, a2, a3, a4⟩, f1⟩ := H4.out.bb
  go_wp2_with fail
  refine (gtick_any (gS t (2 + x) 2 [⟨nmA, t, [0]⟩, ⟨nmB, 0, [1]⟩]) (2 + x - t) 2 _ _ _ _ H4.out.rd (fitS (by simp) (fun m hm => by simp only [List.mem_cons, List.not_mem_nil, or_false] at hm; rcases hm with rfl | rfl <;> exact ⟨by simp, by first | exact nm8.1 | exact nm8.2⟩))).mono ?_
  rintro e w5 ⟨v5, o5, us5, rfl, hf5, hb5⟩
  rw [S4 hk0 hk1 ht0 ht1] at hf5 ⊢
  dsimp only at hf5 ⊢
  have HB5 : Hid (Below w.heap.size w w5) := bstep H4.out.bel hb5
  clear s1 a0 a1 a2 a3 a4 f1 hb5
  by_cases h0 : t = 0
  · rw [if_pos h0] at hf5 ⊢
    obtain ⟨k5, c5, rfl⟩ := hf5.m.o.shape
    obtain ⟨l5, d5, rfl⟩ := hf5.o.o.shape
    have d0 : (t == 0) = true := by simp [h0]
    clear hf5
    simp only [gS, List.length_nil]
    go_wp2
    go_ret
    exact ⟨rfl, bstep HB5.out (bbox _ _)⟩
  · rw [if_neg h0] at hf5 ⊢
    obtain ⟨k5, c5, hv5, -⟩ := hf5.m.o.form (by simp [gS])
    subst hv5
    obtain ⟨l5, d5, rfl⟩ := hf5.o.o.shape
    obtain ⟨⟨q0, q1, q2⟩, qz, -, ql⟩ := hf5.memCells 0 (by simp [gS])
    have hu0 := (hf5.m.i 0 (by simp [gS]))
    obtain ⟨au, cu, hu⟩ : ∃ au cu, us5 0 = .slice au 2 cu := hu0.shape
    have HU : Hid (RdV w5 (.slice au 2 cu) (ints [0, 1])) := by
      have := hu0.rdv
      rw [hu] at this
      exact this
    rw [hu] at q2
    simp only [Nat.zero_mul, Nat.zero_add] at q0 q1 q2
    have r0 : w5.cell? ⟨k5, 0, none⟩ = some (.string nmA) := q0
    have r2 : w5.cell? ⟨k5, 2, none⟩ = some (.slice au 2 cu) := q2
    have d0 : (t == 0) = false := by simp [h0]
    have d1 : (nmA.toList == ([97] : List UInt8)) = true := by rw [bytes_toList]; rfl
    clear hf5 hu0 q0 q1 q2 hu
    simp only [gS, List.length_nil, List.length_cons]
    go_wp2_with (go_at_call 45; refine (eqI_any [0, 1] _ _ _ (HU.out.below (Nat.le_refl _) (bstep (bbox _ _) (bbox _ _))) (lit01 _ _ _ (by simp)) (by simp)).mono ?_; rintro e w8 ⟨rfl, hb8⟩)
    go_ret
    exact ⟨rfl, bstep (bstep HB5.out (bstep (bbox _ _) (bbox _ _))) hb8⟩

end Go.Proofs.Ytmkbbhdmfpjfdaa
