/-
  No two producers have one number; there are so many, and no more: the walk.
-/
import Derived.Test.YtjhpfnogdjpbmaaCwaits
namespace Go.Proofs.Ytjhpfnogdjpbmaa
open Go.RowKit
set_option linter.unusedVariables false
set_option linter.unusedSimpArgs false

/-- The i-th letter. -/
def let1 (i : Nat) : ByteArray := Utf8.encode (97 + (i : Int))
theorem let1_ok : ∀ i : Fin 12, nameB (let1 i.val) = true := by decide +kernel
theorem let1_ne : ∀ i j : Fin 12, i ≠ j → let1 i.val ≠ let1 j.val := by decide +kernel
def upLet (i : Nat) (s : ByteArray) : Prop := ∃ j, j < i ∧ s = let1 j
theorem up_new {c : Crd} {i : Nat} (h : CoP (upLet i) c) (hi : i < 12) : ∀ j, j < c.ts.length → (c.at j).nm ≠ let1 i := by
  intro j hj e
  obtain ⟨m, hm, hn⟩ := h.n j hj
  exact let1_ne ⟨m, by omega⟩ ⟨i, hi⟩ (by simp; omega) (hn.symm.trans e)
theorem up_weak {c : Crd} {i : Nat} (h : CoP (upLet i) c) : CoP (upLet (i + 1)) c := co_weak h (fun s ⟨m, hm, e⟩ => ⟨m, by omega, e⟩)
def nmX : ByteArray := ⟨#[68, 101, 101]⟩
theorem init_form {c : Crd} {s : ByteArray} (hm : MayC c) (hs : nameB s = false) : c.initP s = (Crd.zero, 0, 0, 4) := by
  have e : c.flt s = 4 := by unfold Crd.flt; rw [if_pos (mayC_iff.2 hm), if_neg (by rw [hs]; simp)]
  unfold Crd.initP
  rw [e, if_pos (by decide)]

set_option maxRecDepth 100000 in
set_option maxHeartbeats 4000000 in
theorem coordPids_core (n : Int) (w : World) (hn : -9223372036854775808 ≤ n ∧ n ≤ 9223372036854775807) :
    Calls Try.prog 16 #[.int .i64 n] w fun e w' => e = .returned (.bool true) ∧ Below w.heap.size w w' := by
  have hpn := pick_bd n 12 (by omega)
  obtain ⟨k, hk⟩ := Int.eq_ofNat_of_zero_le (show 0 ≤ 1 + pick n 12 by omega)
  have hk1 : 1 ≤ k := by omega
  have hk2 : k ≤ 12 := by omega
  have HK : Hid (1 + pick n 12 = (k : Int)) := hk
  have HC00 : Hid (CoP (upLet 0) ⟨0, 1, 5, []⟩) := co_zero (by omega) (by omega) _
  have HE0 : Hid (newC 5 = (⟨0, 1, 5, []⟩, 0)) := show _ = _ by unfold newC; rw [if_pos (by decide)]
  clear hk
  go_enter Try.func16, Try.ntmps16
  go_wp2_with fail
  refine (picked_any n 12 _ hn ⟨by omega, by omega⟩).mono ?_
  rintro e w0 ⟨rfl, hw0⟩
  rw [hw0]
  clear hw0
  go_upto_region 2 with fail
  rw [HK.out]
  go_wp2_with fail
  refine (cnew_any 5 _).mono ?_
  rintro e w1 ⟨rfl, hb1⟩
  rw [HE0.out]
  have HB0 : Hid (Below w.heap.size w (w1.alloc (.cells #[.int .i64 0, .int .i64 1, .int .i64 5, .slice none 0 0] 24))) := bstep hb1 (bbox _ _)
  have HC0 : Hid (Hold (w1.alloc (.cells #[.int .i64 0, .int .i64 1, .int .i64 5, .slice none 0 0] 24)) w1.heap.size ⟨0, 1, 5, []⟩ (.slice none 0 0) (fun _ => .slice none 0 0)) := ⟨cb_new w1 ⟨0, 1, 5, []⟩ (.slice none 0 0) 24 w1.heap.size rfl, FreshC.rd (freshC_nil' _ rfl (Nat.le_refl _))⟩
  have HLO : w.heap.size ≤ w1.heap.size := hb1.size
  clear hb1
  go_upto_region 3 with fail
  generalize w1.alloc (.cells #[.int .i64 0, .int .i64 1, .int .i64 5, .slice none 0 0] 24) = W1 at *
  generalize w1.heap.size = b1 at *
  go_wp2
  go_loopw [24] (fun i wr => ∃ m : Nat, m ≤ k ∧ i = .int .i64 m ∧ Hid (∃ c vt us, CoP (upLet m) c ∧ c.ts.length = min m 8 ∧ Hold wr b1 c vt us ∧ Below w.heap.size w wr)) (fun i _ => k - (intOf i).toNat)
  case atStart => exact ⟨0, Nat.zero_le _, rfl, ⟨_, _, _, HC00.out, rfl, HC0.out, HB0.out⟩⟩
  case round =>
    obtain ⟨i, hik, rfl, HI⟩ := hrel
    obtain ⟨c, vt, us, hC, hl, hH, hB⟩ := HI.out
    obtain ⟨ac, cc, rfl⟩ : ∃ k q, vt = .slice k c.ts.length q := by obtain ⟨k, q, e, _⟩ := hH.2.shape; exact ⟨k, q, e⟩
    have HC : Hid (Hold wr b1 c (.slice ac c.ts.length cc) us) := hH
    have HB : Hid (Below w.heap.size w wr) := hB
    have HF : Hid c.fits := mayC_fits hC.m
    have HX : Hid (CoP (upLet i) c ∧ c.ts.length = min i 8) := ⟨hC, hl⟩
    clear hC hl hH hB HI
    by_cases hlt : i < k
    · have hltv : (i : Int) < k := by omega
      have HLS : Hid ((let1 i).size ≤ maxLen) := show _ ≤ _ by have := name_le (let1_ok ⟨i, by omega⟩); unfold maxLen; simp at this; omega
      have hno := up_new HX.out.1 (by omega : i < 12)
      have hnm := let1_ok ⟨i, by omega⟩
      simp only at hnm
      have HLT : Hid (let1 i = Utf8.encode (97 + (i : Int))) := rfl
      have hi12 : (i : Int) < 12 := by omega
      obtain ⟨s1, ⟨a0, a1, a2, a3⟩, f1⟩ := HC.out.1
      go_upto_region 7 with fail
      rw [← HLT.out]
      by_cases h8 : 8 ≤ i
      · have h8v : (8 : Int) ≤ i := by omega
        have HE : Hid (c.initP (let1 i) = (Crd.zero, 0, 0, 16)) := init_full HX.out.1.m hnm hno (by rw [HX.out.2]; omega)
        have HCN : Hid (CoP (upLet (i + 1)) c) := up_weak HX.out.1
        have HCL : Hid (c.ts.length = min (i + 1) 8) := show _ = _ by rw [HX.out.2]; omega
        clear hno hnm h8
        go_wp2_with fail
        refine (init_any c (let1 i) _ us _ HC.out.2 HF.out HLS.out).mono ?_
        rintro e w6 ⟨v6, us6, rfl, hf6, hb6⟩
        rw [HE.out] at hf6 ⊢
        obtain ⟨k6, q6, rfl⟩ := hf6.shapeOf
        have t6 := bstep hb6 (bbox w6 (.cells #[.int .i64 Crd.zero.ck, .int .i64 Crd.zero.nx, .int .i64 Crd.zero.wt, .slice k6 Crd.zero.ts.length q6] 24))
        have HB6 : Hid (Below w.heap.size w (w6.alloc (.cells #[.int .i64 Crd.zero.ck, .int .i64 Crd.zero.nx, .int .i64 Crd.zero.wt, .slice k6 Crd.zero.ts.length q6] 24))) := bstep HB.out t6
        have HC6 : Hid (Hold (w6.alloc (.cells #[.int .i64 Crd.zero.ck, .int .i64 Crd.zero.nx, .int .i64 Crd.zero.wt, .slice k6 Crd.zero.ts.length q6] 24)) b1 c (.slice ac c.ts.length cc) us) := HC.out.below t6
        clear s1 a0 a1 a2 a3 f1
        obtain ⟨s1, ⟨a0, a1, a2, a3⟩, f1⟩ := (HC.out.below hb6).1
        clear hb6 hf6 t6
        go_upto_region 8 with fail
        generalize w6.alloc (.cells #[.int .i64 Crd.zero.ck, .int .i64 Crd.zero.nx, .int .i64 Crd.zero.wt, .slice k6 Crd.zero.ts.length q6] 24) = W6 at *
        generalize w6.heap.size = b6 at *
        go_wp2
        go_roundw
        case rel => exact ⟨i + 1, by omega, by go_num, ⟨c, _, us, HCN.out, HCL.out, HC6.out, HB6.out⟩⟩
        case measure => simp [intOf]; omega

      · have h8v : ¬ (8 : Int) ≤ i := by omega
        have hx := HX.out.1.x
        have hl8 : c.ts.length = i := by rw [HX.out.2]; omega
        have g := init_new HX.out.1.m hnm hno (by omega) (by omega)
        have HCN0 : Hid (CoP (upLet (i + 1)) { c with nx := c.nx + 1, ts := c.ts ++ [newT (let1 i) c.nx] }) := co_new (up_weak HX.out.1) ⟨i, by omega, rfl⟩ hnm (by rw [pos_none hno]; decide) (by omega) (by omega)
        have hnx : c.nx = (i : Int) + 1 := by omega
        obtain ⟨d, hd⟩ : ∃ d : Crd, { c with nx := c.nx + 1, ts := c.ts ++ [newT (let1 i) c.nx] } = d := ⟨_, rfl⟩
        have HCL : Hid (d.ts.length = min (i + 1) 8) := show _ = _ by rw [← hd]; simp; omega
        rw [hd, hnx] at g
        rw [hd] at HCN0
        have HCN := HCN0
        have HE : Hid (c.initP (let1 i) = (d, (i : Int) + 1, 0, 0)) := g
        clear hno hnm h8 g hd hx hl8 hnx HCN0
        go_wp2_with fail
        refine (init_any c (let1 i) _ us _ HC.out.2 HF.out HLS.out).mono ?_
        rintro e w6 ⟨v6, us6, rfl, hf6, hb6⟩
        rw [HE.out] at hf6 ⊢
        obtain ⟨k6, q6, rfl⟩ := hf6.shapeOf
        have t6 := bstep hb6 (bbox w6 (.cells #[.int .i64 d.ck, .int .i64 d.nx, .int .i64 d.wt, .slice k6 d.ts.length q6] 24))
        have HB6 : Hid (Below w.heap.size w (w6.alloc (.cells #[.int .i64 d.ck, .int .i64 d.nx, .int .i64 d.wt, .slice k6 d.ts.length q6] 24))) := bstep HB.out t6
        have HC6 : Hid (Hold (w6.alloc (.cells #[.int .i64 d.ck, .int .i64 d.nx, .int .i64 d.wt, .slice k6 d.ts.length q6] 24)) b1 c (.slice ac c.ts.length cc) us) := HC.out.below t6
        clear s1 a0 a1 a2 a3 f1
        obtain ⟨s1, ⟨a0, a1, a2, a3⟩, f1⟩ := (HC.out.below hb6).1
        have HN6 : Hid (Hold (w6.alloc (.cells #[.int .i64 d.ck, .int .i64 d.nx, .int .i64 d.wt, .slice k6 d.ts.length q6] 24)) w6.heap.size d (.slice k6 d.ts.length q6) us6) := hold_new hf6.rd
        have HF6 : Hid (FreshC wr.heap.size (w6.alloc (.cells #[.int .i64 d.ck, .int .i64 d.nx, .int .i64 d.wt, .slice k6 d.ts.length q6] 24)) d (.slice k6 d.ts.length q6) us6) := OwnW.below hf6 (Nat.le_refl _) (bbox _ _)
        have hlt6 : b1 < wr.heap.size := HC.out.1.1
        clear hb6 hf6 t6
        go_upto_region 8 with fail
        generalize w6.alloc (.cells #[.int .i64 d.ck, .int .i64 d.nx, .int .i64 d.wt, .slice k6 d.ts.length q6] 24) = W6 at *
        generalize w6.heap.size = b6 at *
        clear s1 a0 a1 a2 a3 f1
        obtain ⟨s1, ⟨a0, a1, a2, a3⟩, f1⟩ := HC6.out.1
        obtain ⟨n1, ⟨n2, n3, n4, n5⟩, n6⟩ := HN6.out.1
        have dq : decide ((8 : Int) ≤ (i : Int)) = false := by simp; omega
        go_upto_region 9 with fail
        go_upto_region 11 with fail
        go_upto_region 13 with fail
        go_wp2
        go_roundw
        case rel => exact ⟨i + 1, by omega, by go_num, ⟨d, _, us6, HCN.out, HCL.out, ⟨HC6.out.1.put d (.slice k6 d.ts.length q6), FreshC.rd (FreshC.put4 HF6.out hlt6 d (.slice k6 d.ts.length q6))⟩, below_put4 HB6.out HLO d (.slice k6 d.ts.length q6)⟩⟩
        case measure => simp [intOf]; omega

    · obtain rfl : i = k := by omega
      have HNX : Hid (nmX.size ≤ maxLen) := show _ ≤ _ by decide
      have HE : Hid (c.initP nmX = (Crd.zero, 0, 0, 4)) := init_form HX.out.1.m (by decide)
      have HLN : Hid (c.ts.length = min i 8) := HX.out.2
      obtain ⟨s1, ⟨a0, a1, a2, a3⟩, f1⟩ := HC.out.1
      go_wp2_with fail
      refine (init_any c nmX _ us _ HC.out.2 HF.out HNX.out).mono ?_
      rintro e w6 ⟨v6, us6, rfl, hf6, hb6⟩
      rw [HE.out] at hf6 ⊢
      obtain ⟨k6, q6, rfl⟩ := hf6.shapeOf
      have t6 := bstep hb6 (bbox w6 (.cells #[.int .i64 Crd.zero.ck, .int .i64 Crd.zero.nx, .int .i64 Crd.zero.wt, .slice k6 Crd.zero.ts.length q6] 24))
      have HB6 : Hid (Below w.heap.size w _) := bstep HB.out t6
      clear s1 a0 a1 a2 a3 f1
      obtain ⟨s1, ⟨a0, a1, a2, a3⟩, f1⟩ := (HC.out.below t6).1
      have hln : ((c.ts.length : Nat) : Int) = min (i : Int) 8 := by rw [HLN.out]; omega
      have d1 : (((c.ts.length : Nat) : Int) == min (i : Int) 8) = true := by rw [hln]; simp
      clear hb6 hf6 t6 hln
      go_wp2
      go_ret
      exact ⟨rfl, HB6.out⟩

end Go.Proofs.Ytjhpfnogdjpbmaa
