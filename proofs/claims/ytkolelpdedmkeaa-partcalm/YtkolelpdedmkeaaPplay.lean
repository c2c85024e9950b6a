/-
  The walk of 'played': what is done to replicas by raw numbers.
-/
import Derived.Test.YtkolelpdedmkeaaPplay0
import Derived.Test.YtkolelpdedmkeaaPopN
import Derived.Test.YtkolelpdedmkeaaPopR
import Derived.Test.YtkolelpdedmkeaaPopS
import Derived.Test.YtkolelpdedmkeaaPopX
import Derived.Test.YtkolelpdedmkeaaPopW
import Derived.Test.YtkolelpdedmkeaaPopE
import Derived.Test.YtkolelpdedmkeaaPopY
import Derived.Test.YtkolelpdedmkeaaApopC
import Derived.Test.YtkolelpdedmkeaaPopF
import Derived.Test.YtkolelpdedmkeaaPopP
import Derived.Deep.RegionWith
import Derived.Deep.DeepCutAuto
import Derived.Deep.CutBlock
namespace Go.Proofs.Ytkolelpdedmkeaa
open Go.RowKit
set_option linter.unusedVariables false
set_option linter.unusedSimpArgs false

theorem may_small {p : Prt} (m : May p) : p.small := by
  intro r hr
  obtain ⟨i, hi, rfl⟩ := List.getElem_of_mem hr
  have := may_len m hi
  rw [at_rep hi] at this
  omega

set_option maxRecDepth 100000 in
set_option maxHeartbeats 40000000 in
theorem played_any (rs : List Raw4) (n few most : Nat) (hard : Bool) (v : Value) (w : World) (h : RdR w v rs) (hn : 1 ≤ n) (hn5 : n ≤ 5) (hf : 1 ≤ few) (hfn : few ≤ n) (hm : most ≤ 100) (hl : (rs.length : Int) ≤ 9223372036854775807) :
    Calls Try.prog 53 #[v, .int .i64 n, .int .i64 few, .int .i64 most, .bool hard] w fun e w' => ∃ vi vk vr us vh, e = .returned (.tuple #[.agg #[.int .i64 (plL n few hard (rs.take most)).p.ep, .int .i64 (plL n few hard (rs.take most)).p.ld, vi, vk, vr, .int .i64 (plL n few hard (rs.take most)).p.fw, .int .i64 (plL n few hard (rs.take most)).p.bs], vh, .bool true]) ∧ RdP w' (plL n few hard (rs.take most)).p vi vk vr us ∧ RdH w' vh (plL n few hard (rs.take most)).hs ∧ Below w.heap.size w w' := by
  obtain ⟨hok, ao, cap, rfl, hc0⟩ := h
  have HRR : Hid (RdR w (.slice ao rs.length cap) rs) := ⟨hok, ao, cap, rfl, hc0⟩
  have HOK : Hid (∀ r ∈ rs, r.ok) := hok
  obtain ⟨hz1, hz2, hz3, C0, hz4⟩ := new_elect hn hn5 hf hfn
  have HN0 : Hid ((newP n few).2 = 0) := hz1
  have HE0 : Hid (((newP n few).1.electP 0).2 = 0) := hz2
  have HK0 : Hid (Kept (newP n few).1 []) := (kept_new hn hn5 hf hfn).2
  have HPL : Hid (∀ k, ∃ C, PlOk n (plL n few hard (rs.take k)) C) := fun k => plL_ok hard (rs.take k) hn hn5 hf hfn
  have hn' : (1 : Int) ≤ n := by omega
  have hn5' : (n : Int) ≤ 5 := by omega
  have hm' : (most : Int) ≤ 100 := by omega
  clear hok hc0 hz1 hz2 hz3 hz4
  go_enter Try.func53, Try.ntmps53
  go_wp2_with fail
  have Z0 : PB (w.alloc (.cells #[.int .i64 0, .int .i64 0, .slice none 0 0, .slice none 0 0, .slice none 0 0, .int .i64 0, .int .i64 0] 26)) w.heap.size Prt.zero nilV nilV nilV := pb_new w Prt.zero nilV nilV nilV 26 w.heap.size rfl
  have B0 : Below w.heap.size w (w.alloc (.cells #[.int .i64 0, .int .i64 0, .slice none 0 0, .slice none 0 0, .slice none 0 0, .int .i64 0, .int .i64 0] 26)) := bbox _ _
  have hs0 : w.heap.size < (w.alloc (.cells #[.int .i64 0, .int .i64 0, .slice none 0 0, .slice none 0 0, .slice none 0 0, .int .i64 0, .int .i64 0] 26)).heap.size := by simp
  generalize w.alloc (.cells #[.int .i64 0, .int .i64 0, .slice none 0 0, .slice none 0 0, .slice none 0 0, .int .i64 0, .int .i64 0] 26) = W0 at *
  refine (new_any n few _).mono ?_
  rintro e w1 ⟨vi, vk, vr, us, rfl, hr1, hb1⟩
  rw [HN0.out]
  obtain ⟨p0, hp0⟩ : ∃ p0, (newP n few).1 = p0 := ⟨_, rfl⟩
  rw [hp0] at hr1 ⊢
  have HP00 : Hid ((newP n few).1 = p0) := hp0
  obtain ⟨ai, ci, ak, ck, ar, cr, rfl, rfl, rfl, l1, l2, l3⟩ := hr1.lens
  clear hp0
  have HB1 : Hid (Below w.heap.size w w1) := bstep B0 hb1
  have HZ1 : Hid (PB w1 w.heap.size Prt.zero nilV nilV nilV) := Z0.below Z0.1 hb1
  have HR1 : Hid (RdP w1 p0 _ _ _ us) := hr1
  have hs1 : w.heap.size < w1.heap.size := Nat.lt_of_lt_of_le hs0 hb1.size
  clear hr1 hb1 Z0 B0 hs0
  go_wp2_with fail
  have B2 : Below w1.heap.size w1 (w1.alloc (.cells #[.int .i64 p0.ep, .int .i64 p0.ld, .slice ai p0.isr.length ci, .slice ak p0.kn.length ck, .slice ar p0.rs.length cr, .int .i64 p0.fw, .int .i64 p0.bs] 26)) := bbox _ _
  have P2 : PB (w1.alloc (.cells #[.int .i64 p0.ep, .int .i64 p0.ld, .slice ai p0.isr.length ci, .slice ak p0.kn.length ck, .slice ar p0.rs.length cr, .int .i64 p0.fw, .int .i64 p0.bs] 26)) w1.heap.size p0 (.slice ai p0.isr.length ci) (.slice ak p0.kn.length ck) (.slice ar p0.rs.length cr) := pb_new w1 p0 _ _ _ 26 w1.heap.size rfl
  generalize w1.alloc (.cells #[.int .i64 p0.ep, .int .i64 p0.ld, .slice ai p0.isr.length ci, .slice ak p0.kn.length ck, .slice ar p0.rs.length cr, .int .i64 p0.fw, .int .i64 p0.bs] 26) = W2 at *
  refine (elect_anyF p0 0 _ _ _ us _ (RdP.below HR1.out (Nat.le_refl _) B2) (may_small (may_iff.1 (by rw [← HP00.out]; exact HK0.out.may)))).mono ?_
  rintro e w3 ⟨vi, vk, vr, us3, rfl, hr3, hb3, hn3⟩
  obtain ⟨bi, ei, bk, ek, br, er, rfl, rfl, rfl, m1, m2, m3⟩ := hr3.lens
  have he0 : (p0.electP 0).2 = 0 := by rw [← HP00.out]; exact HE0.out
  rw [he0]
  have hpe : (pl0 n few).p = (p0.electP 0).1 := by rw [← HP00.out]; rfl
  obtain ⟨p1, hp1⟩ : ∃ p1, (p0.electP 0).1 = p1 := ⟨_, rfl⟩
  rw [hp1] at hr3 hn3 hpe m1 m2 m3 ⊢
  have HPE : Hid ((pl0 n few).p = p1) := hpe
  obtain ⟨b, hb⟩ : ∃ b, w1.heap.size = b := ⟨_, rfl⟩
  obtain ⟨B, hB⟩ : ∃ B, W2.heap.size = B := ⟨_, rfl⟩
  have HB3 : Hid (Below w1.heap.size w1 w3) := bstep B2 hb3
  have HP3 : Hid (PB w3 w1.heap.size p0 _ _ _) := P2.below P2.1 hb3
  have HZ3 : Hid (PB w3 w.heap.size Prt.zero nilV nilV nilV) := PB.below HZ1.out HZ1.out.1 HB3.out
  have HT3 : Hid (PlX B b w.heap.size w p1 [] (.slice bi p1.isr.length ei) (.slice bk p1.kn.length ek) (.slice br p1.rs.length er) us3 (.slice none 0 0) (put7 w3 b p1 (.slice bi p1.isr.length ei) (.slice bk p1.kn.length ek) (.slice br p1.rs.length er))) := by
    subst hb hB
    exact ⟨PB.put HP3.out _ _ _ _, hr3.put rfl (hn3.off P2.1) _ _ _ _, hn3.mono (Nat.le_refl _) (by rw [put7_size]; exact Nat.le_refl _), ownH_nil _ _ (by rw [put7_size]; exact hb3.size), (fun k e => by cases e), PB.putFar HZ3.out (by omega) _ _ _ _, below_put (HB1.out.trans (HB3.out.mono HB1.out.size)) (by omega) _ _ _ _, by rw [put7_size]; exact hb3.size, P2.1, by have := P2.1; omega, by omega, by omega, Nat.le_refl _⟩
  rw [hb] at HP3 ⊢
  clear hr3 hb3 hn3 hp1 he0 hpe B2 P2 HP00 HN0 HE0 HK0 hb hB HB3 HB1 HZ1 HR1 HZ3 hs1
  unfold put7 at HT3
  obtain ⟨s1, ⟨b0, b1, b2, b3, b4, b5, b6⟩, f1⟩ := HP3.out
  go_wp2
  clear s1 b0 b1 b2 b3 b4 b5 b6 f1 HP3
  go_loopw [16, 17, 18] (fun vh sq i W => ∃ k : Nat, k ≤ rs.length ∧ k ≤ most ∧ i = .int .i64 k ∧ sq = .int .i64 (plL n few hard (rs.take k)).s ∧ Hid (∃ vi vk vr us, PlX B b w.heap.size w (plL n few hard (rs.take k)).p (plL n few hard (rs.take k)).hs vi vk vr us vh W)) (fun _ _ i _ => rs.length - (intOf i).toNat)
  case atStart => exact ⟨0, Nat.zero_le _, Nat.zero_le _, rfl, rfl, ⟨_, _, _, us3, by rw [List.take_zero]; show PlX B b w.heap.size w (pl0 n few).p [] _ _ _ _ _ _; rw [HPE.out]; exact HT3.out⟩⟩
  case round =>
    obtain ⟨k, hk, hkm, rfl, rfl, HX⟩ := hrel
    obtain ⟨a, ha⟩ : ∃ a, plL n few hard (rs.take k) = a := ⟨_, rfl⟩
    have HA : Hid (plL n few hard (rs.take k) = a) := ha
    rw [ha] at HX ⊢
    obtain ⟨C, hPO⟩ := HPL.out k
    rw [ha] at hPO
    have HPO : Hid (PlOk n a C) := hPO
    obtain ⟨vi, vk, vr, us, hX⟩ := HX.out
    obtain ⟨xi, ei, xk, ek, xr, er, rfl, rfl, rfl, l4, l5, l6⟩ := hX.rd.lens
    obtain ⟨ah, ch, rfl⟩ := hX.h.shape
    have HXX : Hid (PlX B b w.heap.size w a.p a.hs (.slice xi a.p.isr.length ei) (.slice xk a.p.kn.length ek) (.slice xr a.p.rs.length er) us (.slice ah a.hs.length ch) wr) := hX
    clear ha hPO hX HX
    obtain ⟨s1, ⟨b0, b1, b2, b3, b4, b5, b6⟩, f1⟩ := HXX.out.bx
    obtain ⟨z1, ⟨e0, e1, e2, e3, e4, e5, e6⟩, g1⟩ := HXX.out.r
    by_cases hc : k < rs.length ∧ k < most
    rotate_left
    · have HTK : Hid (rs.take k = rs.take most) := show _ = _ by
        by_cases h1 : k < rs.length
        · rw [show k = most by omega]
        · rw [List.take_of_length_le (by omega), List.take_of_length_le (by omega)]
      by_cases h1 : k < rs.length
      · have h1' : (k : Int) < rs.length := by omega
        have h2' : ¬ (k : Int) < most := by omega
        have d1 : decide ((k : Int) < (rs.length : Int)) = true := by simp; omega
        have d2 : decide ((k : Int) < (most : Int)) = false := by simp; omega
        clear hc
        go_wp2
        exact bodyPost_ret (v := .tuple #[.agg #[.int .i64 a.p.ep, .int .i64 a.p.ld, .slice xi a.p.isr.length ei, .slice xk a.p.kn.length ek, .slice xr a.p.rs.length er, .int .i64 a.p.fw, .int .i64 a.p.bs], .slice ah a.hs.length ch, .bool true]) (by simp [results, Try.results53, go_sem, e0, e1, e2, e3, e4, e5, e6]) rfl (by
          rw [← HTK.out, HA.out]
          exact ⟨_, _, _, us, _, rfl, HXX.out.rd.put rfl (HXX.out.n.off HXX.out.zB) a.p _ _ _, (HXX.out.h.put HXX.out.zB a.p _ _ _).rdH, below_put HXX.out.bel HXX.out.wz a.p _ _ _⟩)
      · have h1' : ¬ (k : Int) < rs.length := by omega
        have d1 : decide ((k : Int) < (rs.length : Int)) = false := by simp; omega
        clear hc
        go_wp2
        exact bodyPost_ret (v := .tuple #[.agg #[.int .i64 a.p.ep, .int .i64 a.p.ld, .slice xi a.p.isr.length ei, .slice xk a.p.kn.length ek, .slice xr a.p.rs.length er, .int .i64 a.p.fw, .int .i64 a.p.bs], .slice ah a.hs.length ch, .bool true]) (by simp [results, Try.results53, go_sem, e0, e1, e2, e3, e4, e5, e6]) rfl (by
          rw [← HTK.out, HA.out]
          exact ⟨_, _, _, us, _, rfl, HXX.out.rd.put rfl (HXX.out.n.off HXX.out.zB) a.p _ _ _, (HXX.out.h.put HXX.out.zB a.p _ _ _).rdH, below_put HXX.out.bel HXX.out.wz a.p _ _ _⟩)
    obtain ⟨hc1, hc2⟩ := hc
    have hc1' : (k : Int) < rs.length := by omega
    have hc2' : (k : Int) < most := by omega
    have hk4 : (k : Int) ≤ 100 := by omega
    have HSM : Hid (a.p.small) := may_small (pl_may HPO.out)
    have HSB : Hid (0 ≤ a.s ∧ a.s ≤ 100) := show _ ∧ _ by
      have h1 := plL_s n few hard (rs.take k)
      rw [HA.out, List.length_take] at h1
      omega
    obtain ⟨-, ao', cap', ex, hcc⟩ := HRR.out
    simp only [Value.slice.injEq] at ex
    obtain ⟨rfl, -, rfl⟩ := ex
    obtain ⟨gl, ol, rfl, hcl⟩ := hcc (by omega)
    obtain ⟨r0, r1, r2, r3⟩ := hcl k hc1
    obtain ⟨r, hr⟩ : ∃ r, rs[k]'hc1 = r := ⟨_, rfl⟩
    have HRO : Hid (r.ok) := HOK.out r (by rw [← hr]; exact List.getElem_mem hc1)
    have HRK : Hid (rs[k]'hc1 = r) := hr
    rw [hr] at r0 r1 r2 r3
    have y0 := (HXX.out.bel.cell (p := ⟨gl, ol + k * 4, none⟩) (cell_lt r0)).trans r0
    have y1 := (HXX.out.bel.cell (p := ⟨gl, ol + k * 4 + 1, none⟩) (cell_lt r0)).trans r1
    have y2 := (HXX.out.bel.cell (p := ⟨gl, ol + k * 4 + 2, none⟩) (cell_lt r0)).trans r2
    have y3 := (HXX.out.bel.cell (p := ⟨gl, ol + k * 4 + 3, none⟩) (cell_lt r0)).trans r3
    have hgl : gl < wr.heap.size := cell_lt y0
    clear r0 r1 r2 r3 hcl hcc hr
    go_wp2_with fail
    refine (picked_any r.a n _ HRO.out.2.1 ⟨by omega, by omega⟩).mono ?_
    rintro e w' ⟨rfl, rfl⟩
    have hia := pick_bd r.a n (by omega)
    obtain ⟨ia, hia2⟩ : ∃ ia, pick r.a n = ia := ⟨_, rfl⟩
    have HIA : Hid (pick r.a n = ia) := hia2
    rw [hia2] at hia ⊢
    obtain ⟨hia0, hia1⟩ := hia
    clear hia2
    go_wp2_with fail
    refine (picked_any r.k 16 _ HRO.out.1 ⟨by omega, by omega⟩).mono ?_
    rintro e w5 ⟨rfl, rfl⟩
    have hkk := pick_bd r.k 16 (by omega)
    obtain ⟨kk, hkk2⟩ : ∃ kk, pick r.k 16 = kk := ⟨_, rfl⟩
    have HKK : Hid (pick r.k 16 = kk) := hkk2
    rw [hkk2] at hkk ⊢
    obtain ⟨hkk0, hkk1⟩ := hkk
    clear hkk2
    have hbn : Below w'.heap.size w' (w'.alloc (.cells #[.int .i64 a.p.ep, .int .i64 a.p.ld, .slice xi a.p.isr.length ei, .slice xk a.p.kn.length ek, .slice xr a.p.rs.length er, .int .i64 a.p.fw, .int .i64 a.p.bs] 26)) := bbox _ _
    have hpn : PB (w'.alloc (.cells #[.int .i64 a.p.ep, .int .i64 a.p.ld, .slice xi a.p.isr.length ei, .slice xk a.p.kn.length ek, .slice xr a.p.rs.length er, .int .i64 a.p.fw, .int .i64 a.p.bs] 26)) w'.heap.size a.p (.slice xi a.p.isr.length ei) (.slice xk a.p.kn.length ek) (.slice xr a.p.rs.length er) := pb_new w' a.p _ _ _ 26 w'.heap.size rfl
    generalize w'.alloc (.cells #[.int .i64 a.p.ep, .int .i64 a.p.ld, .slice xi a.p.isr.length ei, .slice xk a.p.kn.length ek, .slice xr a.p.rs.length er, .int .i64 a.p.fw, .int .i64 a.p.bs] 26) = W5 at *
    go_upto_block 2 with fail
    have HPN : Hid (PB W5 w'.heap.size a.p (.slice xi a.p.isr.length ei) (.slice xk a.p.kn.length ek) (.slice xr a.p.rs.length er)) := hpn
    have HBN : Hid (Below w'.heap.size w' W5) := hbn
    have HRP : Hid (∀ W, Below W5.heap.size W5 W → RdP W a.p (.slice xi a.p.isr.length ei) (.slice xk a.p.kn.length ek) (.slice xr a.p.rs.length er) us) := fun W hW => HXX.out.rd.below (Nat.le_refl _) (bstep HBN.out hW)
    have hs0 : 0 ≤ a.s := HSB.out.1
    have hs1 : a.s ≤ 100 := HSB.out.2
    have HPX : Hid (PB W5 b a.p (.slice xi a.p.isr.length ei) (.slice xk a.p.kn.length ek) (.slice xr a.p.rs.length er)) := HXX.out.bx.below HXX.out.bx.1 HBN.out
    have z0 := (HBN.out.cell (p := ⟨gl, ol + k * 4, none⟩) hgl).trans y0
    have z1' := (HBN.out.cell (p := ⟨gl, ol + k * 4 + 1, none⟩) hgl).trans y1
    have z2 := (HBN.out.cell (p := ⟨gl, ol + k * 4 + 2, none⟩) hgl).trans y2
    have z3 := (HBN.out.cell (p := ⟨gl, ol + k * 4 + 3, none⟩) hgl).trans y3
    clear s1 b0 b1 b2 b3 b4 b5 b6 f1 z1 e0 e1 e2 e3 e4 e5 e6 g1 y0 y1 y2 y3 hpn hbn
    obtain ⟨pb1, ⟨pb0, pb2, pb3, pb4, pb5, pb6, pb7⟩, pb8⟩ := HPX.out
    go_cut [17, 21] (fun sq g W => sq = .int .i64 (stepS r a.s) ∧ ∃ er q vi vk vr us2, g = .int .i64 er ∧ stepR n hard r a.p a.s = (q, er) ∧ PB W w'.heap.size q vi vk vr ∧ RdP W q vi vk vr us2 ∧ NewAt W5.heap.size W q.rs.length vi vk vr us2 ∧ Below w'.heap.size w' W)
    case first =>
      by_cases hk5 : kk < 5
      · have d5 : decide (kk < 5) = true := by simp [hk5]
        have HSR0 : stepR n hard r a.p a.s = ((a.p.putP (putE a.s)).1, (a.p.putP (putE a.s)).2.2) := by
          unfold stepR
          rw [HKK.out, HIA.out]
          rw [if_pos hk5]
        obtain ⟨Q, hQ⟩ : ∃ Q, a.p.putP (putE a.s) = Q := ⟨_, rfl⟩
        rw [hQ] at HSR0
        have HQ : Hid (a.p.putP (putE a.s) = Q) := hQ
        have HSR : Hid (stepR n hard r a.p a.s = (Q.1, Q.2.2)) := HSR0
        clear hQ HSR0
        go_wp2_with fail
        go_region_with (first | (go_at_call 58; refine (word_any a.s _ ⟨by omega, by omega⟩).mono ?_; rintro e ww ⟨rfl, rfl⟩) | (go_at_call 31; refine (put_anyF a.p (putE a.s) _ _ _ us _ (HRP.out _ (by repeat (first | exact Below.refl _ _ | refine Below.drew ?_))) HSM.out).mono ?_; rintro e w6 ⟨yi, yk, yr, us6, rfl, hr6, hb6, hn6⟩; rw [HQ.out] at hr6 hn6 ⊢; obtain ⟨q, pl, er⟩ := Q; simp only at hr6 hn6 ⊢; obtain ⟨yi, fi, yk, fk, yr, fr, rfl, rfl, rfl, -, -, -⟩ := hr6.lens; have HB6 : Hid (Below W5.heap.size W5 w6) := bstep (by repeat (first | exact Below.refl _ _ | refine Below.drew ?_)) hb6; have HR6 : Hid (RdP w6 q _ _ _ us6) := hr6; have HN6 : Hid (NewAt W5.heap.size w6 q.rs.length _ _ _ us6) := hn6.mono (by simp) (Nat.le_refl _); obtain ⟨s1, ⟨b0, b1, b2, b3, b4, b5, b6⟩, f1⟩ := PB.below HPN.out HPN.out.1 HB6.out; clear hr6 hb6 hn6))
        all_goals
          go_wp2_with fail
          go_meet
        all_goals
          exact ⟨congrArg (Value.int .i64) (by unfold stepS; rw [HKK.out]; rw [if_pos (by omega)]), _, q, _, _, _, us6, rfl, HSR.out, PB.put (PB.below HPN.out HPN.out.1 HB6.out) q _ _ _, HR6.out.put rfl (HN6.out.off HPN.out.1) q _ _ _, HN6.out.mono (Nat.le_refl _) (by simp), below_put (HBN.out.trans (HB6.out.mono HBN.out.size)) (Nat.le_refl _) q _ _ _⟩
      have d5 : decide (kk < 5) = false := by simp; omega
      by_cases hk9 : kk < 9
      · have d9 : decide (kk < 9) = true := by simp [hk9]
        have HSR0 : stepR n hard r a.p a.s = ((a.p.fetchP ia).1, (a.p.fetchP ia).2.2) := by
          unfold stepR
          rw [HKK.out, HIA.out]
          rw [if_neg hk5, if_pos hk9]
        obtain ⟨Q, hQ⟩ : ∃ Q, a.p.fetchP ia = Q := ⟨_, rfl⟩
        rw [hQ] at HSR0
        have HQ : Hid (a.p.fetchP ia = Q) := hQ
        have HSR : Hid (stepR n hard r a.p a.s = (Q.1, Q.2.2)) := HSR0
        clear hQ HSR0
        go_wp2_with fail
        refine (fetch_anyF a.p ia _ _ _ us _ (HRP.out _ (by repeat (first | exact Below.refl _ _ | refine Below.drew ?_))) HSM.out).mono ?_
        rintro e w6 ⟨yi, yk, yr, us6, rfl, hr6, hb6, hn6⟩
        rw [HQ.out] at hr6 hn6 ⊢
        obtain ⟨q, pl, er⟩ := Q
        simp only at hr6 hn6 ⊢
        obtain ⟨yi, fi, yk, fk, yr, fr, rfl, rfl, rfl, -, -, -⟩ := hr6.lens
        have HB6 : Hid (Below W5.heap.size W5 w6) := bstep (by repeat (first | exact Below.refl _ _ | refine Below.drew ?_)) hb6
        have HR6 : Hid (RdP w6 q _ _ _ us6) := hr6
        have HN6 : Hid (NewAt W5.heap.size w6 q.rs.length _ _ _ us6) := hn6.mono (by simp) (Nat.le_refl _)
        obtain ⟨s1, ⟨b0, b1, b2, b3, b4, b5, b6⟩, f1⟩ := PB.below HPN.out HPN.out.1 HB6.out
        clear hr6 hb6 hn6
        go_wp2_with fail
        go_meet
        exact ⟨congrArg (Value.int .i64) (by unfold stepS; rw [HKK.out]; rw [if_neg (by omega)]), _, q, _, _, _, us6, rfl, HSR.out, PB.put (PB.below HPN.out HPN.out.1 HB6.out) q _ _ _, HR6.out.put rfl (HN6.out.off HPN.out.1) q _ _ _, HN6.out.mono (Nat.le_refl _) (by simp), below_put (HBN.out.trans (HB6.out.mono HBN.out.size)) (Nat.le_refl _) q _ _ _⟩
      have d9 : decide (kk < 9) = false := by simp; omega
      by_cases hk12 : kk < 12
      · have d12 : decide (kk < 12) = true := by simp [hk12]
        have HSR0 : stepR n hard r a.p a.s = ((a.p.syncP ia).1, (a.p.syncP ia).2) := by
          unfold stepR
          rw [HKK.out, HIA.out]
          rw [if_neg hk5, if_neg hk9, if_pos (Or.inl hk12)]
        obtain ⟨Q, hQ⟩ : ∃ Q, a.p.syncP ia = Q := ⟨_, rfl⟩
        rw [hQ] at HSR0
        have HQ : Hid (a.p.syncP ia = Q) := hQ
        have HSR : Hid (stepR n hard r a.p a.s = (Q.1, Q.2)) := HSR0
        clear hQ HSR0
        go_wp2_with fail
        refine (sync_anyF a.p ia _ _ _ us _ (HRP.out _ (by repeat (first | exact Below.refl _ _ | refine Below.drew ?_))) HSM.out).mono ?_
        rintro e w6 ⟨yi, yk, yr, us6, rfl, hr6, hb6, hn6⟩
        rw [HQ.out] at hr6 hn6 ⊢
        obtain ⟨q, er⟩ := Q
        simp only at hr6 hn6 ⊢
        obtain ⟨yi, fi, yk, fk, yr, fr, rfl, rfl, rfl, -, -, -⟩ := hr6.lens
        have HB6 : Hid (Below W5.heap.size W5 w6) := bstep (by repeat (first | exact Below.refl _ _ | refine Below.drew ?_)) hb6
        have HR6 : Hid (RdP w6 q _ _ _ us6) := hr6
        have HN6 : Hid (NewAt W5.heap.size w6 q.rs.length _ _ _ us6) := hn6.mono (by simp) (Nat.le_refl _)
        obtain ⟨s1, ⟨b0, b1, b2, b3, b4, b5, b6⟩, f1⟩ := PB.below HPN.out HPN.out.1 HB6.out
        clear hr6 hb6 hn6
        go_wp2_with fail
        go_meet
        exact ⟨congrArg (Value.int .i64) (by unfold stepS; rw [HKK.out]; rw [if_neg (by omega)]), _, q, _, _, _, us6, rfl, HSR.out, PB.put (PB.below HPN.out HPN.out.1 HB6.out) q _ _ _, HR6.out.put rfl (HN6.out.off HPN.out.1) q _ _ _, HN6.out.mono (Nat.le_refl _) (by simp), below_put (HBN.out.trans (HB6.out.mono HBN.out.size)) (Nat.le_refl _) q _ _ _⟩
      have d12 : decide (kk < 12) = false := by simp; omega
      cases hard with
      | false =>
        have HSR0 : stepR n false r a.p a.s = ((a.p.syncP ia).1, (a.p.syncP ia).2) := by
          unfold stepR
          rw [HKK.out, HIA.out]
          rw [if_neg hk5, if_neg hk9, if_pos (Or.inr rfl)]
        obtain ⟨Q, hQ⟩ : ∃ Q, a.p.syncP ia = Q := ⟨_, rfl⟩
        rw [hQ] at HSR0
        have HQ : Hid (a.p.syncP ia = Q) := hQ
        have HSR : Hid (stepR n false r a.p a.s = (Q.1, Q.2)) := HSR0
        clear hQ HSR0
        go_wp2_with fail
        refine (sync_anyF a.p ia _ _ _ us _ (HRP.out _ (by repeat (first | exact Below.refl _ _ | refine Below.drew ?_))) HSM.out).mono ?_
        rintro e w6 ⟨yi, yk, yr, us6, rfl, hr6, hb6, hn6⟩
        rw [HQ.out] at hr6 hn6 ⊢
        obtain ⟨q, er⟩ := Q
        simp only at hr6 hn6 ⊢
        obtain ⟨yi, fi, yk, fk, yr, fr, rfl, rfl, rfl, -, -, -⟩ := hr6.lens
        have HB6 : Hid (Below W5.heap.size W5 w6) := bstep (by repeat (first | exact Below.refl _ _ | refine Below.drew ?_)) hb6
        have HR6 : Hid (RdP w6 q _ _ _ us6) := hr6
        have HN6 : Hid (NewAt W5.heap.size w6 q.rs.length _ _ _ us6) := hn6.mono (by simp) (Nat.le_refl _)
        obtain ⟨s1, ⟨b0, b1, b2, b3, b4, b5, b6⟩, f1⟩ := PB.below HPN.out HPN.out.1 HB6.out
        clear hr6 hb6 hn6
        go_wp2_with fail
        go_meet
        exact ⟨congrArg (Value.int .i64) (by unfold stepS; rw [HKK.out]; rw [if_neg (by omega)]), _, q, _, _, _, us6, rfl, HSR.out, PB.put (PB.below HPN.out HPN.out.1 HB6.out) q _ _ _, HR6.out.put rfl (HN6.out.off HPN.out.1) q _ _ _, HN6.out.mono (Nat.le_refl _) (by simp), below_put (HBN.out.trans (HB6.out.mono HBN.out.size)) (Nat.le_refl _) q _ _ _⟩
      | true =>
        have hno : ¬ (kk < 12 ∨ true = false) := by simp; omega
        by_cases hkc : kk = 12
        · subst hkc
          obtain ⟨cb, hcb⟩ : ∃ cb, pick r.b 30 = cb := ⟨_, rfl⟩
          have HCB : Hid (pick r.b 30 = cb) := hcb
          clear hcb
          have HSR0 : stepR n true r a.p a.s = ((a.p.crashP ia cb).1, (a.p.crashP ia cb).2) := by
            unfold stepR
            rw [HKK.out, HIA.out]
            rw [HCB.out, if_neg hk5, if_neg hk9, if_neg hno, if_pos rfl]
          obtain ⟨Q, hQ⟩ : ∃ Q, a.p.crashP ia cb = Q := ⟨_, rfl⟩
          rw [hQ] at HSR0
          have HQ : Hid (a.p.crashP ia cb = Q) := hQ
          have HSR : Hid (stepR n true r a.p a.s = (Q.1, Q.2)) := HSR0
          clear hQ HSR0
          go_wp2_with fail
          go_region_with (first | (go_at_call 52; refine (picked_any r.b 30 _ HRO.out.2.2.1 ⟨by omega, by omega⟩).mono ?_; rintro e ww ⟨rfl, rfl⟩; rw [HCB.out]) | (go_at_call 37; refine (crash_anyF a.p ia cb _ _ _ us _ (HRP.out _ (by repeat (first | exact Below.refl _ _ | refine Below.drew ?_))) HSM.out).mono ?_; rintro e w6 ⟨yi, yk, yr, us6, rfl, hr6, hb6, hn6⟩; rw [HQ.out] at hr6 hn6 ⊢; obtain ⟨q, er⟩ := Q; simp only at hr6 hn6 ⊢; obtain ⟨yi, fi, yk, fk, yr, fr, rfl, rfl, rfl, -, -, -⟩ := hr6.lens; have HB6 : Hid (Below W5.heap.size W5 w6) := bstep (by repeat (first | exact Below.refl _ _ | refine Below.drew ?_)) hb6; have HR6 : Hid (RdP w6 q _ _ _ us6) := hr6; have HN6 : Hid (NewAt W5.heap.size w6 q.rs.length _ _ _ us6) := hn6.mono (by simp) (Nat.le_refl _); obtain ⟨s1, ⟨b0, b1, b2, b3, b4, b5, b6⟩, f1⟩ := PB.below HPN.out HPN.out.1 HB6.out; clear hr6 hb6 hn6))
          all_goals
            go_wp2_with fail
            go_meet
          all_goals
            exact ⟨congrArg (Value.int .i64) (by unfold stepS; rw [HKK.out]; rw [if_neg (by omega)]), _, q, _, _, _, us6, rfl, HSR.out, PB.put (PB.below HPN.out HPN.out.1 HB6.out) q _ _ _, HR6.out.put rfl (HN6.out.off HPN.out.1) q _ _ _, HN6.out.mono (Nat.le_refl _) (by simp), below_put (HBN.out.trans (HB6.out.mono HBN.out.size)) (Nat.le_refl _) q _ _ _⟩
        have d13 : (kk == 12) = false := by simp [hkc]
        as_aux_lemma =>
          by_cases hkr : kk = 13
          · subst hkr
            have HSR0 : stepR n true r a.p a.s = ((a.p.riseP ia).1, (a.p.riseP ia).2) := by
              unfold stepR
              rw [HKK.out, HIA.out]
              rw [if_neg hk5, if_neg hk9, if_neg hno, if_neg hkc, if_pos rfl]
            obtain ⟨Q, hQ⟩ : ∃ Q, a.p.riseP ia = Q := ⟨_, rfl⟩
            rw [hQ] at HSR0
            have HQ : Hid (a.p.riseP ia = Q) := hQ
            have HSR : Hid (stepR n true r a.p a.s = (Q.1, Q.2)) := HSR0
            clear hQ HSR0
            go_wp2_with fail
            refine (rise_anyF a.p ia _ _ _ us _ (HRP.out _ (by repeat (first | exact Below.refl _ _ | refine Below.drew ?_))) HSM.out).mono ?_
            rintro e w6 ⟨yi, yk, yr, us6, rfl, hr6, hb6, hn6⟩
            rw [HQ.out] at hr6 hn6 ⊢
            obtain ⟨q, er⟩ := Q
            simp only at hr6 hn6 ⊢
            obtain ⟨yi, fi, yk, fk, yr, fr, rfl, rfl, rfl, -, -, -⟩ := hr6.lens
            have HB6 : Hid (Below W5.heap.size W5 w6) := bstep (by repeat (first | exact Below.refl _ _ | refine Below.drew ?_)) hb6
            have HR6 : Hid (RdP w6 q _ _ _ us6) := hr6
            have HN6 : Hid (NewAt W5.heap.size w6 q.rs.length _ _ _ us6) := hn6.mono (by simp) (Nat.le_refl _)
            obtain ⟨s1, ⟨b0, b1, b2, b3, b4, b5, b6⟩, f1⟩ := PB.below HPN.out HPN.out.1 HB6.out
            clear hr6 hb6 hn6
            go_wp2_with fail
            go_meet
            exact ⟨congrArg (Value.int .i64) (by unfold stepS; rw [HKK.out]; rw [if_neg (by omega)]), _, q, _, _, _, us6, rfl, HSR.out, PB.put (PB.below HPN.out HPN.out.1 HB6.out) q _ _ _, HR6.out.put rfl (HN6.out.off HPN.out.1) q _ _ _, HN6.out.mono (Nat.le_refl _) (by simp), below_put (HBN.out.trans (HB6.out.mono HBN.out.size)) (Nat.le_refl _) q _ _ _⟩
          have d14 : (kk == 13) = false := by simp [hkr]
          by_cases hke : kk = 14
          · subst hke
            have HSR0 : stepR n true r a.p a.s = ((a.p.electP ia).1, (a.p.electP ia).2) := by
              unfold stepR
              rw [HKK.out, HIA.out]
              rw [if_neg hk5, if_neg hk9, if_neg hno, if_neg hkc, if_neg hkr, if_pos rfl]
            obtain ⟨Q, hQ⟩ : ∃ Q, a.p.electP ia = Q := ⟨_, rfl⟩
            rw [hQ] at HSR0
            have HQ : Hid (a.p.electP ia = Q) := hQ
            have HSR : Hid (stepR n true r a.p a.s = (Q.1, Q.2)) := HSR0
            clear hQ HSR0
            go_wp2_with fail
            refine (elect_anyF a.p ia _ _ _ us _ (HRP.out _ (by repeat (first | exact Below.refl _ _ | refine Below.drew ?_))) HSM.out).mono ?_
            rintro e w6 ⟨yi, yk, yr, us6, rfl, hr6, hb6, hn6⟩
            rw [HQ.out] at hr6 hn6 ⊢
            obtain ⟨q, er⟩ := Q
            simp only at hr6 hn6 ⊢
            obtain ⟨yi, fi, yk, fk, yr, fr, rfl, rfl, rfl, -, -, -⟩ := hr6.lens
            have HB6 : Hid (Below W5.heap.size W5 w6) := bstep (by repeat (first | exact Below.refl _ _ | refine Below.drew ?_)) hb6
            have HR6 : Hid (RdP w6 q _ _ _ us6) := hr6
            have HN6 : Hid (NewAt W5.heap.size w6 q.rs.length _ _ _ us6) := hn6.mono (by simp) (Nat.le_refl _)
            obtain ⟨s1, ⟨b0, b1, b2, b3, b4, b5, b6⟩, f1⟩ := PB.below HPN.out HPN.out.1 HB6.out
            clear hr6 hb6 hn6
            go_wp2_with fail
            go_meet
            exact ⟨congrArg (Value.int .i64) (by unfold stepS; rw [HKK.out]; rw [if_neg (by omega)]), _, q, _, _, _, us6, rfl, HSR.out, PB.put (PB.below HPN.out HPN.out.1 HB6.out) q _ _ _, HR6.out.put rfl (HN6.out.off HPN.out.1) q _ _ _, HN6.out.mono (Nat.le_refl _) (by simp), below_put (HBN.out.trans (HB6.out.mono HBN.out.size)) (Nat.le_refl _) q _ _ _⟩
          have d15 : (kk == 14) = false := by simp [hke]
          obtain ⟨cc, hcc0⟩ : ∃ cc, pick r.c 3 = cc := ⟨_, rfl⟩
          have HCC : Hid (pick r.c 3 = cc) := hcc0
          clear hcc0
          by_cases hc0 : cc = 0
          · subst hc0
            have HSR0 : stepR n true r a.p a.s = ((a.p.wipeP ia).1, (a.p.wipeP ia).2) := by
              unfold stepR
              rw [HKK.out, HIA.out]
              rw [if_neg hk5, if_neg hk9, if_neg hno, if_neg hkc, if_neg hkr, if_neg hke, HCC.out, if_pos rfl]
            obtain ⟨Q, hQ⟩ : ∃ Q, a.p.wipeP ia = Q := ⟨_, rfl⟩
            rw [hQ] at HSR0
            have HQ : Hid (a.p.wipeP ia = Q) := hQ
            have HSR : Hid (stepR n true r a.p a.s = (Q.1, Q.2)) := HSR0
            clear hQ HSR0
            go_wp2_with fail
            refine (picked_any r.c 3 _ HRO.out.2.2.2 ⟨by omega, by omega⟩).mono ?_
            rintro e W5 ⟨rfl, rfl⟩
            rw [HCC.out]
            go_wp2_with fail
            refine (wipe_anyF a.p ia _ _ _ us _ (HRP.out _ (by repeat (first | exact Below.refl _ _ | refine Below.drew ?_))) HSM.out).mono ?_
            rintro e w6 ⟨yi, yk, yr, us6, rfl, hr6, hb6, hn6⟩
            rw [HQ.out] at hr6 hn6 ⊢
            obtain ⟨q, er⟩ := Q
            simp only at hr6 hn6 ⊢
            obtain ⟨yi, fi, yk, fk, yr, fr, rfl, rfl, rfl, -, -, -⟩ := hr6.lens
            have HB6 : Hid (Below W5.heap.size W5 w6) := bstep (by repeat (first | exact Below.refl _ _ | refine Below.drew ?_)) hb6
            have HR6 : Hid (RdP w6 q _ _ _ us6) := hr6
            have HN6 : Hid (NewAt W5.heap.size w6 q.rs.length _ _ _ us6) := hn6.mono (by simp) (Nat.le_refl _)
            obtain ⟨s1, ⟨b0, b1, b2, b3, b4, b5, b6⟩, f1⟩ := PB.below HPN.out HPN.out.1 HB6.out
            clear hr6 hb6 hn6
            go_wp2_with fail
            go_meet
            exact ⟨congrArg (Value.int .i64) (by unfold stepS; rw [HKK.out]; rw [if_neg (by omega)]), _, q, _, _, _, us6, rfl, HSR.out, PB.put (PB.below HPN.out HPN.out.1 HB6.out) q _ _ _, HR6.out.put rfl (HN6.out.off HPN.out.1) q _ _ _, HN6.out.mono (Nat.le_refl _) (by simp), below_put (HBN.out.trans (HB6.out.mono HBN.out.size)) (Nat.le_refl _) q _ _ _⟩
          have d16 : (cc == 0) = false := by simp [hc0]
          by_cases hcs : cc = 1
          · subst hcs
            have HSR0 : stepR n true r a.p a.s = ((a.p.shrinkP ia).1, (a.p.shrinkP ia).2) := by
              unfold stepR
              rw [HKK.out, HIA.out]
              rw [if_neg hk5, if_neg hk9, if_neg hno, if_neg hkc, if_neg hkr, if_neg hke, HCC.out, if_neg hc0, if_pos rfl]
            obtain ⟨Q, hQ⟩ : ∃ Q, a.p.shrinkP ia = Q := ⟨_, rfl⟩
            rw [hQ] at HSR0
            have HQ : Hid (a.p.shrinkP ia = Q) := hQ
            have HSR : Hid (stepR n true r a.p a.s = (Q.1, Q.2)) := HSR0
            clear hQ HSR0
            go_wp2_with fail
            refine (picked_any r.c 3 _ HRO.out.2.2.2 ⟨by omega, by omega⟩).mono ?_
            rintro e W5 ⟨rfl, rfl⟩
            rw [HCC.out]
            go_wp2_with fail
            refine (shrink_anyF a.p ia _ _ _ us _ (HRP.out _ (by repeat (first | exact Below.refl _ _ | refine Below.drew ?_))) HSM.out).mono ?_
            rintro e w6 ⟨yi, yk, yr, us6, rfl, hr6, hb6, hn6⟩
            rw [HQ.out] at hr6 hn6 ⊢
            obtain ⟨q, er⟩ := Q
            simp only at hr6 hn6 ⊢
            obtain ⟨yi, fi, yk, fk, yr, fr, rfl, rfl, rfl, -, -, -⟩ := hr6.lens
            have HB6 : Hid (Below W5.heap.size W5 w6) := bstep (by repeat (first | exact Below.refl _ _ | refine Below.drew ?_)) hb6
            have HR6 : Hid (RdP w6 q _ _ _ us6) := hr6
            have HN6 : Hid (NewAt W5.heap.size w6 q.rs.length _ _ _ us6) := hn6.mono (by simp) (Nat.le_refl _)
            obtain ⟨s1, ⟨b0, b1, b2, b3, b4, b5, b6⟩, f1⟩ := PB.below HPN.out HPN.out.1 HB6.out
            clear hr6 hb6 hn6
            go_wp2_with fail
            go_meet
            exact ⟨congrArg (Value.int .i64) (by unfold stepS; rw [HKK.out]; rw [if_neg (by omega)]), _, q, _, _, _, us6, rfl, HSR.out, PB.put (PB.below HPN.out HPN.out.1 HB6.out) q _ _ _, HR6.out.put rfl (HN6.out.off HPN.out.1) q _ _ _, HN6.out.mono (Nat.le_refl _) (by simp), below_put (HBN.out.trans (HB6.out.mono HBN.out.size)) (Nat.le_refl _) q _ _ _⟩
          have d17 : (cc == 1) = false := by simp [hcs]
          have HSR0 : stepR n true r a.p a.s = ((a.p.expandP ia).1, (a.p.expandP ia).2) := by
            unfold stepR
            rw [HKK.out, HIA.out]
            rw [if_neg hk5, if_neg hk9, if_neg hno, if_neg hkc, if_neg hkr, if_neg hke, HCC.out, if_neg hc0, if_neg hcs]
          obtain ⟨Q, hQ⟩ : ∃ Q, a.p.expandP ia = Q := ⟨_, rfl⟩
          rw [hQ] at HSR0
          have HQ : Hid (a.p.expandP ia = Q) := hQ
          have HSR : Hid (stepR n true r a.p a.s = (Q.1, Q.2)) := HSR0
          clear hQ HSR0
          go_wp2_with fail
          refine (picked_any r.c 3 _ HRO.out.2.2.2 ⟨by omega, by omega⟩).mono ?_
          rintro e W5 ⟨rfl, rfl⟩
          rw [HCC.out]
          go_wp2_with fail
          refine (expand_anyF a.p ia _ _ _ us _ (HRP.out _ (by repeat (first | exact Below.refl _ _ | refine Below.drew ?_))) HSM.out).mono ?_
          rintro e w6 ⟨yi, yk, yr, us6, rfl, hr6, hb6, hn6⟩
          rw [HQ.out] at hr6 hn6 ⊢
          obtain ⟨q, er⟩ := Q
          simp only at hr6 hn6 ⊢
          obtain ⟨yi, fi, yk, fk, yr, fr, rfl, rfl, rfl, -, -, -⟩ := hr6.lens
          have HB6 : Hid (Below W5.heap.size W5 w6) := bstep (by repeat (first | exact Below.refl _ _ | refine Below.drew ?_)) hb6
          have HR6 : Hid (RdP w6 q _ _ _ us6) := hr6
          have HN6 : Hid (NewAt W5.heap.size w6 q.rs.length _ _ _ us6) := hn6.mono (by simp) (Nat.le_refl _)
          obtain ⟨s1, ⟨b0, b1, b2, b3, b4, b5, b6⟩, f1⟩ := PB.below HPN.out HPN.out.1 HB6.out
          clear hr6 hb6 hn6
          go_wp2_with fail
          go_meet
          exact ⟨congrArg (Value.int .i64) (by unfold stepS; rw [HKK.out]; rw [if_neg (by omega)]), _, q, _, _, _, us6, rfl, HSR.out, PB.put (PB.below HPN.out HPN.out.1 HB6.out) q _ _ _, HR6.out.put rfl (HN6.out.off HPN.out.1) q _ _ _, HN6.out.mono (Nat.le_refl _) (by simp), below_put (HBN.out.trans (HB6.out.mono HBN.out.size)) (Nat.le_refl _) q _ _ _⟩
    case rest =>
      obtain ⟨hv1, eg, q, yi, yk, yr, us6, hv2, hsr, hpb, hrd, hnw, hbl⟩ := hcut
      subst hv1 hv2
      rename World => W6
      have HXO : Hid (PlX B b w.heap.size w a.p a.hs (.slice xi a.p.isr.length ei) (.slice xk a.p.kn.length ek) (.slice xr a.p.rs.length er) us (.slice ah a.hs.length ch) W6) := HXX.out.below hbl
      have HXN : Hid (PlX B b w.heap.size w q a.hs yi yk yr us6 (.slice ah a.hs.length ch) (put7 W6 b q yi yk yr)) := HXX.out.put hbl q yi yk yr us6 hrd (hnw.mono HBN.out.size (Nat.le_refl _))
      have HPW : Hid (PB W6 w'.heap.size q yi yk yr) := hpb
      have HSP : Hid (stepP n hard r a.p a.s = if eg = 0 then q else a.p) := show _ = _ by unfold stepP orP; rw [hsr]
      have hne : b ≠ w'.heap.size := by have h1 := HXX.out.bB; have h2 := HXX.out.s; omega
      have hne2 : ¬ w'.heap.size = b := fun h => hne h.symm
      obtain ⟨yi, fi, yk, fk, yr, fr, rfl, rfl, rfl, -, -, -⟩ := hrd.lens
      clear hsr hpb hrd hnw hbl pb1 pb0 pb2 pb3 pb4 pb5 pb6 pb7 pb8 z0 z1' z2 z3 HPX
      unfold put7 at HXN
      obtain ⟨s1, ⟨b0, b1, b2, b3, b4, b5, b6⟩, f1⟩ := HPW.out
      obtain ⟨pb1, ⟨pb0, pb2, pb3, pb4, pb5, pb6, pb7⟩, pb8⟩ := HXO.out.bx
      go_at_K
      go_upto_if 171 with fail
      go_cut [] (fun W => ∃ vi vk vr us2, PlX B b w.heap.size w (stepP n hard r a.p a.s) a.hs vi vk vr us2 (.slice ah a.hs.length ch) W)
      case first =>
        by_cases he : eg = 0
        · subst he
          have HS2 : Hid (stepP n hard r a.p a.s = q) := show _ = _ by rw [HSP.out]; simp
          clear HSP
          go_wp2_with fail
          go_meet
          exact ⟨_, _, _, us6, by rw [HS2.out]; exact HXN.out⟩
        · have d1 : (eg == 0) = false := by simp [he]
          have HS2 : Hid (stepP n hard r a.p a.s = a.p) := show _ = _ by rw [HSP.out, if_neg he]
          clear HSP
          go_wp2_with fail
          go_meet
          exact ⟨_, _, _, us, by rw [HS2.out]; exact HXO.out⟩
      case rest =>
        obtain ⟨vi, vk, vr, us2, hx⟩ := hcut
        rename World => W7
        obtain ⟨p2, hp2⟩ : ∃ p2, stepP n hard r a.p a.s = p2 := ⟨_, rfl⟩
        rw [hp2] at hx
        have HSN : Hid (plL n few hard (rs.take (k + 1)) = ⟨p2, stepS r a.s, a.hs ++ hisP p2⟩) := show _ = _ by
          rw [plL_snoc _ _ _ _ k hc1, HA.out, HRK.out, ← hp2]
          rfl
        have HM2 : Hid (May p2) := by
          obtain ⟨C', hC'⟩ := HPL.out (k + 1)
          rw [HSN.out] at hC'
          exact pl_may hC'
        have HHL : Hid (a.hs.length ≤ 500) := show _ ≤ _ by
          have := plL_hs hard rs hn hn5 hf hfn k hk
          rw [HA.out] at this
          omega
        obtain ⟨ui, gi, uk, gk, ur, gr, rfl, rfl, rfl, -, -, -⟩ := hx.rd.lens
        have HX7 : Hid (PlX B b w.heap.size w p2 a.hs (.slice ui p2.isr.length gi) (.slice uk p2.kn.length gk) (.slice ur p2.rs.length gr) us2 (.slice ah a.hs.length ch) W7) := hx
        clear hx hp2 HXN HXO HPW HSP s1 b0 b1 b2 b3 b4 b5 b6 f1 pb1 pb0 pb2 pb3 pb4 pb5 pb6 pb7 pb8
        obtain ⟨s1, ⟨b0, b1, b2, b3, b4, b5, b6⟩, f1⟩ := HX7.out.bx
        have hm5 : (p2.rs.length : Int) ≤ 5 := by have := HM2.out.n5; omega
        go_at_K
        go_wp2
        clear s1 b0 b1 b2 b3 b4 b5 b6 f1
        go_loopw [16, 176] (fun vh j W => ∃ m : Nat, m ≤ p2.rs.length ∧ j = .int .i64 m ∧ Hid (PlX B b w.heap.size w p2 (a.hs ++ (p2.rs.take m).flatMap hiR) (.slice ui p2.isr.length gi) (.slice uk p2.kn.length gk) (.slice ur p2.rs.length gr) us2 vh W)) (fun _ j _ => p2.rs.length - (intOf j).toNat)
        case atStart => exact ⟨0, Nat.zero_le _, rfl, by rw [List.take_zero, List.flatMap_nil, List.append_nil]; exact HX7⟩
        case round =>
          as_aux_lemma =>
            obtain ⟨m, hm2, rfl, HY⟩ := hrel
            obtain ⟨avh, cvh, rfl⟩ := HY.out.h.shape
            obtain ⟨NL, hNLe⟩ : ∃ NL, (a.hs ++ (p2.rs.take m).flatMap hiR).length = NL := ⟨_, rfl⟩
            rw [hNLe] at HY ⊢
            clear hNLe
            by_cases hlt : m < p2.rs.length
            rotate_left
            · have hme : m = p2.rs.length := by omega
              have hlt' : ¬ (m : Int) < p2.rs.length := by omega
              have d1 : decide ((m : Int) < (p2.rs.length : Int)) = false := by simp; omega
              have HFE : Hid (a.hs ++ (p2.rs.take m).flatMap hiR = a.hs ++ hisP p2) := show _ = _ by rw [hme, List.take_length]; rfl
              have HYE : Hid (PlX B b w.heap.size w p2 (a.hs ++ hisP p2) (.slice ui p2.isr.length gi) (.slice uk p2.kn.length gk) (.slice ur p2.rs.length gr) us2 (.slice avh NL cvh) wr) := show PlX _ _ _ _ _ _ _ _ _ _ _ _ from Eq.mp (congrArg (fun l => PlX B b w.heap.size w p2 l (.slice ui p2.isr.length gi) (.slice uk p2.kn.length gk) (.slice ur p2.rs.length gr) us2 (.slice avh NL cvh) wr) HFE.out) HY.out
              have HSS : Hid (stepS r a.s = (plL n few hard (rs.take (k + 1))).s) := show _ = _ by rw [HSN.out]
              have HZZ : Hid (∃ vi vk vr us, PlX B b w.heap.size w (plL n few hard (rs.take (k + 1))).p (plL n few hard (rs.take (k + 1))).hs vi vk vr us (.slice avh NL cvh) wr) := show ∃ vi vk vr us, _ from by rw [HSN.out]; exact ⟨_, _, _, us2, HYE.out⟩
              clear hme hlt
              go_wp2
              go_roundw
              case rel => exact ⟨k + 1, hc1, hc2, by go_num, congrArg (Value.int .i64) HSS.out, HZZ⟩
              case measure => simp [intOf]; omega
            · have hlt' : (m : Int) < p2.rs.length := by omega
              have hm3 : (m : Int) ≤ 5 := by omega
              obtain ⟨gg, og, rfl, -, q0, q1, q2, q3, q4⟩ := HY.out.rd.2.2.cells m hlt
              obtain ⟨au, cu, eu⟩ : ∃ au cu, us2 m = .slice au (p2.at m).l.length cu := by obtain ⟨_, au, cu, e, _⟩ := q0; exact ⟨au, cu, e⟩
              rw [eu] at q0 q2
              have HQ0 : Hid (Rd wr (.slice au (p2.at m).l.length cu) (p2.at m).l) := q0
              have HLF : Hid (lft (p2.at m).l (p2.at m).y = 0) := show _ = _ from (HM2.out.ok m hlt).1
              have HLN : Hid ((p2.at m).l.length ≤ 140737488355328) := show _ ≤ _ by have := may_len HM2.out hlt; omega
              have HL4 : Hid (((p2.at m).es.length : Int) ≤ 400) := show _ ≤ _ from may_es HM2.out hlt
              have HIR : Hid ((p2.rs.take (m + 1)).flatMap hiR = (p2.rs.take m).flatMap hiR ++ hiR (p2.at m)) := show _ = _ by
                rw [List.take_succ_eq_append_getElem hlt, List.flatMap_append, at_rep hlt]
                simp
              have HNL : Hid ((a.hs ++ (p2.rs.take m).flatMap hiR).length ≤ 505) := show _ ≤ _ by
                have h1 := his_len (p2.rs.take m)
                have h2 := HHL.out
                have h3 := HM2.out.n5
                rw [List.length_append]
                rw [List.length_take] at h1
                omega
              clear q0 eu
              go_wp2_with fail
              have hb8 : Below wr.heap.size wr (wr.alloc (.cells #[.bool (p2.at m).up, .slice au (p2.at m).l.length cu, .int .i64 (p2.at m).y, .int .i64 (p2.at m).h] 63)) := bbox _ _
              have t0 : (wr.alloc (.cells #[.bool (p2.at m).up, .slice au (p2.at m).l.length cu, .int .i64 (p2.at m).y, .int .i64 (p2.at m).h] 63)).cell? ⟨wr.heap.size, 3, none⟩ = some (.int .i64 (p2.at m).h) := by simp [go_sem]
              have t1 : wr.heap.size < (wr.alloc (.cells #[.bool (p2.at m).up, .slice au (p2.at m).l.length cu, .int .i64 (p2.at m).y, .int .i64 (p2.at m).h] 63)).heap.size := by simp
              generalize wr.alloc (.cells #[.bool (p2.at m).up, .slice au (p2.at m).l.length cu, .int .i64 (p2.at m).y, .int .i64 (p2.at m).h] 63) = W8 at *
              refine (segEntries_ok (p2.at m).l _ (p2.at m).y _ HLN.out (Rd.below HQ0.out (Nat.le_refl _) hb8) HLF.out).mono ?_
              rintro e w9 ⟨v9, rfl, ho9, hb9⟩
              obtain ⟨es, hes⟩ : ∃ es, (p2.at m).es = es := ⟨_, rfl⟩
              have hes2 : (decL (p2.at m).l).1 = es := hes
              rw [hes2] at ho9
              rw [hes] at HL4
              obtain ⟨a9, c9, rfl⟩ := ho9.shape
              have HZ9 : Hid (PlX B b w.heap.size w p2 (a.hs ++ (p2.rs.take m).flatMap hiR) (.slice ui p2.isr.length gi) (.slice uk p2.kn.length gk) _ us2 (.slice avh NL cvh) w9) := (HY.out.below hb8).below hb9
              have HES : Hid (RdX w9 (.slice a9 es.length c9) es) := ho9.rdX
              have HEB : Hid (∀ k', (Value.slice a9 es.length c9).ownBlock = some k' → B ≤ k' ∧ k' < w9.heap.size ∧ (Value.slice avh NL cvh).ownBlock ≠ some k') := fun k' e => by
                have h1 := OwnE.blk ho9 k' e
                have h2 := hb8.size
                have h3 := HY.out.s
                refine ⟨by omega, h1.2, fun e2 => ?_⟩
                have h4 := (HY.out.h.blk k' e2).2
                omega
              have t2 := (hb9.cell (p := ⟨wr.heap.size, 3, none⟩) t1).trans t0
              have hcap : es.length ≤ c9 ∧ c9 ≤ maxLen := by
                obtain ⟨ao', cap', ex, h1, h2, -⟩ := HES.out
                simp only [Value.slice.injEq] at ex
                obtain ⟨-, -, rfl⟩ := ex
                exact ⟨h1, h2⟩
              have hcap' : (es.length : Int) ≤ c9 := by omega
              have HES2 : Hid ((p2.at m).es = es) := hes
              obtain ⟨hh, hhh⟩ : ∃ hh, (p2.at m).h = hh := ⟨_, rfl⟩
              have HHH : Hid ((p2.at m).h = hh) := hhh
              rw [hhh] at t2
              have hl400 : (es.length : Int) ≤ 400 := HL4.out
              clear t0 t1 hb8 hb9 ho9 q1 q2 q3 q4 hes hes2 HQ0 hhh HY
              by_cases hc3 : 0 < hh
              rotate_left
              · have d1 : decide (0 < hh) = false := by simp; omega
                have d1' : ¬ 0 < hh := hc3
                have HI0 : Hid (hiR (p2.at m) = []) := show _ = _ by unfold hiR; rw [HHH.out, if_neg (fun h => d1' h.1)]
                clear hc3
                have HZ0 : Hid (PlX B b w.heap.size w p2 (a.hs ++ (p2.rs.take (m + 1)).flatMap hiR) (.slice ui p2.isr.length gi) (.slice uk p2.kn.length gk) (.slice (some ⟨gg, og, none⟩) p2.rs.length gr) us2 (.slice avh NL cvh) w9) := show PlX _ _ _ _ _ _ _ _ _ _ _ _ from Eq.mp (congrArg (fun l => PlX B b w.heap.size w p2 (a.hs ++ l) (.slice ui p2.isr.length gi) (.slice uk p2.kn.length gk) (.slice (some ⟨gg, og, none⟩) p2.rs.length gr) us2 (.slice avh NL cvh) w9) (show (p2.rs.take m).flatMap hiR = (p2.rs.take (m + 1)).flatMap hiR by rw [HIR.out, HI0.out, List.append_nil])) HZ9.out
                clear HZ9
                go_wp2
                go_roundw
                case rel => exact ⟨m + 1, hlt, by go_num, HZ0⟩
                case measure => simp [intOf]; omega
              have d1 : decide (0 < hh) = true := by simp [hc3]
              by_cases hc4 : hh ≤ es.length
              rotate_left
              · have d2 : decide (hh ≤ (es.length : Int)) = false := by simp; omega
                have HI0 : Hid (hiR (p2.at m) = []) := show _ = _ by unfold hiR; rw [HHH.out, HES2.out, if_neg (fun h => hc4 h.2)]
                have HZ0 : Hid (PlX B b w.heap.size w p2 (a.hs ++ (p2.rs.take (m + 1)).flatMap hiR) (.slice ui p2.isr.length gi) (.slice uk p2.kn.length gk) (.slice (some ⟨gg, og, none⟩) p2.rs.length gr) us2 (.slice avh NL cvh) w9) := show PlX _ _ _ _ _ _ _ _ _ _ _ _ from Eq.mp (congrArg (fun l => PlX B b w.heap.size w p2 (a.hs ++ l) (.slice ui p2.isr.length gi) (.slice uk p2.kn.length gk) (.slice (some ⟨gg, og, none⟩) p2.rs.length gr) us2 (.slice avh NL cvh) w9) (show (p2.rs.take m).flatMap hiR = (p2.rs.take (m + 1)).flatMap hiR by rw [HIR.out, HI0.out, List.append_nil])) HZ9.out
                clear HZ9
                go_wp2
                go_roundw
                case rel => exact ⟨m + 1, hlt, by go_num, HZ0⟩
                case measure => simp [intOf]; omega
              have d2 : decide (hh ≤ (es.length : Int)) = true := by simp [hc4]
              obtain ⟨hn2, rfl⟩ := Int.eq_ofNat_of_zero_le (show 0 ≤ hh by omega)
              have hn3 : hn2 ≤ es.length := by omega
              have HI1 : Hid (hiR (p2.at m) = [es.take hn2]) := show _ = _ by unfold hiR; rw [HHH.out, HES2.out, if_pos ⟨hc3, hc4⟩, Int.toNat_natCast]
              obtain ⟨xs, hxl, hxo, hx3⟩ := HZ9.out.h
              have HXL : Hid (xs.length = (a.hs ++ (p2.rs.take m).flatMap hiR).length) := hxl
              have HXO9 : Hid (OwnV B 56 1 (.slice avh NL cvh) (a.hs ++ (p2.rs.take m).flatMap hiR).length xs w9) := hxo
              have hNL : (a.hs ++ (p2.rs.take m).flatMap hiR).length ≤ 505 := HNL.out
              have HX3 : Hid (Reads B w9 (.slice avh NL cvh) xs (a.hs ++ (p2.rs.take m).flatMap hiR)) := hx3
              have HEB2 : Hid (∀ k', (Value.slice a9 hn2 c9).ownBlock = some k' → B ≤ k' ∧ k' < w9.heap.size ∧ (Value.slice avh NL cvh).ownBlock ≠ some k') := fun k' e => HEB.out k' (by cases a9 with | none => cases e | some x => exact e)
              clear hxl hxo hx3 HEB
              obtain ⟨hsx, hhsx⟩ : ∃ hsx, a.hs ++ (p2.rs.take m).flatMap hiR = hsx := ⟨_, rfl⟩
              have HSX : Hid (a.hs ++ (p2.rs.take m).flatMap hiR = hsx) := hhsx
              rw [hhsx] at HZ9 HX3 HXL HXO9 hNL
              clear hhsx HNL
              go_wp2_with (at_builtin; refine wp_rowX rfl _ _ rfl B _ hsx.length xs rfl (OwnV.below HXO9.out (Nat.le_refl _) (by repeat (first | exact Below.refl _ _ | refine Below.drew ?_ | refine Below.alloc ?_ (by simp) _))) _ rfl (.slice a9 hn2 c9) rfl (by simp [go_sem]) (by omega) _ rfl ?_)
              intro g' cap2 w10 ho10 hg10 hat10 hlt10
              have HZ10 : Hid (PlX B b w.heap.size w p2 (hsx ++ [es.take hn2]) (.slice ui p2.isr.length gi) (.slice uk p2.kn.length gk) (.slice (some ⟨gg, og, none⟩) p2.rs.length gr) us2 (.slice (some ⟨g', 0, none⟩) (hsx.length + 1) cap2) w10) := by
                exact HZ9.out.app1 HXL.out HX3.out (bbox w9 (.cells #[.slice a9 hn2 c9] 56)) (RdX.takes HES.out hn2 hn3) HEB2.out ho10 hg10 (by rcases hat10 with h | h; exact .inl h; exact .inr (by simpa using h))
              have HZF : Hid (PlX B b w.heap.size w p2 (a.hs ++ (p2.rs.take (m + 1)).flatMap hiR) (.slice ui p2.isr.length gi) (.slice uk p2.kn.length gk) (.slice (some ⟨gg, og, none⟩) p2.rs.length gr) us2 (.slice (some ⟨g', 0, none⟩) (hsx.length + 1) cap2) w10) := show PlX _ _ _ _ _ _ _ _ _ _ _ _ from Eq.mp (congrArg (fun l => PlX B b w.heap.size w p2 l (.slice ui p2.isr.length gi) (.slice uk p2.kn.length gk) (.slice (some ⟨gg, og, none⟩) p2.rs.length gr) us2 (.slice (some ⟨g', 0, none⟩) (hsx.length + 1) cap2) w10) (show hsx ++ [es.take hn2] = a.hs ++ (p2.rs.take (m + 1)).flatMap hiR by rw [HIR.out, HI1.out, ← List.append_assoc, HSX.out])) HZ10.out
              clear HZ10 ho10 hg10 hat10 HXO9 HXL HZ9 HES HEB2 HX3
              go_wp2
              go_roundw
              case rel => exact ⟨m + 1, hlt, by go_num, HZF⟩
              case measure => simp [intOf]; omega

end Go.Proofs.Ytkolelpdedmkeaa
