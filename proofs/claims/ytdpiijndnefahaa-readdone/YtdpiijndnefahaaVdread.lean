/-
  Package view: Read, where nobody's entries are of no transaction.
-/
import Derived.Test.YtdpiijndnefahaaVshow
import Derived.Test.YtdpiijndnefahaaVstab
namespace Go.Proofs.Ytdpiijndnefahaa
open Go.RowKit Go.Maps
set_option linter.unusedVariables false
set_option linter.unusedSimpArgs false

theorem seenD_take {es : List Ent} (hn : NoTx es) (h i : Nat) (hi : i < h) (hh : h ≤ es.length) : seenD (es.take h) (es.take h).length i = seen es h i := by
  have e : (es.take h).length = h := by simp; omega
  rw [e, seenD_eq (fun x hx => hn x (List.mem_of_mem_take hx)) h i hi (by omega), seen_take es h i hi hh]

set_option maxRecDepth 100000 in
set_option maxHeartbeats 2000000 in
theorem read_ok (es : List Ent) (ao : Option Addr) (cap : Nat) (n fr ms : Nat) (w : World) (hl : (es.length : Int) ≤ 2199023255552) (hp : Plain es) (hnt : NoTx es) (hr : RdX w (.slice ao es.length cap) es) (hn : n ≤ es.length) (hfr : fr ≤ es.length) (hms : 1 ≤ ms ∧ ms ≤ 20) :
    Calls Try.prog 18 #[.slice ao es.length cap, .int .i64 n, .int .i64 fr, .int .i64 ms] w fun e w' => ∃ v, e = .returned (.tuple #[v, .int .i64 (rdF es n (stb es n) es.length fr ms).2, .int .i64 0]) ∧ OwnS w.heap.size v (rdF es n (stb es n) es.length fr ms).1 w' ∧ Below w.heap.size w w' := by
  have hst := stb_le es n
  have hcn : (n : Int) ≤ cap := by
    obtain ⟨_, _, e, c1, _⟩ := hr
    cases e
    omega
  have hn' : (n : Int) ≤ es.length := by omega
  have HR : Hid (RdX w (.slice ao es.length cap) es) := hr
  have hsf : stf es n = ((stb es n : Int), 0) := by unfold stf; rw [if_neg (by omega)]; simp
  have HPT : Hid (Plain (es.take n)) := fun e he => hp e (List.mem_of_mem_take he)
  have HST : Hid _ := stable_c es (.slice ao es.length cap) n w hl hp hr
  have HSD : Hid (∀ i, i < n → _) := fun i hi => seenD_take hnt n i hi hn
  have HLT : Hid ((es.take n).length = n) := show _ = _ by simp; omega
  have HLL : Hid (((es.take n).length : Int) ≤ 2199023255552) := show _ ≤ _ by simp; omega
  rw [hsf] at HST
  clear hr hp hnt hsf
  have hfrl : (fr : Int) ≤ es.length := by omega
  have hms1 : (1 : Int) ≤ ms := by omega
  have hms2 : (ms : Int) ≤ 20 := by omega
  go_enter Try.func18, Try.ntmps18
  go_wp2_with fail
  refine Calls.mono HST.out ?_
  rintro e w1 ⟨rfl, hb1⟩
  have hR1 := RdX.below HR.out (Nat.le_refl _) hb1
  have HR1 : Hid (RdX w1 (.slice ao es.length cap) es) := hR1
  have HR1T : Hid (RdX w1 (.slice ao n cap) (es.take n)) := hR1.take n hn
  clear hR1 HR HST
  generalize hfin : stb es n = fin at *
  have hfl : (fin : Int) ≤ n := by omega
  have HN : Hid (n ≤ es.length ∧ fr ≤ es.length ∧ fin ≤ n ∧ ms ≤ 20) := ⟨hn, hfr, hst, hms.2⟩
  have HFIN : Hid (stb es n = fin) := hfin
  clear hfin hst hn hfr hms
  go_wp2_with fail
  refine (readable_any (es.take n) _ _ HLL.out HPT.out HR1T.out).mono ?_
  rintro e w2 ⟨rfl, hbl2, hb2⟩
  rw [HLT.out] at hbl2 ⊢
  have hbl : Bools w2 w1.heap.size n (seen es n) := Bools.congr hbl2 (fun i hi => by have := HSD.out i hi; rw [HLT.out] at this; exact this)
  have HBL : Hid _ := hbl
  have HR2 : Hid (RdX w2 (.slice ao es.length cap) es) := RdX.below HR1.out (Nat.le_refl _) hb2
  have HB2 : Hid (Below w.heap.size w w2) := bstep hb1 hb2
  have hs12 : w1.heap.size < w2.heap.size := hbl.1
  clear hbl hbl2 HR1 HR1T hb1 hb2
  go_wp2
  go_loopw [14, 15] (fun v a wr => ∃ (k : Nat) (ts : List ByteArray), k ≤ es.length ∧ a = .int .i64 k ∧ Hid (RdSt es n fin fr ms k ts) ∧ OwnS w2.heap.size v ts wr ∧ Below w2.heap.size w2 wr) (fun _ a _ => es.length - (intOf a).toNat)
  case atStart => exact ⟨fr, [], HN.out.2.1, rfl, rdSt_0 es n fin fr ms (by have := HN.out; omega), ownS_nil _ _ (Nat.le_refl _), Below.refl _ _⟩
  case round =>
    obtain ⟨k, ts, hk, rfl, H, hown, hbel⟩ := hrel
    obtain ⟨av, cv, rfl⟩ := hown.shape
    have htl := H.out.1
    by_cases hlt : k < fin
    · have hlt' : (k : Int) < fin := by omega
      by_cases htm : ts.length < ms
      · have htm' : (ts.length : Int) < ms := by omega
        have hke : k < es.length := by have := HN.out; omega
        have hke' : (k : Int) < es.length := by omega
        have hkn' : (k : Int) < n := by omega
        have hRr := RdX.below HR2.out (Nat.le_refl _) hbel
        obtain ⟨ao', cap', e0, _, _, _, h3⟩ := hRr
        simp only [Value.slice.injEq] at e0
        obtain ⟨rfl, _, rfl⟩ := e0
        obtain ⟨g, off, rfl, hc⟩ := h3 (by omega)
        obtain ⟨q0, q1, q2, q3, q4, q5, q6⟩ := RdX.cells hc k hke
        obtain ⟨hn1, hn2⟩ := rdSt_next H.out hlt htm
        have HN1 : Hid _ := hn1
        have HN2 : Hid _ := hn2
        obtain ⟨y1, y2⟩ := (Bools.below HBL.out hs12 hbel).2 k (by omega)
        clear hc h3 hn1 hn2 H
        generalize Ent.at es k = x at HN1 q0 q1 q2 q3 q4 q5 q6
        cases hse : seen es n k with
        | true =>
          rw [hse] at y1
          have HB : Hid _ := HN1.out hse
          clear HN1 HN2 hse
          go_wp2_with (at_builtin; refine wp_appS rfl _ _ rfl _ _ ts rfl x.s hown _ rfl (by simp) (by omega) ?_)
          intro v2 w3 hown2 hb3
          have hbel2 := hbel.trans hb3
          clear hb3 hown hbel q0 q1 q2 q3 q4 q5 q6 y1 y2
          go_wp2
          go_roundw
          case rel => exact ⟨k + 1, ts ++ [x.s], by omega, by go_num, HB, hown2, hbel2⟩
          case measure => simp [intOf]; omega
        | false =>
          rw [hse] at y1
          have HB : Hid _ := HN2.out hse
          clear HN1 HN2 hse
          go_wp2
          go_roundw
          case rel => exact ⟨k + 1, ts, by omega, by go_num, HB, hown, hbel⟩
          case measure => simp [intOf]; omega
      · have htm' : ¬ (ts.length : Int) < ms := by omega
        have HE : Hid _ := rdSt_stop H.out (.inr (by omega))
        clear H
        go_wp2
        go_ret3
        rw [HFIN.out, HE.out]
        exact ⟨_, rfl, hown.mono HB2.out.size, HB2.out.trans (hbel.mono HB2.out.size)⟩
    · have hlt' : ¬ (k : Int) < fin := by omega
      have HE : Hid _ := rdSt_stop H.out (.inl (by omega))
      clear H
      go_wp2
      go_ret3
      rw [HFIN.out, HE.out]
      exact ⟨_, rfl, hown.mono HB2.out.size, HB2.out.trans (hbel.mono HB2.out.size)⟩

set_option maxRecDepth 100000 in
set_option maxHeartbeats 1000000 in
theorem read_high (es : List Ent) (v : Value) (h fr ms : Int) (w : World) (hl : (es.length : Int) ≤ 2199023255552) (hp : Plain es) (hr : RdX w v es) (hh : h < 0 ∨ (es.length : Int) < h) :
    Calls Try.prog 18 #[v, .int .i64 h, .int .i64 fr, .int .i64 ms] w fun e w' => e = .returned (.tuple #[.slice none 0 0, .int .i64 0, .int .i64 2]) ∧ Below w.heap.size w w' := by
  have HST : Hid _ := stable_c es v h w hl hp hr
  have hsf : stf es h = (0, 2) := by unfold stf; rw [if_pos hh]
  rw [hsf] at HST
  clear hr hh hsf hp
  go_enter Try.func18, Try.ntmps18
  go_wp2_with fail
  refine Calls.mono HST.out ?_
  rintro e w1 ⟨rfl, hb1⟩
  go_wp2
  go_ret3
  exact ⟨rfl, hb1⟩

set_option maxRecDepth 100000 in
set_option maxHeartbeats 1000000 in
theorem read_range (es : List Ent) (ao : Option Addr) (cap : Nat) (h fr ms : Int) (w : World) (hl : (es.length : Int) ≤ 2199023255552) (hp : Plain es) (hr : RdX w (.slice ao es.length cap) es) (hh : ¬ (h < 0 ∨ (es.length : Int) < h)) (hb : fr < 0 ∨ (es.length : Int) < fr ∨ ms < 1 ∨ 20 < ms) :
    Calls Try.prog 18 #[.slice ao es.length cap, .int .i64 h, .int .i64 fr, .int .i64 ms] w fun e w' => e = .returned (.tuple #[.slice none 0 0, .int .i64 0, .int .i64 2]) ∧ Below w.heap.size w w' := by
  have HST : Hid _ := stable_c es (.slice ao es.length cap) h w hl hp hr
  have hsf : stf es h = ((stb es h.toNat : Int), 0) := by unfold stf; rw [if_neg hh]
  rw [hsf] at HST
  clear hr hh hsf hp
  by_cases h1 : fr < 0
  · have h1' : decide (fr < 0) = true := by simp [h1]
    clear hb h1
    go_enter Try.func18, Try.ntmps18
    go_wp2_with fail
    refine Calls.mono HST.out ?_
    rintro e w1 ⟨rfl, hb1⟩
    go_wp2
    go_ret3
    exact ⟨rfl, hb1⟩
  · have h1' : decide (fr < 0) = false := by simp; omega
    by_cases h2 : (es.length : Int) < fr
    · have h2' : decide (fr > (es.length : Int)) = true := by simp; omega
      clear hb h1
      go_enter Try.func18, Try.ntmps18
      go_wp2_with fail
      refine Calls.mono HST.out ?_
      rintro e w1 ⟨rfl, hb1⟩
      go_wp2
      go_ret3
      exact ⟨rfl, hb1⟩
    · have h2' : decide (fr > (es.length : Int)) = false := by simp; omega
      by_cases h3 : ms < 1
      · have h3' : decide (ms < 1) = true := by simp [h3]
        clear hb h3
        go_enter Try.func18, Try.ntmps18
        go_wp2_with fail
        refine Calls.mono HST.out ?_
        rintro e w1 ⟨rfl, hb1⟩
        go_wp2
        go_ret3
        exact ⟨rfl, hb1⟩
      · have h3' : decide (ms < 1) = false := by simp; omega
        have h4' : decide (ms > 20) = true := by simp; omega
        clear hb
        go_enter Try.func18, Try.ntmps18
        go_wp2_with fail
        refine Calls.mono HST.out ?_
        rintro e w1 ⟨rfl, hb1⟩
        go_wp2
        go_ret3
        exact ⟨rfl, hb1⟩

theorem read_c : ReadC := by
  intro es v h fr ms w hl hp hnt hr
  obtain ⟨ao, cap, rfl⟩ : ∃ ao cap, v = .slice ao es.length cap := by obtain ⟨ao, cap, e, _⟩ := hr; exact ⟨ao, cap, e⟩
  by_cases hh : h < 0 ∨ (es.length : Int) < h
  · have hs : stf es h = (0, 2) := by unfold stf; rw [if_pos hh]
    have E : rdA es h fr ms = ([], 0, 2) := by unfold rdA; rw [hs, if_pos (by simp)]
    rw [E]
    refine (read_high es _ h fr ms w hl hp hr hh).mono ?_
    rintro e w' ⟨e1, hb⟩
    exact ⟨_, e1, ownS_nil _ _ hb.size, hb⟩
  · have hs : stf es h = ((stb es h.toNat : Int), 0) := by unfold stf; rw [if_neg hh]
    by_cases hb : fr < 0 ∨ (es.length : Int) < fr ∨ ms < 1 ∨ 20 < ms
    · have E : rdA es h fr ms = ([], 0, 2) := by unfold rdA; rw [hs, if_neg (by simp), if_pos hb]
      rw [E]
      refine (read_range es ao cap h fr ms w hl hp hr hh hb).mono ?_
      rintro e w' ⟨e1, hb⟩
      exact ⟨_, e1, ownS_nil _ _ hb.size, hb⟩
    · obtain ⟨n, rfl⟩ := Int.eq_ofNat_of_zero_le (show 0 ≤ h by omega)
      obtain ⟨f, rfl⟩ := Int.eq_ofNat_of_zero_le (show 0 ≤ fr by omega)
      obtain ⟨m, rfl⟩ := Int.eq_ofNat_of_zero_le (show 0 ≤ ms by omega)
      have E : rdA es n f m = ((rdF es n (stb es n) es.length f m).1, ((rdF es n (stb es n) es.length f m).2 : Int), 0) := by
        unfold rdA
        rw [hs, if_neg (by simp), if_neg hb]
        simp
      rw [E]
      exact read_ok es ao cap n f m w hl hp hnt hr (by omega) (by omega) (by omega)

end Go.Proofs.Ytdpiijndnefahaa
