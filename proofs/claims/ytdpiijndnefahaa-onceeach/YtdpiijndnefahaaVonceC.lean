/-
  The walk of OnceEach, given what view.Check and view.Read answer.
-/
import Derived.Test.YtdpiijndnefahaaVtexts
import Derived.Test.YtdpiijndnefahaaVkeep
import Derived.Test.YtdpiijndnefahaaVcon1
import Derived.Test.YtdpiijndnefahaaVdread
import Derived.Test.YtdpiijndnefahaaVmapa
namespace Go.Proofs.Ytdpiijndnefahaa
open Go.RowKit
set_option linter.unusedVariables false
set_option linter.unusedSimpArgs false

/-- What the map of versions gives, by the first k entries. -/
def verZ (es : List Ent) (k : Nat) (p : Int) : Int := if p = 0 then 0 else if verK es p k < 0 then 0 else verK es p k
/-- What the map of numbers gives. -/
def cntZ (es : List Ent) (k : Nat) (p v : Int) : Int := if p = 0 then 0 else cntK es p v k
theorem verZ_skip {es : List Ent} {k : Nat} (h : (Ent.at es k).b = 0) : verZ es (k + 1) = verZ es k := by
  funext p
  unfold verZ
  by_cases hp : p = 0
  · rw [if_pos hp, if_pos hp]
  · rw [if_neg hp, if_neg hp]
    have e : verK es p (k + 1) = verK es p k := by simp only [verK]; rw [if_neg (by omega)]
    rw [e]
theorem cntZ_skip {es : List Ent} {k : Nat} (h : (Ent.at es k).b = 0 ∨ (Ent.at es k).k ≠ 1) (p v : Int) : cntZ es k p v = cntZ es (k + 1) p v := by
  unfold cntZ
  by_cases hp : p = 0
  · rw [if_pos hp, if_pos hp]
  · rw [if_neg hp, if_neg hp, cntK_no (fun hh => by rcases h with h | h; omega; exact h hh.2.2)]
theorem verZ_step {es : List Ent} {k : Nat} (h : (Ent.at es k).b ≠ 0) (hc : 0 ≤ (Ent.at es k).c) : verZ es (k + 1) = fun p => if p = (Ent.at es k).b then (Ent.at es k).c else verZ es k p := by
  funext p
  unfold verZ
  by_cases hp : p = 0
  · rw [if_pos hp, if_pos hp, if_neg (by omega)]
  · rw [if_neg hp, if_neg hp]
    by_cases e : p = (Ent.at es k).b
    · rw [if_pos e, verK_yes e.symm, if_neg (by omega)]
    · rw [if_neg e]
      have e : verK es p (k + 1) = verK es p k := by simp only [verK]; rw [if_neg (fun hh => e hh.symm)]
      rw [e]
theorem cntZ_step {es : List Ent} {k : Nat} (h : (Ent.at es k).b ≠ 0) (hk : (Ent.at es k).k = 1) (p v : Int) : (if p = (Ent.at es k).b ∧ v = (Ent.at es k).c then cntZ es k (Ent.at es k).b (Ent.at es k).c + 1 else cntZ es k p v) = cntZ es (k + 1) p v := by
  unfold cntZ
  rw [if_neg h]
  by_cases e : p = (Ent.at es k).b ∧ v = (Ent.at es k).c
  · obtain ⟨rfl, rfl⟩ := e
    rw [if_pos ⟨rfl, rfl⟩, if_neg h, cntK_yes ⟨rfl, rfl, hk⟩]
    omega
  · rw [if_neg e]
    by_cases hp : p = 0
    · rw [if_pos hp, if_pos hp]
    · rw [if_neg hp, if_neg hp, cntK_no (fun hh => e ⟨hh.1.symm, hh.2.1.symm⟩)]
theorem cntK_le (es : List Ent) (p v : Int) (k : Nat) : cntK es p v k ≤ k := by
  induction k with
  | zero => simp [cntK]
  | succ k ih =>
    by_cases h : (Ent.at es k).b = p ∧ (Ent.at es k).c = v ∧ (Ent.at es k).k = 1
    · rw [cntK_yes h]; omega
    · rw [cntK_no h]; omega

/-- The entry that 'm[k]++' takes, whatever was drawn. -/
theorem bump_all {w : World} {b n : Nat} {M : Int → Int → Int} (h : MapA w b n M) (hn : n < maxLen) (p v d : Int) (hp : (Lit.int .i64 p).wf = true) (hv : (Lit.int .i64 v).wf = true) (hm : (Lit.int .i64 (M p v)).wf = true) (hd : (Lit.int .i64 d).wf = true) :
    ∃ (U : Nat → Value) (S : Nat → Nat) (W1 W3 : Nat → World),
      (∀ q, (Instr.mapEntry 42 (.map (some b)) (.agg #[.int .i64 p, .int .i64 v])).run Try.prog (w.drewN q) = .ok (.tuple #[U q, .int .i64 (S q)]) (W1 q)) ∧
      (∀ q, (Instr.lookup 42 (.map (some b)) (.agg #[.int .i64 p, .int .i64 v]) false).run Try.prog (W1 q) = .ok (.int .i64 (M p v)) (W1 q)) ∧
      (∀ q, (Instr.entryStore 42 (.map (some b)) (.int .i64 (S q)) (.int .i64 d)).run Try.prog (W1 q) = .ok () (W3 q)) ∧
      ∀ q, MapA (W3 q) b (n + 1) (fun p' v' => if p' = p ∧ v' = v then d else M p' v') ∧ (w.drewN q).grownBy (W1 q) (some b) ∧ (W1 q).grownBy (W3 q) (some b) := by
  have H := fun q => MapA.bump (h.drewN q) hn p v d hp hv hm hd
  obtain ⟨U, H⟩ := Classical.axiomOfChoice H
  obtain ⟨S, H⟩ := Classical.axiomOfChoice H
  obtain ⟨W1, H⟩ := Classical.axiomOfChoice H
  have H3 := fun q => (H q).2.2.2 0
  obtain ⟨W3, H5⟩ := Classical.axiomOfChoice H3
  exact ⟨U, S, W1, W3, fun q => (H q).1, fun q => (H q).2.1.look p v hp hv, fun q => (H5 q).1, fun q => ⟨(H5 q).2.1, (H q).2.2.1, (H5 q).2.2⟩⟩

set_option maxRecDepth 100000 in
set_option maxHeartbeats 2000000 in
theorem onceEach_core (HV : CheckC) (HD : ReadC) (rs : List Raw4) (v : Value) (w : World) (hl : (rs.length : Int) ≤ 9223372036854775807) (h : RdR w v rs) :
    Calls Try.prog 6 #[v] w fun e w' => e = .returned (.bool true) ∧ Below w.heap.size w w' := by
  have HR : Hid (RdR w v rs) := h
  have HL : Hid ((rs.length : Int) ≤ 9223372036854775807) := hl
  have HT : Hid (∀ w, _) := viewTells_any HV HD
  have HSent : Hid (∀ v1 w1, RdX w1 v1 (manyL rs 60) → _) := fun v1 w1 h1 => sent_any HV (manyL rs 60) v1 w1 (by simp [manyL]; omega) (manyL_plain rs 60) h1
  have HPl : Hid (Plain (sentL rs 60)) := sentL_plain rs 60
  have HOn : Hid (Once (sentL rs 60) (sentL rs 60).length) := sentL_once rs 60
  have hln := sentL_len rs 60
  clear h hl HV HD
  have hmm := @run_makeMap Try.prog
  go_enter Try.func6, Try.ntmps6
  go_wp2_with fail
  refine (HT.out _).mono ?_
  rintro e w0 ⟨rfl, hb0⟩
  go_wp2_with fail
  refine (many_any rs v 60 w0 (by omega) HL.out (RdR.below HR.out hb0)).mono ?_
  rintro e w1 ⟨v1, rfl, hv1, hb1⟩
  go_wp2_with fail
  refine (HSent.out v1 w1 hv1.rdX).mono ?_
  rintro e w2 ⟨u, rfl, hu, hb2⟩
  have HB2 : Hid _ := bstep (bstep hb0 hb1) hb2
  have HU : Hid (RdX w2 u (sentL rs 60)) := hu.rdX
  clear HR HL HSent hv1 hb1 hb2 hu HT hb0
  generalize sentL rs 60 = es at *
  obtain ⟨ao, cap, rfl, h1, h2, h4, h3⟩ := HU.out
  clear h3 h2 h4
  go_wp2
  have hz1 : (w2.alloc (.map #[] 0)).heap.size = w2.heap.size + 1 := by simp
  have HB3 : Hid (Below w2.heap.size w2 ((w2.alloc (.map #[] 0)).alloc (.map #[] 0))) := ((Below.refl _ _).alloc (Nat.le_refl _) _).alloc (by simp) _
  have HMA : Hid (MapA _ w2.heap.size 0 (cntZ es 0)) := (mapA_new w2 (cntZ es 0) (fun p v => by unfold cntZ; split <;> rfl)).below (by simp) (bbox (w2.alloc (.map #[] 0)) (.map #[] 0))
  have HMI : Hid (MapI ((w2.alloc (.map #[] 0)).alloc (.map #[] 0)) (w2.heap.size + 1) 0 (verZ es 0)) := by
    have := mapI_new (w2.alloc (.map #[] 0)) (verZ es 0) (fun p => by unfold verZ; split <;> simp [verK])
    rw [hz1] at this
    exact this
  go_loopw [18] (fun i wr => ∃ k n m : Nat, k ≤ es.length ∧ n ≤ k ∧ m ≤ k ∧ i = .int .i64 k ∧ MapA wr w2.heap.size n (cntZ es k) ∧ MapI wr (w2.heap.size + 1) m (verZ es k) ∧ Below w2.heap.size w2 wr) (fun i _ => es.length - (intOf i).toNat)
  case atStart => exact ⟨0, 0, 0, by omega, by omega, by omega, rfl, HMA.out, HMI.out, HB3.out⟩
  case round =>
    obtain ⟨k, n, m, hk, hn, hm, rfl, hma, hmi, hb⟩ := hrel
    clear HMA HMI HB3
    by_cases hlt : k < es.length
    · have hke' : (k : Int) < es.length := by omega
      have hRr := RdX.below HU.out (Nat.le_refl _) hb
      obtain ⟨ao', cap', e0, _, _, _, h3⟩ := hRr
      simp only [Value.slice.injEq] at e0
      obtain ⟨rfl, _, rfl⟩ := e0
      obtain ⟨g, off, rfl, hc⟩ := h3 (by omega)
      obtain ⟨q0, q1, q2, q3, q4, q5, q6⟩ := RdX.cells hc k hlt
      have hx := HPl.out es[k] (List.getElem_mem hlt)
      rw [← at_get hlt] at hx
      have HO : Hid _ := HOn.out k hlt
      have HV0 : Hid _ := @verZ_skip es k
      have HV1 : Hid _ := @verZ_step es k
      have HC0 : Hid _ := @cntZ_skip es k
      have HC1 : Hid _ := @cntZ_step es k
      have HZ : Hid _ := fun p v => cntK_le es p v k
      clear hc h3
      have HZ2 : Hid _ := cntK_le es (Ent.at es k).b (Ent.at es k).c k
      have HVZ : Hid (∀ p, verZ es k p = if p = 0 then 0 else if verK es p k < 0 then 0 else verK es p k) := fun p => rfl
      have HCZ : Hid (∀ p v, cntZ es k p v = if p = 0 then 0 else (cntK es p v k : Int)) := fun p v => rfl
      generalize Ent.at es k = x at *
      have hB0 := bbox wr (.cells #[.int .i64 x.a, .int .i64 x.b, .int .i64 x.c, .int .i64 x.d, .int .i64 x.k, .bool x.t, .string x.s] 24)
      have HMA0 : Hid (MapA _ _ _ _) := hma.below hma.lt hB0
      have hmi0 := hmi.below hmi.lt hB0
      have HMI0 : Hid (MapI _ _ _ _) := hmi0
      have HBX : Hid (Box7 _ wr.heap.size x) := box7_new wr x 24
      have HB0 : Hid (Below w2.heap.size w2 _) := hb.trans (hB0.mono hb.size)
      have HSZ : Hid (wr.heap.size < _) := show wr.heap.size < (wr.alloc (.cells #[.int .i64 x.a, .int .i64 x.b, .int .i64 x.c, .int .i64 x.d, .int .i64 x.k, .bool x.t, .string x.s] 24)).heap.size by simp
      have HX : Hid (1 ≤ x.k ∧ x.k ≤ 3 ∧ 0 ≤ x.b ∧ x.b ≤ 1073741824 ∧ 0 ≤ x.c ∧ x.c ≤ 1073741824 ∧ 0 ≤ x.d ∧ x.d ≤ 1073741824) := hx
      have HLM : Hid (w2.heap.size + 1 < wr.heap.size) := hmi.lt
      have HNL : Hid (n < maxLen ∧ m < maxLen) := show _ ∧ _ by unfold maxLen; omega
      by_cases hx0 : x.b = 0
      · have hx0' : (x.b == 0) = true := by simp [hx0]
        have HEA : Hid _ := HMA0.out.congr (HC0.out (.inl hx0))
        have HEI : Hid _ := HMI0.out
        rw [← HV0.out hx0] at HEI
        clear hx0 HMA0 HMI0 hB0 hmi0 hma hmi hx
        go_wp2
        go_roundw
        case rel => exact ⟨k + 1, n, m, by omega, by omega, by omega, by go_num, HEA.out, HEI.out, HB0.out⟩
        case measure => simp [intOf]; omega
      · have hx0' : (x.b == 0) = false := by simp [hx0]
        obtain ⟨o1, o2⟩ := HO.out hx0
        have hlk := hmi0.look x.b (by omega)
        have hvz := HVZ.out x.b
        rw [if_neg hx0] at hvz
        have hlv : decide (x.c < verZ es k x.b) = false := by
          rw [hvz]
          simp
          split <;> omega
        clear hvz
        have HC1' : Hid _ := HC1.out hx0
        have HV1' : Hid _ := HV1.out hx0 (by omega)
        have HCZ' : Hid (cntZ es k x.b x.c = cntK es x.b x.c k) := show _ = _ by rw [HCZ.out, if_neg hx0]
        have HO2 : Hid _ := o2
        clear o1 o2 HO HV0 HV1 HC1 HVZ HCZ hx0 hma hmi hmi0 hB0 hx
        by_cases hk1 : x.k = 1
        · have hk1' : (x.k == 1) = true := by simp [hk1]
          have HK1 : Hid (x.k = 1) := hk1
          clear hk1
          go_wp2_with (at_mapUpdate; refine wp_storeI rfl _ _ _ rfl (w2.heap.size + 1) m _ rfl HMI0.out HNL.out.2 _ rfl (by have := HX.out; omega) _ rfl (by have := HX.out; omega) ?_; intro w3 hm3 hg3; obtain ⟨x0, x1, x2, x3, x4, x5, x6⟩ := Box7.grown HBX.out hg3 (Nat.ne_of_gt HLM.out) HSZ.out; (have hma3 := MapA.grown HMA0.out hg3 (Nat.ne_of_lt (Nat.lt_succ_self _))); (have hB3 : Below w2.heap.size w2 w3 := HB0.out.grown hg3 HB0.out.size (fun i hi => by cases hi; exact Nat.le_succ _)))
          have hB34 := bbox w3 (.cells #[.int .i64 x.b, .int .i64 x.c] 44)
          have hrw3 : wr.heap.size < w3.heap.size := Nat.lt_of_lt_of_le HSZ.out hg3.size
          have hma4 := hma3.below hma3.lt hB34
          rw [← HV1'.out] at hm3
          have HMI4 : Hid (MapI _ _ (m + 1) (verZ es (k + 1))) := hm3.below hm3.lt hB34
          have HB4 : Hid _ := bstep hB3 hB34
          have y0 : (w3.alloc (.cells #[.int .i64 x.b, .int .i64 x.c] 44)).cell? ⟨w3.heap.size, 0, none⟩ = some (.int .i64 x.b) := by simp
          have y1 : (w3.alloc (.cells #[.int .i64 x.b, .int .i64 x.c] 44)).cell? ⟨w3.heap.size, 1, none⟩ = some (.int .i64 x.c) := by simp
          have z3 := (hB34.cell (p := ⟨wr.heap.size, 3, none⟩) hrw3).trans x3
          have hy4 : w3.heap.size < (w3.alloc (.cells #[.int .i64 x.b, .int .i64 x.c] 44)).heap.size := by simp
          have hwb : (Lit.int .i64 x.b).wf = true := wf_i _ (by have := HX.out; omega)
          have hwc : (Lit.int .i64 x.c).wf = true := wf_i _ (by have := HX.out; omega)
          have HMA4 : Hid (MapA _ _ n (cntZ es k)) := hma4
          have hlk4 : ∀ q, (Instr.lookup 42 (.map (some w2.heap.size)) (.agg #[.int .i64 x.b, .int .i64 x.c]) false).run Try.prog (World.drewN _ q) = .ok (.int .i64 (cntZ es k x.b x.c)) (World.drewN _ q) := fun q => (hma4.drewN q).look x.b x.c hwb hwc
          rw [HCZ'.out] at hlk4
          generalize w3.alloc (.cells #[.int .i64 x.b, .int .i64 x.c] 44) = W4 at *
          have hsq : (x.d != (cntK es x.b x.c k : Int)) = false := by rw [HO2.out HK1.out]; simp
          clear x0 x1 x2 x3 x4 x5 x6 hma3 hm3 hg3 hB3 hB34 hma4 hlk
          have hcl := HZ2.out
          obtain ⟨U, S, W1, W3, hE, hL1, hS, hF⟩ := bump_all HMA4.out HNL.out.1 x.b x.c ((cntK es x.b x.c k : Int) + 1) hwb hwc (by rw [HCZ'.out]; exact wf_i _ (by omega)) (wf_i _ (by omega))
          rw [HCZ'.out] at hL1
          have HF : Hid _ := hF
          clear hF HMA4
          go_quiet (fail)
          go_wp2
          go_region
          obtain ⟨f1, f2, f3⟩ := HF.out (nq + 1)
          rw [HCZ'.out] at HC1'
          have hA5 := f1.congr (HC1'.out HK1.out)
          have hI5 := ((show MapI (W4.drewN (nq + 1)) _ _ _ from HMI4.out).grown f2 (Nat.succ_ne_self _)).grown f3 (Nat.succ_ne_self _)
          have hB5 := ((below_drewN HB4.out (nq + 1)).grown f2 HB4.out.size (fun i hi => by cases hi; exact Nat.le_refl _)).grown f3 (Nat.le_trans HB4.out.size f2.size) (fun i hi => by cases hi; exact Nat.le_refl _)
          clear hE hL1 hS f1 f2 f3 hlk4 y0 y1 z3
          go_wp2
          go_roundw
          case rel => exact ⟨k + 1, n + 1, m + 1, by omega, by omega, by omega, by go_num, hA5, hI5, hB5⟩
          case measure => simp [intOf]; omega
        · have hk1' : (x.k == 1) = false := by simp [hk1]
          have HK1 : Hid (x.k ≠ 1) := hk1
          clear hk1
          go_wp2_with (at_mapUpdate; refine wp_storeI rfl _ _ _ rfl (w2.heap.size + 1) m _ rfl HMI0.out HNL.out.2 _ rfl (by have := HX.out; omega) _ rfl (by have := HX.out; omega) ?_; intro w3 hm3 hg3; obtain ⟨x0, x1, x2, x3, x4, x5, x6⟩ := Box7.grown HBX.out hg3 (Nat.ne_of_gt HLM.out) HSZ.out; (have hma3 := MapA.grown HMA0.out hg3 (Nat.ne_of_lt (Nat.lt_succ_self _))); (have hB3 : Below w2.heap.size w2 w3 := HB0.out.grown hg3 HB0.out.size (fun i hi => by cases hi; exact Nat.le_succ _)))
          rw [← HV1'.out] at hm3
          have hma3' := hma3.congr (HC0.out (.inr HK1.out))
          clear hma3 x0 x1 x2 x3 x4 x5 x6
          go_wp2
          go_roundw
          case rel => exact ⟨k + 1, n, m + 1, by omega, by omega, by omega, by go_num, hma3', hm3, hB3⟩
          case measure => simp [intOf]; omega
    · have HB : Hid _ := HB2.out.trans (hb.mono HB2.out.size)
      go_wp2
      go_ret
      exact ⟨rfl, HB.out⟩

end Go.Proofs.Ytdpiijndnefahaa
