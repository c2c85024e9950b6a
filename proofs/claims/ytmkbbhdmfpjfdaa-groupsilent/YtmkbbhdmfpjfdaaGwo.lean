/-
  The document's without: a group without some members, walked.
-/
import Derived.Test.YtmkbbhdmfpjfdaaGanew
import Derived.Deep.RegionLaw
import Derived.Test.YtmkbbhdmfpjfdaaGfn
import Derived.Test.YtmkbbhdmfpjfdaaRfree
namespace Go.Proofs.Ytmkbbhdmfpjfdaa
open Go.RowKit
set_option linter.unusedVariables false
set_option linter.unusedSimpArgs false

section
variable {w : World} {ops : Array Oper} {o : Oper} {a : Act} {K : Act → World → Prop} {Q : Exit → Act → World → Prop} {X : Prop}
theorem field_ms (x0 x1 x2 x3 x4 : Value) (w : World) : (Instr.field 25 (.agg #[x0, x1, x2, x3, x4]) 3).run Try.prog w = .ok x3 w := by
  first
    | kernel_rfl
    | simp [Instr.field, run_underlying Try.underlying25, part, go_sem]
end
/-- The function fn, with what it holds, answers p of a member, in all worlds of a kind, and changes nothing that lies there. -/
def PredW (I : World → Prop) (fn : Nat) (lb : Array Value) (p : Mem → Bool) : Prop :=
  ∀ (W : World) (x : Mem) (u : Value), I W → Calls Try.prog fn (#[.agg #[.string x.nm, .int .i64 x.hd, u]] ++ lb) W fun e w' => e = .returned (.bool (p x)) ∧ Below W.heap.size W w'
/-- Without some of its members. -/
def Grp.keep (g : Grp) (p : Mem → Bool) : Grp := { g with ms := g.ms.filter (fun m => !p m) }
theorem take_keep_yes {l : List Mem} {p : Mem → Bool} {k : Nat} (hk : k < l.length) (h : p (l[k]'hk) = true) : (l.take (k + 1)).filter (fun m => !p m) = (l.take k).filter (fun m => !p m) := by
  rw [List.take_succ_eq_append_getElem hk, List.filter_append]
  simp [h]
theorem take_keep_no {l : List Mem} {p : Mem → Bool} {k : Nat} (hk : k < l.length) (h : p (l[k]'hk) = false) : (l.take (k + 1)).filter (fun m => !p m) = (l.take k).filter (fun m => !p m) ++ [l[k]'hk] := by
  rw [List.take_succ_eq_append_getElem hk, List.filter_append]
  simp [h]

set_option maxRecDepth 100000 in
set_option maxHeartbeats 4000000 in
theorem without_any (g : Grp) (fn : Nat) (lb : Array Value) (p : Mem → Bool) (eg : ∀ args w, (callFunc fn args).run Try.prog w = .ok (.enter fn args) w) (vm vo : Value) (us : Nat → Value) (w : World) (h : RdG w g vm vo us) (hf : g.fits) (hpp : PredW (fun W => Below w.heap.size w W) fn lb p) :
    Calls Try.prog 69 #[.agg #[.int .i64 g.ck, .int .i64 g.wt, .int .i64 g.gn, vm, vo], .func (.func fn) #[] lb] w fun e w' => ∃ vm' vo' us', e = .returned (.agg #[.int .i64 ((g.keep p)).ck, .int .i64 ((g.keep p)).wt, .int .i64 ((g.keep p)).gn, vm', vo']) ∧ FreshG w.heap.size w' (g.keep p) vm' vo' us' ∧ Below w.heap.size w w' := by
  have HLL : Hid (g.ms.length * 48 ≤ 140737488355328) := hf.m
  have HPP : Hid (PredW (fun W => Below w.heap.size w W) fn lb p) := hpp
  have hll : (g.ms.length : Int) ≤ 9223372036854775807 := by have := hf.m; omega
  obtain ⟨av, cv, rfl, _, _⟩ := h.m.shape
  obtain ⟨ao, co, rfl, _, _⟩ := h.o.shape
  have HR : Hid (∀ W, Below w.heap.size w W → RdG W g (.slice av g.ms.length cv) (.slice ao g.os.length co) us) := fun W hW => h.below (Nat.le_refl _) hW
  have HF : Hid g.fits := hf
  have H0 : Hid _ := two_new w g (.slice av g.ms.length cv) (.slice ao g.os.length co)
  clear h hf hpp
  go_enter Try.func69, Try.ntmps69
  go_upto_region 1 with fail
  generalize (w.alloc (.cells #[.int .i64 g.ck, .int .i64 g.wt, .int .i64 g.gn, .slice av g.ms.length cv, .slice ao g.os.length co] 25)).alloc (.cells #[.int .i64 0, .int .i64 0, .int .i64 0, .slice none 0 0, .slice none 0 0] 25) = w1 at *
  have HB1 : Hid (Below w.heap.size w w1) := H0.out.1
  have HC1 : Hid (GB w1 w.heap.size g _ _) := H0.out.2.1
  have HZ1 : Hid (GB w1 (w.heap.size + 1) Grp.zero (.slice none 0 0) (.slice none 0 0)) := H0.out.2.2
  clear H0
  obtain ⟨s1, ⟨a0, a1, a2, a3, a4⟩, f1⟩ := HC1.out
  obtain ⟨z1, ⟨e0, e1, e2, e3, e4⟩, g1⟩ := HZ1.out
  go_wp2_with fail
  refine (groupCopy_any g _ _ us _ (HR.out _ HB1.out) HF.out).mono ?_
  rintro e w3 ⟨v3, o3, us3, rfl, hf3, hb3⟩
  obtain ⟨g3, c3, rfl⟩ := hf3.m.o.shape
  obtain ⟨p3, q3, rfl⟩ := hf3.o.o.shape
  have HS : Hid (Sg w w3.heap.size (w.heap.size + 1) w1.heap.size w1.heap.size w1 g (.slice g3 g.ms.length c3) (.slice p3 g.os.length q3) us3 (w3.alloc (.cells #[.int .i64 g.ck, .int .i64 g.wt, .int .i64 g.gn, .slice g3 g.ms.length c3, .slice p3 g.os.length q3] 25))) := sg_new HB1.out HZ1.out (by omega) hf3 hb3
  have HLW : Hid (w1.heap.size ≤ w3.heap.size) := hb3.size
  clear a0 a1 a2 a3 a4 f1 s1 z1 e0 e1 e2 e3 e4 g1 hf3 hb3
  go_upto_region 2 with fail
  generalize w3.alloc (.cells #[.int .i64 g.ck, .int .i64 g.wt, .int .i64 g.gn, .slice g3 g.ms.length c3, .slice p3 g.os.length q3] 25) = W4 at *
  have hlw := HLW.out
  have hw1 := HC1.out.1
  have hz1' := HZ1.out.1
  generalize w3.heap.size = o at *
  have HC4 : Hid (GB W4 w.heap.size g _ _) := HS.out.src HC1.out hw1 (by omega)
  have hB1 := HB1.out.size
  have hbz : w.heap.size ≠ w.heap.size + 1 := by omega
  have hob : w.heap.size ≠ o := by omega
  have hoz : w.heap.size + 1 ≠ o := by omega
  obtain ⟨s1, ⟨a0, a1, a2, a3, a4⟩, f1⟩ := HC4.out
  obtain ⟨z1, ⟨e0, e1, e2, e3, e4⟩, g1⟩ := HS.out.zz
  obtain ⟨o1, ⟨b0, b1, b2, b3, b4⟩, h1⟩ := HS.out.bb

  have HSN : Hid (Sg w o (w.heap.size + 1) w1.heap.size w1.heap.size w1 (g.rows [] g.os) (.slice none 0 0) (.slice p3 g.os.length q3) nilS (W4.setCell ⟨o, 3, none⟩ (.slice none 0 0))) := HS.out.rowM (ms' := []) (ownW_nil memE _ _ _ HS.out.own.m.o.2) ⟨rfl, rfl, rfl, Nat.le_refl _, fun _ _ _ => rfl⟩ (fun c e => by cases e) (fun i hi => by simp at hi)
  go_upto_region 3 with fail
  generalize W4.setCell ⟨o, 3, none⟩ (.slice none 0 0) = W5 at *
  clear a0 a1 a2 a3 a4 f1 s1 z1 e0 e1 e2 e3 e4 g1 o1 b0 b1 b2 b3 b4 h1 HC4 HS
  go_wp2
  go_loopw [6] (fun iv W => ∃ k : Nat, k ≤ g.ms.length ∧ iv = .int .i64 k ∧ Hid (∃ v us', Sg w o (w.heap.size + 1) w1.heap.size w1.heap.size w1 (g.rows ((g.ms.take k).filter (fun m => !p m)) g.os) v (.slice p3 g.os.length q3) us' W)) (fun iv _ => g.ms.length - (intOf iv).toNat)
  case atStart => exact ⟨0, by omega, rfl, _, _, HSN.out⟩
  case round =>
    obtain ⟨k, hk, rfl, HN⟩ := hrel
    obtain ⟨v, us', hs⟩ := HN.out
    have HS : Hid _ := hs
    obtain ⟨xs, hxs⟩ : ∃ xs, (g.ms.take k).filter (fun m => !p m) = xs := ⟨_, rfl⟩
    have HXS : Hid ((g.ms.take k).filter (fun m => !p m) = xs) := hxs
    rw [hxs] at HS
    obtain ⟨ax, cx, rfl⟩ : ∃ ax cx, v = .slice ax xs.length cx := HS.out.own.m.o.shape
    have HBW : Hid (Below w.heap.size w wr) := HS.out.bel
    have HC5 : Hid (GB wr w.heap.size g _ _) := HS.out.src HC1.out hw1 (by omega)
    have HOUT : Hid (GB wr o g (.slice ax xs.length cx) (.slice p3 g.os.length q3)) := HS.out.bb.ren rfl rfl rfl
    have HZZ : Hid _ := HS.out.zz
    clear hxs hs HN
    obtain ⟨s1, ⟨a0, a1, a2, a3, a4⟩, f1⟩ := HC5.out
    obtain ⟨z1, ⟨e0, e1, e2, e3, e4⟩, g1⟩ := HZZ.out
    obtain ⟨o1, ⟨b0, b1, b2, b3, b4⟩, h1⟩ := HOUT.out
    by_cases hlt : k < g.ms.length
    rotate_left
    · have hkv : ¬ (k : Int) < g.ms.length := by omega
      have HKE : Hid (k = g.ms.length) := show k = g.ms.length by omega
      have HFF : Hid (Sg w o (w.heap.size + 1) w1.heap.size w1.heap.size w1 (g.keep p) (.slice ax xs.length cx) (.slice p3 g.os.length q3) us' wr) := by
        have := HS.out
        have e := HXS.out
        rw [HKE.out, List.take_length] at e
        rw [← e] at this ⊢
        exact this
      have HDN : Hid _ := HFF.out.done g
      unfold put5 at HDN
      clear hk
      go_wp2
      exact bodyPost_ret (v := .agg #[.int .i64 g.ck, .int .i64 g.wt, .int .i64 g.gn, .slice ax xs.length cx, .slice p3 g.os.length q3]) (by simp [results, Try.results69, go_sem, e0, e1, e2, e3, e4]) rfl ⟨_, _, rfl, ⟨us', HDN.out.1⟩, HDN.out.2⟩
    have hkv : (k : Int) < g.ms.length := by omega
    obtain ⟨gg, off, m, au, cu, rfl, HAT, hgg, HQR, -, HME, q0, q1, q2⟩ := (HR.out wr HBW.out).memAt k hlt
    have HMK : Hid (g.ms[k]'hlt = m) := show _ = _ by rw [← at_mem_g hlt]; exact HAT.out
    have hcall := HPP.out wr m (.slice au m.ps.length cu) HBW.out
    cases hpm : p m with
    | true =>
      rw [hpm] at hcall
      have HN2 : Hid ((g.ms.take (k + 1)).filter (fun m => !p m) = xs) := show _ = _ by rw [take_keep_yes hlt (by rw [HMK.out]; exact hpm)]; exact HXS.out
      clear hpm
      go_wp2_with (go_at_fn fn; refine hcall.mono ?_; rintro e w5 ⟨rfl, hb5⟩)
      have HS5 : Hid (∃ v us', Sg w o (w.heap.size + 1) w1.heap.size w1.heap.size w1 (g.rows ((g.ms.take (k + 1)).filter (fun m => !p m)) g.os) v (.slice p3 g.os.length q3) us' w5) := by
        rw [HN2.out]
        exact ⟨_, _, HS.out.below hb5⟩
      clear hb5 hcall a0 a1 a2 a3 a4 f1 s1 z1 e0 e1 e2 e3 e4 g1 o1 b0 b1 b2 b3 b4 h1 q0 q1 q2
      go_wp2
      go_roundw
      case rel => exact ⟨k + 1, by omega, by go_num, HS5⟩
      case measure => simp [intOf]; omega
    | false =>
      rw [hpm] at hcall
      have HN2 : Hid ((g.ms.take (k + 1)).filter (fun m => !p m) = xs ++ [m]) := show _ = _ by rw [take_keep_no hlt (by rw [HMK.out]; exact hpm), HMK.out, HXS.out]
      clear hpm
      go_wp2_with (go_at_fn fn; refine hcall.mono ?_; rintro e w5 ⟨rfl, hb5⟩)
      have HS5 : Hid (Sg w o (w.heap.size + 1) w1.heap.size w1.heap.size w1 (g.rows xs g.os) (.slice ax xs.length cx) (.slice p3 g.os.length q3) us' w5) := HS.out.below hb5
      have HC6 : Hid (GB w5 w.heap.size g _ _) := HC5.out.below HC5.out.1 hb5
      have HO6 : Hid (GB w5 o g _ _) := HOUT.out.below HOUT.out.1 hb5
      have HXL : Hid (xs.length ≤ k) := show xs.length ≤ k by
        rw [← HXS.out]
        refine Nat.le_trans (List.length_filter_le _ _) ?_
        rw [List.length_take]
        omega
      have HY3 : Hid ((xs.length + 1) * 48 ≤ 140737488355328 ∧ xs.length + 1 ≤ maxLen) := show _ ∧ _ by
        have := HLL.out
        have := HXL.out
        unfold maxLen
        omega
      clear hb5 hcall a0 a1 a2 a3 a4 f1 s1 z1 e0 e1 e2 e3 e4 g1 o1 b0 b1 b2 b3 b4 h1 q0 q1 q2 HS HC5 HOUT HZZ
      obtain ⟨s1, ⟨a0, a1, a2, a3, a4⟩, f1⟩ := HC6.out
      obtain ⟨o1, ⟨b0, b1, b2, b3, b4⟩, h1⟩ := HO6.out
      have hfd := field_ms
      go_upto_region 7 with fail
      go_region_law (first
        | (rw [if_pos (wanted_free rfl)]; unfold Oper.wp; simp [execOp, go_sem, Act.eval, Act.put]; refine (groupCopy_any g _ _ us _ (HR.out _ (bstep HS5.out.bel (by repeat (first | exact Below.refl _ _ | refine Below.drew ?_)))) HF.out).mono ?_; rintro e w7 ⟨v7, o7, us7, rfl, hf7, hb7⟩; dsimp only; have hB7 : Below w5.heap.size w5 w7 := bstep (by repeat (first | exact Below.refl _ _ | refine Below.drew ?_)) hb7; obtain ⟨o17, ⟨-, -, -, b73, -⟩, h17⟩ := HO6.out.below HO6.out.1 hB7; obtain ⟨g7, c7, hv7, -⟩ := hf7.m.o.form (by omega); subst hv7; obtain ⟨⟨t0, t1, t2⟩, tz, tb, tl⟩ := hf7.memCells k hlt; rw [HAT.out] at t0 t1; obtain ⟨au7, cu7, hu7⟩ : ∃ au cu, us7 k = .slice au m.ps.length cu := by
            obtain ⟨au, cu, e⟩ := (hf7.m.i k hlt).shape
            rw [HMK.out] at e
            exact ⟨au, cu, e⟩
           rw [hu7] at t2
           have HNW : Hid (∀ b, (Value.slice au7 m.ps.length cu7).ownBlock = some b → w5.heap.size ≤ b) := fun b e => by
             have h9 := ((hf7.m.i k hlt).blk b (by rw [hu7]; exact e)).1
             exact h9
           have HY7 : Hid (OwnV w1.heap.size 3 1 (.slice au7 m.ps.length cu7) (memE.ns m).length (ints (memE.ns m)) w7) := by
             have h9 := hf7.m.i k hlt
             rw [hu7, HMK.out] at h9
             exact h9.mono (HS5.out.own.m.o.2))
        | (refine step_rowW memE 55 22 zeroMV 48 infoMem Try.underlying22 (by decide) rfl (by rfl) _ _ (by rfl) w1.heap.size (.slice ax xs.length cx) xs xs.length rfl us' (by simp [Act.eval, Act.put]) (HS5.out.own.m.below (Nat.le_refl _) (hB7.trans ((bbox _ _).mono hB7.size))) _ (by rfl) m (.slice au7 m.ps.length cu7) (fun j x hx => lit3 _ _ _ _ _ (by first | rfl | simp) j x hx) (HY7.out.below (Nat.le_refl _) (bbox _ _)) (fun b e e2 => by
             have h8 := HNW.out b e
             have h9 := (HS5.out.own.m.o.blk b e2).2
             omega) (fun i hi b e e2 => by
             have h8 := HNW.out b e
             have h9 := ((HS5.out.own.m.i i hi).blk b e2).2
             omega) HY3.out.1 HY3.out.2 _ rfl ?_; intro g' cap' w8 ho hg hat hlt8; have HS7 := (HS5.out.below hB7).below (bbox w7 (.cells #[.string m.nm, .int .i64 m.hd, .slice au7 m.ps.length cu7] 55)); have HR8 : Hid _ := HS7.rowM ho hg (fun c e => by
             simp [Value.ownBlock] at e
             subst e
             rcases hat with h | h
             · exact .inl h
             · exact .inr (by rw [h]; exact Nat.le_refl _)) (fun i hi c e => by
             by_cases hn : i = xs.length
             · rw [if_pos hn] at e
               exact .inr (HS5.out.new (HNW.out c e))
             · rw [if_neg hn] at e
               exact .inl ⟨i, by simp at hi; show i < xs.length; omega, e⟩); obtain ⟨p1, ⟨r0, r1, r2, r3, r4⟩, p2⟩ := HS7.bb.grown hg HS7.nb.1; dsimp only))
      all_goals
        have HR9 : Hid (∃ v us', Sg w o (w.heap.size + 1) w1.heap.size w1.heap.size w1 (g.rows ((g.ms.take (k + 1)).filter (fun m => !p m)) g.os) v (.slice p3 g.os.length q3) us' (w8.setCell ⟨o, 3, none⟩ (.slice (some ⟨g', 0, none⟩) (xs.length + 1) cap'))) := by
          rw [HN2.out]
          exact ⟨_, _, HR8.out⟩
      all_goals generalize w8.setCell ⟨o, 3, none⟩ (.slice (some ⟨g', 0, none⟩) (xs.length + 1) cap') = w9 at *
      all_goals clear HR8 HS7 ho hg hat hlt8 p1 r0 r1 r2 r3 r4 p2 hf7 hB7 t0 t1 t2 tz tb tl s1 a0 a1 a2 a3 a4 f1 o1 b0 b1 b2 b3 b4 h1 HS5 HC6 HO6
      all_goals go_wp2
      all_goals
        go_roundw
        case rel => exact ⟨k + 1, by omega, by go_num, HR9⟩
        case measure => simp [intOf]; omega

end Go.Proofs.Ytmkbbhdmfpjfdaa
