/-
  The document's GroupCopy, walked.
-/
import Derived.Test.YtmkbbhdmfpjfdaaGst
import Derived.Deep.RegionLaw
namespace Go.Proofs.Ytmkbbhdmfpjfdaa
open Go.RowKit
set_option linter.unusedVariables false
set_option linter.unusedSimpArgs false

theorem hat_all' {g H n c : Nat} {v : Value} {W : World} (hat : v.ownBlock = some g ∨ g = H) (hH : W.heap.size = H) : ∀ k, (Value.slice (some ⟨g, 0, none⟩) n c).ownBlock = some k → v.ownBlock = some k ∨ W.heap.size ≤ k := fun k e => by
  simp [Value.ownBlock] at e
  subst e
  rcases hat with h | h
  · exact .inl h
  · exact .inr (by omega)
theorem take_snoc {α : Type} {l m : List α} {d : α} (h : l = m.take l.length) (hl : l.length < m.length) : l ++ [m.getD l.length d] = m.take (l ++ [m.getD l.length d]).length := by
  rw [List.length_append, List.length_singleton, List.take_succ_eq_append_getElem hl, ← h]
  simp [List.getD, hl]
theorem take_full {α : Type} {l m : List α} (h : l = m.take l.length) (hl : ¬ l.length < m.length) : l = m := by
  rw [h, List.take_of_length_le (by omega)]
theorem lit3 (w : World) (T : TypeId) (x0 x1 x2 : Value) {g : Nat} (hg : g = w.heap.size) (j : Nat) (x : Value) (hx : ([x0, x1, x2] : List Value)[j]? = some x) : (w.alloc (.cells #[x0, x1, x2] T)).cell? ⟨g, j, none⟩ = some x := by
  subst hg
  have hj : j < 3 := (List.getElem?_eq_some_iff.1 hx).1
  rcases (show j = 0 ∨ j = 1 ∨ j = 2 by omega) with rfl | rfl | rfl <;> (simp at hx; subst hx; simp [go_sem])
theorem lit2 (w : World) (T : TypeId) (x0 x1 : Value) {g : Nat} (hg : g = w.heap.size) (j : Nat) (x : Value) (hx : ([x0, x1] : List Value)[j]? = some x) : (w.alloc (.cells #[x0, x1] T)).cell? ⟨g, j, none⟩ = some x := by
  subst hg
  have hj : j < 2 := (List.getElem?_eq_some_iff.1 hx).1
  rcases (show j = 0 ∨ j = 1 by omega) with rfl | rfl <;> (simp at hx; subst hx; simp [go_sem])
def Grp.rows (g : Grp) (ms : List Mem) (os : List Ofs) : Grp := ⟨g.ck, g.wt, g.gn, ms, os⟩
/-- In the midst of GroupCopy. -/
def DocG (w : World) (g : Grp) (W0 : World) (ms : List Mem) (os : List Ofs) (vm vo : Value) (us : Nat → Value) (W : World) : Prop := Sg w (w.heap.size + 1 + 1) (w.heap.size + 1) (w.heap.size + 3) (w.heap.size + 3) W0 (g.rows ms os) vm vo us W
theorem docg_start (w : World) (g : Grp) (vm vo : Value) (W0 : World) (h : W0 = ((w.alloc (.cells #[.int .i64 g.ck, .int .i64 g.wt, .int .i64 g.gn, vm, vo] 25)).alloc (.cells #[.int .i64 0, .int .i64 0, .int .i64 0, .slice none 0 0, .slice none 0 0] 25)).alloc (.cells #[.int .i64 g.ck, .int .i64 g.wt, .int .i64 g.gn, .slice none 0 0, .slice none 0 0] 25)) : DocG w g W0 [] [] (.slice none 0 0) (.slice none 0 0) nilS W0 ∧ GB W0 w.heap.size g vm vo ∧ Below w.heap.size w W0 := by
  have e1 : (w.alloc (.cells #[.int .i64 g.ck, .int .i64 g.wt, .int .i64 g.gn, vm, vo] 25)).heap.size = w.heap.size + 1 := by simp
  have e2 : ((w.alloc (.cells #[.int .i64 g.ck, .int .i64 g.wt, .int .i64 g.gn, vm, vo] 25)).alloc (.cells #[.int .i64 0, .int .i64 0, .int .i64 0, .slice none 0 0, .slice none 0 0] 25)).heap.size = w.heap.size + 1 + 1 := by simp
  have e3 : W0.heap.size = w.heap.size + 3 := by rw [h]; simp
  have b1 := bbox w (.cells #[.int .i64 g.ck, .int .i64 g.wt, .int .i64 g.gn, vm, vo] 25)
  have b2 := bbox (w.alloc (.cells #[.int .i64 g.ck, .int .i64 g.wt, .int .i64 g.gn, vm, vo] 25)) (.cells #[.int .i64 0, .int .i64 0, .int .i64 0, .slice none 0 0, .slice none 0 0] 25)
  have b3 := bbox ((w.alloc (.cells #[.int .i64 g.ck, .int .i64 g.wt, .int .i64 g.gn, vm, vo] 25)).alloc (.cells #[.int .i64 0, .int .i64 0, .int .i64 0, .slice none 0 0, .slice none 0 0] 25)) (.cells #[.int .i64 g.ck, .int .i64 g.wt, .int .i64 g.gn, .slice none 0 0, .slice none 0 0] 25)
  have s0 := gb_new w g vm vo w.heap.size rfl
  have z0 : GB ((w.alloc (.cells #[.int .i64 g.ck, .int .i64 g.wt, .int .i64 g.gn, vm, vo] 25)).alloc (.cells #[.int .i64 0, .int .i64 0, .int .i64 0, .slice none 0 0, .slice none 0 0] 25)) (w.heap.size + 1) Grp.zero (.slice none 0 0) (.slice none 0 0) := gb_new (w.alloc (.cells #[.int .i64 g.ck, .int .i64 g.wt, .int .i64 g.gn, vm, vo] 25)) Grp.zero (.slice none 0 0) (.slice none 0 0) (w.heap.size + 1) e1.symm
  have o0 := gb_new ((w.alloc (.cells #[.int .i64 g.ck, .int .i64 g.wt, .int .i64 g.gn, vm, vo] 25)).alloc (.cells #[.int .i64 0, .int .i64 0, .int .i64 0, .slice none 0 0, .slice none 0 0] 25)) (g.rows [] []) (.slice none 0 0) (.slice none 0 0) (w.heap.size + 1 + 1) e2.symm
  have s1 := s0.below s0.1 b2
  have s2 := s1.below s1.1 b3
  have z1 := z0.below z0.1 b3
  have hf : FreshG (w.heap.size + 3) W0 (g.rows [] []) (.slice none 0 0) (.slice none 0 0) nilS := freshG_nil _ rfl rfl (by omega)
  refine ⟨⟨?_, ?_, ?_, hf, off_lt hf (by omega), off_lt hf (by omega), by omega, by omega, by omega, by omega, Nat.le_refl _, fun _ _ _ => rfl⟩, ?_, ?_⟩
  · rw [h]; exact bstep (bstep b1 b2) b3
  · rw [h]; exact o0
  · rw [h]; exact z1
  · rw [h]; exact s2
  · rw [h]; exact bstep (bstep b1 b2) b3

set_option maxRecDepth 100000 in
set_option maxHeartbeats 4000000 in
theorem groupCopy_any (g : Grp) (vm vo : Value) (us : Nat → Value) (w : World) (h : RdG w g vm vo us) (hf : g.fits) :
    Calls Try.prog 27 #[.agg #[.int .i64 g.ck, .int .i64 g.wt, .int .i64 g.gn, vm, vo]] w fun e w' => ∃ vm' vo' us', e = .returned (.agg #[.int .i64 g.ck, .int .i64 g.wt, .int .i64 g.gn, vm', vo']) ∧ FreshG w.heap.size w' g vm' vo' us' ∧ Below w.heap.size w w' := by
  have HR : Hid (∀ W, Below w.heap.size w W → RdG W g vm vo us) := fun W hW => h.below (Nat.le_refl _) hW
  have HF : Hid g.fits := hf
  obtain ⟨av, cv, rfl, hl1, hl2⟩ := h.m.shape
  obtain ⟨ao, co, rfl, ho1, ho2⟩ := h.o.shape
  unfold maxLen at hl2 ho2
  have l3 : (g.ms.length : Int) ≤ 9223372036854775807 := by omega
  have l4 : (g.os.length : Int) ≤ 9223372036854775807 := by omega
  have HL4 : Hid (g.ms.length * 48 ≤ 140737488355328) := hf.m
  have HL5 : Hid (g.os.length * 16 ≤ 140737488355328) := hf.o
  clear h hf hl1 hl2 ho1 ho2
  go_enter Try.func27, Try.ntmps27
  go_upto_region 2 with fail
  obtain ⟨HD, HS0, HBB⟩ := docg_start w g (.slice av g.ms.length cv) (.slice ao g.os.length co) _ rfl
  generalize ((w.alloc (.cells #[.int .i64 g.ck, .int .i64 g.wt, .int .i64 g.gn, .slice av g.ms.length cv, .slice ao g.os.length co] 25)).alloc (.cells #[.int .i64 0, .int .i64 0, .int .i64 0, .slice none 0 0, .slice none 0 0] 25)).alloc (.cells #[.int .i64 g.ck, .int .i64 g.wt, .int .i64 g.gn, .slice none 0 0, .slice none 0 0] 25) = W0 at *
  have HDH : Hid _ := HD
  have HSH : Hid _ := HS0
  clear HD HS0 HBB
  go_wp2
  go_loopw [4] (fun i W => ∃ xs : List Mem, xs.length ≤ g.ms.length ∧ i = .int .i64 xs.length ∧ Hid (xs = g.ms.take xs.length) ∧ Hid (∃ v us', DocG w g W0 xs [] v (.slice none 0 0) us' W)) (fun i _ => g.ms.length - (intOf i).toNat)
  case atStart => exact ⟨[], by simp, rfl, rfl, _, _, HDH.out⟩
  case round =>
    obtain ⟨xs, hk, rfl, HT, HN⟩ := hrel
    obtain ⟨v, us', hd⟩ := HN.out
    have HD : Hid (DocG w g W0 xs [] v (.slice none 0 0) us' wr) := hd
    obtain ⟨ax, cx, rfl⟩ : ∃ ax cx, v = .slice ax xs.length cx := hd.own.m.o.shape
    have hsrc : GB wr w.heap.size g (.slice av g.ms.length cv) (.slice ao g.os.length co) := Sg.src hd HSH.out (by omega) (by omega)
    have hout : GB wr (w.heap.size + 1 + 1) g (.slice ax xs.length cx) (.slice none 0 0) := hd.bb.ren rfl rfl rfl
    have hzz : GB wr (w.heap.size + 1) Grp.zero (.slice none 0 0) (.slice none 0 0) := hd.zz
    have HBL : Hid (Below w.heap.size w wr) := hd.bel
    obtain ⟨s1, ⟨a0, a1, a2, a3, a4⟩, f1⟩ := hsrc
    obtain ⟨z1, ⟨e0, e1, e2, e3, e4⟩, g1⟩ := hzz
    obtain ⟨o1, ⟨d0, d1, d2, d3, d4⟩, h1⟩ := hout
    by_cases hlt : xs.length < g.ms.length
    · have hltv : (xs.length : Int) < g.ms.length := by omega
      obtain ⟨gg, off, m, au, cu, rfl, HAT, -, HQR, -, HME, q0, q1, q2⟩ := (HR.out wr HBL.out).memAt xs.length hlt
      have HT2 : Hid (xs ++ [m] = g.ms.take (xs ++ [m]).length) := by
        have := take_snoc (d := zeroM) HT.out hlt
        rw [show g.ms.getD xs.length zeroM = m from HAT.out] at this
        exact this
      have HL : Hid (m.ps.length * 8 ≤ 140737488355328) := HF.out.p _ HME.out
      have HQ : Hid (∀ W, Below wr.heap.size wr W → RdV W (.slice au m.ps.length cu) (ints m.ps)) := fun W hW => HQR.out.below (Nat.le_refl _) hW
      clear HQR hd HN
      go_upto_region 6 with fail
      have HTB : Hid (MBox _ wr.heap.size 0 m (.slice au m.ps.length cu)) := mbox_new wr m (.slice au m.ps.length cu) wr.heap.size rfl
      have HBX : Hid (Below wr.heap.size wr _) := bbox wr (.cells #[.string m.nm, .int .i64 m.hd, .slice au m.ps.length cu] 55)
      have hz1 : wr.heap.size < (wr.alloc (.cells #[.string m.nm, .int .i64 m.hd, .slice au m.ps.length cu] 55)).heap.size := by simp
      have hfz : ∀ o, (wr.alloc (.cells #[.string m.nm, .int .i64 m.hd, .slice au m.ps.length cu] 55)).frozen? ⟨wr.heap.size, o, none⟩ = false := fun o => by simp [go_sem]
      generalize wr.alloc (.cells #[.string m.nm, .int .i64 m.hd, .slice au m.ps.length cu] 55) = W1 at *
      clear a0 a1 a2 a3 a4 f1 s1 z1 e0 e1 e2 e3 e4 g1 o1 d0 d1 d2 d3 d4 h1 q0 q1 q2
      obtain ⟨q0, q1, q2⟩ := HTB.out
      go_wp2_with fail
      refine (intsCopy_any m.ps (.slice au m.ps.length cu) _ HL.out (HQ.out _ HBX.out)).mono ?_
      rintro e w5 ⟨u5, rfl, ho5, hb5⟩
      obtain ⟨a5, c5, rfl⟩ := ho5.shape
      have HD5 : Hid (DocG w g W0 xs [] (.slice ax xs.length cx) (.slice none 0 0) us' w5) := Sg.below (Sg.below HD.out HBX.out) hb5
      have HT5 : Hid (MBox w5 wr.heap.size 0 m (.slice au m.ps.length cu)) := HTB.out.below hz1 hb5
      have hz5 : wr.heap.size < w5.heap.size := Nat.lt_of_lt_of_le hz1 hb5.size
      have hf5 : ∀ o, w5.frozen? ⟨wr.heap.size, o, none⟩ = false := fun o => (hb5.frozen (p := ⟨wr.heap.size, o, none⟩) hz1).trans (hfz o)
      have HO5 : Hid (OwnV W1.heap.size 3 1 (.slice a5 m.ps.length c5) m.ps.length (ints m.ps) w5) := ho5
      have hwW : wr.heap.size ≤ W1.heap.size := by omega
      clear q0 q1 q2 ho5 hb5 hfz
      obtain ⟨q0, q1, q2⟩ := HT5.out
      obtain ⟨o1, ⟨d0, d1, d2, d3, d4⟩, h1⟩ := (HD5.out.bb.ren rfl rfl rfl : GB w5 (w.heap.size + 1 + 1) g (.slice ax xs.length cx) (.slice none 0 0))
      have hBw : w.heap.size + 3 ≤ wr.heap.size := HD.out.own.m.o.2
      have hne : w.heap.size + 1 + 1 ≠ wr.heap.size := by omega
      have HOF : Hid (Off (g.rows xs []) (.slice ax xs.length cx) (.slice none 0 0) us' wr.heap.size) := off_ge HD.out.own (Nat.le_refl _)
      have HD6 : Hid (∀ x, DocG w g W0 xs [] (.slice ax xs.length cx) (.slice none 0 0) us' (w5.setCell ⟨wr.heap.size, 2, none⟩ x)) := fun x =>
        Sg.far HD5.out HOF.out (by omega) (by omega) (by omega) (by omega) _ _
      have HO6 : Hid (∀ x, OwnV W1.heap.size 3 1 (.slice a5 m.ps.length c5) m.ps.length (ints m.ps) (w5.setCell ⟨wr.heap.size, 2, none⟩ x)) := fun x => HO5.out.far (fun e => by have := (HO5.out.blk _ e).1; omega) _ _
      have HNW : Hid (∀ b, (Value.slice a5 m.ps.length c5).ownBlock = some b → wr.heap.size ≤ b) := fun b e => by have := (HO5.out.blk b e).1; omega
      have HY1 : Hid (∀ b, (Value.slice a5 m.ps.length c5).ownBlock = some b → (Value.slice ax xs.length cx).ownBlock ≠ some b) := fun b e e2 => by
        have h1 := HNW.out b e
        have h2 := (HD.out.own.m.o.blk b e2).2
        omega
      have HY2 : Hid (∀ i, i < xs.length → ∀ b, (Value.slice a5 m.ps.length c5).ownBlock = some b → (us' i).ownBlock ≠ some b) := fun i hi b e e2 => by
        have h1 := HNW.out b e
        have h2 := ((HD.out.own.m.i i hi).blk b e2).2
        omega
      have HY3 : Hid ((xs.length + 1) * 48 ≤ 140737488355328 ∧ xs.length + 1 ≤ maxLen) := show _ ∧ _ by
        have := HL4.out
        unfold maxLen
        omega
      go_wp2_with (at_builtin; go_must (refine wp_rowW memE 55 22 zeroMV 48 infoMem Try.underlying22 (by decide) rfl rfl _ _ rfl (w.heap.size + 3) (.slice ax xs.length cx) xs xs.length rfl us' rfl ((HD6.out _).own.m.below (Nat.le_refl _) (bbox _ _)) _ rfl m (.slice a5 m.ps.length c5) (fun j x hx => lit3 _ _ _ _ _ (by simp) j x hx) (((HO6.out _).mono (by omega)).below (Nat.le_refl _) (bbox _ _)) HY1.out HY2.out HY3.out.1 HY3.out.2 _ rfl ?_))
      intro g' cap' w' ho' hg hat hlt'
      have HD7 : Hid (∃ v us', DocG w g W0 (xs ++ [m]) [] v (.slice none 0 0) us' (w'.setCell ⟨w.heap.size + 1 + 1, 3, none⟩ (.slice (some ⟨g', 0, none⟩) (xs.length + 1) cap'))) := ⟨_, _, Sg.rowM ((HD6.out _).below (bbox _ _)) ho' hg (hat_all' hat (by simp)) (fun i hi c e => by
        by_cases h : i = xs.length
        · rw [if_pos h] at e
          exact .inr (Sg.new HD.out (HNW.out c e))
        · rw [if_neg h] at e
          exact .inl ⟨i, (show i < xs.length by simp at hi; omega), e⟩)⟩
      have hxx : ∀ b, (Value.slice ax xs.length cx).ownBlock = some b → w.heap.size + 3 ≤ b := fun b e => (HD.out.own.m.o.blk b e).1
      obtain ⟨p1, ⟨b0, b1, b2, b3, b4⟩, l1⟩ := ((HD6.out (.slice a5 m.ps.length c5)).below (bbox _ (.cells #[.string m.nm, .int .i64 m.hd, .slice a5 m.ps.length c5] 55))).bb.grown hg (fun e => by have := hxx _ e; omega)
      clear ho' hg hat hlt' hxx
      go_wp2
      go_roundw
      case rel => exact ⟨xs ++ [m], by simp; omega, by simp, HT2, HD7⟩
      case measure => simp [intOf]; omega
    · have HFULL : Hid (xs = g.ms) := take_full HT.out hlt
      have hlv : ¬ (xs.length : Int) < g.ms.length := by omega
      clear hd HN HT
      go_wp2
      clear a0 a1 a2 a3 a4 f1 s1 z1 e0 e1 e2 e3 e4 g1 o1 d0 d1 d2 d3 d4 h1
      rename World => w4
      go_loopw [6] (fun i W => ∃ ys : List Ofs, ys.length ≤ g.os.length ∧ i = .int .i64 ys.length ∧ Hid (ys = g.os.take ys.length) ∧ Hid (∃ u, DocG w g W0 xs ys (.slice ax xs.length cx) u us' W)) (fun i _ => g.os.length - (intOf i).toNat)
      case atStart => exact ⟨[], by simp, rfl, rfl, _, HD.out⟩
      case round =>
        obtain ⟨ys, hk2, rfl, HT, HN⟩ := hrel
        obtain ⟨u, hd⟩ := HN.out
        clear HD
        have HD : Hid (DocG w g W0 xs ys (.slice ax xs.length cx) u us' wr) := hd
        obtain ⟨ay, cy, rfl⟩ : ∃ ay cy, u = .slice ay ys.length cy := hd.own.o.o.shape
        have hsrc : GB wr w.heap.size g (.slice av g.ms.length cv) (.slice ao g.os.length co) := Sg.src hd HSH.out (by omega) (by omega)
        have hout : GB wr (w.heap.size + 1 + 1) g (.slice ax xs.length cx) (.slice ay ys.length cy) := hd.bb.ren rfl rfl rfl
        have hzz : GB wr (w.heap.size + 1) Grp.zero (.slice none 0 0) (.slice none 0 0) := hd.zz
        have HBL2 : Hid (Below w.heap.size w wr) := hd.bel
        obtain ⟨s1, ⟨a0, a1, a2, a3, a4⟩, f1⟩ := hsrc
        obtain ⟨z1, ⟨e0, e1, e2, e3, e4⟩, g1⟩ := hzz
        obtain ⟨o1, ⟨d0, d1, d2, d3, d4⟩, h1⟩ := hout
        by_cases hlt2 : ys.length < g.os.length
        · have hltv : (ys.length : Int) < g.os.length := by omega
          obtain ⟨bx, ox, x, rfl, HX, hbx, q0, q1⟩ := (HR.out wr HBL2.out).ofsAt ys.length hlt2
          have HT2 : Hid (ys ++ [x] = g.os.take (ys ++ [x]).length) := by
            have := take_snoc (d := zeroO) HT.out hlt2
            rw [show g.os.getD ys.length zeroO = x from HX.out] at this
            exact this
          have HY3 : Hid ((ys.length + 1) * 16 ≤ 140737488355328 ∧ ys.length + 1 ≤ maxLen) := show _ ∧ _ by
            have := HL5.out
            unfold maxLen
            omega
          have hBw : w.heap.size + 3 ≤ wr.heap.size := HD.out.own.m.o.2
          have HNB : Hid ((Value.slice ay ys.length cy).ownBlock ≠ some (w.heap.size + 1 + 1)) := HD.out.nb.2.1
          clear hd HN
          go_wp2
          go_region_law ((refine step_rowW ofsE 63 23 zeroOV 16 infoOfs Try.underlying23 (by decide) rfl (by rfl) _ _ (by rfl) (w.heap.size + 3) (.slice ay ys.length cy) ys ys.length rfl nilS (by rfl) (OwnW.below HD.out.own.o (Nat.le_refl _) (by repeat (first | exact Below.refl _ _ | refine Below.drew ?_ | refine Below.alloc ?_ (Nat.le_refl _) _))) _ (by rfl) x (.slice none 0 0) (fun j v hv => lit2 _ _ _ _ (by first | rfl | simp) j v hv) (ownV_nil _ _ _ _ (by simp; omega)) (fun b e => by cases e) (fun i _ b e => by cases e) HY3.out.1 HY3.out.2 (wr.heap.size + 1) (by simp) ?_; intro g' cap' w' ho hg hat hlt3; have HX7 : Hid (∃ u, DocG w g W0 xs (ys ++ [x]) (.slice ax xs.length cx) u us' (w'.setCell ⟨w.heap.size + 1 + 1, 4, none⟩ (.slice (some ⟨g', 0, none⟩) (ys.length + 1) cap'))) := ⟨_, Sg.rowO (Sg.below HD.out (by repeat (first | exact Below.refl _ _ | refine Below.drew ?_ | refine Below.alloc ?_ (Nat.le_refl _) _))) (ho.congr (us' := nilS) (fun i _ => by by_cases h : i = ys.length <;> simp [h, nilS])) hg (hat_all' hat (by simp))⟩; obtain ⟨y1, ⟨y2, y3, y4, y5, y6⟩, y9⟩ := GB.grown (Sg.bb (Sg.below HD.out (by repeat (first | exact Below.refl _ _ | refine Below.drew ?_ | refine Below.alloc ?_ (Nat.le_refl _) _)))) hg HNB.out; clear ho hg))
          all_goals
            clear s1 a0 a1 a2 a3 a4 f1 z1 e0 e1 e2 e3 e4 g1 o1 d0 d1 d2 d3 d4 h1 y1 y2 y3 y4 y5 y6 y9 q0 q1 hat hlt3 HNB
            go_wp2
            go_roundw
            case rel => exact ⟨ys ++ [x], by simp; omega, by simp, HT2, HX7⟩
            case measure => simp [intOf]; omega
        · obtain rfl : xs = g.ms := HFULL.out
          obtain rfl : ys = g.os := take_full HT.out hlt2
          have hd2 : Sg w (w.heap.size + 1 + 1) (w.heap.size + 1) (w.heap.size + 3) (w.heap.size + 3) W0 g (.slice ax g.ms.length cx) (.slice ay g.os.length cy) us' wr := hd
          have HFF : Hid _ := hd2.done g
          clear hd hd2 HN HT
          go_wp2
          refine bodyPost_ret (v := .agg #[.int .i64 g.ck, .int .i64 g.wt, .int .i64 g.gn, .slice ax g.ms.length cx, .slice ay g.os.length cy]) (by simp [results, Try.results27, go_sem, e0, e1, e2, e3, e4]) rfl ⟨_, _, rfl, ⟨us', HFF.out.1⟩, HFF.out.2⟩

end Go.Proofs.Ytmkbbhdmfpjfdaa
