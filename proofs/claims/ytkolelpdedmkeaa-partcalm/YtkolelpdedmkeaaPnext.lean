/-
  The walk of part.appendNext.
-/
import Derived.Test.YtkolelpdedmkeaaPalike
import Derived.Test.YtkolelpdedmkeaaPopP0
import Derived.Deep.RegionHeld3
import Derived.Deep.DeepCutAuto
namespace Go.Proofs.Ytkolelpdedmkeaa
open Go.RowKit
set_option linter.unusedVariables false
set_option linter.unusedSimpArgs false

set_option maxRecDepth 100000 in
set_option maxHeartbeats 4000000 in
theorem appendNext_none (l : List Int) (au : Option Addr) (cu : Nat) (y : Int) (ao : Option Addr) (co : Nat) (w : World) :
    Calls Try.prog 90 #[.agg #[.slice au l.length cu, .int .i64 y], .slice ao 0 co] w fun e w' => e = .returned (.tuple #[.agg #[.slice au l.length cu, .int .i64 y], .int .i64 0]) ∧ Below w.heap.size w w' := by
  have t2 := bbox (w.alloc (.cells #[.slice au l.length cu, .int .i64 y] 61)) (.cells #[.slice none 0 0, .int .i64 0] 61)
  have B0 : Below w.heap.size w ((w.alloc (.cells #[.slice au l.length cu, .int .i64 y] 61)).alloc (.cells #[.slice none 0 0, .int .i64 0] 61)) := bstep (bbox _ _) (bbox _ _)
  have L0 : LBox ((w.alloc (.cells #[.slice au l.length cu, .int .i64 y] 61)).alloc (.cells #[.slice none 0 0, .int .i64 0] 61)) w.heap.size (.slice au l.length cu) y := (lbox_new w (.slice au l.length cu) y 61).below t2
  have Z0 : LBox ((w.alloc (.cells #[.slice au l.length cu, .int .i64 y] 61)).alloc (.cells #[.slice none 0 0, .int .i64 0] 61)) (w.heap.size + 1) (.slice none 0 0) 0 := lbox_new' _ _ _ _ _ (by simp)
  clear t2
  go_enter Try.func90, Try.ntmps90
  go_wp2_with fail
  exact bodyPost_ret (v := .tuple #[.agg #[.slice au l.length cu, .int .i64 y], .int .i64 0]) (by simp [results, Try.results90, go_sem]) rfl ⟨rfl, bstep (bbox _ _) (bbox _ _)⟩

set_option maxRecDepth 100000 in
set_option maxHeartbeats 4000000 in
theorem appendNext_bad (l : List Int) (au : Option Addr) (cu : Nat) (y : Int) (es : List Ent) (v : Value) (x : Ent) (w : World) (hl : l.length ≤ 140737488355328) (hr : Rd w (.slice au l.length cu) l) (h : RdX w v es) (h0 : 0 < es.length) (hx : Ent.at es 0 = x) (hap : apf l y x ≠ 0) :
    Calls Try.prog 90 #[.agg #[.slice au l.length cu, .int .i64 y], v] w fun e w' => e = .returned (.tuple #[.agg #[.slice au l.length cu, .int .i64 y], .int .i64 0]) ∧ Below w.heap.size w w' := by
  obtain ⟨ao, co, rfl, c1', c2', c3', h3⟩ := h
  obtain ⟨g, off, rfl, hg⟩ := h3 h0
  have hcs := RdX.cells hg 0 h0
  rw [hx, Nat.zero_mul, Nat.add_zero] at hcs
  have t2 := bbox (w.alloc (.cells #[.slice au l.length cu, .int .i64 y] 61)) (.cells #[.slice none 0 0, .int .i64 0] 61)
  have B0 : Below w.heap.size w ((w.alloc (.cells #[.slice au l.length cu, .int .i64 y] 61)).alloc (.cells #[.slice none 0 0, .int .i64 0] 61)) := bstep (bbox _ _) (bbox _ _)
  have L0 : LBox ((w.alloc (.cells #[.slice au l.length cu, .int .i64 y] 61)).alloc (.cells #[.slice none 0 0, .int .i64 0] 61)) w.heap.size (.slice au l.length cu) y := (lbox_new w (.slice au l.length cu) y 61).below t2
  have Z0 : LBox ((w.alloc (.cells #[.slice au l.length cu, .int .i64 y] 61)).alloc (.cells #[.slice none 0 0, .int .i64 0] 61)) (w.heap.size + 1) (.slice none 0 0) 0 := lbox_new' _ _ _ _ _ (by simp)
  clear t2
  obtain ⟨q0, q1, q2, q3, q4, q5, q6⟩ := hcs
  have hgl0 : g < w.heap.size := cell_lt q0
  have hgl : g < ((w.alloc (.cells #[.slice au l.length cu, .int .i64 y] 61)).alloc (.cells #[.slice none 0 0, .int .i64 0] 61)).heap.size := by simp; omega
  have y0 := (B0.cell (p := ⟨g, off, none⟩) hgl0).trans q0
  have y1 := (B0.cell (p := ⟨g, off + 1, none⟩) hgl0).trans q1
  have y2 := (B0.cell (p := ⟨g, off + 2, none⟩) hgl0).trans q2
  have y3 := (B0.cell (p := ⟨g, off + 3, none⟩) hgl0).trans q3
  have y4 := (B0.cell (p := ⟨g, off + 4, none⟩) hgl0).trans q4
  have y5 := (B0.cell (p := ⟨g, off + 5, none⟩) hgl0).trans q5
  have y6 := (B0.cell (p := ⟨g, off + 6, none⟩) hgl0).trans q6
  have HR0 : Hid (Rd ((w.alloc (.cells #[.slice au l.length cu, .int .i64 y] 61)).alloc (.cells #[.slice none 0 0, .int .i64 0] 61)) (.slice au l.length cu) l) := hr.below (Nat.le_refl _) B0
  have h0' : (0 : Int) < es.length := by omega
  have d0 : ((es.length : Int) == 0) = false := beq_eq_false_iff_ne.2 (by omega)
  have hbx : w.heap.size + 1 < ((w.alloc (.cells #[.slice au l.length cu, .int .i64 y] 61)).alloc (.cells #[.slice none 0 0, .int .i64 0] 61)).heap.size := by simp
  have hbx0 : w.heap.size < ((w.alloc (.cells #[.slice au l.length cu, .int .i64 y] 61)).alloc (.cells #[.slice none 0 0, .int .i64 0] 61)).heap.size := by simp; omega
  clear q0 q1 q2 q3 q4 q5 q6 hg h3 hr c1' c2' c3' hx
  go_enter Try.func90, Try.ntmps90
  go_wp2
  generalize (w.alloc (.cells #[.slice au l.length cu, .int .i64 y] 61)).alloc (.cells #[.slice none 0 0, .int .i64 0] 61) = W0 at *
  have HL0 : Hid (LBox W0 w.heap.size (.slice au l.length cu) y) := L0
  have HZ0 : Hid (LBox W0 (w.heap.size + 1) (.slice none 0 0) 0) := Z0
  have HBW : Hid (Below w.heap.size w W0) := B0
  obtain ⟨-, b0, b1, b2⟩ := HL0.out
  have HAP : Hid (apf l y x ≠ 0) := show _ ≠ _ from hap
  clear hap
  go_cut [7] (fun v W => v = .int .i64 (apf l y x) ∧ Below W0.heap.size W0 W)
  case first =>
    go_region_held3 (fun W => W.cell? ⟨w.heap.size, 0, none⟩ = some (.slice au l.length cu) ∧ W.cell? ⟨w.heap.size, 1, none⟩ = some (.int .i64 y) ∧ W.cell? ⟨g, off, none⟩ = some (.int .i64 x.a) ∧ W.cell? ⟨g, off + 1, none⟩ = some (.int .i64 x.b) ∧ W.cell? ⟨g, off + 2, none⟩ = some (.int .i64 x.c) ∧ W.cell? ⟨g, off + 3, none⟩ = some (.int .i64 x.d) ∧ W.cell? ⟨g, off + 4, none⟩ = some (.int .i64 x.k) ∧ W.cell? ⟨g, off + 5, none⟩ = some (.bool x.t) ∧ W.cell? ⟨g, off + 6, none⟩ = some (.string x.s)) (first | exact ⟨by assumption, by assumption, by assumption, by assumption, by assumption, by assumption, by assumption, by assumption, by assumption⟩ | (refine ⟨?_, ?_, ?_, ?_, ?_, ?_, ?_, ?_, ?_⟩ <;> (rw [cell_far (by omega), cell_far (by omega)]; assumption)) | go_keep) (first | (go_at_call 78; refine (segAppend_bad l _ y x _ hl (Rd.below HR0.out (Nat.le_refl _) (by repeat (first | exact Below.refl _ _ | refine Below.drew ?_ | refine Below.alloc ?_ (by simp) _))) HAP.out).mono ?_; rintro e w7 ⟨rfl, hb7⟩; have hB7 : Below W0.heap.size W0 w7 := Below.trans (by repeat (first | exact Below.refl _ _ | refine Below.drew ?_ | refine Below.alloc ?_ (by simp) _)) (hb7.mono (by simp)); obtain ⟨-, c0, c1, -⟩ := LBox.below L0 hB7; have u0 := (hB7.cell (p := ⟨g, off, none⟩) hgl).trans y0; have u1 := (hB7.cell (p := ⟨g, off + 1, none⟩) hgl).trans y1; have u2 := (hB7.cell (p := ⟨g, off + 2, none⟩) hgl).trans y2; have u3 := (hB7.cell (p := ⟨g, off + 3, none⟩) hgl).trans y3; have u4 := (hB7.cell (p := ⟨g, off + 4, none⟩) hgl).trans y4; have u5 := (hB7.cell (p := ⟨g, off + 5, none⟩) hgl).trans y5; have u6 := (hB7.cell (p := ⟨g, off + 6, none⟩) hgl).trans y6; obtain ⟨hcc, hff⟩ := bcell hb7; have p0 := hcc W0.heap.size 0; have p1 := hcc W0.heap.size 1; have p2 := hff W0.heap.size; (try simp at p0); (try simp at p1); (try simp at p2); clear hcc hff))
    all_goals
      have HXB : Hid (Below W0.heap.size W0 w7) := hB7
      clear c0 c1 u0 u1 u2 u3 u4 u5 u6 hB7 hb7
      go_wp2_with fail
      go_meet
    all_goals
      exact ⟨rfl, by first | exact HXB.out.alloc HXB.out.size _ | exact (HXB.out.setCell (p := ⟨W0.heap.size, 0, none⟩) (Nat.le_refl _) _).setCell (p := ⟨W0.heap.size, 1, none⟩) (Nat.le_refl _) _⟩
  case rest =>
    have hv := hcut.1
    subst hv
    have hb := hcut.2
    have hB := HBW.out.trans (hb.mono HBW.out.size)
    have HBF : Hid (Below w.heap.size w ((wc.setCell ⟨w.heap.size + 1, 0, none⟩ (.slice au l.length cu)).setCell ⟨w.heap.size + 1, 1, none⟩ (.int .i64 y))) := (hB.setCell (p := ⟨w.heap.size + 1, 0, none⟩) (by show _ ≤ _ + 1; omega) _).setCell (p := ⟨w.heap.size + 1, 1, none⟩) (by show _ ≤ _ + 1; omega) _
    clear b0 b1 b2 y0 y1 y2 y3 y4 y5 y6
    obtain ⟨n1, b0, b1, b2⟩ := LBox.below HL0.out hb
    obtain ⟨n2, z0, z1, z2⟩ := LBox.below HZ0.out hb
    have d9 : (apf l y x != 0) = true := by have := HAP.out; simpa using this
    clear hb hcut hB
    go_at_K
    go_wp2
    exact bodyPost_ret (v := .tuple #[.agg #[.slice au l.length cu, .int .i64 y], .int .i64 0]) (by simp [results, Try.results90, go_sem, z0, z1]) rfl ⟨rfl, HBF.out⟩

set_option maxRecDepth 100000 in
set_option maxHeartbeats 4000000 in
theorem appendNext_ok (l : List Int) (au : Option Addr) (cu : Nat) (y : Int) (es : List Ent) (v : Value) (x : Ent) (w : World) (hl : l.length ≤ 140737488355328) (hr : Rd w (.slice au l.length cu) l) (h : RdX w v es) (h0 : 0 < es.length) (hx : Ent.at es 0 = x) (hap : apf l y x = 0) (NL : List Int) (hNL : l ++ x.enc = NL) :
    Calls Try.prog 90 #[.agg #[.slice au l.length cu, .int .i64 y], v] w fun e w' => ∃ av cv, e = .returned (.tuple #[.agg #[(.slice av NL.length cv), .int .i64 y], .int .i64 1]) ∧ Own w.heap.size (.slice av NL.length cv) NL w' ∧ Below w.heap.size w w' := by
  obtain ⟨ao, co, rfl, c1', c2', c3', h3⟩ := h
  obtain ⟨g, off, rfl, hg⟩ := h3 h0
  have hcs := RdX.cells hg 0 h0
  rw [hx, Nat.zero_mul, Nat.add_zero] at hcs
  have t2 := bbox (w.alloc (.cells #[.slice au l.length cu, .int .i64 y] 61)) (.cells #[.slice none 0 0, .int .i64 0] 61)
  have B0 : Below w.heap.size w ((w.alloc (.cells #[.slice au l.length cu, .int .i64 y] 61)).alloc (.cells #[.slice none 0 0, .int .i64 0] 61)) := bstep (bbox _ _) (bbox _ _)
  have L0 : LBox ((w.alloc (.cells #[.slice au l.length cu, .int .i64 y] 61)).alloc (.cells #[.slice none 0 0, .int .i64 0] 61)) w.heap.size (.slice au l.length cu) y := (lbox_new w (.slice au l.length cu) y 61).below t2
  have Z0 : LBox ((w.alloc (.cells #[.slice au l.length cu, .int .i64 y] 61)).alloc (.cells #[.slice none 0 0, .int .i64 0] 61)) (w.heap.size + 1) (.slice none 0 0) 0 := lbox_new' _ _ _ _ _ (by simp)
  clear t2
  obtain ⟨q0, q1, q2, q3, q4, q5, q6⟩ := hcs
  have hgl0 : g < w.heap.size := cell_lt q0
  have hgl : g < ((w.alloc (.cells #[.slice au l.length cu, .int .i64 y] 61)).alloc (.cells #[.slice none 0 0, .int .i64 0] 61)).heap.size := by simp; omega
  have y0 := (B0.cell (p := ⟨g, off, none⟩) hgl0).trans q0
  have y1 := (B0.cell (p := ⟨g, off + 1, none⟩) hgl0).trans q1
  have y2 := (B0.cell (p := ⟨g, off + 2, none⟩) hgl0).trans q2
  have y3 := (B0.cell (p := ⟨g, off + 3, none⟩) hgl0).trans q3
  have y4 := (B0.cell (p := ⟨g, off + 4, none⟩) hgl0).trans q4
  have y5 := (B0.cell (p := ⟨g, off + 5, none⟩) hgl0).trans q5
  have y6 := (B0.cell (p := ⟨g, off + 6, none⟩) hgl0).trans q6
  have HR0 : Hid (Rd ((w.alloc (.cells #[.slice au l.length cu, .int .i64 y] 61)).alloc (.cells #[.slice none 0 0, .int .i64 0] 61)) (.slice au l.length cu) l) := hr.below (Nat.le_refl _) B0
  have h0' : (0 : Int) < es.length := by omega
  have d0 : ((es.length : Int) == 0) = false := beq_eq_false_iff_ne.2 (by omega)
  have hbx : w.heap.size + 1 < ((w.alloc (.cells #[.slice au l.length cu, .int .i64 y] 61)).alloc (.cells #[.slice none 0 0, .int .i64 0] 61)).heap.size := by simp
  have hbx0 : w.heap.size < ((w.alloc (.cells #[.slice au l.length cu, .int .i64 y] 61)).alloc (.cells #[.slice none 0 0, .int .i64 0] 61)).heap.size := by simp; omega
  clear q0 q1 q2 q3 q4 q5 q6 hg h3 hr c1' c2' c3' hx
  go_enter Try.func90, Try.ntmps90
  go_wp2
  generalize (w.alloc (.cells #[.slice au l.length cu, .int .i64 y] 61)).alloc (.cells #[.slice none 0 0, .int .i64 0] 61) = W0 at *
  have HL0 : Hid (LBox W0 w.heap.size (.slice au l.length cu) y) := L0
  have HZ0 : Hid (LBox W0 (w.heap.size + 1) (.slice none 0 0) 0) := Z0
  have HBW : Hid (Below w.heap.size w W0) := B0
  obtain ⟨-, b0, b1, b2⟩ := HL0.out
  have HAP : Hid (apf l y x = 0) := show _ = _ from hap
  have HNL : Hid (l ++ x.enc = NL) := show _ = _ from hNL
  clear hap hNL
  go_cut [7, 6] (fun v7 v6 W => v7 = .int .i64 0 ∧ ∃ lb av cv, v6 = .pointer (some ⟨lb, 0, none⟩) ∧ LBox W lb (.slice av NL.length cv) y ∧ Own W0.heap.size (.slice av NL.length cv) NL W ∧ Below W0.heap.size W0 W ∧ W0.heap.size ≤ lb)
  case first =>
    go_region_held3 (fun W => W.cell? ⟨w.heap.size, 0, none⟩ = some (.slice au l.length cu) ∧ W.cell? ⟨w.heap.size, 1, none⟩ = some (.int .i64 y) ∧ W.cell? ⟨g, off, none⟩ = some (.int .i64 x.a) ∧ W.cell? ⟨g, off + 1, none⟩ = some (.int .i64 x.b) ∧ W.cell? ⟨g, off + 2, none⟩ = some (.int .i64 x.c) ∧ W.cell? ⟨g, off + 3, none⟩ = some (.int .i64 x.d) ∧ W.cell? ⟨g, off + 4, none⟩ = some (.int .i64 x.k) ∧ W.cell? ⟨g, off + 5, none⟩ = some (.bool x.t) ∧ W.cell? ⟨g, off + 6, none⟩ = some (.string x.s)) (first | exact ⟨by assumption, by assumption, by assumption, by assumption, by assumption, by assumption, by assumption, by assumption, by assumption⟩ | (refine ⟨?_, ?_, ?_, ?_, ?_, ?_, ?_, ?_, ?_⟩ <;> (rw [cell_far (by omega), cell_far (by omega)]; assumption)) | go_keep) (first | (go_at_call 78; refine (segAppend_ok l _ y x _ hl (Rd.below HR0.out (Nat.le_refl _) (by repeat (first | exact Below.refl _ _ | refine Below.drew ?_ | refine Below.alloc ?_ (by simp) _))) HAP.out).mono ?_; rintro e w7 ⟨av, cv, rfl, hov, hb7⟩; have hB7 : Below W0.heap.size W0 w7 := Below.trans (by repeat (first | exact Below.refl _ _ | refine Below.drew ?_ | refine Below.alloc ?_ (by simp) _)) (hb7.mono (by simp)); obtain ⟨-, c0, c1, -⟩ := LBox.below L0 hB7; have u0 := (hB7.cell (p := ⟨g, off, none⟩) hgl).trans y0; have u1 := (hB7.cell (p := ⟨g, off + 1, none⟩) hgl).trans y1; have u2 := (hB7.cell (p := ⟨g, off + 2, none⟩) hgl).trans y2; have u3 := (hB7.cell (p := ⟨g, off + 3, none⟩) hgl).trans y3; have u4 := (hB7.cell (p := ⟨g, off + 4, none⟩) hgl).trans y4; have u5 := (hB7.cell (p := ⟨g, off + 5, none⟩) hgl).trans y5; have u6 := (hB7.cell (p := ⟨g, off + 6, none⟩) hgl).trans y6; obtain ⟨hcc, hff⟩ := bcell hb7; have p0 := hcc W0.heap.size 0; have p1 := hcc W0.heap.size 1; have p2 := hff W0.heap.size; (try simp at p0); (try simp at p1); (try simp at p2); clear hcc hff; rw [HNL.out] at hov ⊢))
    all_goals
      have HXB : Hid (Below W0.heap.size W0 w7) := hB7
      have HOV : Hid _ := hov
      have hsz7 := hB7.size
      have hsz8 := hb7.size
      clear c0 c1 u0 u1 u2 u3 u4 u5 u6 hB7 hb7 hov
      go_wp2_with fail
      go_meet
    all_goals
      first
      | exact ⟨rfl, w7.heap.size, av, cv, rfl, lbox_new _ _ _ _, Own.alloc (Own.mono HOV.out (C := W0.heap.size) (by simp)) _, HXB.out.alloc HXB.out.size _, hsz7⟩
      | exact ⟨rfl, W0.heap.size, av, cv, rfl, ⟨by have h1 : W0.heap.size + 1 ≤ w7.heap.size := (by simpa using hsz8); simp; omega, by simp [go_sem, p0, p1], by simp [go_sem, p0, p1], fun o => by simp [go_sem, p2]⟩, ((Own.setCell HOV.out (b := W0.heap.size) (by simp) 0 _).setCell (b := W0.heap.size) (by simp) 1 _).mono (by simp), (HXB.out.setCell (p := ⟨W0.heap.size, 0, none⟩) (Nat.le_refl _) _).setCell (p := ⟨W0.heap.size, 1, none⟩) (Nat.le_refl _) _, Nat.le_refl _⟩
  case rest =>
    have hv := hcut.1
    subst hv
    obtain ⟨lb, av, cv, hp6, hlb, hov, hb, hge⟩ := hcut.2
    subst hp6
    have hB := HBW.out.trans (hb.mono HBW.out.size)
    have HBF : Hid (Below w.heap.size w ((wc.setCell ⟨w.heap.size + 1, 0, none⟩ (.slice av NL.length cv)).setCell ⟨w.heap.size + 1, 1, none⟩ (.int .i64 y))) := (hB.setCell (p := ⟨w.heap.size + 1, 0, none⟩) (by show _ ≤ _ + 1; omega) _).setCell (p := ⟨w.heap.size + 1, 1, none⟩) (by show _ ≤ _ + 1; omega) _
    have HOF : Hid (Own w.heap.size (.slice av NL.length cv) NL ((wc.setCell ⟨w.heap.size + 1, 0, none⟩ (.slice av NL.length cv)).setCell ⟨w.heap.size + 1, 1, none⟩ (.int .i64 y))) := Own.mono ((Own.setCell hov hbx _ _).setCell hbx _ _) (by omega)
    clear b0 b1 b2 y0 y1 y2 y3 y4 y5 y6
    obtain ⟨n2, z0, z1, z2⟩ := LBox.below HZ0.out hb
    obtain ⟨n3, v4, v5, v6⟩ := hlb
    have j1 : ¬ lb = w.heap.size + 1 := by omega
    have j2 : ¬ w.heap.size + 1 = lb := fun h => j1 h.symm
    clear hb hcut hB hov
    go_at_K
    go_wp2
    exact bodyPost_ret (v := .tuple #[.agg #[(.slice av NL.length cv), .int .i64 y], .int .i64 1]) (by simp [results, Try.results90, go_sem, z0, z1]) rfl ⟨av, cv, rfl, HOF.out, HBF.out⟩

end Go.Proofs.Ytkolelpdedmkeaa
