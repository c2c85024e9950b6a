/-
  Package view: Check.
-/
import Derived.Test.YtkakagjffafdiaaVdev3
namespace Go.Proofs.Ytkakagjffafdiaa
open Go.RowKit Go.Maps
set_option linter.unusedVariables false
set_option linter.unusedSimpArgs false

theorem find_prd (b n : Nat) (es : List Ent) (x : Ent) (w : World) (h : MapP w b n (prdM es es.length)) (h0 : x.b ≠ 0) (hx : -9223372036854775808 ≤ x.b ∧ x.b ≤ 9223372036854775807) :
    Calls Try.prog 107 #[.map (some b), .agg #[.int .i64 x.a, .int .i64 x.b, .int .i64 x.c, .int .i64 x.d, .int .i64 x.k, .bool x.t, .string x.s]] w fun e w' => e = .returned (.agg #[.int .i64 (prdOf es x).v, .int .i64 (prdOf es x).n, .int .i64 (prdOf es x).b, .int .i64 (prdOf es x).m]) ∧ Below w.heap.size w w' := by
  have h1 := find_any b n _ x w h hx
  have e : (prdM es es.length x.b).getD (Prd.new x) = prdOf es x := by unfold prdM prdOf; rw [if_neg h0]
  rw [e] at h1
  exact h1

/-- Four cells that hold what is told of a producer. -/
def Box4 (w : World) (g : Nat) (q : Prd) : Prop := w.cell? ⟨g, 0, none⟩ = some (.int .i64 q.v) ∧ w.cell? ⟨g, 1, none⟩ = some (.int .i64 q.n) ∧ w.cell? ⟨g, 2, none⟩ = some (.int .i64 q.b) ∧ w.cell? ⟨g, 3, none⟩ = some (.int .i64 q.m)
theorem Box4.below {w w' : World} {g C : Nat} {q : Prd} (h : Box4 w g q) (hg : g < C) (hb : Below C w w') : Box4 w' g q := by
  obtain ⟨a0, a1, a2, a3⟩ := h
  exact ⟨(hb.cell (p := ⟨g, 0, none⟩) hg).trans a0, (hb.cell (p := ⟨g, 1, none⟩) hg).trans a1, (hb.cell (p := ⟨g, 2, none⟩) hg).trans a2, (hb.cell (p := ⟨g, 3, none⟩) hg).trans a3⟩

theorem box4_new (w : World) (q : Prd) (T : TypeId) : Box4 (w.alloc (.cells #[.int .i64 q.v, .int .i64 q.n, .int .i64 q.b, .int .i64 q.m] T)) w.heap.size q := ⟨by simp, by simp, by simp, by simp⟩
theorem below_set4 {B g : Nat} {w w' : World} (h : Below B w w') (hg : B ≤ g) (a b c d : Value) : Below B w ((((w'.setCell ⟨g, 0, none⟩ a).setCell ⟨g, 1, none⟩ b).setCell ⟨g, 2, none⟩ c).setCell ⟨g, 3, none⟩ d) :=
  (((h.setCell (p := ⟨g, 0, none⟩) hg a).setCell (p := ⟨g, 1, none⟩) hg b).setCell (p := ⟨g, 2, none⟩) hg c).setCell (p := ⟨g, 3, none⟩) hg d
/-- Four cells that hold nothing yet. -/
def Zero4 (w : World) (g : Nat) : Prop := g < w.heap.size ∧ (w.cell? ⟨g, 0, none⟩ = some (.int .i64 0) ∧ w.cell? ⟨g, 1, none⟩ = some (.int .i64 0) ∧ w.cell? ⟨g, 2, none⟩ = some (.int .i64 0) ∧ w.cell? ⟨g, 3, none⟩ = some (.int .i64 0)) ∧ (w.frozen? ⟨g, 0, none⟩ = false ∧ w.frozen? ⟨g, 1, none⟩ = false ∧ w.frozen? ⟨g, 2, none⟩ = false ∧ w.frozen? ⟨g, 3, none⟩ = false)
theorem Zero4.below {w w' : World} {g : Nat} (h : Zero4 w g) (hb : Below w.heap.size w w') : Zero4 w' g := by
  obtain ⟨hg, ⟨a0, a1, a2, a3⟩, f0, f1, f2, f3⟩ := h
  exact ⟨Nat.lt_of_lt_of_le hg hb.size, ⟨(hb.cell (p := ⟨g, 0, none⟩) hg).trans a0, (hb.cell (p := ⟨g, 1, none⟩) hg).trans a1, (hb.cell (p := ⟨g, 2, none⟩) hg).trans a2, (hb.cell (p := ⟨g, 3, none⟩) hg).trans a3⟩, (hb.frozen (p := ⟨g, 0, none⟩) hg).trans f0, (hb.frozen (p := ⟨g, 1, none⟩) hg).trans f1, (hb.frozen (p := ⟨g, 2, none⟩) hg).trans f2, (hb.frozen (p := ⟨g, 3, none⟩) hg).trans f3⟩
theorem zero4_new (w : World) (T : TypeId) (g : Nat) (hg : g = w.heap.size) : Zero4 (w.alloc (.cells #[.int .i64 0, .int .i64 0, .int .i64 0, .int .i64 0] T)) g := by
  subst hg
  exact ⟨by simp, ⟨by simp, by simp, by simp, by simp⟩, by simp, by simp, by simp, by simp⟩
theorem zero4_old {w w' : World} {T : TypeId} {g : Nat} (hg : g = w.heap.size) (hb : Below (w.alloc (.cells #[.int .i64 0, .int .i64 0, .int .i64 0, .int .i64 0] T)).heap.size (w.alloc (.cells #[.int .i64 0, .int .i64 0, .int .i64 0, .int .i64 0] T)) w') : Zero4 w' g :=
  (zero4_new w T g hg).below hb
theorem zero4_oldD {w w' : World} {T : TypeId} {g : Nat} (hg : g = w.heap.size) (hb : Below (w.alloc (.cells #[.int .i64 0, .int .i64 0, .int .i64 0, .int .i64 0] T)).drew.heap.size (w.alloc (.cells #[.int .i64 0, .int .i64 0, .int .i64 0, .int .i64 0] T)).drew w') : Zero4 w' g :=
  Zero4.below (w := (w.alloc (.cells #[.int .i64 0, .int .i64 0, .int .i64 0, .int .i64 0] T)).drew) (zero4_new w T g hg) hb
theorem box4_set {w : World} {g : Nat} (h : Zero4 w g) (a b c d : Int) : Box4 ((((w.setCell ⟨g, 0, none⟩ (.int .i64 a)).setCell ⟨g, 1, none⟩ (.int .i64 b)).setCell ⟨g, 2, none⟩ (.int .i64 c)).setCell ⟨g, 3, none⟩ (.int .i64 d)) g ⟨a, b, c, d⟩ := by
  obtain ⟨hg, ⟨a0, a1, a2, a3⟩, f0, f1, f2, f3⟩ := h
  refine ⟨?_, ?_, ?_, ?_⟩ <;> simp [go_sem, a0, a1, a2, a3]

theorem prdOf_bd {es : List Ent} (hp : Plain es) (x : Ent) : -1 ≤ (prdOf es x).m ∧ (prdOf es x).m < es.length := by
  unfold prdOf
  cases hq : prdK es x.b es.length with
  | none => exact ⟨by show (-1 : Int) ≤ -1; omega, by show (-1 : Int) < _; omega⟩
  | some q =>
    obtain ⟨_, _, _, _, _, _, h1, h2⟩ := prd_ok hp x.b es.length (Nat.le_refl _) q hq
    exact ⟨h1, h2⟩

set_option maxRecDepth 100000 in
set_option maxHeartbeats 2000000 in
theorem check_some (es : List Ent) (v : Value) (x : Ent) (w : World) (hl : (es.length : Int) ≤ 2199023255552) (hp : Plain es) (hx : Plain [x]) (hr : RdX w v es) (h0 : x.b ≠ 0) :
    Calls Try.prog 76 #[v, .agg #[.int .i64 x.a, .int .i64 x.b, .int .i64 x.c, .int .i64 x.d, .int .i64 x.k, .bool x.t, .string x.s]] w fun e w' => e = .returned (.tuple #[.int .i64 (chk es x).1, .int .i64 (chk es x).2]) ∧ Below w.heap.size w w' := by
  have hx' := hx x (List.mem_singleton_self x)
  have HX : Hid (1 ≤ x.k ∧ x.k ≤ 3 ∧ 0 ≤ x.b ∧ x.b ≤ 1073741824 ∧ 0 ≤ x.c ∧ x.c ≤ 1073741824 ∧ 0 ≤ x.d ∧ x.d ≤ 1073741824) := hx'
  have HE : Hid _ := chk_prd es x h0 (by omega) (by omega)
  have HPB : Hid _ := prdOf_bd hp x
  have h0' : (x.b == 0) = false := by simp [h0]
  have HX0 : Hid (x.b ≠ 0) := h0
  have HP : Hid (Plain es) := hp
  have HL : Hid ((es.length : Int) ≤ 2199023255552) := hl
  have hB0 := bbox w (.cells #[.int .i64 x.a, .int .i64 x.b, .int .i64 x.c, .int .i64 x.d, .int .i64 x.k, .bool x.t, .string x.s] 36)
  have HB0 : Hid (Below w.heap.size w _) := hB0
  have HR : Hid (RdX _ v es) := hr.below (Nat.le_refl _) hB0
  have HBX : Hid (Box7 _ w.heap.size x) := box7_new w x 36
  have hsz : w.heap.size < (w.alloc (.cells #[.int .i64 x.a, .int .i64 x.b, .int .i64 x.c, .int .i64 x.d, .int .i64 x.k, .bool x.t, .string x.s] 36)).heap.size := by simp
  have HSZ : Hid (w.heap.size < _) := hsz
  clear hx hx' h0 hp hr hB0 hl hsz
  go_enter Try.func76, Try.ntmps76
  go_wp2
  generalize hW0 : w.alloc (.cells #[.int .i64 x.a, .int .i64 x.b, .int .i64 x.c, .int .i64 x.d, .int .i64 x.k, .bool x.t, .string x.s] 36) = W0 at *
  clear hW0
  obtain ⟨x0, x1, x2, x3, x4, x5, x6⟩ := HBX.out
  have hx0 := HSZ.out
  have hxn := Nat.ne_of_lt HSZ.out
  go_cut [6] (fun b W => ∃ g6, b = .pointer (some ⟨g6, 0, none⟩) ∧ Box4 W g6 (prdOf es x) ∧ Below W0.heap.size W0 W)
  case first =>
    go_region_held3 (fun W => W.cell? ⟨w.heap.size, 0, none⟩ = some (.int .i64 x.a) ∧ W.cell? ⟨w.heap.size, 1, none⟩ = some (.int .i64 x.b) ∧ W.cell? ⟨w.heap.size, 2, none⟩ = some (.int .i64 x.c) ∧ W.cell? ⟨w.heap.size, 3, none⟩ = some (.int .i64 x.d) ∧ W.cell? ⟨w.heap.size, 4, none⟩ = some (.int .i64 x.k) ∧ W.cell? ⟨w.heap.size, 5, none⟩ = some (.bool x.t) ∧ W.cell? ⟨w.heap.size, 6, none⟩ = some (.string x.s)) (first | exact Box7.below hbx3 hx0 (by repeat (first | refine Below.setCell ?_ (by first | (simp; done) | omega | (simp; omega)) _ | refine Below.alloc ?_ (by first | (simp; done) | omega | (simp; omega)) _ | refine Below.drew ?_ | exact Below.refl _ _)) | exact Box7.below hbx2 hx0 (by repeat (first | refine Below.setCell ?_ (by first | (simp; done) | omega | (simp; omega)) _ | refine Below.alloc ?_ (by first | (simp; done) | omega | (simp; omega)) _ | refine Below.drew ?_ | exact Below.refl _ _)) | exact Box7.below HBX.out hx0 (by repeat (first | refine Below.setCell ?_ (by first | (simp; done) | omega | (simp; omega)) _ | refine Below.alloc ?_ (by first | (simp; done) | omega | (simp; omega)) _ | refine Below.drew ?_ | exact Below.refl _ _))) (first | (go_at_call 108; go_must (refine (producers_any es _ _ HL.out HP.out (RdX.below HR.out (Nat.le_refl _) (by repeat (first | refine Below.alloc ?_ (by first | (simp; done) | omega) _ | refine Below.drew ?_ | exact Below.refl _ _)))).mono ?_; rintro e w2 ⟨rfl, ⟨n2, _, hm2⟩, hb2⟩; (have hB2 : Below W0.heap.size W0 w2 := bstep (by repeat (first | refine Below.alloc ?_ (by first | (simp; done) | omega) _ | refine Below.drew ?_ | exact Below.refl _ _)) hb2); (have hs2 := hB2.size); (have hbx2 := Box7.below HBX.out HSZ.out hB2); (try (have z2 : Zero4 w2 W0.heap.size := zero4_oldD rfl hb2; obtain ⟨_, ⟨r0, r1, r2, r3⟩, k0, k1, k2, k3⟩ := id z2)))) | (go_at_call 107; go_must (refine (find_prd _ n2 es x _ ?_ HX0.out (by have := HX.out; omega)).mono ?_; (first | exact hm2 | exact MapP.below hm2 (Nat.le_refl _) (bbox _ _) | (simpa using hm2)); rintro e w3 ⟨rfl, hb3⟩; (have hB3 : Below W0.heap.size W0 w3 := bstep (by first | exact hB2 | exact hB2.alloc hB2.size _) hb3); (have hs3 := hB3.size); (have hbx3 := Box7.below HBX.out HSZ.out hB3); (first | (have z3 : Zero4 w3 w2.heap.size := zero4_old rfl hb3; obtain ⟨hz3, ⟨t0, t1, t2, t3⟩, j0, j1, j2, j3⟩ := id z3) | (have z3 : Zero4 w3 W0.heap.size := z2.below hb3; obtain ⟨hz3, ⟨t0, t1, t2, t3⟩, j0, j1, j2, j3⟩ := id z3) | skip))))
    all_goals
      (try go_wp2_with fail)
      go_meet
    · exact ⟨_, rfl, box4_new _ _ _, hB3.alloc hs3 _⟩
    · exact ⟨_, rfl, box4_set z3 _ _ _ _, below_set4 hB3 hs2 _ _ _ _⟩
    · exact ⟨_, rfl, box4_set z3 _ _ _ _, below_set4 hB3 (Nat.le_refl _) _ _ _ _⟩
  case rest =>
    obtain ⟨g6, rfl, hq, hB⟩ := hcut
    clear x0 x1 x2 x3 x4 x5 x6
    have hbx := Box7.below HBX.out HSZ.out hB
    have hBW := HB0.out.trans (hB.mono (Nat.le_of_lt HSZ.out))
    have HBW : Hid (Below w.heap.size w wc) := hBW
    have HQ : Hid (Box4 wc g6 (prdOf es x)) := hq
    have HBX2 : Hid (Box7 wc w.heap.size x) := hbx
    have HR2 : Hid (RdX wc v es) := HR.out.below (Nat.le_refl _) hB
    obtain ⟨x0, x1, x2, x3, x4, x5, x6⟩ := hbx
    obtain ⟨p0, p1, p2, p3⟩ := hq
    have hgl := cell_lt p0
    have hwl := cell_lt x0
    clear HBX HR HB0 hB hBW
    by_cases hv : x.c < (prdOf es x).v
    · have hv' : decide (x.c < (prdOf es x).v) = true := by simp [hv]
      have E := HE.out
      rw [if_pos hv] at E
      have HEE : Hid _ := E
      clear hv E HE
      go_wp2
      go_ret2
      rw [HEE.out]
      exact ⟨rfl, HBW.out⟩
    · have hv' : decide (x.c < (prdOf es x).v) = false := by simp [hv]
      have E := HE.out
      rw [if_neg hv] at E
      clear hv HE
      by_cases hk : x.k = 1
      · rw [if_neg (fun h => h hk)] at E
        have HK : Hid (x.k = 1) := hk
        clear hk
        by_cases hw : (prdOf es x).v < x.c
        · have hw' : decide ((prdOf es x).v < x.c) = true := by simp [hw]
          rw [if_pos hw] at E
          have HEE : Hid _ := E
          clear hw E
          go_wp2_with fail
          refine (isMarker_no _ _ _ _ _ _ _ _ HK.out).mono ?_
          rintro e w4 ⟨rfl, hb4⟩
          clear x0 x1 x2 x3 x4 x5 x6 p0 p1 p2 p3
          obtain ⟨x0, x1, x2, x3, x4, x5, x6⟩ := Box7.below HBX2.out hwl hb4
          obtain ⟨p0, p1, p2, p3⟩ := Box4.below HQ.out hgl hb4
          go_wp2_with fail
          refine (checkData_any es _ x _ _ HL.out (HR2.out.below (Nat.le_refl _) hb4)).mono ?_
          rintro e w5 ⟨rfl, hb5⟩
          clear x0 x1 x2 x3 x4 x5 x6 p0 p1 p2 p3
          go_wp2
          go_ret2
          rw [HEE.out]
          exact ⟨rfl, bstep (bstep HBW.out hb4) hb5⟩
        · have hw' : decide ((prdOf es x).v < x.c) = false := by simp [hw]
          rw [if_neg hw] at E
          have HEE : Hid _ := E
          clear hw E
          go_wp2_with fail
          refine (isMarker_no _ _ _ _ _ _ _ _ HK.out).mono ?_
          rintro e w4 ⟨rfl, hb4⟩
          clear x0 x1 x2 x3 x4 x5 x6 p0 p1 p2 p3
          obtain ⟨x0, x1, x2, x3, x4, x5, x6⟩ := Box7.below HBX2.out hwl hb4
          obtain ⟨p0, p1, p2, p3⟩ := Box4.below HQ.out hgl hb4
          go_wp2_with fail
          refine (checkData_any es _ x _ _ HL.out (HR2.out.below (Nat.le_refl _) hb4)).mono ?_
          rintro e w5 ⟨rfl, hb5⟩
          clear x0 x1 x2 x3 x4 x5 x6 p0 p1 p2 p3
          go_wp2
          go_ret2
          rw [HEE.out]
          exact ⟨rfl, bstep (bstep HBW.out hb4) hb5⟩
      · rw [if_pos hk] at E
        have HEE : Hid _ := E
        have HK : Hid (x.k = 2 ∨ x.k = 3) := show _ ∨ _ by have := HX.out; omega
        clear hk E
        go_wp2_with fail
        refine (isMarker_yes _ _ _ _ _ _ _ _ HK.out).mono ?_
        rintro e w4 ⟨rfl, hb4⟩
        clear x0 x1 x2 x3 x4 x5 x6 p0 p1 p2 p3
        obtain ⟨x0, x1, x2, x3, x4, x5, x6⟩ := Box7.below HBX2.out hwl hb4
        obtain ⟨p0, p1, p2, p3⟩ := Box4.below HQ.out hgl hb4
        go_wp2_with fail
        refine (checkMarker_any es _ x (prdOf es x) _ HL.out (HR2.out.below (Nat.le_refl _) hb4) HPB.out.1 HPB.out.2).mono ?_
        rintro e w5 ⟨rfl, hb5⟩
        clear x0 x1 x2 x3 x4 x5 x6 p0 p1 p2 p3
        go_wp2
        go_ret2
        rw [HEE.out]
        exact ⟨rfl, bstep (bstep HBW.out hb4) hb5⟩

set_option maxRecDepth 100000 in
set_option maxHeartbeats 400000 in
theorem check_none (es : List Ent) (v : Value) (x : Ent) (w : World) (h0 : x.b = 0) :
    Calls Try.prog 76 #[v, .agg #[.int .i64 x.a, .int .i64 x.b, .int .i64 x.c, .int .i64 x.d, .int .i64 x.k, .bool x.t, .string x.s]] w fun e w' => e = .returned (.tuple #[.int .i64 (chk es x).1, .int .i64 (chk es x).2]) ∧ Below w.heap.size w w' := by
  have h0' : (x.b == 0) = true := by simp [h0]
  have E : Hid (chk es x = (-1, 0)) := show _ = _ by unfold chk; rw [if_pos h0]
  clear h0
  go_enter Try.func76, Try.ntmps76
  go_wp2
  go_ret2
  rw [E.out]
  exact ⟨rfl, bbox _ _⟩

theorem vcheck_any (es : List Ent) (v : Value) (x : Ent) (w : World) (hl : (es.length : Int) ≤ 2199023255552) (hp : Plain es) (hx : Plain [x]) (hr : RdX w v es) :
    Calls Try.prog 76 #[v, .agg #[.int .i64 x.a, .int .i64 x.b, .int .i64 x.c, .int .i64 x.d, .int .i64 x.k, .bool x.t, .string x.s]] w fun e w' => e = .returned (.tuple #[.int .i64 (chk es x).1, .int .i64 (chk es x).2]) ∧ Below w.heap.size w w' := by
  by_cases h0 : x.b = 0
  · exact check_none es v x w h0
  · exact check_some es v x w hl hp hx hr h0

end Go.Proofs.Ytkakagjffafdiaa
