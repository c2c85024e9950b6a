/-
  What the document's FetchedOf leaves, in its own order; the calls that it makes, in one form each.
-/
import Derived.Test.YtkolelpdedmkeaaAfet
import Derived.Test.YtkolelpdedmkeaaPlog
import Derived.Test.YtkolelpdedmkeaaAdoc
import Derived.Test.YtkolelpdedmkeaaPgrow
import Derived.Test.YtkolelpdedmkeaaPraiseF
namespace Go.Proofs.Ytkolelpdedmkeaa
open Go.RowKit
set_option linter.unusedVariables false
set_option linter.unusedSimpArgs false

theorem ofl_of {p : Prt} {r : Nat} (h0 : p.flt r = 0) (h1 : ¬ (p.ld < 0 ∨ p.ld = r)) : p.ofl r = 0 := by
  unfold Prt.ofl
  rw [if_neg (by simp [h0]), if_neg h1]
theorem fetch_flt {p : Prt} {r : Int} (h : ¬ p.flt r = 0) : p.fetchP r = (Prt.zero, 0, p.flt r) := by
  unfold Prt.fetchP
  rw [if_pos h]
theorem fetch_led {p : Prt} {r : Nat} (h0 : p.flt r = 0) (h1 : p.ld < 0 ∨ p.ld = r) : p.fetchP r = (Prt.zero, 0, 8) := by
  unfold Prt.fetchP
  rw [if_neg (by simp [h0]), if_pos h1]
theorem cut_bd {l : List Int} {y : Int} (h : lft l y = 0) (n : Nat) : 0 ≤ cutS l y n ∧ cutS l y n ≤ ((l.take (endOf (decL l).1 n)).length : Nat) := by
  obtain ⟨h1, h2, h3, h4, h5, h6⟩ := lft_ok h
  rw [List.length_take]
  unfold cutS
  split <;> omega
/-- The log is cut, what is safe is known, High rises. -/
theorem met_doc {p : Prt} {r : Nat} (hr : r < p.rs.length) (n : Nat) (L : List Int) (hL : (p.at r).l.take (endOf (p.at r).es n) = L) (Y : Int) (hY : cutS (p.at r).l (p.at r).y n = Y) (s : Nat) (hs : (((p.setR r (fun x => { x with l := L })).setR r (fun x => { x with y := Y })).at r).safe = s) :
    (({ (p.setR r (fun x => { x with l := L })).setR r (fun x => { x with y := Y }) with kn := p.kn.set r (s : Int) } : Prt)).raised = p.met r n := by
  unfold Prt.met
  have e0 : (p.setR r (fun x => { x with l := L })).setR r (fun x => { x with y := Y }) = p.setR r (fun x => { x with l := x.l.take (endOf x.es n), y := cutS x.l x.y n }) := by
    rw [setR_setR]
    exact setR_congr hr (by rw [hL, hY])
  have e1 : Rep.safe ⟨false, (p.at r).l.take (endOf (p.at r).es n), cutS (p.at r).l (p.at r).y n, 0⟩ = s := by
    rw [← hs, setR_setR, setR_at _ _ _ hr, hL, hY]
    rfl
  rw [e0, e1]
theorem met_at {p : Prt} {r : Nat} (hb : Bytes (p.at r).l) (hl : lft (p.at r).l (p.at r).y = 0) (hr : r < p.rs.length) (h0 : 0 ≤ p.ld) (hrd : r ≠ p.ld.toNat) (n : Nat) (hn : n ≤ (p.at r).es.length) (L : List Int) (hL : (p.at r).l.take (endOf (p.at r).es n) = L) (Y : Int) (hY : cutS (p.at r).l (p.at r).y n = Y) :
    p.met r n = (p.know r n).raised.setR r (fun x => { x with l := L, y := Y }) := by
  rw [met_form hb hl h0 hrd n hn]
  have hrq : r < (p.know r n).raised.rs.length := by rw [(raised_len _).2.2.1]; exact hr
  refine setR_congr hrq ?_
  have e : ({ p with kn := p.kn.set r (min (n : Int) ((p.at r).safe : Nat)) } : Prt).raised.at r = p.at r := raised_kn_at (p.know r n) r h0 hrd
  simp only [e]
  subst hL hY
  rfl
theorem fetch_doc {p : Prt} {r : Nat} (hb : Bytes (p.at r).l) (hl : lft (p.at r).l (p.at r).y = 0) (hr : r < p.rs.length) (h0 : p.ofl r = 0) (hup : (p.at r).up = true)
    (n : Nat) (hn : com (p.at r).es (p.at p.ld.toNat).es = n) (q : Prt) (hq : p.met r n = q) (L : List Int) (hL : (p.at r).l.take (endOf (p.at r).es n) = L) (Y : Int) (hY : cutS (p.at r).l (p.at r).y n = Y)
    (came : Nat) (hc : cameOf L Y ((p.at p.ld.toNat).es.drop n) = came) (NL : List Int) (hNL : longOf L Y ((p.at p.ld.toNat).es.drop n) = NL) (H : Int) (hH : min (max (p.at r).h (q.at p.ld.toNat).h) (n + came : Int) = H) :
    p.fetchP r = (((q.setR r (fun x => { x with l := NL })).setR r (fun x => { x with y := Y })).setR r (fun x => { x with h := H }), (came : Int), 0) := by
  obtain ⟨m, -, -, l0, l1⟩ := ofl_zero h0
  have hrd : r ≠ p.ld.toNat := by omega
  have hnl : n ≤ (p.at r).es.length := by
    have := (com_le (p.at r).es (p.at p.ld.toNat).es).1
    rw [hn] at this
    exact this
  have hm := met_at hb hl hr l0 hrd n hnl L hL Y hY
  rw [hq] at hm
  have e1 : (p.know r n).raised.at r = p.at r := raised_kn_at (p.know r n) r l0 hrd
  have e2 : q.at p.ld.toNat = (p.know r n).raised.at p.ld.toNat := by rw [hm]; exact setR_other _ _ _ _ (fun e => hrd e.symm)
  rw [fetch_form hb hl hr h0 hup n hn _ rfl L hL Y hY came hc NL hNL H (by rw [e1, ← e2]; exact hH)]
  rw [hm]
  simp only [setR_setR]

theorem cutOf_ok (l : List Int) (u : Value) (y : Int) (n : Nat) (w : World) (hl : l.length ≤ 140737488355328) (h : Rd w u l) (h0 : lft l y = 0) (hn : n ≤ (decL l).1.length) (NL : List Int) (Y : Int) (hNL : l.take (endOf (decL l).1 n) = NL) (hY : cutS l y n = Y) :
    Calls Try.prog 91 #[.agg #[u, .int .i64 y], .int .i64 n] w fun e w' => ∃ av cv, e = .returned (.tuple #[.agg #[.slice av NL.length cv, .int .i64 Y], .int .i64 0]) ∧ Own w.heap.size (.slice av NL.length cv) NL w' ∧ Below w.heap.size w w' := by
  have hz : cuf l y n = 0 := by
    unfold cuf
    rw [if_neg (by simp [h0]), if_neg (by omega)]
  refine (cutOf_any l u y n w hl h).mono ?_
  rintro e w' ⟨hb, -, h2⟩
  obtain ⟨v, rfl, ho⟩ := h2 hz
  rw [Int.toNat_natCast] at *
  have e1 : cutY l y n = Y := hY
  rw [e1]
  rw [← cut_take h.1 h0 n, hNL] at ho
  obtain ⟨av, cv, rfl⟩ := ho.shape
  exact ⟨av, cv, rfl, ho, hb⟩

theorem appOf_ok (l : List Int) (u : Value) (y : Int) (x : Ent) (w : World) (hl : l.length ≤ 140737488355328) (h : Rd w u l) (h0 : apf l y x = 0) (NL : List Int) (hNL : l ++ x.enc = NL) :
    Calls Try.prog 81 #[.agg #[u, .int .i64 y], .agg #[.int .i64 x.a, .int .i64 x.b, .int .i64 x.c, .int .i64 x.d, .int .i64 x.k, .bool x.t, .string x.s]] w fun e w' => ∃ av cv, e = .returned (.tuple #[.agg #[.slice av NL.length cv, .int .i64 y], .int .i64 0]) ∧ Own w.heap.size (.slice av NL.length cv) NL w' ∧ Below w.heap.size w w' :=
  (appendedOf_any l u y x w hl h).mono fun e w' ⟨hb, _, h⟩ => by
    obtain ⟨v, h1, h2⟩ := h h0
    rw [hNL] at h2
    obtain ⟨av, cv, rfl⟩ := h2.shape
    exact ⟨av, cv, h1, h2, hb⟩
theorem appOf_bad (l : List Int) (u : Value) (y : Int) (x : Ent) (w : World) (hl : l.length ≤ 140737488355328) (h : Rd w u l) (h0 : apf l y x ≠ 0) :
    Calls Try.prog 81 #[.agg #[u, .int .i64 y], .agg #[.int .i64 x.a, .int .i64 x.b, .int .i64 x.c, .int .i64 x.d, .int .i64 x.k, .bool x.t, .string x.s]] w fun e w' => e = .returned (.tuple #[.agg #[.slice none 0 0, .int .i64 0], .int .i64 (apf l y x)]) ∧ Below w.heap.size w w' :=
  (appendedOf_any l u y x w hl h).mono fun e w' ⟨hb, h, _⟩ => ⟨h h0, hb⟩
theorem came_none {L : List Int} {Y : Int} {es : List Ent} (h : ¬ 0 < es.length) : cameOf L Y es = 0 ∧ longOf L Y es = L := by
  unfold cameOf longOf
  rw [if_neg (fun x => h x.1), if_neg (fun x => h x.1)]
  exact ⟨rfl, rfl⟩
theorem came_bad {L : List Int} {Y : Int} {es : List Ent} (h : apf L Y (Ent.at es 0) ≠ 0) : cameOf L Y es = 0 ∧ longOf L Y es = L := by
  unfold cameOf longOf
  rw [if_neg (fun x => h x.2), if_neg (fun x => h x.2)]
  exact ⟨rfl, rfl⟩
theorem came_ok {L : List Int} {Y : Int} {es : List Ent} (h0 : 0 < es.length) (h : apf L Y (Ent.at es 0) = 0) : cameOf L Y es = 1 ∧ longOf L Y es = L ++ (Ent.at es 0).enc := by
  unfold cameOf longOf
  rw [if_pos ⟨h0, h⟩, if_pos ⟨h0, h⟩]
  exact ⟨rfl, rfl⟩
theorem same_LY {q : Prt} {n : Nat} (hn : n < q.rs.length) {L : List Int} {Y : Int} (h1 : (q.at n).l = L) (h2 : (q.at n).y = Y) : (q.setR n (fun x => { x with l := L })).setR n (fun x => { x with y := Y }) = q := by
  rw [setR_setR]
  exact setR_id hn (by subst h1 h2; rfl)

theorem lbox_keep {w : World} {b : Nat} {u : Value} {y : Int} (h : LBox w b u y) {c : Nat} (hc : b ≠ c) (o : Nat) (v : Value) : LBox (w.setCell ⟨c, o, none⟩ v) b u y :=
  ⟨by simpa using h.1, (cell_far hc _ _ _).trans h.2.1, (cell_far hc _ _ _).trans h.2.2.1, fun o' => (frozen_far hc _ _ _).trans (h.2.2.2 o')⟩
/-- The leader's entries, and a log that is boxed, as they were. -/
structure Kp (W : World) (v : Value) (es : List Ent) (lb : Nat) (u : Value) (L : List Int) (Y : Int) : Prop where
  x : RdX W v es
  b : LBox W lb u Y
  r : Rd W u L
  vb : ∀ k, v.ownBlock = some k → k < W.heap.size
  ub : ∀ k, u.ownBlock = some k → k < W.heap.size
theorem Kp.below {W W' : World} {v : Value} {es : List Ent} {lb : Nat} {u : Value} {L : List Int} {Y : Int} (h : Kp W v es lb u L Y) (hb : Below W.heap.size W W') : Kp W' v es lb u L Y :=
  ⟨h.x.below (Nat.le_refl _) hb, h.b.below hb, h.r.below (Nat.le_refl _) hb, fun k hk => Nat.lt_of_lt_of_le (h.vb k hk) hb.size, fun k hk => Nat.lt_of_lt_of_le (h.ub k hk) hb.size⟩
theorem Kp.set {W : World} {v : Value} {es : List Ent} {lb : Nat} {u : Value} {L : List Int} {Y : Int} (h : Kp W v es lb u L Y) {c : Nat} (h1 : v.ownBlock ≠ some c) (h2 : lb ≠ c) (h3 : u.ownBlock ≠ some c) (o : Nat) (x : Value) : Kp (W.setCell ⟨c, o, none⟩ x) v es lb u L Y :=
  ⟨h.x.keep (fun b o' hb => cell_far (fun e => h1 (by rw [hb, e])) _ _ _), lbox_keep h.b h2 _ _, rd_block h.r h3 _ _, fun k hk => by simpa using h.vb k hk, fun k hk => by simpa using h.ub k hk⟩
theorem Kp.grown {W W' : World} {v : Value} {es : List Ent} {lb : Nat} {u : Value} {L : List Int} {Y : Int} (h : Kp W v es lb u L Y) {c : Nat} (hg : W.grownBy W' (some c)) (h1 : v.ownBlock ≠ some c) (h2 : lb ≠ c) (h3 : u.ownBlock ≠ some c) : Kp W' v es lb u L Y := by
  have hblk : ∀ k, k < W.heap.size → k ≠ c → W'.heap[k]? = W.heap[k]? := fun k hk hc => hg.block k hk (fun e => hc (Option.some.inj e))
  refine ⟨h.x.keep (fun b o' hb => World.cell?_of_block (hblk b (h.vb b hb) (fun e => h1 (by rw [hb, e])))), ?_, rd_grown h.r hg (fun k hk e => h3 (by rw [hk, Option.some.inj e])), fun k hk => Nat.lt_of_lt_of_le (h.vb k hk) hg.size, fun k hk => Nat.lt_of_lt_of_le (h.ub k hk) hg.size⟩
  obtain ⟨b1, b2, b3, b4⟩ := h.b
  exact ⟨Nat.lt_of_lt_of_le b1 hg.size, (World.cell?_of_block (hblk lb b1 h2)).trans b2, (World.cell?_of_block (hblk lb b1 h2)).trans b3, fun o => (World.frozen?_of_block (hblk lb b1 h2)).trans (b4 o)⟩
theorem Kp.put {W : World} {v : Value} {es : List Ent} {lb : Nat} {u : Value} {L : List Int} {Y : Int} (h : Kp W v es lb u L Y) {c : Nat} (h1 : v.ownBlock ≠ some c) (h2 : lb ≠ c) (h3 : u.ownBlock ≠ some c) (p : Prt) (x y z : Value) : Kp (put7 W c p x y z) v es lb u L Y := by
  unfold put7
  exact ((((((h.set h1 h2 h3 _ _).set h1 h2 h3 _ _).set h1 h2 h3 _ _).set h1 h2 h3 _ _).set h1 h2 h3 _ _).set h1 h2 h3 _ _).set h1 h2 h3 _ _

end Go.Proofs.Ytkolelpdedmkeaa
