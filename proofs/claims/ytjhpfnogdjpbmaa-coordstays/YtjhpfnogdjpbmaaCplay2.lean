/-
  What calls answer of a producer that is known, or that is not (plain data).
-/
import Derived.Test.YtjhpfnogdjpbmaaCplay
import Derived.Test.YtjhpfnogdjpbmaaEraw
namespace Go.Proofs.Ytjhpfnogdjpbmaa
open Go.RowKit
set_option linter.unusedVariables false
set_option linter.unusedSimpArgs false

theorem pos_eq {c : Crd} {s : ByteArray} {k : Nat} (hm : MayC c) (hk : k < c.ts.length) (hn : (c.at k).nm = s) : c.pos s = (k : Int) := by
  unfold Crd.pos
  refine scan_some (Nat.zero_le _) (by omega) (sameN_iff.2 hn) (fun j _ hj => ?_)
  rw [sameN_iff]
  intro e
  exact (hm.fr k j hk hj).1 (e.trans hn.symm)
theorem pos_none {c : Crd} {s : ByteArray} (h : ∀ j, j < c.ts.length → (c.at j).nm ≠ s) : c.pos s = -1 := by
  rcases pos_cases c s with e | ⟨k, hk, _, e⟩
  · exact e
  · exact absurd e (h k hk)
theorem fltC_ok {c : Crd} {s : ByteArray} (hm : MayC c) (hs : nameB s = true) : c.flt s = 0 := flt_zero_iff.2 ⟨hm, hs⟩
theorem init_new {c : Crd} {s : ByteArray} (hm : MayC c) (hs : nameB s = true) (hno : ∀ j, j < c.ts.length → (c.at j).nm ≠ s) (h8 : c.ts.length < 8) (hx : c.nx < 1073741824) :
    c.initP s = ({ c with nx := c.nx + 1, ts := c.ts ++ [newT s c.nx] }, c.nx, 0, 0) := by
  unfold Crd.initP
  rw [if_neg (by rw [fltC_ok hm hs]; simp), if_pos (by rw [pos_none hno]; decide), if_neg (by omega)]
  rfl
theorem init_full {c : Crd} {s : ByteArray} (hm : MayC c) (hs : nameB s = true) (hno : ∀ j, j < c.ts.length → (c.at j).nm ≠ s) (h8 : 8 ≤ c.ts.length) :
    c.initP s = (Crd.zero, 0, 0, 16) := by
  unfold Crd.initP
  rw [if_neg (by rw [fltC_ok hm hs]; simp), if_pos (by rw [pos_none hno]; decide), if_pos (.inl h8)]
theorem init_old {c : Crd} {s : ByteArray} {k : Nat} (hm : MayC c) (hs : nameB s = true) (hk : k < c.ts.length) (hn : (c.at k).nm = s) (he : (c.at k).endB = false) (hv : (c.at k).v ≠ 1073741824) :
    c.initP s = (c.setT k (c.at k).renew, (c.at k).id, (c.at k).v + 1, 0) := by
  unfold Crd.initP
  rw [if_neg (by rw [fltC_ok hm hs]; simp), if_neg (by rw [pos_eq hm hk hn]; omega), pos_eq hm hk hn, Int.toNat_natCast, if_neg (by rw [he]; simp), if_neg hv]
theorem kfl_val {c : Crd} {s : ByteArray} {k : Nat} (hm : MayC c) (hs : nameB s = true) (hk : k < c.ts.length) (hn : (c.at k).nm = s) (v : Int) : c.kfl s v = if (c.at k).v = v then 0 else 10 := by
  unfold Crd.kfl
  rw [if_neg (by rw [fltC_ok hm hs]; simp), if_neg (by rw [pos_eq hm hk hn]; omega), pos_eq hm hk hn, Int.toNat_natCast]
theorem kflC_none {c : Crd} {s : ByteArray} (hm : MayC c) (hs : nameB s = true) (hno : ∀ j, j < c.ts.length → (c.at j).nm ≠ s) (v : Int) : c.kfl s v = 5 := by
  unfold Crd.kfl
  rw [if_neg (by rw [fltC_ok hm hs]; simp), if_pos (by rw [pos_none hno]; decide)]
theorem add_bad {c : Crd} {s : ByteArray} {v p e : Int} (h : c.kfl s v = e) (h0 : e ≠ 0) : c.addP s v p = (Crd.zero, e) := by
  unfold Crd.addP
  rw [h, if_pos h0]
theorem end_bad {c : Crd} {s : ByteArray} {v e : Int} {b : Bool} (h : c.kfl s v = e) (h0 : e ≠ 0) : c.endP s v b = (Crd.zero, e) := by
  unfold Crd.endP
  rw [h, if_pos h0]
theorem add_ok {c : Crd} {s : ByteArray} {k : Nat} {v p : Int} (hm : MayC c) (hs : nameB s = true) (hk : k < c.ts.length) (hn : (c.at k).nm = s) (hv : (c.at k).v = v) (hp : inR p 0 3 = true) (he : (c.at k).endB = false) :
    c.addP s v p = (c.setT k ((c.at k).add c.ck p), 0) := by
  unfold Crd.addP
  rw [kfl_val hm hs hk hn v, if_pos hv, if_neg (by simp), if_neg (by rw [hp]; simp), pos_eq hm hk hn, Int.toNat_natCast, if_neg (by rw [he]; simp)]
theorem end_val {c : Crd} {s : ByteArray} {k : Nat} {v : Int} (b : Bool) (hm : MayC c) (hs : nameB s = true) (hk : k < c.ts.length) (hn : (c.at k).nm = s) (hv : (c.at k).v = v) :
    c.endP s v b = if (c.at k).st = 2 then (c.setT k { c.at k with st := wantI b }, 0) else if (c.at k).st = wantI b then (c, 0) else if (c.at k).st = 1 ∧ ((c.at k).dn = 0 ∨ (c.at k).dn = wantI b) then (c.setT k { c.at k with dn := wantI b }, 0) else (Crd.zero, 12) := by
  unfold Crd.endP
  rw [kfl_val hm hs hk hn v, if_pos hv, if_neg (by simp), pos_eq hm hk hn, Int.toNat_natCast]
theorem done_val {c : Crd} {s : ByteArray} {k : Nat} (p : Int) (hm : MayC c) (hs : nameB s = true) (hk : k < c.ts.length) (hn : (c.at k).nm = s) (he : (c.at k).endB = true) (hp : (c.at k).ps.contains p = true) :
    c.doneP s p = (c.setT k ((c.at k).less p), 0) := by
  unfold Crd.doneP
  rw [if_neg (by rw [fltC_ok hm hs]; simp), if_neg (by rw [pos_eq hm hk hn]; omega), pos_eq hm hk hn, Int.toNat_natCast, if_neg (by rw [he]; simp), if_neg (by rw [hp]; simp)]
theorem tick_ok' {c : Crd} {n : Int} (hm : MayC c) (h1 : inR n 0 1000 = true) (h2 : c.ck + n ≤ 1073741824) : c.tickP n = ({ c with ck := c.ck + n, ts := c.ts.map (fun t => t.tick (c.ck + n) c.wt) }, 0) := by
  unfold Crd.tickP
  rw [if_neg (by rw [mayC_iff.2 hm]; simp), if_neg (by rw [h1]; simp; omega)]
theorem tick_far {c : Crd} {n : Int} (hm : MayC c) (h1 : inR n 0 1000 = false) : c.tickP n = (Crd.zero, 2) := by
  unfold Crd.tickP
  rw [if_neg (by rw [mayC_iff.2 hm]; simp), if_pos (.inl h1)]

/-- "dee", and "nobody". -/
def nmD : ByteArray := ⟨#[100, 101, 101]⟩
def nmN : ByteArray := ⟨#[110, 111, 98, 111, 100, 121]⟩
def isName4 (s : ByteArray) : Prop := isName3 s ∨ s = nmD
theorem nmD_ok : nameB nmD = true := by decide
theorem nmN_ok : nameB nmN = true := by decide
theorem nmD_3 {s : ByteArray} (h : isName3 s) : s ≠ nmD := by
  unfold nmD
  rcases h with rfl | rfl | rfl <;> decide
theorem nmN_4 {s : ByteArray} (h : isName4 s) : s ≠ nmN := by
  unfold nmN
  rcases h with h | rfl
  · rcases h with rfl | rfl | rfl <;> decide
  · decide
/-- Of three names there are three producers at most. -/
theorem co_three {c : Crd} (h : CoP isName3 c) : c.ts.length ≤ 3 := by
  rcases Nat.lt_or_ge c.ts.length 4 with h4 | h4
  · omega
  · exfalso
    have f := fun i k hi hk => (h.m.fr i k hi hk).1
    have a := h.n 0 (by omega)
    have b := h.n 1 (by omega)
    have d := h.n 2 (by omega)
    have e := h.n 3 (by omega)
    have f10 := f 1 0 (by omega) (by omega)
    have f20 := f 2 0 (by omega) (by omega)
    have f30 := f 3 0 (by omega) (by omega)
    have f21 := f 2 1 (by omega) (by omega)
    have f31 := f 3 1 (by omega) (by omega)
    have f32 := f 3 2 (by omega) (by omega)
    rcases a with a | a | a <;> rcases b with b | b | b <;> first | exact f10 (a.trans b.symm) | (rcases d with d | d | d <;> first | exact f20 (a.trans d.symm) | exact f21 (b.trans d.symm) | (rcases e with e | e | e <;> first | exact f30 (a.trans e.symm) | exact f31 (b.trans e.symm) | exact f32 (d.trans e.symm)))
theorem co_weak {N M : ByteArray → Prop} {c : Crd} (h : CoP N c) (hw : ∀ s, N s → M s) : CoP M c := ⟨h.m, fun i hi => hw _ (h.n i hi), h.x⟩
/-- A new producer behind those of three names. -/
theorem dee_new {c : Crd} (h : CoP isName3 c) : c.initP nmD = ({ c with nx := c.nx + 1, ts := c.ts ++ [newT nmD c.nx] }, c.nx, 0, 0) ∧ CoP isName4 { c with nx := c.nx + 1, ts := c.ts ++ [newT nmD c.nx] } ∧ c.ts.length < ({ c with nx := c.nx + 1, ts := c.ts ++ [newT nmD c.nx] } : Crd).ts.length ∧ ({ c with nx := c.nx + 1, ts := c.ts ++ [newT nmD c.nx] } : Crd).at c.ts.length = newT nmD c.nx := by
  have h3 := co_three h
  have hx := h.x
  have hno : ∀ j, j < c.ts.length → (c.at j).nm ≠ nmD := fun j hj => nmD_3 (h.n j hj)
  refine ⟨init_new h.m nmD_ok hno (by omega) (by omega), ?_, by simp, add_last _⟩
  exact co_new (co_weak h (fun s hs => .inl hs)) (.inr rfl) nmD_ok (by rw [pos_none hno]; decide) (by omega) (by omega)

end Go.Proofs.Ytjhpfnogdjpbmaa
