/-
  What serves every seat: numbers within bounds, blocks that nothing turned, slices of one cell an element, rows that a call owns.
-/
import Derived.WalkKit
import Derived.Test.YtmkbbhdmfpjfdaaRows
import Derived.WalkSpells
import Derived.WalkLawsBesides
import Derived.Lib.Strings
import Derived.Laws.AppendOwnNone
import Derived.Lib.AppendStr
import Derived.Laws.BytesArg
import Derived.Lib.BufferMore
import Derived.Deep.AppendLies
import Derived.Deep.DeepCutAuto
import Derived.Deep.RegionWith
namespace Go.Proofs.Ytmkbbhdmfpjfdaa
open Go.RowKit
set_option linter.unusedVariables false
set_option linter.unusedSimpArgs false

theorem w64 (n : Int) (h : -9223372036854775808 ≤ n ∧ n ≤ 9223372036854775807) : wrap64 n = n := by unfold wrap64; omega

theorem bcell {W w1 : World} (hb : Below W.heap.size W w1) : (∀ b o, b < W.heap.size → w1.cell? ⟨b, o, none⟩ = W.cell? ⟨b, o, none⟩) ∧ (∀ b o, b < W.heap.size → w1.frozen? ⟨b, o, none⟩ = W.frozen? ⟨b, o, none⟩) :=
  ⟨fun b o h => hb.cell (p := ⟨b, o, none⟩) h, fun b o h => hb.frozen (p := ⟨b, o, none⟩) h⟩

theorem bstep {w b c : World} (h : Below w.heap.size w b) (k : Below b.heap.size b c) : Below w.heap.size w c := h.trans (k.mono h.size)

theorem bbox (w : World) (o : Obj) : Below w.heap.size w (w.alloc o) := (Below.refl _ _).alloc (Nat.le_refl _) _

def Bytes (l : List Int) : Prop := ∀ n ∈ l, 0 ≤ n ∧ n ≤ 255

def inR (n l h : Int) : Bool := decide (l ≤ n ∧ n ≤ h)

set_option maxRecDepth 100000 in
set_option maxHeartbeats 400000 in
theorem In_any (n l h : Int) (w : World) :
    Calls Try.prog 48 #[.int .i64 n, .int .i64 l, .int .i64 h] w fun e w' => e = .returned (.bool (inR n l h)) ∧ w' = w := by
  by_cases h0 : l ≤ n
  · by_cases h1 : n ≤ h
    · have hr : inR n l h = true := by simp [inR]; omega
      rw [hr]
      go_enter Try.func48, Try.ntmps48
      go_wp2
      go_ret
      exact ⟨rfl, rfl⟩
    · have hr : inR n l h = false := by simp [inR]; omega
      rw [hr]
      go_enter Try.func48, Try.ntmps48
      go_wp2
      go_ret
      exact ⟨rfl, rfl⟩
  · have hr : inR n l h = false := by simp [inR]; omega
    rw [hr]
    go_enter Try.func48, Try.ntmps48
    go_wp2
    go_ret
    exact ⟨rfl, rfl⟩

theorem ret_int {k : IntKind} {a b : Int} (h : a = b) : Ending.returned (.int k a) = .returned (.int k b) := by rw [h]

/-- The bytes of a text. -/
def strL (s : ByteArray) : List Int := s.data.toList.map fun c => (c.toNat : Int)

theorem strL_len (s : ByteArray) : (strL s).length = s.size := by simp [strL]

theorem strL_bytes (s : ByteArray) : Bytes (strL s) := by
  intro n hn
  simp [strL] at hn
  obtain ⟨c, _, rfl⟩ := hn
  have := c.toNat_lt
  omega

theorem box_cells {w wi : World} {cs : Array Value} {T : TypeId} (hb : Below (w.heap.size + 1) (w.alloc (.cells cs T)) wi) (o : Nat) : wi.cell? ⟨w.heap.size, o, none⟩ = (w.alloc (.cells cs T)).cell? ⟨w.heap.size, o, none⟩ :=
  hb.cell (p := ⟨w.heap.size, o, none⟩) (by show w.heap.size < _; omega)

theorem below_unbox {w wi : World} {o : Obj} (hb : Below (w.heap.size + 1) (w.alloc o) wi) : Below w.heap.size w wi := (bbox w o).trans (hb.mono (by omega))

theorem cell_lt {w : World} {b o : Nat} {v : Value} (h : w.cell? ⟨b, o, none⟩ = some v) : b < w.heap.size := by
  rcases Nat.lt_or_ge b w.heap.size with hg | hg
  · exact hg
  · simp [World.cell?, Array.getElem?_eq_none hg] at h

/-- The first place from i on, of so many, at which P holds; -1: nowhere. -/
def scan (P : Nat → Prop) [DecidablePred P] : Nat → Nat → Int
  | 0, _ => -1
  | f + 1, i => if P i then i else scan P f (i + 1)

theorem scan_none {P : Nat → Prop} [DecidablePred P] {f i : Nat} : scan P f i < 0 ↔ ∀ j, i ≤ j → j < i + f → ¬ P j := by
  induction f generalizing i with
  | zero => simp [scan]; omega
  | succ f ih =>
    simp only [scan]
    by_cases h : P i
    · rw [if_pos h]
      refine ⟨fun hh => by omega, fun hh => absurd h (hh i (Nat.le_refl _) (by omega))⟩
    · rw [if_neg h, ih]
      refine ⟨fun hh j h1 h2 => ?_, fun hh j h1 h2 => hh j (by omega) (by omega)⟩
      by_cases e : j = i
      · subst e; exact h
      · exact hh j (by omega) (by omega)

theorem scan_some {P : Nat → Prop} [DecidablePred P] {f i k : Nat} (hk : i ≤ k) (hf : k < i + f) (hp : P k) (hn : ∀ j, i ≤ j → j < k → ¬ P j) : scan P f i = k := by
  induction f generalizing i with
  | zero => omega
  | succ f ih =>
    simp only [scan]
    by_cases e : k = i
    · subst e; rw [if_pos hp]
    · rw [if_neg (hn i (Nat.le_refl _) (by omega))]
      exact ih (by omega) (by omega) (fun j h1 h2 => hn j (by omega) h2)

theorem scan_cases {P : Nat → Prop} [DecidablePred P] (f i : Nat) : scan P f i = -1 ∨ ∃ k, i ≤ k ∧ k < i + f ∧ P k ∧ (∀ j, i ≤ j → j < k → ¬ P j) ∧ scan P f i = k := by
  induction f generalizing i with
  | zero => exact .inl rfl
  | succ f ih =>
    simp only [scan]
    by_cases h : P i
    · rw [if_pos h]
      exact .inr ⟨i, Nat.le_refl _, by omega, h, fun j h1 h2 => by omega, rfl⟩
    · rw [if_neg h]
      rcases ih (i + 1) with e | ⟨k, h1, h2, h3, h4, h5⟩
      · exact .inl e
      · refine .inr ⟨k, by omega, by omega, h3, fun j j1 j2 => ?_, h5⟩
        by_cases e : j = i
        · subst e; exact h
        · exact h4 j (by omega) j2

theorem scan_congr {P Q : Nat → Prop} [DecidablePred P] [DecidablePred Q] (f i : Nat) (h : ∀ j, i ≤ j → j < i + f → (P j ↔ Q j)) : scan P f i = scan Q f i := by
  induction f generalizing i with
  | zero => rfl
  | succ f ih =>
    simp only [scan]
    rw [ih (i + 1) (fun j h1 h2 => h j (by omega) (by omega))]
    by_cases hp : P i
    · rw [if_pos hp, if_pos ((h i (Nat.le_refl _) (by omega)).1 hp)]
    · rw [if_neg hp, if_neg (fun hq => hp ((h i (Nat.le_refl _) (by omega)).2 hq))]

theorem scan_snoc {P : Nat → Prop} [DecidablePred P] (f i : Nat) : scan P (f + 1) i = if scan P f i < 0 then (if P (i + f) then ((i + f : Nat) : Int) else -1) else scan P f i := by
  rcases scan_cases (P := P) f i with e | ⟨k, h1, h2, h3, h4, h5⟩
  · have hn := scan_none.1 (show scan P f i < 0 by omega)
    rw [if_pos (by omega)]
    by_cases hp : P (i + f)
    · rw [if_pos hp]
      exact scan_some (by omega) (by omega) hp (fun j j1 j2 => hn j j1 j2)
    · rw [if_neg hp]
      rcases scan_cases (P := P) (f + 1) i with e | ⟨k, h1, h2, h3, h4, h5⟩
      · exact e
      · by_cases e : k = i + f
        · subst e; exact absurd h3 hp
        · exact absurd h3 (hn k h1 (by omega))
  · rw [if_neg (by omega), h5]
    exact scan_some h1 (by omega) h3 h4

/-- A slice of one cell an element that reads as these values. -/
def RdV (w : World) (v : Value) (xs : List Value) : Prop :=
  ∃ ao cap, v = .slice ao xs.length cap ∧ xs.length ≤ cap ∧ cap ≤ maxLen ∧ (ao = none → cap = 0) ∧ (0 < xs.length → ∃ g off, ao = some ⟨g, off, none⟩ ∧ ∀ i, (h : i < xs.length) → w.cell? ⟨g, off + i, none⟩ = some (xs[i]'h))

theorem RdV.below {C : Nat} {v : Value} {xs : List Value} {w w' : World} (h : RdV w v xs) (hC : w.heap.size ≤ C) (hb : Below C w w') : RdV w' v xs := by
  obtain ⟨ao, cap, rfl, h1, h2, h4, h3⟩ := h
  refine ⟨ao, cap, rfl, h1, h2, h4, fun h0 => ?_⟩
  obtain ⟨g, off, rfl, hg⟩ := h3 h0
  have hlt : g < w.heap.size := cell_lt (hg 0 h0)
  exact ⟨g, off, rfl, fun i hi => (hb.cell (p := ⟨g, off + i, none⟩) (by show g < C; omega)).trans (hg i hi)⟩

theorem RdV.drewN {v : Value} {xs : List Value} {w : World} (h : RdV w v xs) (q : Nat) : RdV (w.drewN q) v xs := h

theorem RdV.shape {v : Value} {xs : List Value} {w : World} (h : RdV w v xs) : ∃ ao cap, v = .slice ao xs.length cap := by
  obtain ⟨ao, cap, e, _⟩ := h
  exact ⟨ao, cap, e⟩

theorem RdV.cellAt {w : World} {ao : Option Addr} {n cap : Nat} {xs : List Value} (h : RdV w (.slice ao n cap) xs) (i : Nat) (hi : i < xs.length) : ∃ g off, ao = some ⟨g, off, none⟩ ∧ n = xs.length ∧ w.cell? ⟨g, off + i, none⟩ = some (xs[i]'hi) := by
  obtain ⟨ao', cap', e, _, _, _, h3⟩ := h
  simp only [Value.slice.injEq] at e
  obtain ⟨rfl, rfl, rfl⟩ := e
  obtain ⟨g, off, rfl, hg⟩ := h3 (by omega)
  exact ⟨g, off, rfl, rfl, hg i hi⟩

theorem inR_iff {n l h : Int} : inR n l h = true ↔ l ≤ n ∧ n ≤ h := by unfold inR; simp

theorem inR_no {n l h : Int} : inR n l h = false ↔ ¬ (l ≤ n ∧ n ≤ h) := by unfold inR; simp

/-- A block that is not stored to reads as before. -/
theorem cell_far {w : World} {b g : Nat} (h : g ≠ b) (o o' : Nat) (x : Value) : (w.setCell ⟨b, o, none⟩ x).cell? ⟨g, o', none⟩ = w.cell? ⟨g, o', none⟩ :=
  World.cell?_of_block (w := w) (w' := w.setCell ⟨b, o, none⟩ x) (a := ⟨g, o', none⟩) (Below.heap_setCell w ⟨b, o, none⟩ x g h)

theorem frozen_far {w : World} {b g : Nat} (h : g ≠ b) (o o' : Nat) (x : Value) : (w.setCell ⟨b, o, none⟩ x).frozen? ⟨g, o', none⟩ = w.frozen? ⟨g, o', none⟩ :=
  World.frozen?_of_block (w := w) (w' := w.setCell ⟨b, o, none⟩ x) (a := ⟨g, o', none⟩) (Below.heap_setCell w ⟨b, o, none⟩ x g h)

theorem rdv_far {w : World} {g n cap b : Nat} {xs : List Value} (h : RdV w (.slice (some ⟨g, 0, none⟩) n cap) xs) (hne : g ≠ b) (o : Nat) (x : Value) : RdV (w.setCell ⟨b, o, none⟩ x) (.slice (some ⟨g, 0, none⟩) n cap) xs := by
  obtain ⟨ao, cap', e, h1, h2, h4, h3⟩ := h
  refine ⟨ao, cap', e, h1, h2, h4, fun h0 => ?_⟩
  obtain ⟨g', off, rfl, hg⟩ := h3 h0
  simp only [Value.slice.injEq, Option.some.injEq, Addr.mk.injEq, and_true] at e
  obtain ⟨⟨rfl, rfl⟩, rfl, rfl⟩ := e
  exact ⟨g, 0, rfl, fun i hi => (cell_far hne _ _ _).trans (hg i hi)⟩

theorem rdv_set {w : World} {g n cap : Nat} {xs : List Value} (h : RdV w (.slice (some ⟨g, 0, none⟩) n cap) xs) (i : Nat) (hi : i < xs.length) (hf : w.frozen? ⟨g, i, none⟩ = false) (x : Value) : RdV (w.setCell ⟨g, i, none⟩ x) (.slice (some ⟨g, 0, none⟩) n cap) (xs.set i x) := by
  obtain ⟨ao, cap', e, h1, h2, h4, h3⟩ := h
  obtain ⟨g', off, rfl, hg⟩ := h3 (by omega)
  simp only [Value.slice.injEq, Option.some.injEq, Addr.mk.injEq, and_true] at e
  obtain ⟨⟨rfl, rfl⟩, rfl, rfl⟩ := e
  refine ⟨_, cap, by simp, by simpa using h1, h2, by simp, fun _ => ⟨g, 0, rfl, fun j hj => ?_⟩⟩
  have hj' : j < xs.length := by simpa using hj
  have hc := hg j hj'
  have hci := hg i hi
  simp only [Nat.zero_add] at hc hci ⊢
  by_cases e : i = j
  · subst e
    simp [go_sem, hci]
  · have e' : ¬ j = i := fun h => e h.symm
    simp [go_sem, hc, hci, e, e']

theorem frozen_set {w : World} {b : Nat} (h : ∀ o, w.frozen? ⟨b, o, none⟩ = false) (g o : Nat) (x : Value) (hg : ∀ o, w.frozen? ⟨g, o, none⟩ = false) : ∀ o', (w.setCell ⟨b, o, none⟩ x).frozen? ⟨g, o', none⟩ = false := by
  intro o'
  rw [← hg o']
  simp [go_sem]

theorem infoBool : (Try.prog.info? 4).map (fun i => (i.zero, i.size, i.bytes)) = some (some (.bool false), 1, 1) := by kernel_rfl

theorem infoInt : (Try.prog.info? 3).map (fun i => (i.zero, i.size, i.bytes)) = some (some (.int .i64 0), 1, 8) := by kernel_rfl

/-- A row of n elements of one cell each, or of four. -/
def OwnV (B : Nat) (T : TypeId) (z : Nat) (v : Value) (n : Nat) (xs : List Value) (w : World) : Prop := w.ownsRow B T z v n xs ∧ B ≤ w.heap.size

theorem OwnV.below {B C T z : Nat} {v : Value} {n : Nat} {xs : List Value} {w w' : World} (h : OwnV B T z v n xs w) (hC : w.heap.size ≤ C) (hb : Below C w w') : OwnV B T z v n xs w' := by
  obtain ⟨⟨h1, h2⟩, h4⟩ := h
  refine ⟨⟨h1, ?_⟩, Nat.le_trans h4 hb.size⟩
  rcases h2 with h2 | ⟨g, cap, cur, r1, r2, r3, r4⟩
  · exact .inl h2
  · have hg : g < w.heap.size := by
      rcases Nat.lt_or_ge g w.heap.size with hg | hg
      · exact hg
      · rw [Array.getElem?_eq_none hg] at r3; simp at r3
    exact .inr ⟨g, cap, cur, r1, r2, by rw [hb.block g (by omega)]; exact r3, r4⟩

theorem OwnV.mono {B C T z : Nat} {v : Value} {n : Nat} {xs : List Value} {w : World} (h : OwnV B T z v n xs w) (hC : C ≤ B) : OwnV C T z v n xs w := by
  obtain ⟨⟨h1, h2⟩, h4⟩ := h
  refine ⟨⟨h1, ?_⟩, by omega⟩
  rcases h2 with h2 | ⟨g, cap, cur, r1, r2, r3⟩
  · exact .inl h2
  · exact .inr ⟨g, cap, cur, r1, by omega, r3⟩

theorem OwnV.shape {B T z : Nat} {v : Value} {n : Nat} {xs : List Value} {w : World} (h : OwnV B T z v n xs w) : ∃ ao cap, v = .slice ao n cap := by
  rcases h.1.2 with ⟨h1, h2⟩ | ⟨g, cap, cur, r1, r2⟩
  · exact ⟨none, 0, by rw [h1, h2]⟩
  · exact ⟨_, cap, r1⟩

theorem ownV_nil (B T z : Nat) (w : World) (hB : B ≤ w.heap.size) : OwnV B T z (.slice none 0 0) 0 [] w := ⟨World.ownsRow_nil w B _ z, hB⟩

theorem ownV_none (w : World) (T z : Nat) : OwnV w.heap.size T z (.slice (some ⟨w.heap.size, 0, none⟩) 0 0) 0 [] (w.alloc (.cells #[] T)) := by
  refine ⟨?_, by simp⟩
  have := World.ownsRow_lit (e := T) (size := z) (base := w.heap.size) w #[] 0 (Nat.le_refl _) (by simp [maxLen]) (by simp)
  simpa using this

/-- Its block, where it has elements. -/
theorem OwnV.form {B T z : Nat} {v : Value} {n : Nat} {xs : List Value} {w : World} (h : OwnV B T z v n xs w) (h0 : 0 < n) : ∃ g cap, v = .slice (some ⟨g, 0, none⟩) n cap ∧ B ≤ g ∧ g < w.heap.size ∧ n ≤ cap ∧ cap ≤ maxLen ∧ (∀ o, w.frozen? ⟨g, o, none⟩ = false) ∧ ∀ j, j < n * z → w.cell? ⟨g, j, none⟩ = xs[j]? := by
  have h1 := h.1
  rcases h.1.2 with ⟨_, h2⟩ | ⟨g, cap, cur, rfl, r2, r3, r4, r5, _⟩
  · omega
  · exact ⟨g, cap, rfl, r2, (Array.getElem?_eq_some_iff.1 r3).1, r4, r5, fun o => h1.frozenAt o, fun j hj => h1.cellAt j hj⟩

theorem OwnV.rdv {B T : Nat} {v : Value} {n : Nat} {xs : List Value} {w : World} (h : OwnV B T 1 v n xs w) : RdV w v xs := by
  have hl : xs.length = n := by have := h.1.1; omega
  rcases h.1.2 with ⟨rfl, h2⟩ | ⟨g, cap, cur, rfl, r2, r3, r4, r5, _⟩
  · exact ⟨none, 0, by rw [hl, h2], by omega, by simp [maxLen], fun _ => rfl, fun h => by omega⟩
  · refine ⟨_, cap, by rw [hl], by omega, r5, by simp, fun _ => ⟨g, 0, rfl, fun i hi => ?_⟩⟩
    have := h.1.cellAt i (by omega)
    rw [Nat.zero_add, this]
    simp [hi]

theorem OwnV.blk {B T z : Nat} {v : Value} {n : Nat} {xs : List Value} {w : World} (h : OwnV B T z v n xs w) (k : Nat) (hk : v.ownBlock = some k) : B ≤ k ∧ k < w.heap.size := h.1.lt k hk

theorem OwnV.far {B T z : Nat} {v : Value} {n : Nat} {xs : List Value} {w : World} (h : OwnV B T z v n xs w) {b : Nat} (hb : v.ownBlock ≠ some b) (o : Nat) (x : Value) : OwnV B T z v n xs (w.setCell ⟨b, o, none⟩ x) := by
  obtain ⟨⟨h1, h2⟩, h4⟩ := h
  refine ⟨⟨h1, ?_⟩, by simpa using h4⟩
  rcases h2 with h2 | ⟨g, cap, cur, rfl, r2, r3, r4⟩
  · exact .inl h2
  · have hne : g ≠ b := fun e => hb (by simp [Value.ownBlock, e])
    exact .inr ⟨g, cap, cur, rfl, r2, by rw [Below.heap_setCell w ⟨b, o, none⟩ x g hne]; exact r3, r4⟩

theorem OwnV.stored {B T z g n cap : Nat} {xs : List Value} {w : World} (h : OwnV B T z (.slice (some ⟨g, 0, none⟩) n cap) n xs w) (j : Nat) (u : Value) : OwnV B T z (.slice (some ⟨g, 0, none⟩) n cap) n (xs.set j u) (w.setCell ⟨g, j, none⟩ u) :=
  ⟨(h.1.stored j u).1, by simpa using h.2⟩

section
variable {w : World} {ops : Array Oper} {rest : List Oper} {o : Oper} {a : Act} {Q : Exit → Act → World → Prop}

end

section
variable {w : World} {ops : Array Oper} {rest : List Oper} {o : Oper} {a : Act} {Q : Exit → Act → World → Prop}

theorem wp_appI (hgd : o.guard = none) (s x : Operand)
    (ho : o.op = .call { callee := .builtin .append, args := #[s, x], argTypes := #[53, 53] })
    (B : Nat) (v : Value) (n : Nat) (xs : List Value) (hs : a.eval s = v) (hown : OwnV B 3 1 v n xs w) (ad : Addr) (m cap : Nat) (bs : List Int) (hx : a.eval x = .slice (some ad) m cap) (hr : RdV w (.slice (some ad) m cap) (bs.map (Value.int .i64))) (hlen : (n + m) * 8 ≤ 140737488355328)
    (h : ∀ v' w', OwnV B 3 1 v' (n + m) (xs ++ bs.map (Value.int .i64)) w' → Below B w w' → wpList Try.prog ops Q rest (a.put o.dst v') w') : wpList Try.prog ops Q (o :: rest) a w := by
  obtain ⟨i, hi, hz0, hz1, hz2⟩ := info_parts infoInt
  obtain ⟨ao, c', e, h1, h2, h4, h3⟩ := hr
  simp only [Value.slice.injEq] at e
  obtain ⟨rfl, rfl, rfl⟩ := e
  rw [List.length_map] at *
  refine wpList_append_own w hgd s x _ ho B _ i (.int .i64 0) 1 8 Try.underlying53 hi hz0 hz1 hz2 rfl (by decide) v _ _ hs hown.1 ad _ cap (bs.map (Value.int .i64)) hx (by simp) ?_ ?_ (by unfold maxLen; omega) (by omega) hown.2 ?_
  · intro j u hj
    have hj' : j < bs.length := by
      have := (List.getElem?_eq_some_iff.1 hj).1
      simpa using this
    obtain ⟨b, off, e, hc'⟩ := h3 (by first | omega | (rw [List.length_map]; omega))
    obtain rfl := Option.some.inj e
    rw [Addr.add_lit, hc' j (by simpa using hj')]
    simp [hj'] at hj
    subst hj
    simp
  · intro u hu
    simp at hu
    obtain ⟨n, _, rfl⟩ := hu
    rfl
  · intro v' w' ho' hg _
    exact h v' w' ⟨ho', Nat.le_trans hown.2 hg.size⟩ ((Below.refl B w).grown hg hown.2 (fun k hk => (hown.1.lt k hk).1))

end

set_option maxRecDepth 100000 in
set_option maxHeartbeats 1000000 in
theorem cloneI_none (w : World) : Calls Try.prog 58 #[.slice none 0 0] w fun e w' => ∃ v, e = .returned v ∧ OwnV w.heap.size 3 1 v 0 [] w' ∧ Below w.heap.size w w' := by
  have e0 := Lib.run_eql_slice_nil_nil (P := Try.prog) w (t := 53) 0 0 Try.underlying53
  go_enter Try.func58, Try.ntmps58
  go_wp2
  go_ret
  exact ⟨_, rfl, ownV_nil _ _ _ _ (Nat.le_refl _), Below.refl _ _⟩

set_option maxRecDepth 100000 in
set_option maxHeartbeats 1000000 in
theorem cloneI_some (bs : List Int) (ad : Addr) (m cap : Nat) (w : World) (hl : m * 8 ≤ 140737488355328) (h : RdV w (.slice (some ad) m cap) (bs.map (Value.int .i64))) : Calls Try.prog 58 #[.slice (some ad) m cap] w fun e w' => ∃ v, e = .returned v ∧ OwnV w.heap.size 3 1 v m (bs.map (Value.int .i64)) w' ∧ Below w.heap.size w w' := by
  have e0 := Lib.run_eql_slice_some_nil (P := Try.prog) w (t := 53) ad m cap Try.underlying53
  have H : Hid (RdV w (.slice (some ad) m cap) (bs.map (Value.int .i64))) := h
  have o0 := ownV_none w 3 1
  clear h
  go_enter Try.func58, Try.ntmps58
  go_wp2_with (at_builtin; refine wp_appI rfl _ _ rfl _ _ _ _ rfl o0 _ _ _ bs rfl (H.out.below (Nat.le_refl _) (bbox _ _)) (by omega) ?_)
  intro v' w' hown hb
  clear o0 H
  go_wp2
  go_ret
  exact ⟨_, rfl, by simpa using hown, (bbox _ _).trans hb⟩

theorem cloneI_any (bs : List Int) (v : Value) (w : World) (hl : bs.length * 8 ≤ 140737488355328) (h : RdV w v (bs.map (Value.int .i64))) : Calls Try.prog 58 #[v] w fun e w' => ∃ v', e = .returned v' ∧ OwnV w.heap.size 3 1 v' bs.length (bs.map (Value.int .i64)) w' ∧ Below w.heap.size w w' := by
  have H := h
  obtain ⟨ao, cap, rfl, h1, h2, h4, h3⟩ := h
  cases ao with
  | none =>
    obtain rfl := h4 rfl
    have hb : bs = [] := List.eq_nil_of_length_eq_zero (by rw [List.length_map] at h1; omega)
    subst hb
    exact cloneI_none w
  | some ad => simp only [List.length_map] at H ⊢; exact cloneI_some bs ad _ cap w hl H

theorem OwnV.grown {B T z : Nat} {v : Value} {n : Nat} {xs : List Value} {w w' : World} {r : Option Nat} (h : OwnV B T z v n xs w) (hg : w.grownBy w' r) (hne : ∀ k, v.ownBlock = some k → r ≠ some k) : OwnV B T z v n xs w' := by
  obtain ⟨⟨h1, h2⟩, h4⟩ := h
  refine ⟨⟨h1, ?_⟩, Nat.le_trans h4 hg.size⟩
  rcases h2 with h2 | ⟨g, cap, cur, rfl, r2, r3, r4⟩
  · exact .inl h2
  · have hlt : g < w.heap.size := (Array.getElem?_eq_some_iff.1 r3).1
    exact .inr ⟨g, cap, cur, rfl, r2, by rw [hg.block g hlt (fun e => hne g rfl e.symm)]; exact r3, r4⟩

theorem grown_below {w w' : World} (h : Below w.heap.size w w') (r : Option Nat) : w.grownBy w' r := ⟨h.os, h.tape, h.output, h.size, fun k hk _ => h.block k hk⟩

theorem grown_far {w w' : World} {r : Option Nat} (h : w.grownBy w' r) {b : Nat} (hb : w.heap.size ≤ b) (o : Nat) (x : Value) : w.grownBy (w'.setCell ⟨b, o, none⟩ x) r :=
  ⟨h.os, h.tape, h.output, by simpa using h.size, fun k hk hr => (Below.heap_setCell w' ⟨b, o, none⟩ x k (by show k ≠ b; omega)).trans (h.block k hk hr)⟩

theorem grown_set {w w' : World} {g : Nat} (h : w.grownBy w' (some g)) (o : Nat) (x : Value) : w.grownBy (w'.setCell ⟨g, o, none⟩ x) (some g) :=
  ⟨h.os, h.tape, h.output, by simpa using h.size, fun k hk hr => (Below.heap_setCell w' ⟨g, o, none⟩ x k (fun e => hr (congrArg some e))).trans (h.block k hk hr)⟩

theorem below_grown {B : Nat} {w0 w w' : World} {v : Value} (h : Below B w0 w) (hg : w.grownBy w' v.ownBlock) (hB : B ≤ w.heap.size) (hk : ∀ k, v.ownBlock = some k → B ≤ k) : Below B w0 w' := h.grown hg hB hk

section
variable {w : World} {ops : Array Oper} {o : Oper} {a : Act} {K : Act → World → Prop} {Q : Exit → Act → World → Prop} {E : Prop}

theorem step_rowI (hgd : o.guard = none) (s x : Operand)
    (ho : o.op = .call { callee := .builtin .append, args := #[s, x], argTypes := #[53, 53] })
    (B : Nat) (v : Value) (n : Nat) (xs : List Value) (hs : a.eval s = v) (hown : OwnV B 3 1 v n xs w) (g : Nat) (hx : a.eval x = .slice (some ⟨g, 0, none⟩) 1 1) (b : Int) (hc : w.cell? ⟨g, 0, none⟩ = some (.int .i64 b)) (hlen : (n + 1) * 8 ≤ 140737488355328) (H : Nat) (hH : w.heap.size = H)
    (h : ∀ g' cap w', OwnV B 3 1 (.slice (some ⟨g', 0, none⟩) (n + 1) cap) (n + 1) (xs ++ [.int .i64 b]) w' → w.grownBy w' v.ownBlock → (v.ownBlock = some g' ∨ g' = H) → g' < w'.heap.size → K (a.put o.dst (.slice (some ⟨g', 0, none⟩) (n + 1) cap)) w') :
    if Region.wanted o (yielded ops a.tmps) = true then Oper.wp Try.prog o a w K Q else E := by
  obtain ⟨i, hi, hz0, hz1, hz2⟩ := info_parts infoInt
  refine step_append_lies _ hgd s x _ ho B _ i (.int .i64 0) 1 8 Try.underlying53 hi hz0 hz1 hz2 rfl (by decide) v n xs hs hown.1 ⟨g, 0, none⟩ 1 1 [.int .i64 b] hx rfl ?_ ?_ (by omega) (by unfold maxLen; omega) (by omega) hown.2 H hH ?_
  · intro j u hj
    have hj' : j < 1 := by simpa using (List.getElem?_eq_some_iff.1 hj).1
    obtain rfl : j = 0 := by omega
    rw [Addr.add_lit]
    simp at hj
    subst hj
    exact hc
  · intro u hu
    simp at hu
    subst hu
    rfl
  · intro g' cap w' ho' hg hat hlt
    exact h g' cap w' ⟨ho', Nat.le_trans hown.2 hg.size⟩ hg hat hlt

end

section
variable {w : World} {ops : Array Oper} {rest : List Oper} {o : Oper} {a : Act} {Q : Exit → Act → World → Prop}

theorem wp_rowI (hgd : o.guard = none) (s x : Operand)
    (ho : o.op = .call { callee := .builtin .append, args := #[s, x], argTypes := #[53, 53] })
    (B : Nat) (v : Value) (n : Nat) (xs : List Value) (hs : a.eval s = v) (hown : OwnV B 3 1 v n xs w) (g : Nat) (hx : a.eval x = .slice (some ⟨g, 0, none⟩) 1 1) (b : Int) (hc : w.cell? ⟨g, 0, none⟩ = some (.int .i64 b)) (hlen : (n + 1) * 8 ≤ 140737488355328) (H : Nat) (hH : w.heap.size = H)
    (h : ∀ g' cap w', OwnV B 3 1 (.slice (some ⟨g', 0, none⟩) (n + 1) cap) (n + 1) (xs ++ [.int .i64 b]) w' → w.grownBy w' v.ownBlock → (v.ownBlock = some g' ∨ g' = H) → g' < w'.heap.size → wpList Try.prog ops Q rest (a.put o.dst (.slice (some ⟨g', 0, none⟩) (n + 1) cap)) w') :
    wpList Try.prog ops Q (o :: rest) a w := by
  obtain ⟨i, hi, hz0, hz1, hz2⟩ := info_parts infoInt
  refine wpList_append_lies _ hgd s x _ ho B _ i (.int .i64 0) 1 8 Try.underlying53 hi hz0 hz1 hz2 rfl (by decide) v n xs hs hown.1 ⟨g, 0, none⟩ 1 1 [.int .i64 b] hx rfl ?_ ?_ (by omega) (by unfold maxLen; omega) (by omega) hown.2 H hH ?_
  · intro j u hj
    have hj' : j < 1 := by simpa using (List.getElem?_eq_some_iff.1 hj).1
    obtain rfl : j = 0 := by omega
    rw [Addr.add_lit]
    simp at hj
    subst hj
    exact hc
  · intro u hu
    simp at hu
    subst hu
    rfl
  · intro g' cap w' ho' hg hat hlt
    exact h g' cap w' ⟨ho', Nat.le_trans hown.2 hg.size⟩ hg hat hlt

end

end Go.Proofs.Ytmkbbhdmfpjfdaa
