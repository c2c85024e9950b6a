/-
  Plain lists of entries: what they tell of a producer, which entry may come, what is stable, what is read (the document's chapter 3).
  The walks of the document's verOf, seqOf, markOf, openOf.
  The walk of the document's CheckedOf.
  The walk of the document's StableOf.
-/
import Derived.Test.YtdpiijndnefahaaAdec
import Derived.Deep.QuietTactic
import Derived.BigQuiet
namespace Go.Proofs.Ytdpiijndnefahaa

section
open Go.RowKit
set_option linter.unusedVariables false

/-- The entry at a place. -/
def Ent.at (es : List Ent) (i : Nat) : Ent := es.getD i zeroE
theorem at_get {es : List Ent} {i : Nat} (h : i < es.length) : Ent.at es i = es[i]'h := by simp [Ent.at, List.getD, h]

/-- The version of a producer, by the first k entries. -/
def verK (es : List Ent) (p : Int) : Nat → Int
  | 0 => -1
  | k + 1 => if (Ent.at es k).b = p then (Ent.at es k).c else verK es p k
/-- Its number and its version, by the first k entries. -/
def seqK (es : List Ent) (p : Int) : Nat → Int × Int
  | 0 => (-1, -1)
  | k + 1 =>
    if (Ent.at es k).b = p then
      (if (Ent.at es k).k = 1 then (Ent.at es k).d else if (Ent.at es k).c = (seqK es p k).2 then (seqK es p k).1 else -1, (Ent.at es k).c)
    else seqK es p k
/-- The place of its last mark among the first k entries. -/
def markK (es : List Ent) (p : Int) : Nat → Int
  | 0 => -1
  | k + 1 => if (Ent.at es k).b = p ∧ (Ent.at es k).k ≠ 1 then k else markK es p k
abbrev isTxn (es : List Ent) (p : Int) (i : Nat) : Prop := (Ent.at es i).b = p ∧ (Ent.at es i).t = true ∧ (Ent.at es i).k = 1
/-- Where its transaction begins, by the first n entries; -1: none is open. -/
def openN (es : List Ent) (p : Int) (n : Nat) : Int := scan (isTxn es p) (n - (markK es p n + 1).toNat) (markK es p n + 1).toNat
abbrev isTwin (es : List Ent) (x : Ent) (i : Nat) : Prop := (Ent.at es i).k = 1 ∧ (Ent.at es i).b = x.b ∧ (Ent.at es i).c = x.c ∧ (Ent.at es i).d = x.d
/-- What P3.3 answers: a place, and an error. -/
def chk (es : List Ent) (x : Ent) : Int × Int :=
  if x.b = 0 then (-1, 0)
  else if x.c < verK es x.b es.length then (0, 10)
  else if x.k ≠ 1 then
    (if 0 ≤ markK es x.b es.length ∧ openN es x.b es.length < 0 ∧ (Ent.at es (markK es x.b es.length).toNat).k = x.k ∧ (Ent.at es (markK es x.b es.length).toNat).c = x.c then markK es x.b es.length else -1, 0)
  else
    let s := if x.c = verK es x.b es.length then (seqK es x.b es.length).1 else -1
    if x.d = s + 1 then (-1, 0)
    else if s + 1 < x.d then (0, 11)
    else if scan (isTwin es x) es.length 0 < 0 then (0, 11)
    else (scan (isTwin es x) es.length 0, 0)
/-- Does a transaction that is open in the first h entries begin there? -/
abbrev begins (es : List Ent) (h i : Nat) : Prop := 0 < (Ent.at es i).b ∧ (Ent.at es i).k = 1 ∧ (Ent.at es i).t = true ∧ openN es (Ent.at es i).b h = i
/-- What P3.4 answers for a height that may be. -/
def stb (es : List Ent) (h : Nat) : Nat := if scan (begins es h) h 0 < 0 then h else (scan (begins es h) h 0).toNat
abbrev isMark (es : List Ent) (p : Int) (i : Nat) : Prop := (Ent.at es i).b = p ∧ (Ent.at es i).k ≠ 1
/-- Is the entry at a place one that is read, by the first h entries? -/
def seen (es : List Ent) (h i : Nat) : Bool :=
  if (Ent.at es i).k ≠ 1 then false
  else if (Ent.at es i).t = false then true
  else if scan (isMark es (Ent.at es i).b) (h - (i + 1)) (i + 1) < 0 then false
  else (Ent.at es (scan (isMark es (Ent.at es i).b) (h - (i + 1)) (i + 1)).toNat).k == 2
/-- What is read: texts, and the place behind the last one that was looked at. -/
def rdF (es : List Ent) (h fin : Nat) : Nat → Nat → Nat → List ByteArray × Nat
  | 0, i, _ => ([], i)
  | f + 1, i, m =>
    if fin ≤ i ∨ m = 0 then ([], i)
    else if seen es h i then ((Ent.at es i).s :: (rdF es h fin f (i + 1) (m - 1)).1, (rdF es h fin f (i + 1) (m - 1)).2)
    else rdF es h fin f (i + 1) m

/-- Nobody's entries are of no transaction. -/
def NoTx (es : List Ent) : Prop := ∀ e ∈ es, e.b = 0 → e.t = false


theorem markK_bd (es : List Ent) (p : Int) (k : Nat) : -1 ≤ markK es p k ∧ markK es p k < k := by
  induction k with
  | zero => simp [markK]
  | succ k ih =>
    simp only [markK]
    split <;> omega
end

section
open Go.RowKit
set_option linter.unusedVariables false
set_option linter.unusedSimpArgs false

/-- A slice of entries, wherever it begins, that reads as es. -/
def RdX (w : World) (v : Value) (es : List Ent) : Prop :=
  ∃ ao cap, v = .slice ao es.length cap ∧ es.length ≤ cap ∧ cap ≤ maxLen ∧ (ao = none → cap = 0) ∧ (0 < es.length → ∃ g off, ao = some ⟨g, off, none⟩ ∧ ∀ i, (h : i < es.length) → ∀ j, j < 7 → w.cell? ⟨g, off + i * 7 + j, none⟩ = (es[i]'h).cells[j]?)
theorem RdX.below {C : Nat} {v : Value} {es : List Ent} {w w' : World} (h : RdX w v es) (hC : w.heap.size ≤ C) (hb : Below C w w') : RdX w' v es := by
  obtain ⟨ao, cap, rfl, h1, h2, h4, h3⟩ := h
  refine ⟨ao, cap, rfl, h1, h2, h4, fun h0 => ?_⟩
  obtain ⟨g, off, rfl, hg⟩ := h3 h0
  have hlt : g < w.heap.size := by
    have := hg 0 h0 0 (by omega)
    exact cell_lt (v := .int .i64 (es[0]'h0).a) (by simpa [Ent.cells] using this)
  exact ⟨g, off, rfl, fun i hi j hj => by rw [hb.cell (p := ⟨g, off + i * 7 + j, none⟩) (by show g < C; omega)]; exact hg i hi j hj⟩
theorem RdX.cells {w : World} {g off : Nat} {es : List Ent} (hg : ∀ i, (h : i < es.length) → ∀ j, j < 7 → w.cell? ⟨g, off + i * 7 + j, none⟩ = (es[i]'h).cells[j]?) (i : Nat) (h : i < es.length) :
    w.cell? ⟨g, off + i * 7, none⟩ = some (.int .i64 (Ent.at es i).a) ∧ w.cell? ⟨g, off + i * 7 + 1, none⟩ = some (.int .i64 (Ent.at es i).b) ∧ w.cell? ⟨g, off + i * 7 + 2, none⟩ = some (.int .i64 (Ent.at es i).c) ∧ w.cell? ⟨g, off + i * 7 + 3, none⟩ = some (.int .i64 (Ent.at es i).d) ∧ w.cell? ⟨g, off + i * 7 + 4, none⟩ = some (.int .i64 (Ent.at es i).k) ∧ w.cell? ⟨g, off + i * 7 + 5, none⟩ = some (.bool (Ent.at es i).t) ∧ w.cell? ⟨g, off + i * 7 + 6, none⟩ = some (.string (Ent.at es i).s) := by
  rw [at_get h]
  exact seven (hg i h)

set_option maxRecDepth 100000 in
set_option maxHeartbeats 1000000 in
theorem verOf_some (es : List Ent) (g off cap : Nat) (p : Int) (w : World) (hl : (es.length : Int) ≤ 2199023255552)
    (hc : ∀ i, (h : i < es.length) → ∀ j, j < 7 → w.cell? ⟨g, off + i * 7 + j, none⟩ = (es[i]'h).cells[j]?) :
    Calls Try.prog 36 #[.slice (some ⟨g, off, none⟩) es.length cap, .int .i64 p] w fun e w' => e = .returned (.int .i64 (verK es p es.length)) ∧ w' = w := by
  have HC : Hid _ := hc
  clear hc
  go_enter Try.func36, Try.ntmps36
  go_wp2
  go_loop [5, 6] (fun v i => ∃ k : Nat, k ≤ es.length ∧ i = .int .i64 k ∧ v = .int .i64 (verK es p k)) (fun _ i => es.length - (intOf i).toNat)
  case atStart => exact ⟨0, by omega, rfl, rfl⟩
  case round =>
    obtain ⟨k, hk, rfl, rfl⟩ := hrel
    by_cases hlt : k < es.length
    · obtain ⟨q0, q1, q2, q3, q4, q5, q6⟩ := RdX.cells HC.out k hlt
      have HS : Hid (verK es p (k + 1) = if (Ent.at es k).b = p then (Ent.at es k).c else verK es p k) := show _ = _ from rfl
      generalize Ent.at es k = x at *
      by_cases hp : x.b = p
      · have hp' : (x.b == p) = true := by simp [hp]
        rw [if_pos hp] at HS
        have HP : Hid _ := hp
        clear hp
        go_wp2
        go_round
        case rel => exact ⟨k + 1, by omega, by go_num, by rw [HS.out]⟩
        case measure => simp [intOf]; omega
      · have hp' : (x.b == p) = false := by simp [hp]
        rw [if_neg hp] at HS
        clear hp
        go_wp2
        go_round
        case rel => exact ⟨k + 1, by omega, by go_num, by rw [HS.out]⟩
        case measure => simp [intOf]; omega
    · have hke : k = es.length := by omega
      subst hke
      go_wp2
      go_ret
      exact ⟨rfl, rfl⟩

set_option maxRecDepth 100000 in
set_option maxHeartbeats 400000 in
theorem verOf_none (ao : Option Addr) (cap : Nat) (p : Int) (w : World) :
    Calls Try.prog 36 #[.slice ao 0 cap, .int .i64 p] w fun e w' => e = .returned (.int .i64 (-1)) ∧ w' = w := by
  go_enter Try.func36, Try.ntmps36
  go_wp2
  refine wp_loop_rounds 1 ?_
  rw [rounds_succ]
  go_wp2
  go_ret
  exact ⟨rfl, rfl⟩

theorem verOf_any (es : List Ent) (v : Value) (p : Int) (w : World) (hl : (es.length : Int) ≤ 2199023255552) (h : RdX w v es) :
    Calls Try.prog 36 #[v, .int .i64 p] w fun e w' => e = .returned (.int .i64 (verK es p es.length)) ∧ w' = w := by
  obtain ⟨ao, cap, rfl, _, _, _, h1⟩ := h
  by_cases h0 : 0 < es.length
  · obtain ⟨g, off, rfl, h1'⟩ := h1 h0
    exact verOf_some es g off cap p w hl h1'
  · have hl : es = [] := List.eq_nil_of_length_eq_zero (by omega)
    subst hl
    exact verOf_none ao cap p w

set_option maxRecDepth 100000 in
set_option maxHeartbeats 1000000 in
theorem markOf_some (es : List Ent) (g off cap : Nat) (p : Int) (w : World) (hl : (es.length : Int) ≤ 2199023255552)
    (hc : ∀ i, (h : i < es.length) → ∀ j, j < 7 → w.cell? ⟨g, off + i * 7 + j, none⟩ = (es[i]'h).cells[j]?) :
    Calls Try.prog 37 #[.slice (some ⟨g, off, none⟩) es.length cap, .int .i64 p] w fun e w' => e = .returned (.int .i64 (markK es p es.length)) ∧ w' = w := by
  have HC : Hid _ := hc
  clear hc
  go_enter Try.func37, Try.ntmps37
  go_wp2
  go_loop [5, 6] (fun v i => ∃ k : Nat, k ≤ es.length ∧ i = .int .i64 k ∧ v = .int .i64 (markK es p k)) (fun _ i => es.length - (intOf i).toNat)
  case atStart => exact ⟨0, by omega, rfl, rfl⟩
  case round =>
    obtain ⟨k, hk, rfl, rfl⟩ := hrel
    by_cases hlt : k < es.length
    · obtain ⟨q0, q1, q2, q3, q4, q5, q6⟩ := RdX.cells HC.out k hlt
      have HS : Hid (markK es p (k + 1) = if (Ent.at es k).b = p ∧ (Ent.at es k).k ≠ 1 then (k : Int) else markK es p k) := show _ = _ from rfl
      generalize Ent.at es k = x at *
      have hpb : (x.b == p) = decide (x.b = p) := rfl
      have hkb : (x.k != 1) = decide (x.k ≠ 1) := by simp [bne]; rfl
      by_cases hp : x.b = p
      · have hp' : (x.b == p) = true := by simp [hp]
        by_cases hk1 : x.k = 1
        · have hk' : (x.k != 1) = false := by simp [hk1]
          rw [if_neg (fun h => h.2 hk1)] at HS
          clear hp hk1 hpb hkb
          go_wp2
          go_round
          case rel => exact ⟨k + 1, by omega, by go_num, by rw [HS.out]⟩
          case measure => simp [intOf]; omega
        · have hk' : (x.k != 1) = true := by simp [hk1]
          rw [if_pos ⟨hp, hk1⟩] at HS
          clear hp hk1 hpb hkb
          go_wp2
          go_round
          case rel => exact ⟨k + 1, by omega, by go_num, by rw [HS.out]⟩
          case measure => simp [intOf]; omega
      · have hp' : (x.b == p) = false := by simp [hp]
        rw [if_neg (fun h => hp h.1)] at HS
        clear hp hpb hkb
        go_wp2
        go_round
        case rel => exact ⟨k + 1, by omega, by go_num, by rw [HS.out]⟩
        case measure => simp [intOf]; omega
    · have hke : k = es.length := by omega
      subst hke
      go_wp2
      go_ret
      exact ⟨rfl, rfl⟩

set_option maxRecDepth 100000 in
set_option maxHeartbeats 400000 in
theorem markOf_none (ao : Option Addr) (cap : Nat) (p : Int) (w : World) :
    Calls Try.prog 37 #[.slice ao 0 cap, .int .i64 p] w fun e w' => e = .returned (.int .i64 (-1)) ∧ w' = w := by
  go_enter Try.func37, Try.ntmps37
  go_wp2
  refine wp_loop_rounds 1 ?_
  rw [rounds_succ]
  go_wp2
  go_ret
  exact ⟨rfl, rfl⟩

theorem markOf_any (es : List Ent) (v : Value) (p : Int) (w : World) (hl : (es.length : Int) ≤ 2199023255552) (h : RdX w v es) :
    Calls Try.prog 37 #[v, .int .i64 p] w fun e w' => e = .returned (.int .i64 (markK es p es.length)) ∧ w' = w := by
  obtain ⟨ao, cap, rfl, _, _, _, h1⟩ := h
  by_cases h0 : 0 < es.length
  · obtain ⟨g, off, rfl, h1'⟩ := h1 h0
    exact markOf_some es g off cap p w hl h1'
  · have hl : es = [] := List.eq_nil_of_length_eq_zero (by omega)
    subst hl
    exact markOf_none ao cap p w

set_option maxRecDepth 100000 in
set_option maxHeartbeats 2000000 in
theorem seqOf_some (es : List Ent) (g off cap : Nat) (p : Int) (w : World) (hl : (es.length : Int) ≤ 2199023255552)
    (hc : ∀ i, (h : i < es.length) → ∀ j, j < 7 → w.cell? ⟨g, off + i * 7 + j, none⟩ = (es[i]'h).cells[j]?) :
    Calls Try.prog 39 #[.slice (some ⟨g, off, none⟩) es.length cap, .int .i64 p] w fun e w' => e = .returned (.int .i64 (seqK es p es.length).1) ∧ w' = w := by
  have HC : Hid _ := hc
  clear hc
  go_enter Try.func39, Try.ntmps39
  go_wp2
  go_loop [5, 6, 7] (fun s v i => ∃ k : Nat, k ≤ es.length ∧ i = .int .i64 k ∧ s = .int .i64 (seqK es p k).1 ∧ v = .int .i64 (seqK es p k).2) (fun _ _ i => es.length - (intOf i).toNat)
  case atStart => exact ⟨0, by omega, rfl, rfl, rfl⟩
  case round =>
    obtain ⟨k, hk, rfl, rfl, rfl⟩ := hrel
    by_cases hlt : k < es.length
    · obtain ⟨q0, q1, q2, q3, q4, q5, q6⟩ := RdX.cells HC.out k hlt
      have HS : Hid (seqK es p (k + 1) = if (Ent.at es k).b = p then (if (Ent.at es k).k = 1 then (Ent.at es k).d else if (Ent.at es k).c = (seqK es p k).2 then (seqK es p k).1 else -1, (Ent.at es k).c) else seqK es p k) := show _ = _ from rfl
      generalize Ent.at es k = x at *
      generalize hss : (seqK es p k).1 = s at *
      generalize hvv : (seqK es p k).2 = v at *
      have HSV : Hid (seqK es p k = (s, v)) := show _ = _ from Prod.ext hss hvv
      clear hss hvv
      by_cases hp : x.b = p
      · have hp' : (x.b != p) = false := by simp [hp]
        rw [if_pos hp] at HS
        clear hp
        by_cases hc1 : x.c = v
        · have hc' : (x.c != v) = false := by simp [hc1]
          by_cases hk1 : x.k = 1
          · have hk' : (x.k == 1) = true := by simp [hk1]
            rw [if_pos hk1] at HS
            have HCV : Hid _ := hc1
            clear hk1 hc1
            go_wp2
            go_round
            case rel => exact ⟨k + 1, by omega, by go_num, by rw [HS.out], by rw [HS.out, HCV.out]⟩
            case measure => simp [intOf]; omega
          · have hk' : (x.k == 1) = false := by simp [hk1]
            rw [if_neg hk1, if_pos hc1] at HS
            have HCV : Hid _ := hc1
            clear hk1 hc1
            go_wp2
            go_round
            case rel => exact ⟨k + 1, by omega, by go_num, by rw [HS.out], by rw [HS.out, HCV.out]⟩
            case measure => simp [intOf]; omega
        · have hc' : (x.c != v) = true := by simp [hc1]
          by_cases hk1 : x.k = 1
          · have hk' : (x.k == 1) = true := by simp [hk1]
            rw [if_pos hk1] at HS
            clear hk1 hc1
            go_wp2
            go_round
            case rel => exact ⟨k + 1, by omega, by go_num, by rw [HS.out], by rw [HS.out]⟩
            case measure => simp [intOf]; omega
          · have hk' : (x.k == 1) = false := by simp [hk1]
            rw [if_neg hk1, if_neg hc1] at HS
            clear hk1 hc1
            go_wp2
            go_round
            case rel => exact ⟨k + 1, by omega, by go_num, by rw [HS.out], by rw [HS.out]⟩
            case measure => simp [intOf]; omega
      · have hp' : (x.b != p) = true := by simp [hp]
        rw [if_neg hp] at HS
        clear hp
        go_wp2
        go_round
        case rel => exact ⟨k + 1, by omega, by go_num, by rw [HS.out, HSV.out], by rw [HS.out, HSV.out]⟩
        case measure => simp [intOf]; omega
    · have hke : k = es.length := by omega
      subst hke
      go_wp2
      go_ret
      exact ⟨rfl, rfl⟩

set_option maxRecDepth 100000 in
set_option maxHeartbeats 400000 in
theorem seqOf_none (ao : Option Addr) (cap : Nat) (p : Int) (w : World) :
    Calls Try.prog 39 #[.slice ao 0 cap, .int .i64 p] w fun e w' => e = .returned (.int .i64 (-1)) ∧ w' = w := by
  go_enter Try.func39, Try.ntmps39
  go_wp2
  refine wp_loop_rounds 1 ?_
  rw [rounds_succ]
  go_wp2
  go_ret
  exact ⟨rfl, rfl⟩

theorem seqOf_any (es : List Ent) (v : Value) (p : Int) (w : World) (hl : (es.length : Int) ≤ 2199023255552) (h : RdX w v es) :
    Calls Try.prog 39 #[v, .int .i64 p] w fun e w' => e = .returned (.int .i64 ((seqK es p es.length).1)) ∧ w' = w := by
  obtain ⟨ao, cap, rfl, _, _, _, h1⟩ := h
  by_cases h0 : 0 < es.length
  · obtain ⟨g, off, rfl, h1'⟩ := h1 h0
    exact seqOf_some es g off cap p w hl h1'
  · have hl : es = [] := List.eq_nil_of_length_eq_zero (by omega)
    subst hl
    exact seqOf_none ao cap p w

set_option maxRecDepth 100000 in
set_option maxHeartbeats 2000000 in
theorem openOf_some (es : List Ent) (g off cap : Nat) (p : Int) (w : World) (hl : (es.length : Int) ≤ 2199023255552) (hr : RdX w (.slice (some ⟨g, off, none⟩) es.length cap) es)
    (hc : ∀ i, (h : i < es.length) → ∀ j, j < 7 → w.cell? ⟨g, off + i * 7 + j, none⟩ = (es[i]'h).cells[j]?) :
    Calls Try.prog 38 #[.slice (some ⟨g, off, none⟩) es.length cap, .int .i64 p] w fun e w' => e = .returned (.int .i64 (openN es p es.length)) ∧ w' = w := by
  have HC : Hid _ := hc
  have HR : Hid (RdX w (.slice (some ⟨g, off, none⟩) es.length cap) es) := hr
  have hmb := markK_bd es p es.length
  clear hc hr
  go_enter Try.func38, Try.ntmps38
  go_wp2_with fail
  refine (markOf_any es _ p w hl HR.out).mono ?_
  rintro e w' ⟨rfl, rfl⟩
  have HO : Hid (openN es p es.length = scan (isTxn es p) (es.length - (markK es p es.length + 1).toNat) (markK es p es.length + 1).toNat) := show _ = _ from rfl
  obtain ⟨m0, hm0⟩ := Int.eq_ofNat_of_zero_le (show 0 ≤ markK es p es.length + 1 by omega)
  have hmm : markK es p es.length = (m0 : Int) - 1 := by omega
  rw [hm0] at HO
  simp only [Int.toNat_natCast] at HO
  rw [hmm]
  have hm0l : m0 ≤ es.length := by omega
  have hm0' : (m0 : Int) ≤ es.length := by omega
  have hw0 : wrap64 ((m0 : Int) - 1 + 1) = m0 := by unfold wrap64; omega
  clear hmm hm0 hmb HR
  go_wp2
  go_loop [5] (fun i => ∃ k : Nat, m0 ≤ k ∧ k ≤ es.length ∧ i = .int .i64 k ∧ Hid (∀ j, m0 ≤ j → j < k → ¬ isTxn es p j)) (fun i => es.length - (intOf i).toNat)
  case atStart => exact ⟨m0, Nat.le_refl _, hm0l, by go_num, fun j h1 h2 => by omega⟩
  case round =>
    obtain ⟨k, hmk, hk, rfl, HN⟩ := hrel
    by_cases hlt : k < es.length
    · obtain ⟨q0, q1, q2, q3, q4, q5, q6⟩ := RdX.cells HC.out k hlt
      have HT : Hid (isTxn es p k ↔ (Ent.at es k).b = p ∧ (Ent.at es k).t = true ∧ (Ent.at es k).k = 1) := Iff.rfl
      generalize Ent.at es k = x at *
      by_cases hx : x.b = p ∧ x.t = true ∧ x.k = 1
      · have E : Hid (openN es p es.length = k) := show _ = _ by (rw [HO.out]; exact scan_some hmk (by omega) (HT.out.2 hx) HN.out)
        obtain ⟨h1, h2, h3⟩ := hx
        have h1' : (x.b == p) = true := by simp [h1]
        have h3' : (x.k == 1) = true := by simp [h3]
        clear h1 h3 HT HN HO
        go_wp2
        go_ret
        rw [E.out]
        exact ⟨rfl, rfl⟩
      · have HNN : Hid (∀ j, m0 ≤ j → j < k + 1 → ¬ isTxn es p j) := fun j j1 j2 => by
          by_cases e : j = k
          · subst e; exact fun h => hx (HT.out.1 h)
          · exact HN.out j j1 (by omega)
        clear HN HT
        by_cases h1 : x.b = p
        · have h1' : (x.b == p) = true := by simp [h1]
          by_cases h2 : x.t = true
          · have h3 : (x.k == 1) = false := by
              rw [beq_eq_false_iff_ne]
              exact fun h => hx ⟨h1, h2, h⟩
            clear hx h1
            go_wp2
            go_round
            case rel => exact ⟨k + 1, by omega, by omega, by go_num, HNN⟩
            case measure => simp [intOf]; omega
          · have h2' : x.t = false := by simpa using h2
            clear hx h1 h2
            go_wp2
            go_round
            case rel => exact ⟨k + 1, by omega, by omega, by go_num, HNN⟩
            case measure => simp [intOf]; omega
        · have h1' : (x.b == p) = false := by simp [h1]
          clear hx h1
          go_wp2
          go_round
          case rel => exact ⟨k + 1, by omega, by omega, by go_num, HNN⟩
          case measure => simp [intOf]; omega
    · have hke : k = es.length := by omega
      subst hke
      have E : Hid (openN es p es.length = -1) := show _ = _ by
        rw [HO.out]
        rcases scan_cases (P := isTxn es p) (es.length - m0) m0 with e | ⟨k, k1, k2, k3, _, _⟩
        · exact e
        · exact absurd k3 (HN.out k k1 (by omega))
      clear HN HO
      go_wp2
      go_ret
      rw [E.out]
      exact ⟨rfl, rfl⟩

set_option maxRecDepth 100000 in
set_option maxHeartbeats 400000 in
theorem openOf_none (ao : Option Addr) (cap : Nat) (p : Int) (w : World) :
    Calls Try.prog 38 #[.slice ao 0 cap, .int .i64 p] w fun e w' => e = .returned (.int .i64 (-1)) ∧ w' = w := by
  go_enter Try.func38, Try.ntmps38
  go_wp2_with fail
  refine (markOf_none ao cap p w).mono ?_
  rintro e w' ⟨rfl, rfl⟩
  go_wp2
  refine wp_loop_rounds 1 ?_
  rw [rounds_succ]
  go_wp2
  go_ret
  exact ⟨rfl, rfl⟩

theorem openOf_any (es : List Ent) (v : Value) (p : Int) (w : World) (hl : (es.length : Int) ≤ 2199023255552) (h : RdX w v es) :
    Calls Try.prog 38 #[v, .int .i64 p] w fun e w' => e = .returned (.int .i64 (openN es p es.length)) ∧ w' = w := by
  have hr := h
  obtain ⟨ao, cap, rfl, _, _, _, h1⟩ := h
  by_cases h0 : 0 < es.length
  · obtain ⟨g, off, rfl, h1'⟩ := h1 h0
    exact openOf_some es g off cap p w hl hr h1'
  · have hl : es = [] := List.eq_nil_of_length_eq_zero (by omega)
    subst hl
    exact openOf_none ao cap p w
end

section
open Go.RowKit
set_option linter.unusedVariables false
set_option linter.unusedSimpArgs false

theorem RdX.drewN {w : World} {v : Value} {es : List Ent} (h : RdX w v es) (n : Nat) : RdX (w.drewN n) v es := h

set_option maxRecDepth 100000 in
set_option maxHeartbeats 2000000 in
theorem checkedOf_mark (es : List Ent) (ao : Option Addr) (cap : Nat) (x : Ent) (w : World) (hl : (es.length : Int) ≤ 2199023255552) (hr : RdX w (.slice ao es.length cap) es)
    (hb : x.b ≠ 0) (hv : ¬ x.c < verK es x.b es.length) (hk : x.k ≠ 1) :
    Calls Try.prog 14 #[.slice ao es.length cap, .agg #[.int .i64 x.a, .int .i64 x.b, .int .i64 x.c, .int .i64 x.d, .int .i64 x.k, .bool x.t, .string x.s]] w fun e w' => e = .returned (.tuple #[.int .i64 (chk es x).1, .int .i64 (chk es x).2]) ∧ Below w.heap.size w w' := by
  have HE1 : Hid (0 ≤ markK es x.b es.length → openN es x.b es.length < 0 → (Ent.at es (markK es x.b es.length).toNat).k = x.k → (Ent.at es (markK es x.b es.length).toNat).c = x.c → chk es x = (markK es x.b es.length, 0)) := fun h1 h2 h3 h4 => by
    unfold chk
    rw [if_neg hb, if_neg hv, if_pos hk, if_pos ⟨h1, h2, h3, h4⟩]
  have HE2 : Hid (¬ (0 ≤ markK es x.b es.length ∧ openN es x.b es.length < 0 ∧ (Ent.at es (markK es x.b es.length).toNat).k = x.k ∧ (Ent.at es (markK es x.b es.length).toNat).c = x.c) → chk es x = (-1, 0)) := fun h => by
    unfold chk
    rw [if_neg hb, if_neg hv, if_pos hk, if_neg h]
  have hb' : (x.b == 0) = false := by simp [hb]
  have hk' : (x.k != 1) = true := by simp [hk]
  have hv' : verK es x.b es.length ≤ x.c := by omega
  have HR : Hid (RdX (w.alloc (.cells #[.int .i64 x.a, .int .i64 x.b, .int .i64 x.c, .int .i64 x.d, .int .i64 x.k, .bool x.t, .string x.s] 24)) (.slice ao es.length cap) es) := hr.below (Nat.le_refl _) (bbox _ _)
  have hmb := markK_bd es x.b es.length
  clear hr hb hv hk
  go_enter Try.func14, Try.ntmps14
  go_wp2_with fail
  refine (verOf_any es _ x.b _ hl HR.out).mono ?_
  rintro e w' ⟨rfl, hw⟩
  rw [hw]
  clear hw
  go_wp2_with fail
  refine (markOf_any es _ x.b _ hl HR.out).mono ?_
  rintro e w' ⟨rfl, hw⟩
  rw [hw]
  clear hw
  generalize verK es x.b es.length = vv at *
  by_cases hm0 : 0 ≤ markK es x.b es.length
  · obtain ⟨m, hm⟩ := Int.eq_ofNat_of_zero_le hm0
    rw [hm] at hmb HE1 HE2 ⊢
    simp only [Int.toNat_natCast] at HE1 HE2
    have hml : m < es.length := by omega
    have hml' : (m : Int) < es.length := by omega
    obtain ⟨ao', cap', e0, _, _, _, h3⟩ := HR.out
    simp only [Value.slice.injEq] at e0
    obtain ⟨rfl, _, rfl⟩ := e0
    obtain ⟨g, off, rfl, hc⟩ := h3 (by omega)
    obtain ⟨q0, q1, q2, q3, q4, q5, q6⟩ := RdX.cells hc m hml
    have HOP : Hid (∀ q, _) := fun q => openOf_any es _ x.b ((w.alloc (.cells #[.int .i64 x.a, .int .i64 x.b, .int .i64 x.c, .int .i64 x.d, .int .i64 x.k, .bool x.t, .string x.s] 24)).drewN q) hl (HR.out.drewN q)
    clear hc h3 hmb hm hm0
    generalize Ent.at es m = y at HE1 HE2 q0 q1 q2 q3 q4 q5 q6
    generalize openN es x.b es.length = op at HE1 HE2 HOP
    by_cases ho : op < 0
    · have ho' : decide (op < 0) = true := by simp [ho]
      by_cases hky : y.k = x.k
      · have hky' : (y.k == x.k) = true := by simp [hky]
        by_cases hcy : y.c = x.c
        · have hcy' : (y.c == x.c) = true := by simp [hcy]
          have HE : Hid _ := HE1.out (by omega) ho hky hcy
          clear hky hcy
          go_wp2
          go_quiet ((go_at_call 38; exact Calls.quiet_of_same (HOP.out _)))
          go_wp2
          go_ret2
          rw [HE.out]
          exact ⟨rfl, below_drewN (bbox _ _) _⟩
        · have hcy' : (y.c == x.c) = false := by simp [hcy]
          have HE : Hid _ := HE2.out (fun h => hcy h.2.2.2)
          clear hky hcy
          go_wp2
          go_quiet ((go_at_call 38; exact Calls.quiet_of_same (HOP.out _)))
          go_wp2
          go_ret2
          rw [HE.out]
          exact ⟨rfl, below_drewN (bbox _ _) _⟩
      · have hky' : (y.k == x.k) = false := by simp [hky]
        have HE : Hid _ := HE2.out (fun h => hky h.2.2.1)
        clear hky
        go_wp2
        go_quiet ((go_at_call 38; exact Calls.quiet_of_same (HOP.out _)))
        go_wp2
        go_ret2
        rw [HE.out]
        exact ⟨rfl, below_drewN (bbox _ _) _⟩
    · have ho' : decide (op < 0) = false := by simp; omega
      have HE : Hid _ := HE2.out (fun h => ho h.2.1)
      go_wp2
      go_quiet ((go_at_call 38; exact Calls.quiet_of_same (HOP.out _)))
      go_wp2
      go_ret2
      rw [HE.out]
      exact ⟨rfl, below_drewN (bbox _ _) _⟩
  · have HE : Hid _ := HE2.out (fun h => hm0 h.1)
    clear HE1 HE2
    generalize markK es x.b es.length = mm at *
    have hm0' : decide (0 ≤ mm) = false := by simp; omega
    clear hm0 hmb
    go_wp2
    go_quiet (fail)
    go_wp2
    go_ret2
    rw [HE.out]
    exact ⟨rfl, below_drewN (bbox _ _) _⟩

set_option maxRecDepth 100000 in
set_option maxHeartbeats 2000000 in
theorem checkedOf_nobody (es : List Ent) (ao : Option Addr) (cap : Nat) (x : Ent) (w : World) (hb : x.b = 0) :
    Calls Try.prog 14 #[.slice ao es.length cap, .agg #[.int .i64 x.a, .int .i64 x.b, .int .i64 x.c, .int .i64 x.d, .int .i64 x.k, .bool x.t, .string x.s]] w fun e w' => e = .returned (.tuple #[.int .i64 (chk es x).1, .int .i64 (chk es x).2]) ∧ Below w.heap.size w w' := by
  have HE : Hid (chk es x = (-1, 0)) := show _ = _ by unfold chk; rw [if_pos hb]
  have hb' : (x.b == 0) = true := by simp [hb]
  clear hb
  go_enter Try.func14, Try.ntmps14
  go_wp2
  go_ret2
  rw [HE.out]
  exact ⟨rfl, bbox _ _⟩

set_option maxRecDepth 100000 in
set_option maxHeartbeats 2000000 in
theorem checkedOf_fence (es : List Ent) (ao : Option Addr) (cap : Nat) (x : Ent) (w : World) (hl : (es.length : Int) ≤ 2199023255552) (hr : RdX w (.slice ao es.length cap) es) (hb : x.b ≠ 0) (hv : x.c < verK es x.b es.length) :
    Calls Try.prog 14 #[.slice ao es.length cap, .agg #[.int .i64 x.a, .int .i64 x.b, .int .i64 x.c, .int .i64 x.d, .int .i64 x.k, .bool x.t, .string x.s]] w fun e w' => e = .returned (.tuple #[.int .i64 (chk es x).1, .int .i64 (chk es x).2]) ∧ Below w.heap.size w w' := by
  have HE : Hid (chk es x = (0, 10)) := show _ = _ by unfold chk; rw [if_neg hb, if_pos hv]
  have hb' : (x.b == 0) = false := by simp [hb]
  have HR : Hid (RdX (w.alloc (.cells #[.int .i64 x.a, .int .i64 x.b, .int .i64 x.c, .int .i64 x.d, .int .i64 x.k, .bool x.t, .string x.s] 24)) (.slice ao es.length cap) es) := hr.below (Nat.le_refl _) (bbox _ _)
  clear hr hb
  go_enter Try.func14, Try.ntmps14
  go_wp2_with fail
  refine (verOf_any es _ x.b _ hl HR.out).mono ?_
  rintro e w' ⟨rfl, hw⟩
  rw [hw]
  clear hw
  generalize verK es x.b es.length = vv at *
  go_wp2
  go_ret2
  rw [HE.out]
  exact ⟨rfl, bbox _ _⟩

set_option maxRecDepth 100000 in
set_option maxHeartbeats 2000000 in
theorem checkedOf_data (es : List Ent) (ao : Option Addr) (cap : Nat) (x : Ent) (w : World) (hl : (es.length : Int) ≤ 2199023255552) (hr : RdX w (.slice ao es.length cap) es) (hb : x.b ≠ 0) (hv : ¬ x.c < verK es x.b es.length) (hk : x.k = 1) (hs : -1 ≤ (seqK es x.b es.length).1 ∧ (seqK es x.b es.length).1 ≤ 1073741824) :
    Calls Try.prog 14 #[.slice ao es.length cap, .agg #[.int .i64 x.a, .int .i64 x.b, .int .i64 x.c, .int .i64 x.d, .int .i64 x.k, .bool x.t, .string x.s]] w fun e w' => e = .returned (.tuple #[.int .i64 (chk es x).1, .int .i64 (chk es x).2]) ∧ Below w.heap.size w w' := by
  have HE : Hid (∀ s, (if x.c = verK es x.b es.length then (seqK es x.b es.length).1 else -1) = s → chk es x = if x.d = s + 1 then (-1, 0) else if s + 1 < x.d then (0, 11) else if scan (isTwin es x) es.length 0 < 0 then (0, 11) else (scan (isTwin es x) es.length 0, 0)) := fun s h => by
    unfold chk
    rw [if_neg hb, if_neg hv, if_neg (by simp [hk])]
    simp only [h]
  have hb' : (x.b == 0) = false := by simp [hb]
  have hk' : (x.k != 1) = false := by simp [hk]
  have hv' : verK es x.b es.length ≤ x.c := by omega
  have HR : Hid (RdX (w.alloc (.cells #[.int .i64 x.a, .int .i64 x.b, .int .i64 x.c, .int .i64 x.d, .int .i64 x.k, .bool x.t, .string x.s] 24)) (.slice ao es.length cap) es) := hr.below (Nat.le_refl _) (bbox _ _)
  clear hr hb hv hk
  go_enter Try.func14, Try.ntmps14
  go_wp2_with fail
  refine (verOf_any es _ x.b _ hl HR.out).mono ?_
  rintro e w' ⟨rfl, hw⟩
  rw [hw]
  clear hw
  by_cases hvv : x.c = verK es x.b es.length
  · have HE1 : Hid _ := HE.out (seqK es x.b es.length).1 (by rw [if_pos hvv])
    have hvv' : (x.c == verK es x.b es.length) = true := by simp [hvv]
    generalize verK es x.b es.length = vv at hv' hvv' ⊢
    clear hvv HE
    go_wp2_with fail
    refine (seqOf_any es _ x.b _ hl HR.out).mono ?_
    rintro e w' ⟨rfl, hw⟩
    rw [hw]
    clear hw
    generalize (seqK es x.b es.length).1 = ss at *
    by_cases h1 : x.d = ss + 1
    · have h1' : (x.d == ss + 1) = true := by simp [h1]
      rw [if_pos h1] at HE1
      clear h1
      go_wp2
      go_ret2
      rw [HE1.out]
      exact ⟨rfl, bbox _ _⟩
    · have h1' : (x.d == ss + 1) = false := by simp [h1]
      rw [if_neg h1] at HE1
      by_cases h2 : ss + 1 < x.d
      · rw [if_pos h2] at HE1
        clear h1
        go_wp2
        go_ret2
        rw [HE1.out]
        exact ⟨rfl, bbox _ _⟩
      · rw [if_neg h2] at HE1
        have h2' : x.d ≤ ss + 1 := by omega
        clear h1 h2
        by_cases h0 : 0 < es.length
        · obtain ⟨ao', cap', e0, _, _, _, h3⟩ := HR.out
          simp only [Value.slice.injEq] at e0
          obtain ⟨rfl, _, rfl⟩ := e0
          obtain ⟨g, off, rfl, hc⟩ := h3 h0
          have HC : Hid _ := hc
          clear hc h3
          go_wp2
          go_loopw [9] (fun i wr => ∃ k : Nat, k ≤ es.length ∧ i = .int .i64 k ∧ Hid (∀ j, 0 ≤ j → j < k → ¬ isTwin es x j) ∧ ∃ q, wr = (w.alloc (.cells #[.int .i64 x.a, .int .i64 x.b, .int .i64 x.c, .int .i64 x.d, .int .i64 x.k, .bool x.t, .string x.s] 24)).drewN q) (fun i _ => es.length - (intOf i).toNat)
          case atStart => exact ⟨0, by omega, rfl, fun j _ h => by omega, 0, rfl⟩
          case round =>
            obtain ⟨k, hk, rfl, HN, q, rfl⟩ := hrel
            by_cases hlt : k < es.length
            · obtain ⟨q0, q1, q2, q3, q4, q5, q6⟩ := RdX.cells HC.out k hlt
              have HT : Hid (isTwin es x k ↔ (Ent.at es k).k = 1 ∧ (Ent.at es k).b = x.b ∧ (Ent.at es k).c = x.c ∧ (Ent.at es k).d = x.d) := Iff.rfl
              generalize Ent.at es k = z at HT q0 q1 q2 q3 q4 q5 q6
              by_cases hz : z.k = 1 ∧ z.b = x.b ∧ z.c = x.c ∧ z.d = x.d
              · have hsc : scan (isTwin es x) es.length 0 = k := scan_some (Nat.zero_le _) (by omega) (HT.out.2 hz) HN.out
                rw [hsc, if_neg (by omega)] at HE1
                obtain ⟨z1, z2, z3, z4⟩ := hz
                have z1' : (z.k == 1) = true := by simp [z1]
                have z2' : (z.b == x.b) = true := by simp [z2]
                have z3' : (z.c == x.c) = true := by simp [z3]
                have z4' : (z.d == x.d) = true := by simp [z4]
                clear z1 z2 z3 z4 HT HN hsc
                go_wp2
                go_quiet (fail)
                go_wp2
                go_ret2
                rw [HE1.out]
                exact ⟨rfl, below_drewN (below_drewN (bbox _ _) _) _⟩
              · have HNN : Hid (∀ j, 0 ≤ j → j < k + 1 → ¬ isTwin es x j) := fun j j1 j2 => by
                  by_cases e : j = k
                  · subst e; exact fun h => hz (HT.out.1 h)
                  · exact HN.out j j1 (by omega)
                clear HN HT
                by_cases z1 : z.k = 1
                · have z1' : (z.k == 1) = true := by simp [z1]
                  by_cases z2 : z.b = x.b
                  · have z2' : (z.b == x.b) = true := by simp [z2]
                    by_cases z3 : z.c = x.c
                    · have z3' : (z.c == x.c) = true := by simp [z3]
                      have z4' : (z.d == x.d) = false := by
                        rw [beq_eq_false_iff_ne]
                        exact fun h => hz ⟨z1, z2, z3, h⟩
                      clear z1 z2 z3 hz
                      go_wp2
                      go_quiet (fail)
                      go_wp2
                      go_roundw
                      case rel => exact ⟨k + 1, by omega, by go_num, HNN, q + nq, rfl⟩
                      case measure => simp [intOf]; omega
                    · have z3' : (z.c == x.c) = false := by simp [z3]
                      clear z1 z2 z3 hz
                      go_wp2
                      go_quiet (fail)
                      go_wp2
                      go_roundw
                      case rel => exact ⟨k + 1, by omega, by go_num, HNN, q + nq, rfl⟩
                      case measure => simp [intOf]; omega
                  · have z2' : (z.b == x.b) = false := by simp [z2]
                    clear z1 z2 hz
                    go_wp2
                    go_quiet (fail)
                    go_wp2
                    go_roundw
                    case rel => exact ⟨k + 1, by omega, by go_num, HNN, q + nq, rfl⟩
                    case measure => simp [intOf]; omega
                · have z1' : (z.k == 1) = false := by simp [z1]
                  clear z1 hz
                  go_wp2
                  go_quiet (fail)
                  go_wp2
                  go_roundw
                  case rel => exact ⟨k + 1, by omega, by go_num, HNN, q + nq, rfl⟩
                  case measure => simp [intOf]; omega
            · have hke : k = es.length := by omega
              subst hke
              have hsc : scan (isTwin es x) es.length 0 < 0 := scan_none.2 (fun j j1 j2 => HN.out j j1 (by omega))
              rw [if_pos hsc] at HE1
              clear HN hsc
              go_wp2
              go_ret2
              rw [HE1.out]
              exact ⟨rfl, below_drewN (bbox _ _) _⟩
        · have hle : es.length = 0 := by omega
          have hsc : scan (isTwin es x) es.length 0 < 0 := by rw [hle]; show (-1 : Int) < 0; omega
          rw [if_pos hsc] at HE1
          have hle' : (es.length : Int) ≤ 0 := by omega
          clear hsc h0 hle
          go_wp2
          refine wp_loop_rounds 1 ?_
          rw [rounds_succ]
          go_wp2
          go_ret2
          rw [HE1.out]
          exact ⟨rfl, bbox _ _⟩
  · have HE0 := HE.out (-1) (by rw [if_neg hvv])
    have hz1 : (-1 : Int) + 1 = 0 := by omega
    rw [hz1] at HE0
    have HE1 : Hid _ := HE0
    clear HE0 hz1
    have hvv' : (x.c == verK es x.b es.length) = false := by simp [hvv]
    generalize verK es x.b es.length = vv at hv' hvv' ⊢
    clear hvv HE
    by_cases h1 : x.d = 0
    · have h1' : (x.d == 0) = true := by simp [h1]
      rw [if_pos h1] at HE1
      clear h1
      go_wp2
      go_ret2
      rw [HE1.out]
      exact ⟨rfl, bbox _ _⟩
    · have h1' : (x.d == 0) = false := by simp [h1]
      rw [if_neg h1] at HE1
      by_cases h2 : 0 < x.d
      · rw [if_pos h2] at HE1
        clear h1
        go_wp2
        go_ret2
        rw [HE1.out]
        exact ⟨rfl, bbox _ _⟩
      · rw [if_neg h2] at HE1
        have h2' : x.d ≤ 0 := by omega
        clear h1 h2
        by_cases h0 : 0 < es.length
        · obtain ⟨ao', cap', e0, _, _, _, h3⟩ := HR.out
          simp only [Value.slice.injEq] at e0
          obtain ⟨rfl, _, rfl⟩ := e0
          obtain ⟨g, off, rfl, hc⟩ := h3 h0
          have HC : Hid _ := hc
          clear hc h3
          go_wp2
          go_loopw [9] (fun i wr => ∃ k : Nat, k ≤ es.length ∧ i = .int .i64 k ∧ Hid (∀ j, 0 ≤ j → j < k → ¬ isTwin es x j) ∧ ∃ q, wr = (w.alloc (.cells #[.int .i64 x.a, .int .i64 x.b, .int .i64 x.c, .int .i64 x.d, .int .i64 x.k, .bool x.t, .string x.s] 24)).drewN q) (fun i _ => es.length - (intOf i).toNat)
          case atStart => exact ⟨0, by omega, rfl, fun j _ h => by omega, 0, rfl⟩
          case round =>
            obtain ⟨k, hk, rfl, HN, q, rfl⟩ := hrel
            by_cases hlt : k < es.length
            · obtain ⟨q0, q1, q2, q3, q4, q5, q6⟩ := RdX.cells HC.out k hlt
              have HT : Hid (isTwin es x k ↔ (Ent.at es k).k = 1 ∧ (Ent.at es k).b = x.b ∧ (Ent.at es k).c = x.c ∧ (Ent.at es k).d = x.d) := Iff.rfl
              generalize Ent.at es k = z at HT q0 q1 q2 q3 q4 q5 q6
              by_cases hz : z.k = 1 ∧ z.b = x.b ∧ z.c = x.c ∧ z.d = x.d
              · have hsc : scan (isTwin es x) es.length 0 = k := scan_some (Nat.zero_le _) (by omega) (HT.out.2 hz) HN.out
                rw [hsc, if_neg (by omega)] at HE1
                obtain ⟨z1, z2, z3, z4⟩ := hz
                have z1' : (z.k == 1) = true := by simp [z1]
                have z2' : (z.b == x.b) = true := by simp [z2]
                have z3' : (z.c == x.c) = true := by simp [z3]
                have z4' : (z.d == x.d) = true := by simp [z4]
                clear z1 z2 z3 z4 HT HN hsc
                go_wp2
                go_quiet (fail)
                go_wp2
                go_ret2
                rw [HE1.out]
                exact ⟨rfl, below_drewN (below_drewN (bbox _ _) _) _⟩
              · have HNN : Hid (∀ j, 0 ≤ j → j < k + 1 → ¬ isTwin es x j) := fun j j1 j2 => by
                  by_cases e : j = k
                  · subst e; exact fun h => hz (HT.out.1 h)
                  · exact HN.out j j1 (by omega)
                clear HN HT
                by_cases z1 : z.k = 1
                · have z1' : (z.k == 1) = true := by simp [z1]
                  by_cases z2 : z.b = x.b
                  · have z2' : (z.b == x.b) = true := by simp [z2]
                    by_cases z3 : z.c = x.c
                    · have z3' : (z.c == x.c) = true := by simp [z3]
                      have z4' : (z.d == x.d) = false := by
                        rw [beq_eq_false_iff_ne]
                        exact fun h => hz ⟨z1, z2, z3, h⟩
                      clear z1 z2 z3 hz
                      go_wp2
                      go_quiet (fail)
                      go_wp2
                      go_roundw
                      case rel => exact ⟨k + 1, by omega, by go_num, HNN, q + nq, rfl⟩
                      case measure => simp [intOf]; omega
                    · have z3' : (z.c == x.c) = false := by simp [z3]
                      clear z1 z2 z3 hz
                      go_wp2
                      go_quiet (fail)
                      go_wp2
                      go_roundw
                      case rel => exact ⟨k + 1, by omega, by go_num, HNN, q + nq, rfl⟩
                      case measure => simp [intOf]; omega
                  · have z2' : (z.b == x.b) = false := by simp [z2]
                    clear z1 z2 hz
                    go_wp2
                    go_quiet (fail)
                    go_wp2
                    go_roundw
                    case rel => exact ⟨k + 1, by omega, by go_num, HNN, q + nq, rfl⟩
                    case measure => simp [intOf]; omega
                · have z1' : (z.k == 1) = false := by simp [z1]
                  clear z1 hz
                  go_wp2
                  go_quiet (fail)
                  go_wp2
                  go_roundw
                  case rel => exact ⟨k + 1, by omega, by go_num, HNN, q + nq, rfl⟩
                  case measure => simp [intOf]; omega
            · have hke : k = es.length := by omega
              subst hke
              have hsc : scan (isTwin es x) es.length 0 < 0 := scan_none.2 (fun j j1 j2 => HN.out j j1 (by omega))
              rw [if_pos hsc] at HE1
              clear HN hsc
              go_wp2
              go_ret2
              rw [HE1.out]
              exact ⟨rfl, below_drewN (bbox _ _) _⟩
        · have hle : es.length = 0 := by omega
          have hsc : scan (isTwin es x) es.length 0 < 0 := by rw [hle]; show (-1 : Int) < 0; omega
          rw [if_pos hsc] at HE1
          have hle' : (es.length : Int) ≤ 0 := by omega
          clear hsc h0 hle
          go_wp2
          refine wp_loop_rounds 1 ?_
          rw [rounds_succ]
          go_wp2
          go_ret2
          rw [HE1.out]
          exact ⟨rfl, bbox _ _⟩

/-- Entries whose numbers are within the bounds (P3.1). -/
def Plain (es : List Ent) : Prop := ∀ e ∈ es, 1 ≤ e.k ∧ e.k ≤ 3 ∧ 0 ≤ e.b ∧ e.b ≤ 1073741824 ∧ 0 ≤ e.c ∧ e.c ≤ 1073741824 ∧ 0 ≤ e.d ∧ e.d ≤ 1073741824
theorem seqK_bd {es : List Ent} (h : Plain es) (p : Int) (k : Nat) (hk : k ≤ es.length) : -1 ≤ (seqK es p k).1 ∧ (seqK es p k).1 ≤ 1073741824 := by
  induction k with
  | zero => simp [seqK]
  | succ k ih =>
    have hlt : k < es.length := by omega
    have hx := h es[k] (List.getElem_mem hlt)
    have ih := ih (by omega)
    simp only [seqK, at_get hlt]
    split
    · simp only
      split
      · omega
      · split <;> omega
    · exact ih
theorem verK_bd {es : List Ent} (h : Plain es) (p : Int) (k : Nat) (hk : k ≤ es.length) : -1 ≤ verK es p k ∧ verK es p k ≤ 1073741824 := by
  induction k with
  | zero => simp [verK]
  | succ k ih =>
    have hlt : k < es.length := by omega
    have hx := h es[k] (List.getElem_mem hlt)
    have ih := ih (by omega)
    simp only [verK, at_get hlt]
    split <;> omega

theorem checkedOf_any (es : List Ent) (v : Value) (x : Ent) (w : World) (hl : (es.length : Int) ≤ 2199023255552) (hp : Plain es) (h : RdX w v es) :
    Calls Try.prog 14 #[v, .agg #[.int .i64 x.a, .int .i64 x.b, .int .i64 x.c, .int .i64 x.d, .int .i64 x.k, .bool x.t, .string x.s]] w fun e w' => e = .returned (.tuple #[.int .i64 (chk es x).1, .int .i64 (chk es x).2]) ∧ Below w.heap.size w w' := by
  obtain ⟨ao, cap, rfl⟩ : ∃ ao cap, v = .slice ao es.length cap := by obtain ⟨ao, cap, e, _⟩ := h; exact ⟨ao, cap, e⟩
  by_cases hb : x.b = 0
  · exact checkedOf_nobody es ao cap x w hb
  · by_cases hv : x.c < verK es x.b es.length
    · exact checkedOf_fence es ao cap x w hl h hb hv
    · by_cases hk : x.k = 1
      · exact checkedOf_data es ao cap x w hl h hb hv hk (seqK_bd hp x.b es.length (Nat.le_refl _))
      · exact checkedOf_mark es ao cap x w hl h hb hv hk
end

section
open Go.RowKit
set_option linter.unusedVariables false
set_option linter.unusedSimpArgs false

theorem at_take (es : List Ent) (h i : Nat) (hi : i < h) : Ent.at (es.take h) i = Ent.at es i := by
  unfold Ent.at
  simp only [List.getD_eq_getElem?_getD, List.getElem?_take, if_pos hi]
theorem markK_take (es : List Ent) (p : Int) (h k : Nat) (hk : k ≤ h) : markK (es.take h) p k = markK es p k := by
  induction k with
  | zero => rfl
  | succ k ih => simp only [markK, at_take es h k (by omega), ih (by omega)]
theorem openN_take (es : List Ent) (p : Int) (h : Nat) (hh : h ≤ es.length) : openN (es.take h) p (es.take h).length = openN es p h := by
  have hl : (es.take h).length = h := by simp; omega
  unfold openN
  rw [hl, markK_take es p h h (Nat.le_refl _)]
  have hb := markK_bd es p h
  apply scan_congr
  intro j j1 j2
  have hj : j < h := by omega
  unfold isTxn
  rw [at_take es h j hj]
theorem RdX.take {w : World} {ao : Option Addr} {n cap : Nat} {es : List Ent} (h : RdX w (.slice ao n cap) es) (k : Nat) (hk : k ≤ es.length) : RdX w (.slice ao k cap) (es.take k) := by
  obtain ⟨a1, c1, e, h1, h2, h4, h3⟩ := h
  simp only [Value.slice.injEq] at e
  obtain ⟨rfl, rfl, rfl⟩ := e
  have hl : (es.take k).length = k := by simp; omega
  refine ⟨ao, cap, by rw [hl], by omega, h2, h4, fun h0 => ?_⟩
  obtain ⟨g, off, rfl, hg⟩ := h3 (by omega)
  refine ⟨g, off, rfl, fun i hi j hj => ?_⟩
  rw [hl] at hi
  rw [hg i (by omega) j hj, List.getElem_take]

/-- What P3.4 answers. -/
def stf (es : List Ent) (h : Int) : Int × Int := if h < 0 ∨ (es.length : Int) < h then (0, 2) else (stb es h.toNat, 0)

set_option maxRecDepth 100000 in
set_option maxHeartbeats 2000000 in
theorem stableOf_any (es : List Ent) (v : Value) (h : Int) (w : World) (hl : (es.length : Int) ≤ 2199023255552) (hr : RdX w v es) :
    Calls Try.prog 17 #[v, .int .i64 h] w fun e w' => e = .returned (.tuple #[.int .i64 (stf es h).1, .int .i64 (stf es h).2]) ∧ Below w.heap.size w w' := by
  have hr' := hr
  obtain ⟨ao, cap, rfl, hc1, hc2, hc3, h3⟩ := hr'
  by_cases hh : h < 0 ∨ (es.length : Int) < h
  · have E : Hid (stf es h = (0, 2)) := show _ = _ by unfold stf; rw [if_pos hh]
    have hin : inR h 0 es.length = false := by unfold inR; simp; omega
    clear h3 hr hc1
    go_enter Try.func17, Try.ntmps17
    go_wp2_with fail
    refine (In_any _ _ _ _).mono ?_
    rintro e w' ⟨rfl, rfl⟩
    rw [hin]
    go_wp2
    go_ret2
    rw [E.out]
    exact ⟨rfl, Below.refl _ _⟩
  · obtain ⟨n, rfl⟩ := Int.eq_ofNat_of_zero_le (show 0 ≤ h by omega)
    have hn : n ≤ es.length := by omega
    have hn' : (n : Int) ≤ es.length := by omega
    have hin : inR n 0 es.length = true := by unfold inR; simp; omega
    have E1 : Hid (scan (begins es n) n 0 < 0 → stf es n = ((n : Int), 0)) := fun h => by unfold stf stb; rw [if_neg hh, Int.toNat_natCast, if_pos h]
    have E2 : Hid (∀ k : Nat, scan (begins es n) n 0 = k → stf es n = ((k : Int), 0)) := fun k h => by unfold stf stb; rw [if_neg hh, Int.toNat_natCast, h, if_neg (by omega)]; simp
    have HR : Hid (RdX w (.slice ao es.length cap) es) := hr
    have HRT : Hid (RdX w (.slice ao n cap) (es.take n)) := hr.take n hn
    have HOP : Hid (∀ p W, RdX W (.slice ao n cap) (es.take n) → _) := fun p W h => openOf_any (es.take n) (.slice ao n cap) p W (by simp; omega) h
    have HOE : Hid (∀ p, openN (es.take n) p (es.take n).length = openN es p n) := fun p => openN_take es p n hn
    have hcn : (n : Int) ≤ cap := by omega
    unfold maxLen at hc2
    clear hh hr hc1
    go_enter Try.func17, Try.ntmps17
    go_wp2_with fail
    refine (In_any _ _ _ _).mono ?_
    rintro e w' ⟨rfl, rfl⟩
    rw [hin]
    clear hin
    by_cases h0 : 0 < es.length
    · obtain ⟨g, off, rfl, hc⟩ := h3 h0
      have HC : Hid _ := hc
      clear hc h3
      go_wp2
      go_loopw [6] (fun i wr => ∃ k : Nat, k ≤ n ∧ i = .int .i64 k ∧ Hid (∀ j, 0 ≤ j → j < k → ¬ begins es n j) ∧ ∃ q, wr = w'.drewN q) (fun i _ => n - (intOf i).toNat)
      case atStart => exact ⟨0, by omega, rfl, fun j _ h => by omega, 0, rfl⟩
      case round =>
        obtain ⟨k, hk, rfl, HN, q, rfl⟩ := hrel
        by_cases hlt : k < n
        · obtain ⟨q0, q1, q2, q3, q4, q5, q6⟩ := RdX.cells HC.out k (by omega)
          have HT : Hid (begins es n k ↔ 0 < (Ent.at es k).b ∧ (Ent.at es k).k = 1 ∧ (Ent.at es k).t = true ∧ openN es (Ent.at es k).b n = k) := Iff.rfl
          generalize Ent.at es k = x at HT q0 q1 q2 q3 q4 q5 q6
          have hop := HOP.out x.b
          rw [HOE.out x.b] at hop
          have HOX : Hid _ := hop
          clear hop
          generalize openN es x.b n = op at HT HOX
          have hkl : (k : Int) < es.length := by omega
          have hkl2 : k < es.length := by omega
          have hk00 : (0 : Int) ≤ (k : Int) := by omega
          by_cases hx : 0 < x.b ∧ x.k = 1 ∧ x.t = true ∧ op = k
          · have E : Hid _ := E2.out k (scan_some (Nat.zero_le _) (by omega) (HT.out.2 hx) HN.out)
            obtain ⟨x1, x2, x3, x4⟩ := hx
            have x1' : decide (0 < x.b) = true := by simp [x1]
            have x2' : (x.k == 1) = true := by simp [x2]
            have x4' : (op == (k : Int)) = true := by simp [x4]
            clear x2 x4 HT HN E1 E2 x1
            go_wp2
            go_quiet ((go_at_call 38; exact (HOX.out _ (RdX.drewN HRT.out _)).mono fun _ _ h => ⟨h.1, _, h.2⟩))
            go_wp2
            go_ret2
            rw [E.out]
            exact ⟨rfl, below_drewN (below_drewN (Below.refl _ _) _) _⟩
          · have HNN : Hid (∀ j, 0 ≤ j → j < k + 1 → ¬ begins es n j) := fun j j1 j2 => by
              by_cases e : j = k
              · subst e; exact fun h => hx (HT.out.1 h)
              · exact HN.out j j1 (by omega)
            clear HN HT
            by_cases x1 : 0 < x.b
            · have x1' : decide (0 < x.b) = true := by simp [x1]
              by_cases x2 : x.k = 1
              · have x2' : (x.k == 1) = true := by simp [x2]
                by_cases x3 : x.t = true
                · have x4' : (op == (k : Int)) = false := by
                    rw [beq_eq_false_iff_ne]
                    exact fun h => hx ⟨x1, x2, x3, h⟩
                  clear x2 hx x1
                  go_wp2
                  go_quiet ((go_at_call 38; exact (HOX.out _ (RdX.drewN HRT.out _)).mono fun _ _ h => ⟨h.1, _, h.2⟩))
                  go_wp2
                  go_roundw
                  case rel => exact ⟨k + 1, by omega, by go_num, HNN, q + nq, rfl⟩
                  case measure => simp [intOf]; omega
                · have x3' : x.t = false := by simpa using x3
                  clear x2 x3 hx
                  go_wp2
                  go_quiet (fail)
                  go_wp2
                  go_roundw
                  case rel => exact ⟨k + 1, by omega, by go_num, HNN, q + nq, rfl⟩
                  case measure => simp [intOf]; omega
              · have x2' : (x.k == 1) = false := by simp [x2]
                clear x2 hx
                go_wp2
                go_quiet (fail)
                go_wp2
                go_roundw
                case rel => exact ⟨k + 1, by omega, by go_num, HNN, q + nq, rfl⟩
                case measure => simp [intOf]; omega
            · have x1' : decide (0 < x.b) = false := by simp; omega
              clear x1 hx
              go_wp2
              go_quiet (fail)
              go_wp2
              go_roundw
              case rel => exact ⟨k + 1, by omega, by go_num, HNN, q + nq, rfl⟩
              case measure => simp [intOf]; omega
        · have hke : k = n := by omega
          subst hke
          have E : Hid _ := E1.out (scan_none.2 (fun j j1 j2 => HN.out j j1 (by omega)))
          clear HN E1 E2
          go_wp2
          go_ret2
          rw [E.out]
          exact ⟨rfl, below_drewN (Below.refl _ _) _⟩
    · have hn0 : n = 0 := by omega
      subst hn0
      have E : Hid _ := E1.out (by show (-1 : Int) < 0; omega)
      clear E1 E2 h0 h3 HOP HOE
      go_wp2
      refine wp_loop_rounds 1 ?_
      rw [rounds_succ]
      go_wp2
      go_ret2
      rw [E.out]
      exact ⟨rfl, Below.refl _ _⟩
end

end Go.Proofs.Ytdpiijndnefahaa
