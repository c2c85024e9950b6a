/-
  The walks of wire.Check and of the document's EntryFault: each returns the same number of the entry's fields, and turns nothing that was there.
-/
import Derived.Test.YtkakagjffafdiaaRows
import Derived.WalkKit
import Derived.WalkSpells
import Derived.WalkLawsBesides
import Derived.Lib.Strings
namespace Go.Proofs.Ytkakagjffafdiaa
open Go.RowKit

theorem bcell {W w1 : World} (hb : Below W.heap.size W w1) : (∀ b o, b < W.heap.size → w1.cell? ⟨b, o, none⟩ = W.cell? ⟨b, o, none⟩) ∧ (∀ b o, b < W.heap.size → w1.frozen? ⟨b, o, none⟩ = W.frozen? ⟨b, o, none⟩) :=
  ⟨fun b o h => hb.cell (p := ⟨b, o, none⟩) h, fun b o h => hb.frozen (p := ⟨b, o, none⟩) h⟩
theorem bstep {w b c : World} (h : Below w.heap.size w b) (k : Below b.heap.size b c) : Below w.heap.size w c := h.trans (k.mono h.size)
theorem bbox (w : World) (o : Obj) : Below w.heap.size w (w.alloc o) := (Below.refl _ _).alloc (Nat.le_refl _) _

def inB (n : Int) : Bool := decide (0 ≤ n ∧ n ≤ 1073741824)
def mkB (k : Int) : Bool := decide (k = 2 ∨ k = 3)
def fmB (b d : Int) (t : Bool) (n : Nat) : Bool := decide (b ≠ 0 ∧ t = true ∧ d = 0 ∧ n = 0)
def fnB (c d : Int) (t : Bool) : Bool := decide (t = false ∧ c = 0 ∧ d = 0)
/-- What P1.1 answers. -/
def flt (a b c d k : Int) (t : Bool) (n : Nat) : Int :=
  if k ≠ 1 ∧ mkB k = false then 3
  else if inB a = false ∨ inB b = false ∨ inB c = false ∨ inB d = false then 2
  else if 40 < n then 1
  else if mkB k = true ∧ fmB b d t n = false then 4
  else if b = 0 ∧ fnB c d t = false then 4
  else 0

set_option maxRecDepth 100000 in
set_option maxHeartbeats 400000 in
theorem inBounds_any (n : Int) (w : World) :
    Calls Try.prog 104 #[.int .i64 n] w fun e w' => e = .returned (.bool (inB n)) ∧ w' = w := by
  by_cases h0 : 0 ≤ n
  · by_cases h1 : n ≤ 1073741824
    · have hr : inB n = true := by simp [inB]; omega
      rw [hr]
      go_enter Try.func104, Try.ntmps104
      go_wp2
      go_ret
      exact ⟨rfl, rfl⟩
    · have hr : inB n = false := by simp [inB]; omega
      rw [hr]
      go_enter Try.func104, Try.ntmps104
      go_wp2
      go_ret
      exact ⟨rfl, rfl⟩
  · have hr : inB n = false := by simp [inB]; omega
    rw [hr]
    go_enter Try.func104, Try.ntmps104
    go_wp2
    go_ret
    exact ⟨rfl, rfl⟩

def inR (n l h : Int) : Bool := decide (l ≤ n ∧ n ≤ h)

set_option maxRecDepth 100000 in
set_option maxHeartbeats 400000 in
theorem In_any (n l h : Int) (w : World) :
    Calls Try.prog 59 #[.int .i64 n, .int .i64 l, .int .i64 h] w fun e w' => e = .returned (.bool (inR n l h)) ∧ w' = w := by
  by_cases h0 : l ≤ n
  · by_cases h1 : n ≤ h
    · have hr : inR n l h = true := by simp [inR]; omega
      rw [hr]
      go_enter Try.func59, Try.ntmps59
      go_wp2
      go_ret
      exact ⟨rfl, rfl⟩
    · have hr : inR n l h = false := by simp [inR]; omega
      rw [hr]
      go_enter Try.func59, Try.ntmps59
      go_wp2
      go_ret
      exact ⟨rfl, rfl⟩
  · have hr : inR n l h = false := by simp [inR]; omega
    rw [hr]
    go_enter Try.func59, Try.ntmps59
    go_wp2
    go_ret
    exact ⟨rfl, rfl⟩

set_option maxRecDepth 100000 in
set_option maxHeartbeats 400000 in
theorem isMarker_any (a b c d k : Int) (t : Bool) (s : ByteArray) (w : World) :
    Calls Try.prog 103 #[.agg #[.int .i64 a, .int .i64 b, .int .i64 c, .int .i64 d, .int .i64 k, .bool t, .string s]] w fun e w' => e = .returned (.bool (mkB k)) ∧ Below w.heap.size w w' := by
  by_cases h2 : k = 2
  · subst h2
    go_enter Try.func103, Try.ntmps103
    go_wp2
    go_ret
    exact ⟨rfl, bbox _ _⟩
  · by_cases h3 : k = 3
    · subst h3
      go_enter Try.func103, Try.ntmps103
      go_wp2
      go_ret
      exact ⟨rfl, bbox _ _⟩
    · have hr : mkB k = false := by simp [mkB]; omega
      rw [hr]
      have g2 : (k == 2) = false := by simp; omega
      have g3 : (k == 3) = false := by simp; omega
      go_enter Try.func103, Try.ntmps103
      go_wp2
      go_ret
      exact ⟨rfl, bbox _ _⟩

theorem sempty (s : ByteArray) : s.toList.isEmpty = decide (s.size = 0) := by
  rw [Lib.toList_data]
  have h : s.size = s.data.toList.length := by simp
  rw [h]
  cases s.data.toList <;> simp

set_option maxRecDepth 100000 in
set_option maxHeartbeats 400000 in
theorem fitsMarker_any (a b c d k : Int) (t : Bool) (s : ByteArray) (w : World) :
    Calls Try.prog 105 #[.agg #[.int .i64 a, .int .i64 b, .int .i64 c, .int .i64 d, .int .i64 k, .bool t, .string s]] w fun e w' => e = .returned (.bool (fmB b d t s.size)) ∧ Below w.heap.size w w' := by
  by_cases h0 : b = 0
  · subst h0
    have hr : fmB 0 d t s.size = false := by simp [fmB]
    rw [hr]
    go_enter Try.func105, Try.ntmps105
    go_wp2
    go_ret
    exact ⟨rfl, bbox _ _⟩
  · have g0 : (b != 0) = true := by simp; omega
    cases t
    · have hr : fmB b d false s.size = false := by simp [fmB]
      rw [hr]
      go_enter Try.func105, Try.ntmps105
      go_wp2
      go_ret
      exact ⟨rfl, bbox _ _⟩
    · by_cases h1 : d = 0
      · subst h1
        by_cases h2 : s.size = 0
        · have hr : fmB b 0 true s.size = true := by simp [fmB, h0, h2]
          rw [hr]
          have h3 : s.toList.isEmpty = true := by rw [sempty]; simp [h2]
          clear h2
          go_enter Try.func105, Try.ntmps105
          go_wp2
          go_ret
          exact ⟨rfl, bbox _ _⟩
        · have hr : fmB b 0 true s.size = false := by simp [fmB, h2]
          rw [hr]
          have h3 : s.toList.isEmpty = false := by rw [sempty]; simp [h2]
          clear h2
          go_enter Try.func105, Try.ntmps105
          go_wp2
          go_ret
          exact ⟨rfl, bbox _ _⟩
      · have hr : fmB b d true s.size = false := by simp [fmB, h1]
        rw [hr]
        have g1 : (d == 0) = false := by simp; omega
        go_enter Try.func105, Try.ntmps105
        go_wp2
        go_ret
        exact ⟨rfl, bbox _ _⟩

set_option maxRecDepth 100000 in
set_option maxHeartbeats 400000 in
theorem fitsNobody_any (a b c d k : Int) (t : Bool) (s : ByteArray) (w : World) :
    Calls Try.prog 106 #[.agg #[.int .i64 a, .int .i64 b, .int .i64 c, .int .i64 d, .int .i64 k, .bool t, .string s]] w fun e w' => e = .returned (.bool (fnB c d t)) ∧ Below w.heap.size w w' := by
  cases t
  · by_cases h0 : c = 0
    · subst h0
      by_cases h1 : d = 0
      · subst h1
        go_enter Try.func106, Try.ntmps106
        go_wp2
        go_ret
        exact ⟨rfl, bbox _ _⟩
      · have hr : fnB 0 d false = false := by simp [fnB, h1]
        rw [hr]
        have g1 : (d == 0) = false := by simp; omega
        go_enter Try.func106, Try.ntmps106
        go_wp2
        go_ret
        exact ⟨rfl, bbox _ _⟩
    · have hr : fnB c d false = false := by simp [fnB, h0]
      rw [hr]
      have g1 : (c == 0) = false := by simp; omega
      go_enter Try.func106, Try.ntmps106
      go_wp2
      go_ret
      exact ⟨rfl, bbox _ _⟩
  · have hr : fnB c d true = false := by simp [fnB]
    rw [hr]
    go_enter Try.func106, Try.ntmps106
    go_wp2
    go_ret
    exact ⟨rfl, bbox _ _⟩

set_option maxRecDepth 100000 in
set_option maxHeartbeats 1000000 in
theorem check_nokind (a b c d k : Int) (t : Bool) (s : ByteArray) (w : World) (hm : mkB k = false) (hk : (k != 1) = true) :
    Calls Try.prog 74 #[.agg #[.int .i64 a, .int .i64 b, .int .i64 c, .int .i64 d, .int .i64 k, .bool t, .string s]] w fun e w' => e = .returned (.int .i64 (flt a b c d k t s.size)) ∧ Below w.heap.size w w' := by
  have hk1 : k ≠ 1 := by simpa using hk
  have hr : flt a b c d k t s.size = 3 := by simp [flt, hm, hk1]
  rw [hr]
  clear hk1
  go_enter Try.func74, Try.ntmps74
  go_wp2_with (first | (go_at_call 104; refine (inBounds_any _ _).mono ?_; rintro e w' ⟨rfl, rfl⟩) | (go_at_call 103; refine (isMarker_any _ _ _ _ _ _ _ _).mono ?_; rintro e w' ⟨rfl, hb⟩; obtain ⟨hc, hf⟩ := bcell hb; have hz : w.heap.size < w'.heap.size := by (have := hb.size; (try simp at this); omega)) | (go_at_call 105; refine (fitsMarker_any _ _ _ _ _ _ _ _).mono ?_; rintro e w' ⟨rfl, hb⟩; obtain ⟨hc, hf⟩ := bcell hb; have hz : w.heap.size < w'.heap.size := by (have := hb.size; (try simp at this); omega)) | (go_at_call 106; refine (fitsNobody_any _ _ _ _ _ _ _ _).mono ?_; rintro e w' ⟨rfl, hb⟩; obtain ⟨hc, hf⟩ := bcell hb; have hz : w.heap.size < w'.heap.size := by (have := hb.size; (try simp at this); omega)))
  go_ret
  exact ⟨rfl, by repeat (first | exact bbox _ _ | refine bstep ?_ (by assumption))⟩

set_option maxRecDepth 100000 in
set_option maxHeartbeats 2000000 in
theorem check_marker (a b c d k : Int) (t : Bool) (s : ByteArray) (w : World) (hm : mkB k = true) (hk : (k != 1) = true) :
    Calls Try.prog 74 #[.agg #[.int .i64 a, .int .i64 b, .int .i64 c, .int .i64 d, .int .i64 k, .bool t, .string s]] w fun e w' => e = .returned (.int .i64 (flt a b c d k t s.size)) ∧ Below w.heap.size w w' := by
  have hk1 : k ≠ 1 := by simpa using hk
  clear hk1
  cases ha : inB a
  · have hr : flt a b c d k t s.size = 2 := by simp [flt, hm, ha]
    rw [hr]
    go_enter Try.func74, Try.ntmps74
    go_wp2_with (first | (go_at_call 104; refine (inBounds_any _ _).mono ?_; rintro e w' ⟨rfl, rfl⟩) | (go_at_call 103; refine (isMarker_any _ _ _ _ _ _ _ _).mono ?_; rintro e w' ⟨rfl, hb⟩; obtain ⟨hc, hf⟩ := bcell hb; have hz : w.heap.size < w'.heap.size := by (have := hb.size; (try simp at this); omega)) | (go_at_call 105; refine (fitsMarker_any _ _ _ _ _ _ _ _).mono ?_; rintro e w' ⟨rfl, hb⟩; obtain ⟨hc, hf⟩ := bcell hb; have hz : w.heap.size < w'.heap.size := by (have := hb.size; (try simp at this); omega)) | (go_at_call 106; refine (fitsNobody_any _ _ _ _ _ _ _ _).mono ?_; rintro e w' ⟨rfl, hb⟩; obtain ⟨hc, hf⟩ := bcell hb; have hz : w.heap.size < w'.heap.size := by (have := hb.size; (try simp at this); omega)))
    go_ret
    exact ⟨rfl, by repeat (first | exact bbox _ _ | refine bstep ?_ (by assumption))⟩
  cases hb' : inB b
  · have hr : flt a b c d k t s.size = 2 := by simp [flt, hm, hb']
    rw [hr]
    go_enter Try.func74, Try.ntmps74
    go_wp2_with (first | (go_at_call 104; refine (inBounds_any _ _).mono ?_; rintro e w' ⟨rfl, rfl⟩) | (go_at_call 103; refine (isMarker_any _ _ _ _ _ _ _ _).mono ?_; rintro e w' ⟨rfl, hb⟩; obtain ⟨hc, hf⟩ := bcell hb; have hz : w.heap.size < w'.heap.size := by (have := hb.size; (try simp at this); omega)) | (go_at_call 105; refine (fitsMarker_any _ _ _ _ _ _ _ _).mono ?_; rintro e w' ⟨rfl, hb⟩; obtain ⟨hc, hf⟩ := bcell hb; have hz : w.heap.size < w'.heap.size := by (have := hb.size; (try simp at this); omega)) | (go_at_call 106; refine (fitsNobody_any _ _ _ _ _ _ _ _).mono ?_; rintro e w' ⟨rfl, hb⟩; obtain ⟨hc, hf⟩ := bcell hb; have hz : w.heap.size < w'.heap.size := by (have := hb.size; (try simp at this); omega)))
    go_ret
    exact ⟨rfl, by repeat (first | exact bbox _ _ | refine bstep ?_ (by assumption))⟩
  cases hc' : inB c
  · have hr : flt a b c d k t s.size = 2 := by simp [flt, hm, hc']
    rw [hr]
    go_enter Try.func74, Try.ntmps74
    go_wp2_with (first | (go_at_call 104; refine (inBounds_any _ _).mono ?_; rintro e w' ⟨rfl, rfl⟩) | (go_at_call 103; refine (isMarker_any _ _ _ _ _ _ _ _).mono ?_; rintro e w' ⟨rfl, hb⟩; obtain ⟨hc, hf⟩ := bcell hb; have hz : w.heap.size < w'.heap.size := by (have := hb.size; (try simp at this); omega)) | (go_at_call 105; refine (fitsMarker_any _ _ _ _ _ _ _ _).mono ?_; rintro e w' ⟨rfl, hb⟩; obtain ⟨hc, hf⟩ := bcell hb; have hz : w.heap.size < w'.heap.size := by (have := hb.size; (try simp at this); omega)) | (go_at_call 106; refine (fitsNobody_any _ _ _ _ _ _ _ _).mono ?_; rintro e w' ⟨rfl, hb⟩; obtain ⟨hc, hf⟩ := bcell hb; have hz : w.heap.size < w'.heap.size := by (have := hb.size; (try simp at this); omega)))
    go_ret
    exact ⟨rfl, by repeat (first | exact bbox _ _ | refine bstep ?_ (by assumption))⟩
  cases hd : inB d
  · have hr : flt a b c d k t s.size = 2 := by simp [flt, hm, hd]
    rw [hr]
    go_enter Try.func74, Try.ntmps74
    go_wp2_with (first | (go_at_call 104; refine (inBounds_any _ _).mono ?_; rintro e w' ⟨rfl, rfl⟩) | (go_at_call 103; refine (isMarker_any _ _ _ _ _ _ _ _).mono ?_; rintro e w' ⟨rfl, hb⟩; obtain ⟨hc, hf⟩ := bcell hb; have hz : w.heap.size < w'.heap.size := by (have := hb.size; (try simp at this); omega)) | (go_at_call 105; refine (fitsMarker_any _ _ _ _ _ _ _ _).mono ?_; rintro e w' ⟨rfl, hb⟩; obtain ⟨hc, hf⟩ := bcell hb; have hz : w.heap.size < w'.heap.size := by (have := hb.size; (try simp at this); omega)) | (go_at_call 106; refine (fitsNobody_any _ _ _ _ _ _ _ _).mono ?_; rintro e w' ⟨rfl, hb⟩; obtain ⟨hc, hf⟩ := bcell hb; have hz : w.heap.size < w'.heap.size := by (have := hb.size; (try simp at this); omega)))
    go_ret
    exact ⟨rfl, by repeat (first | exact bbox _ _ | refine bstep ?_ (by assumption))⟩
  by_cases hn : 40 < s.size
  · have hr : flt a b c d k t s.size = 1 := by simp [flt, hm, ha, hb', hc', hd, hn]
    rw [hr]
    go_enter Try.func74, Try.ntmps74
    go_wp2_with (first | (go_at_call 104; refine (inBounds_any _ _).mono ?_; rintro e w' ⟨rfl, rfl⟩) | (go_at_call 103; refine (isMarker_any _ _ _ _ _ _ _ _).mono ?_; rintro e w' ⟨rfl, hb⟩; obtain ⟨hc, hf⟩ := bcell hb; have hz : w.heap.size < w'.heap.size := by (have := hb.size; (try simp at this); omega)) | (go_at_call 105; refine (fitsMarker_any _ _ _ _ _ _ _ _).mono ?_; rintro e w' ⟨rfl, hb⟩; obtain ⟨hc, hf⟩ := bcell hb; have hz : w.heap.size < w'.heap.size := by (have := hb.size; (try simp at this); omega)) | (go_at_call 106; refine (fitsNobody_any _ _ _ _ _ _ _ _).mono ?_; rintro e w' ⟨rfl, hb⟩; obtain ⟨hc, hf⟩ := bcell hb; have hz : w.heap.size < w'.heap.size := by (have := hb.size; (try simp at this); omega)))
    go_ret
    exact ⟨rfl, by repeat (first | exact bbox _ _ | refine bstep ?_ (by assumption))⟩
  have hn' : ¬ (40 : Int) < (s.size : Int) := by omega
  cases hfm : fmB b d t s.size
  · have hr : flt a b c d k t s.size = 4 := by simp [flt, hm, ha, hb', hc', hd, hn, hfm]
    rw [hr]
    go_enter Try.func74, Try.ntmps74
    go_wp2_with (first | (go_at_call 104; refine (inBounds_any _ _).mono ?_; rintro e w' ⟨rfl, rfl⟩) | (go_at_call 103; refine (isMarker_any _ _ _ _ _ _ _ _).mono ?_; rintro e w' ⟨rfl, hb⟩; obtain ⟨hc, hf⟩ := bcell hb; have hz : w.heap.size < w'.heap.size := by (have := hb.size; (try simp at this); omega)) | (go_at_call 105; refine (fitsMarker_any _ _ _ _ _ _ _ _).mono ?_; rintro e w' ⟨rfl, hb⟩; obtain ⟨hc, hf⟩ := bcell hb; have hz : w.heap.size < w'.heap.size := by (have := hb.size; (try simp at this); omega)) | (go_at_call 106; refine (fitsNobody_any _ _ _ _ _ _ _ _).mono ?_; rintro e w' ⟨rfl, hb⟩; obtain ⟨hc, hf⟩ := bcell hb; have hz : w.heap.size < w'.heap.size := by (have := hb.size; (try simp at this); omega)))
    go_ret
    exact ⟨rfl, by repeat (first | exact bbox _ _ | refine bstep ?_ (by assumption))⟩
  have hb0 : b ≠ 0 := by simp [fmB] at hfm; exact hfm.1
  have g0 : (b == 0) = false := by simp [hb0]
  have hr : flt a b c d k t s.size = 0 := by simp [flt, hm, ha, hb', hc', hd, hn, hfm, hb0]
  rw [hr]
  go_enter Try.func74, Try.ntmps74
  go_wp2_with (first | (go_at_call 104; refine (inBounds_any _ _).mono ?_; rintro e w' ⟨rfl, rfl⟩) | (go_at_call 103; refine (isMarker_any _ _ _ _ _ _ _ _).mono ?_; rintro e w' ⟨rfl, hb⟩; obtain ⟨hc, hf⟩ := bcell hb; have hz : w.heap.size < w'.heap.size := by (have := hb.size; (try simp at this); omega)) | (go_at_call 105; refine (fitsMarker_any _ _ _ _ _ _ _ _).mono ?_; rintro e w' ⟨rfl, hb⟩; obtain ⟨hc, hf⟩ := bcell hb; have hz : w.heap.size < w'.heap.size := by (have := hb.size; (try simp at this); omega)) | (go_at_call 106; refine (fitsNobody_any _ _ _ _ _ _ _ _).mono ?_; rintro e w' ⟨rfl, hb⟩; obtain ⟨hc, hf⟩ := bcell hb; have hz : w.heap.size < w'.heap.size := by (have := hb.size; (try simp at this); omega)))
  go_ret
  exact ⟨rfl, by repeat (first | exact bbox _ _ | refine bstep ?_ (by assumption))⟩

set_option maxRecDepth 100000 in
set_option maxHeartbeats 2000000 in
theorem check_data (a b c d : Int) (t : Bool) (s : ByteArray) (w : World)  :
    Calls Try.prog 74 #[.agg #[.int .i64 a, .int .i64 b, .int .i64 c, .int .i64 d, .int .i64 1, .bool t, .string s]] w fun e w' => e = .returned (.int .i64 (flt a b c d 1 t s.size)) ∧ Below w.heap.size w w' := by
  have hm : mkB 1 = false := by decide
  cases ha : inB a
  · have hr : flt a b c d 1 t s.size = 2 := by simp [flt, hm, ha]
    rw [hr]
    go_enter Try.func74, Try.ntmps74
    go_wp2_with (first | (go_at_call 104; refine (inBounds_any _ _).mono ?_; rintro e w' ⟨rfl, rfl⟩) | (go_at_call 103; refine (isMarker_any _ _ _ _ _ _ _ _).mono ?_; rintro e w' ⟨rfl, hb⟩; obtain ⟨hc, hf⟩ := bcell hb; have hz : w.heap.size < w'.heap.size := by (have := hb.size; (try simp at this); omega)) | (go_at_call 105; refine (fitsMarker_any _ _ _ _ _ _ _ _).mono ?_; rintro e w' ⟨rfl, hb⟩; obtain ⟨hc, hf⟩ := bcell hb; have hz : w.heap.size < w'.heap.size := by (have := hb.size; (try simp at this); omega)) | (go_at_call 106; refine (fitsNobody_any _ _ _ _ _ _ _ _).mono ?_; rintro e w' ⟨rfl, hb⟩; obtain ⟨hc, hf⟩ := bcell hb; have hz : w.heap.size < w'.heap.size := by (have := hb.size; (try simp at this); omega)))
    go_ret
    exact ⟨rfl, by repeat (first | exact bbox _ _ | refine bstep ?_ (by assumption))⟩
  cases hb' : inB b
  · have hr : flt a b c d 1 t s.size = 2 := by simp [flt, hm, hb']
    rw [hr]
    go_enter Try.func74, Try.ntmps74
    go_wp2_with (first | (go_at_call 104; refine (inBounds_any _ _).mono ?_; rintro e w' ⟨rfl, rfl⟩) | (go_at_call 103; refine (isMarker_any _ _ _ _ _ _ _ _).mono ?_; rintro e w' ⟨rfl, hb⟩; obtain ⟨hc, hf⟩ := bcell hb; have hz : w.heap.size < w'.heap.size := by (have := hb.size; (try simp at this); omega)) | (go_at_call 105; refine (fitsMarker_any _ _ _ _ _ _ _ _).mono ?_; rintro e w' ⟨rfl, hb⟩; obtain ⟨hc, hf⟩ := bcell hb; have hz : w.heap.size < w'.heap.size := by (have := hb.size; (try simp at this); omega)) | (go_at_call 106; refine (fitsNobody_any _ _ _ _ _ _ _ _).mono ?_; rintro e w' ⟨rfl, hb⟩; obtain ⟨hc, hf⟩ := bcell hb; have hz : w.heap.size < w'.heap.size := by (have := hb.size; (try simp at this); omega)))
    go_ret
    exact ⟨rfl, by repeat (first | exact bbox _ _ | refine bstep ?_ (by assumption))⟩
  cases hc' : inB c
  · have hr : flt a b c d 1 t s.size = 2 := by simp [flt, hm, hc']
    rw [hr]
    go_enter Try.func74, Try.ntmps74
    go_wp2_with (first | (go_at_call 104; refine (inBounds_any _ _).mono ?_; rintro e w' ⟨rfl, rfl⟩) | (go_at_call 103; refine (isMarker_any _ _ _ _ _ _ _ _).mono ?_; rintro e w' ⟨rfl, hb⟩; obtain ⟨hc, hf⟩ := bcell hb; have hz : w.heap.size < w'.heap.size := by (have := hb.size; (try simp at this); omega)) | (go_at_call 105; refine (fitsMarker_any _ _ _ _ _ _ _ _).mono ?_; rintro e w' ⟨rfl, hb⟩; obtain ⟨hc, hf⟩ := bcell hb; have hz : w.heap.size < w'.heap.size := by (have := hb.size; (try simp at this); omega)) | (go_at_call 106; refine (fitsNobody_any _ _ _ _ _ _ _ _).mono ?_; rintro e w' ⟨rfl, hb⟩; obtain ⟨hc, hf⟩ := bcell hb; have hz : w.heap.size < w'.heap.size := by (have := hb.size; (try simp at this); omega)))
    go_ret
    exact ⟨rfl, by repeat (first | exact bbox _ _ | refine bstep ?_ (by assumption))⟩
  cases hd : inB d
  · have hr : flt a b c d 1 t s.size = 2 := by simp [flt, hm, hd]
    rw [hr]
    go_enter Try.func74, Try.ntmps74
    go_wp2_with (first | (go_at_call 104; refine (inBounds_any _ _).mono ?_; rintro e w' ⟨rfl, rfl⟩) | (go_at_call 103; refine (isMarker_any _ _ _ _ _ _ _ _).mono ?_; rintro e w' ⟨rfl, hb⟩; obtain ⟨hc, hf⟩ := bcell hb; have hz : w.heap.size < w'.heap.size := by (have := hb.size; (try simp at this); omega)) | (go_at_call 105; refine (fitsMarker_any _ _ _ _ _ _ _ _).mono ?_; rintro e w' ⟨rfl, hb⟩; obtain ⟨hc, hf⟩ := bcell hb; have hz : w.heap.size < w'.heap.size := by (have := hb.size; (try simp at this); omega)) | (go_at_call 106; refine (fitsNobody_any _ _ _ _ _ _ _ _).mono ?_; rintro e w' ⟨rfl, hb⟩; obtain ⟨hc, hf⟩ := bcell hb; have hz : w.heap.size < w'.heap.size := by (have := hb.size; (try simp at this); omega)))
    go_ret
    exact ⟨rfl, by repeat (first | exact bbox _ _ | refine bstep ?_ (by assumption))⟩
  by_cases hn : 40 < s.size
  · have hr : flt a b c d 1 t s.size = 1 := by simp [flt, hm, ha, hb', hc', hd, hn]
    rw [hr]
    go_enter Try.func74, Try.ntmps74
    go_wp2_with (first | (go_at_call 104; refine (inBounds_any _ _).mono ?_; rintro e w' ⟨rfl, rfl⟩) | (go_at_call 103; refine (isMarker_any _ _ _ _ _ _ _ _).mono ?_; rintro e w' ⟨rfl, hb⟩; obtain ⟨hc, hf⟩ := bcell hb; have hz : w.heap.size < w'.heap.size := by (have := hb.size; (try simp at this); omega)) | (go_at_call 105; refine (fitsMarker_any _ _ _ _ _ _ _ _).mono ?_; rintro e w' ⟨rfl, hb⟩; obtain ⟨hc, hf⟩ := bcell hb; have hz : w.heap.size < w'.heap.size := by (have := hb.size; (try simp at this); omega)) | (go_at_call 106; refine (fitsNobody_any _ _ _ _ _ _ _ _).mono ?_; rintro e w' ⟨rfl, hb⟩; obtain ⟨hc, hf⟩ := bcell hb; have hz : w.heap.size < w'.heap.size := by (have := hb.size; (try simp at this); omega)))
    go_ret
    exact ⟨rfl, by repeat (first | exact bbox _ _ | refine bstep ?_ (by assumption))⟩
  have hn' : ¬ (40 : Int) < (s.size : Int) := by omega
  by_cases hb0 : b = 0
  · subst hb0
    cases hfn : fnB c d t
    · have hr : flt a 0 c d 1 t s.size = 4 := by simp [flt, hm, ha, hb', hc', hd, hn, hfn]
      rw [hr]
      go_enter Try.func74, Try.ntmps74
      go_wp2_with (first | (go_at_call 104; refine (inBounds_any _ _).mono ?_; rintro e w' ⟨rfl, rfl⟩) | (go_at_call 103; refine (isMarker_any _ _ _ _ _ _ _ _).mono ?_; rintro e w' ⟨rfl, hb⟩; obtain ⟨hc, hf⟩ := bcell hb; have hz : w.heap.size < w'.heap.size := by (have := hb.size; (try simp at this); omega)) | (go_at_call 105; refine (fitsMarker_any _ _ _ _ _ _ _ _).mono ?_; rintro e w' ⟨rfl, hb⟩; obtain ⟨hc, hf⟩ := bcell hb; have hz : w.heap.size < w'.heap.size := by (have := hb.size; (try simp at this); omega)) | (go_at_call 106; refine (fitsNobody_any _ _ _ _ _ _ _ _).mono ?_; rintro e w' ⟨rfl, hb⟩; obtain ⟨hc, hf⟩ := bcell hb; have hz : w.heap.size < w'.heap.size := by (have := hb.size; (try simp at this); omega)))
      go_ret
      exact ⟨rfl, by repeat (first | exact bbox _ _ | refine bstep ?_ (by assumption))⟩
    · have hr : flt a 0 c d 1 t s.size = 0 := by simp [flt, hm, ha, hb', hc', hd, hn, hfn]
      rw [hr]
      go_enter Try.func74, Try.ntmps74
      go_wp2_with (first | (go_at_call 104; refine (inBounds_any _ _).mono ?_; rintro e w' ⟨rfl, rfl⟩) | (go_at_call 103; refine (isMarker_any _ _ _ _ _ _ _ _).mono ?_; rintro e w' ⟨rfl, hb⟩; obtain ⟨hc, hf⟩ := bcell hb; have hz : w.heap.size < w'.heap.size := by (have := hb.size; (try simp at this); omega)) | (go_at_call 105; refine (fitsMarker_any _ _ _ _ _ _ _ _).mono ?_; rintro e w' ⟨rfl, hb⟩; obtain ⟨hc, hf⟩ := bcell hb; have hz : w.heap.size < w'.heap.size := by (have := hb.size; (try simp at this); omega)) | (go_at_call 106; refine (fitsNobody_any _ _ _ _ _ _ _ _).mono ?_; rintro e w' ⟨rfl, hb⟩; obtain ⟨hc, hf⟩ := bcell hb; have hz : w.heap.size < w'.heap.size := by (have := hb.size; (try simp at this); omega)))
      go_ret
      exact ⟨rfl, by repeat (first | exact bbox _ _ | refine bstep ?_ (by assumption))⟩
  have g0 : (b == 0) = false := by simp [hb0]
  have hr : flt a b c d 1 t s.size = 0 := by simp [flt, hm, ha, hb', hc', hd, hn, hb0]
  rw [hr]
  go_enter Try.func74, Try.ntmps74
  go_wp2_with (first | (go_at_call 104; refine (inBounds_any _ _).mono ?_; rintro e w' ⟨rfl, rfl⟩) | (go_at_call 103; refine (isMarker_any _ _ _ _ _ _ _ _).mono ?_; rintro e w' ⟨rfl, hb⟩; obtain ⟨hc, hf⟩ := bcell hb; have hz : w.heap.size < w'.heap.size := by (have := hb.size; (try simp at this); omega)) | (go_at_call 105; refine (fitsMarker_any _ _ _ _ _ _ _ _).mono ?_; rintro e w' ⟨rfl, hb⟩; obtain ⟨hc, hf⟩ := bcell hb; have hz : w.heap.size < w'.heap.size := by (have := hb.size; (try simp at this); omega)) | (go_at_call 106; refine (fitsNobody_any _ _ _ _ _ _ _ _).mono ?_; rintro e w' ⟨rfl, hb⟩; obtain ⟨hc, hf⟩ := bcell hb; have hz : w.heap.size < w'.heap.size := by (have := hb.size; (try simp at this); omega)))
  go_ret
  exact ⟨rfl, by repeat (first | exact bbox _ _ | refine bstep ?_ (by assumption))⟩

set_option maxRecDepth 100000 in
set_option maxHeartbeats 400000 in
theorem check_any (a b c d k : Int) (t : Bool) (s : ByteArray) (w : World) :
    Calls Try.prog 74 #[.agg #[.int .i64 a, .int .i64 b, .int .i64 c, .int .i64 d, .int .i64 k, .bool t, .string s]] w fun e w' => e = .returned (.int .i64 (flt a b c d k t s.size)) ∧ Below w.heap.size w w' := by
  by_cases hk : k = 1
  · subst hk
    exact check_data a b c d t s w
  · have hk' : (k != 1) = true := by simp [hk]
    cases hm : mkB k
    · exact check_nokind a b c d k t s w hm hk'
    · exact check_marker a b c d k t s w hm hk'

theorem inR0 (n : Int) : inR n 0 1073741824 = inB n := rfl
theorem inR13 (k : Int) (hm : mkB k = true) : inR k 1 3 = true := by simp [mkB] at hm; simp [inR]; omega
theorem inR13n (k : Int) (hm : mkB k = false) (hk : k ≠ 1) : inR k 1 3 = false := by simp [mkB] at hm; simp [inR]; omega

end Go.Proofs.Ytkakagjffafdiaa
