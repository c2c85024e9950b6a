/-
  Plain lists of numbers: the bytes of a number, of an entry's body, and their sum.
  The walks of wire.Check and of the document's EntryFault: each returns the same number of the entry's fields, and turns nothing that was there.
  The walks of the two sums over a slice of bytes.
  A slice of bytes that a call owns, and the laws by which it grows.
  The walks of the two ways to write a number.
  The walks of the two ways to write an entry's body.
  The walk of the document's EntryFault: it returns what flt says of the entry's fields, and turns nothing that was there.
  The walks of wire.Encode and of the document's EntryBytes: the bytes of an entry, or what is wrong with it.
-/
import Derived.WalkKit
import Derived.Test.YtknipikmbfdcnaaRows
import Derived.WalkSpells
import Derived.WalkLawsBesides
import Derived.Lib.Strings
import Derived.Laws.AppendOwnNone
import Derived.Lib.AppendStr
import Derived.Laws.BytesArg
import Derived.Test.YtknipikmbfdcnaaEbase
namespace Go.Proofs.Ytknipikmbfdcnaa

section
open Go.RowKit

/-- A number in bytes of seven bits, the lowest ones first; so many bytes at the most. -/
def sevF : Nat → Nat → List Int
  | 0, _ => []
  | f + 1, n => if n < 128 then [(n : Int)] else ((128 + n % 128 : Nat) : Int) :: sevF f (n / 128)
def sev (n : Int) : List Int := sevF 5 n.toNat

/-- Each byte by its place, from the i-th on. -/
def sumFrom : Nat → List Int → Int
  | _, [] => 0
  | i, x :: r => ((i : Int) + 1) * x + sumFrom (i + 1) r
def sumL (l : List Int) : Int := sumFrom 0 l % 65521

def isByte (n : Int) : Prop := 0 ≤ n ∧ n ≤ 255

theorem sumFrom_append (i : Nat) (l r : List Int) : sumFrom i (l ++ r) = sumFrom i l + sumFrom (i + l.length) r := by
  induction l generalizing i with
  | nil => simp [sumFrom]
  | cons x l ih => simp only [List.cons_append, sumFrom, ih, List.length_cons]; rw [show i + 1 + l.length = i + (l.length + 1) by omega]; omega

theorem sum_snoc (l : List Int) (k : Nat) (h : k < l.length) : sumFrom 0 (l.take (k + 1)) = sumFrom 0 (l.take k) + ((k : Int) + 1) * l.getD k 0 := by
  rw [List.take_succ_eq_append_getElem h, sumFrom_append]
  have hl : (l.take k).length = k := by simp; omega
  have e : l.getD k 0 = l[k] := by simp [List.getD, h]
  rw [hl, e]
  simp [sumFrom]

theorem sumFrom_bd (l : List Int) (hb : Bytes l) (i : Nat) : 0 ≤ sumFrom i l ∧ sumFrom i l ≤ ((i + l.length : Nat) : Int) * 255 * (l.length : Int) := by
  induction l generalizing i with
  | nil => simp [sumFrom]
  | cons x l ih =>
    have h1 := ih (fun n hn => hb n (List.mem_cons_of_mem _ hn)) (i + 1)
    have hx := hb x (List.mem_cons_self ..)
    simp only [sumFrom, List.length_cons]
    rw [show (i + 1 + l.length) = i + (l.length + 1) by omega] at h1
    have h2 : 0 ≤ ((i : Int) + 1) * x := Int.mul_nonneg (by omega) hx.1
    have h3 : ((i : Int) + 1) * x ≤ ((i : Int) + 1) * 255 := Int.mul_le_mul_of_nonneg_left hx.2 (by omega)
    have h4 : ((i : Int) + 1) * 255 ≤ ((i + (l.length + 1) : Nat) : Int) * 255 := by omega
    have h5 : ((i + (l.length + 1) : Nat) : Int) * 255 * ((l.length + 1 : Nat) : Int) = ((i + (l.length + 1) : Nat) : Int) * 255 * (l.length : Int) + ((i + (l.length + 1) : Nat) : Int) * 255 := by
      rw [show ((l.length + 1 : Nat) : Int) = (l.length : Int) + 1 by omega, Int.mul_add, Int.mul_one]
    rw [h5]
    omega

theorem sum_small (l : List Int) (hb : Bytes l) (hl : l.length ≤ 300) : 0 ≤ sumFrom 0 l ∧ sumFrom 0 l ≤ 22950000 := by
  have h := sumFrom_bd l hb 0
  refine ⟨h.1, Int.le_trans h.2 ?_⟩
  have h1 : (((0 + l.length : Nat) : Int)) * 255 ≤ 76500 := by omega
  have h2 : (((0 + l.length : Nat) : Int)) * 255 * (l.length : Int) ≤ 76500 * (l.length : Int) := Int.mul_le_mul_of_nonneg_right h1 (by omega)
  omega

theorem bytes_take {l : List Int} (hb : Bytes l) (k : Nat) : Bytes (l.take k) := fun n hn => hb n (List.mem_of_mem_take hn)
theorem bytes_drop {l : List Int} (hb : Bytes l) (k : Nat) : Bytes (l.drop k) := fun n hn => hb n (List.mem_of_mem_drop hn)
theorem bytes_append {l r : List Int} (hl : Bytes l) (hr : Bytes r) : Bytes (l ++ r) := fun n hn => (List.mem_append.1 hn).elim (hl n) (hr n)
theorem bytes_getD {l : List Int} (hb : Bytes l) (k : Nat) : 0 ≤ l.getD k 0 ∧ l.getD k 0 ≤ 255 := by
  by_cases h : k < l.length
  · have e : l.getD k 0 = l[k] := by simp [List.getD, h]
    rw [e]; exact hb _ (List.getElem_mem h)
  · have e : l.getD k 0 = 0 := by simp [List.getD, List.getElem?_eq_none (show l.length ≤ k by omega)]
    rw [e]; omega
theorem sumL_bd (l : List Int) : 0 ≤ sumL l ∧ sumL l < 65521 := by unfold sumL; omega

theorem sevF_bytes (f n : Nat) : Bytes (sevF f n) := by
  induction f generalizing n with
  | zero => intro x hx; simp [sevF] at hx
  | succ f ih =>
    intro x hx
    by_cases h : n < 128
    · simp only [sevF, if_pos h, List.mem_singleton] at hx; omega
    · simp only [sevF, if_neg h, List.mem_cons] at hx
      rcases hx with rfl | hx
      · omega
      · exact ih _ x hx
theorem sevF_len (f n : Nat) : (sevF f n).length ≤ f := by
  induction f generalizing n with
  | zero => simp [sevF]
  | succ f ih =>
    by_cases h : n < 128
    · simp [sevF, h]
    · have := ih (n / 128); simp [sevF, h]; omega
theorem sevF_small (f n : Nat) (h : n < 128) : sevF (f + 1) n = [(n : Int)] := by simp [sevF, h]
theorem sevF_big (f n : Nat) (h : ¬ n < 128) : sevF (f + 1) n = ((128 + n % 128 : Nat) : Int) :: sevF f (n / 128) := by simp [sevF, h]
end

section
open Go.RowKit


def inB (n : Int) : Bool := decide (0 ≤ n ∧ n ≤ 1073741824)
def mkB (k : Int) : Bool := decide (k = 2 ∨ k = 3)
def fmB (b d : Int) (t : Bool) (n : Nat) : Bool := decide (b ≠ 0 ∧ t = true ∧ d = 0 ∧ n = 0)
def fnB (c d : Int) (t : Bool) : Bool := decide (t = false ∧ c = 0 ∧ d = 0)
/-- What P1.1 answers. -/
def flt (a b c d k : Int) (t : Bool) (n : Nat) : Int :=
  if k ≠ 1 ∧ mkB k = false then 3
  else if inB a = false ∨ inB b = false ∨ inB c = false ∨ inB d = false then 2
  else if 40 < n then 1
  else if mkB k = true ∧ fmB b d t n = false then 4
  else if b = 0 ∧ fnB c d t = false then 4
  else 0

set_option maxRecDepth 100000 in
set_option maxHeartbeats 400000 in
theorem inBounds_any (n : Int) (w : World) :
    Calls Try.prog 51 #[.int .i64 n] w fun e w' => e = .returned (.bool (inB n)) ∧ w' = w := by
  by_cases h0 : 0 ≤ n
  · by_cases h1 : n ≤ 1073741824
    · have hr : inB n = true := by simp [inB]; omega
      rw [hr]
      go_enter Try.func51, Try.ntmps51
      go_wp2
      go_ret
      exact ⟨rfl, rfl⟩
    · have hr : inB n = false := by simp [inB]; omega
      rw [hr]
      go_enter Try.func51, Try.ntmps51
      go_wp2
      go_ret
      exact ⟨rfl, rfl⟩
  · have hr : inB n = false := by simp [inB]; omega
    rw [hr]
    go_enter Try.func51, Try.ntmps51
    go_wp2
    go_ret
    exact ⟨rfl, rfl⟩



set_option maxRecDepth 100000 in
set_option maxHeartbeats 400000 in
theorem isMarker_any (a b c d k : Int) (t : Bool) (s : ByteArray) (w : World) :
    Calls Try.prog 50 #[.agg #[.int .i64 a, .int .i64 b, .int .i64 c, .int .i64 d, .int .i64 k, .bool t, .string s]] w fun e w' => e = .returned (.bool (mkB k)) ∧ Below w.heap.size w w' := by
  by_cases h2 : k = 2
  · subst h2
    go_enter Try.func50, Try.ntmps50
    go_wp2
    go_ret
    exact ⟨rfl, bbox _ _⟩
  · by_cases h3 : k = 3
    · subst h3
      go_enter Try.func50, Try.ntmps50
      go_wp2
      go_ret
      exact ⟨rfl, bbox _ _⟩
    · have hr : mkB k = false := by simp [mkB]; omega
      rw [hr]
      have g2 : (k == 2) = false := by simp; omega
      have g3 : (k == 3) = false := by simp; omega
      go_enter Try.func50, Try.ntmps50
      go_wp2
      go_ret
      exact ⟨rfl, bbox _ _⟩

theorem sempty (s : ByteArray) : s.toList.isEmpty = decide (s.size = 0) := by
  rw [Lib.toList_data]
  have h : s.size = s.data.toList.length := by simp
  rw [h]
  cases s.data.toList <;> simp

set_option maxRecDepth 100000 in
set_option maxHeartbeats 400000 in
theorem fitsMarker_any (a b c d k : Int) (t : Bool) (s : ByteArray) (w : World) :
    Calls Try.prog 52 #[.agg #[.int .i64 a, .int .i64 b, .int .i64 c, .int .i64 d, .int .i64 k, .bool t, .string s]] w fun e w' => e = .returned (.bool (fmB b d t s.size)) ∧ Below w.heap.size w w' := by
  by_cases h0 : b = 0
  · subst h0
    have hr : fmB 0 d t s.size = false := by simp [fmB]
    rw [hr]
    go_enter Try.func52, Try.ntmps52
    go_wp2
    go_ret
    exact ⟨rfl, bbox _ _⟩
  · have g0 : (b != 0) = true := by simp; omega
    cases t
    · have hr : fmB b d false s.size = false := by simp [fmB]
      rw [hr]
      go_enter Try.func52, Try.ntmps52
      go_wp2
      go_ret
      exact ⟨rfl, bbox _ _⟩
    · by_cases h1 : d = 0
      · subst h1
        by_cases h2 : s.size = 0
        · have hr : fmB b 0 true s.size = true := by simp [fmB, h0, h2]
          rw [hr]
          have h3 : s.toList.isEmpty = true := by rw [sempty]; simp [h2]
          clear h2
          go_enter Try.func52, Try.ntmps52
          go_wp2
          go_ret
          exact ⟨rfl, bbox _ _⟩
        · have hr : fmB b 0 true s.size = false := by simp [fmB, h2]
          rw [hr]
          have h3 : s.toList.isEmpty = false := by rw [sempty]; simp [h2]
          clear h2
          go_enter Try.func52, Try.ntmps52
          go_wp2
          go_ret
          exact ⟨rfl, bbox _ _⟩
      · have hr : fmB b d true s.size = false := by simp [fmB, h1]
        rw [hr]
        have g1 : (d == 0) = false := by simp; omega
        go_enter Try.func52, Try.ntmps52
        go_wp2
        go_ret
        exact ⟨rfl, bbox _ _⟩

set_option maxRecDepth 100000 in
set_option maxHeartbeats 400000 in
theorem fitsNobody_any (a b c d k : Int) (t : Bool) (s : ByteArray) (w : World) :
    Calls Try.prog 53 #[.agg #[.int .i64 a, .int .i64 b, .int .i64 c, .int .i64 d, .int .i64 k, .bool t, .string s]] w fun e w' => e = .returned (.bool (fnB c d t)) ∧ Below w.heap.size w w' := by
  cases t
  · by_cases h0 : c = 0
    · subst h0
      by_cases h1 : d = 0
      · subst h1
        go_enter Try.func53, Try.ntmps53
        go_wp2
        go_ret
        exact ⟨rfl, bbox _ _⟩
      · have hr : fnB 0 d false = false := by simp [fnB, h1]
        rw [hr]
        have g1 : (d == 0) = false := by simp; omega
        go_enter Try.func53, Try.ntmps53
        go_wp2
        go_ret
        exact ⟨rfl, bbox _ _⟩
    · have hr : fnB c d false = false := by simp [fnB, h0]
      rw [hr]
      have g1 : (c == 0) = false := by simp; omega
      go_enter Try.func53, Try.ntmps53
      go_wp2
      go_ret
      exact ⟨rfl, bbox _ _⟩
  · have hr : fnB c d true = false := by simp [fnB]
    rw [hr]
    go_enter Try.func53, Try.ntmps53
    go_wp2
    go_ret
    exact ⟨rfl, bbox _ _⟩

set_option maxRecDepth 100000 in
set_option maxHeartbeats 1000000 in
theorem check_nokind (a b c d k : Int) (t : Bool) (s : ByteArray) (w : World) (hm : mkB k = false) (hk : (k != 1) = true) :
    Calls Try.prog 20 #[.agg #[.int .i64 a, .int .i64 b, .int .i64 c, .int .i64 d, .int .i64 k, .bool t, .string s]] w fun e w' => e = .returned (.int .i64 (flt a b c d k t s.size)) ∧ Below w.heap.size w w' := by
  have hk1 : k ≠ 1 := by simpa using hk
  have hr : flt a b c d k t s.size = 3 := by simp [flt, hm, hk1]
  rw [hr]
  clear hk1
  go_enter Try.func20, Try.ntmps20
  go_wp2_with (first | (go_at_call 51; refine (inBounds_any _ _).mono ?_; rintro e w' ⟨rfl, rfl⟩) | (go_at_call 50; refine (isMarker_any _ _ _ _ _ _ _ _).mono ?_; rintro e w' ⟨rfl, hb⟩; obtain ⟨hc, hf⟩ := bcell hb; have hz : w.heap.size < w'.heap.size := by (have := hb.size; (try simp at this); omega)) | (go_at_call 52; refine (fitsMarker_any _ _ _ _ _ _ _ _).mono ?_; rintro e w' ⟨rfl, hb⟩; obtain ⟨hc, hf⟩ := bcell hb; have hz : w.heap.size < w'.heap.size := by (have := hb.size; (try simp at this); omega)) | (go_at_call 53; refine (fitsNobody_any _ _ _ _ _ _ _ _).mono ?_; rintro e w' ⟨rfl, hb⟩; obtain ⟨hc, hf⟩ := bcell hb; have hz : w.heap.size < w'.heap.size := by (have := hb.size; (try simp at this); omega)))
  go_ret
  exact ⟨rfl, by repeat (first | exact bbox _ _ | refine bstep ?_ (by assumption))⟩

set_option maxRecDepth 100000 in
set_option maxHeartbeats 2000000 in
theorem check_marker (a b c d k : Int) (t : Bool) (s : ByteArray) (w : World) (hm : mkB k = true) (hk : (k != 1) = true) :
    Calls Try.prog 20 #[.agg #[.int .i64 a, .int .i64 b, .int .i64 c, .int .i64 d, .int .i64 k, .bool t, .string s]] w fun e w' => e = .returned (.int .i64 (flt a b c d k t s.size)) ∧ Below w.heap.size w w' := by
  have hk1 : k ≠ 1 := by simpa using hk
  clear hk1
  cases ha : inB a
  · have hr : flt a b c d k t s.size = 2 := by simp [flt, hm, ha]
    rw [hr]
    go_enter Try.func20, Try.ntmps20
    go_wp2_with (first | (go_at_call 51; refine (inBounds_any _ _).mono ?_; rintro e w' ⟨rfl, rfl⟩) | (go_at_call 50; refine (isMarker_any _ _ _ _ _ _ _ _).mono ?_; rintro e w' ⟨rfl, hb⟩; obtain ⟨hc, hf⟩ := bcell hb; have hz : w.heap.size < w'.heap.size := by (have := hb.size; (try simp at this); omega)) | (go_at_call 52; refine (fitsMarker_any _ _ _ _ _ _ _ _).mono ?_; rintro e w' ⟨rfl, hb⟩; obtain ⟨hc, hf⟩ := bcell hb; have hz : w.heap.size < w'.heap.size := by (have := hb.size; (try simp at this); omega)) | (go_at_call 53; refine (fitsNobody_any _ _ _ _ _ _ _ _).mono ?_; rintro e w' ⟨rfl, hb⟩; obtain ⟨hc, hf⟩ := bcell hb; have hz : w.heap.size < w'.heap.size := by (have := hb.size; (try simp at this); omega)))
    go_ret
    exact ⟨rfl, by repeat (first | exact bbox _ _ | refine bstep ?_ (by assumption))⟩
  cases hb' : inB b
  · have hr : flt a b c d k t s.size = 2 := by simp [flt, hm, hb']
    rw [hr]
    go_enter Try.func20, Try.ntmps20
    go_wp2_with (first | (go_at_call 51; refine (inBounds_any _ _).mono ?_; rintro e w' ⟨rfl, rfl⟩) | (go_at_call 50; refine (isMarker_any _ _ _ _ _ _ _ _).mono ?_; rintro e w' ⟨rfl, hb⟩; obtain ⟨hc, hf⟩ := bcell hb; have hz : w.heap.size < w'.heap.size := by (have := hb.size; (try simp at this); omega)) | (go_at_call 52; refine (fitsMarker_any _ _ _ _ _ _ _ _).mono ?_; rintro e w' ⟨rfl, hb⟩; obtain ⟨hc, hf⟩ := bcell hb; have hz : w.heap.size < w'.heap.size := by (have := hb.size; (try simp at this); omega)) | (go_at_call 53; refine (fitsNobody_any _ _ _ _ _ _ _ _).mono ?_; rintro e w' ⟨rfl, hb⟩; obtain ⟨hc, hf⟩ := bcell hb; have hz : w.heap.size < w'.heap.size := by (have := hb.size; (try simp at this); omega)))
    go_ret
    exact ⟨rfl, by repeat (first | exact bbox _ _ | refine bstep ?_ (by assumption))⟩
  cases hc' : inB c
  · have hr : flt a b c d k t s.size = 2 := by simp [flt, hm, hc']
    rw [hr]
    go_enter Try.func20, Try.ntmps20
    go_wp2_with (first | (go_at_call 51; refine (inBounds_any _ _).mono ?_; rintro e w' ⟨rfl, rfl⟩) | (go_at_call 50; refine (isMarker_any _ _ _ _ _ _ _ _).mono ?_; rintro e w' ⟨rfl, hb⟩; obtain ⟨hc, hf⟩ := bcell hb; have hz : w.heap.size < w'.heap.size := by (have := hb.size; (try simp at this); omega)) | (go_at_call 52; refine (fitsMarker_any _ _ _ _ _ _ _ _).mono ?_; rintro e w' ⟨rfl, hb⟩; obtain ⟨hc, hf⟩ := bcell hb; have hz : w.heap.size < w'.heap.size := by (have := hb.size; (try simp at this); omega)) | (go_at_call 53; refine (fitsNobody_any _ _ _ _ _ _ _ _).mono ?_; rintro e w' ⟨rfl, hb⟩; obtain ⟨hc, hf⟩ := bcell hb; have hz : w.heap.size < w'.heap.size := by (have := hb.size; (try simp at this); omega)))
    go_ret
    exact ⟨rfl, by repeat (first | exact bbox _ _ | refine bstep ?_ (by assumption))⟩
  cases hd : inB d
  · have hr : flt a b c d k t s.size = 2 := by simp [flt, hm, hd]
    rw [hr]
    go_enter Try.func20, Try.ntmps20
    go_wp2_with (first | (go_at_call 51; refine (inBounds_any _ _).mono ?_; rintro e w' ⟨rfl, rfl⟩) | (go_at_call 50; refine (isMarker_any _ _ _ _ _ _ _ _).mono ?_; rintro e w' ⟨rfl, hb⟩; obtain ⟨hc, hf⟩ := bcell hb; have hz : w.heap.size < w'.heap.size := by (have := hb.size; (try simp at this); omega)) | (go_at_call 52; refine (fitsMarker_any _ _ _ _ _ _ _ _).mono ?_; rintro e w' ⟨rfl, hb⟩; obtain ⟨hc, hf⟩ := bcell hb; have hz : w.heap.size < w'.heap.size := by (have := hb.size; (try simp at this); omega)) | (go_at_call 53; refine (fitsNobody_any _ _ _ _ _ _ _ _).mono ?_; rintro e w' ⟨rfl, hb⟩; obtain ⟨hc, hf⟩ := bcell hb; have hz : w.heap.size < w'.heap.size := by (have := hb.size; (try simp at this); omega)))
    go_ret
    exact ⟨rfl, by repeat (first | exact bbox _ _ | refine bstep ?_ (by assumption))⟩
  by_cases hn : 40 < s.size
  · have hr : flt a b c d k t s.size = 1 := by simp [flt, hm, ha, hb', hc', hd, hn]
    rw [hr]
    go_enter Try.func20, Try.ntmps20
    go_wp2_with (first | (go_at_call 51; refine (inBounds_any _ _).mono ?_; rintro e w' ⟨rfl, rfl⟩) | (go_at_call 50; refine (isMarker_any _ _ _ _ _ _ _ _).mono ?_; rintro e w' ⟨rfl, hb⟩; obtain ⟨hc, hf⟩ := bcell hb; have hz : w.heap.size < w'.heap.size := by (have := hb.size; (try simp at this); omega)) | (go_at_call 52; refine (fitsMarker_any _ _ _ _ _ _ _ _).mono ?_; rintro e w' ⟨rfl, hb⟩; obtain ⟨hc, hf⟩ := bcell hb; have hz : w.heap.size < w'.heap.size := by (have := hb.size; (try simp at this); omega)) | (go_at_call 53; refine (fitsNobody_any _ _ _ _ _ _ _ _).mono ?_; rintro e w' ⟨rfl, hb⟩; obtain ⟨hc, hf⟩ := bcell hb; have hz : w.heap.size < w'.heap.size := by (have := hb.size; (try simp at this); omega)))
    go_ret
    exact ⟨rfl, by repeat (first | exact bbox _ _ | refine bstep ?_ (by assumption))⟩
  have hn' : ¬ (40 : Int) < (s.size : Int) := by omega
  cases hfm : fmB b d t s.size
  · have hr : flt a b c d k t s.size = 4 := by simp [flt, hm, ha, hb', hc', hd, hn, hfm]
    rw [hr]
    go_enter Try.func20, Try.ntmps20
    go_wp2_with (first | (go_at_call 51; refine (inBounds_any _ _).mono ?_; rintro e w' ⟨rfl, rfl⟩) | (go_at_call 50; refine (isMarker_any _ _ _ _ _ _ _ _).mono ?_; rintro e w' ⟨rfl, hb⟩; obtain ⟨hc, hf⟩ := bcell hb; have hz : w.heap.size < w'.heap.size := by (have := hb.size; (try simp at this); omega)) | (go_at_call 52; refine (fitsMarker_any _ _ _ _ _ _ _ _).mono ?_; rintro e w' ⟨rfl, hb⟩; obtain ⟨hc, hf⟩ := bcell hb; have hz : w.heap.size < w'.heap.size := by (have := hb.size; (try simp at this); omega)) | (go_at_call 53; refine (fitsNobody_any _ _ _ _ _ _ _ _).mono ?_; rintro e w' ⟨rfl, hb⟩; obtain ⟨hc, hf⟩ := bcell hb; have hz : w.heap.size < w'.heap.size := by (have := hb.size; (try simp at this); omega)))
    go_ret
    exact ⟨rfl, by repeat (first | exact bbox _ _ | refine bstep ?_ (by assumption))⟩
  have hb0 : b ≠ 0 := by simp [fmB] at hfm; exact hfm.1
  have g0 : (b == 0) = false := by simp [hb0]
  have hr : flt a b c d k t s.size = 0 := by simp [flt, hm, ha, hb', hc', hd, hn, hfm, hb0]
  rw [hr]
  go_enter Try.func20, Try.ntmps20
  go_wp2_with (first | (go_at_call 51; refine (inBounds_any _ _).mono ?_; rintro e w' ⟨rfl, rfl⟩) | (go_at_call 50; refine (isMarker_any _ _ _ _ _ _ _ _).mono ?_; rintro e w' ⟨rfl, hb⟩; obtain ⟨hc, hf⟩ := bcell hb; have hz : w.heap.size < w'.heap.size := by (have := hb.size; (try simp at this); omega)) | (go_at_call 52; refine (fitsMarker_any _ _ _ _ _ _ _ _).mono ?_; rintro e w' ⟨rfl, hb⟩; obtain ⟨hc, hf⟩ := bcell hb; have hz : w.heap.size < w'.heap.size := by (have := hb.size; (try simp at this); omega)) | (go_at_call 53; refine (fitsNobody_any _ _ _ _ _ _ _ _).mono ?_; rintro e w' ⟨rfl, hb⟩; obtain ⟨hc, hf⟩ := bcell hb; have hz : w.heap.size < w'.heap.size := by (have := hb.size; (try simp at this); omega)))
  go_ret
  exact ⟨rfl, by repeat (first | exact bbox _ _ | refine bstep ?_ (by assumption))⟩

set_option maxRecDepth 100000 in
set_option maxHeartbeats 2000000 in
theorem check_data (a b c d : Int) (t : Bool) (s : ByteArray) (w : World)  :
    Calls Try.prog 20 #[.agg #[.int .i64 a, .int .i64 b, .int .i64 c, .int .i64 d, .int .i64 1, .bool t, .string s]] w fun e w' => e = .returned (.int .i64 (flt a b c d 1 t s.size)) ∧ Below w.heap.size w w' := by
  have hm : mkB 1 = false := by decide
  cases ha : inB a
  · have hr : flt a b c d 1 t s.size = 2 := by simp [flt, hm, ha]
    rw [hr]
    go_enter Try.func20, Try.ntmps20
    go_wp2_with (first | (go_at_call 51; refine (inBounds_any _ _).mono ?_; rintro e w' ⟨rfl, rfl⟩) | (go_at_call 50; refine (isMarker_any _ _ _ _ _ _ _ _).mono ?_; rintro e w' ⟨rfl, hb⟩; obtain ⟨hc, hf⟩ := bcell hb; have hz : w.heap.size < w'.heap.size := by (have := hb.size; (try simp at this); omega)) | (go_at_call 52; refine (fitsMarker_any _ _ _ _ _ _ _ _).mono ?_; rintro e w' ⟨rfl, hb⟩; obtain ⟨hc, hf⟩ := bcell hb; have hz : w.heap.size < w'.heap.size := by (have := hb.size; (try simp at this); omega)) | (go_at_call 53; refine (fitsNobody_any _ _ _ _ _ _ _ _).mono ?_; rintro e w' ⟨rfl, hb⟩; obtain ⟨hc, hf⟩ := bcell hb; have hz : w.heap.size < w'.heap.size := by (have := hb.size; (try simp at this); omega)))
    go_ret
    exact ⟨rfl, by repeat (first | exact bbox _ _ | refine bstep ?_ (by assumption))⟩
  cases hb' : inB b
  · have hr : flt a b c d 1 t s.size = 2 := by simp [flt, hm, hb']
    rw [hr]
    go_enter Try.func20, Try.ntmps20
    go_wp2_with (first | (go_at_call 51; refine (inBounds_any _ _).mono ?_; rintro e w' ⟨rfl, rfl⟩) | (go_at_call 50; refine (isMarker_any _ _ _ _ _ _ _ _).mono ?_; rintro e w' ⟨rfl, hb⟩; obtain ⟨hc, hf⟩ := bcell hb; have hz : w.heap.size < w'.heap.size := by (have := hb.size; (try simp at this); omega)) | (go_at_call 52; refine (fitsMarker_any _ _ _ _ _ _ _ _).mono ?_; rintro e w' ⟨rfl, hb⟩; obtain ⟨hc, hf⟩ := bcell hb; have hz : w.heap.size < w'.heap.size := by (have := hb.size; (try simp at this); omega)) | (go_at_call 53; refine (fitsNobody_any _ _ _ _ _ _ _ _).mono ?_; rintro e w' ⟨rfl, hb⟩; obtain ⟨hc, hf⟩ := bcell hb; have hz : w.heap.size < w'.heap.size := by (have := hb.size; (try simp at this); omega)))
    go_ret
    exact ⟨rfl, by repeat (first | exact bbox _ _ | refine bstep ?_ (by assumption))⟩
  cases hc' : inB c
  · have hr : flt a b c d 1 t s.size = 2 := by simp [flt, hm, hc']
    rw [hr]
    go_enter Try.func20, Try.ntmps20
    go_wp2_with (first | (go_at_call 51; refine (inBounds_any _ _).mono ?_; rintro e w' ⟨rfl, rfl⟩) | (go_at_call 50; refine (isMarker_any _ _ _ _ _ _ _ _).mono ?_; rintro e w' ⟨rfl, hb⟩; obtain ⟨hc, hf⟩ := bcell hb; have hz : w.heap.size < w'.heap.size := by (have := hb.size; (try simp at this); omega)) | (go_at_call 52; refine (fitsMarker_any _ _ _ _ _ _ _ _).mono ?_; rintro e w' ⟨rfl, hb⟩; obtain ⟨hc, hf⟩ := bcell hb; have hz : w.heap.size < w'.heap.size := by (have := hb.size; (try simp at this); omega)) | (go_at_call 53; refine (fitsNobody_any _ _ _ _ _ _ _ _).mono ?_; rintro e w' ⟨rfl, hb⟩; obtain ⟨hc, hf⟩ := bcell hb; have hz : w.heap.size < w'.heap.size := by (have := hb.size; (try simp at this); omega)))
    go_ret
    exact ⟨rfl, by repeat (first | exact bbox _ _ | refine bstep ?_ (by assumption))⟩
  cases hd : inB d
  · have hr : flt a b c d 1 t s.size = 2 := by simp [flt, hm, hd]
    rw [hr]
    go_enter Try.func20, Try.ntmps20
    go_wp2_with (first | (go_at_call 51; refine (inBounds_any _ _).mono ?_; rintro e w' ⟨rfl, rfl⟩) | (go_at_call 50; refine (isMarker_any _ _ _ _ _ _ _ _).mono ?_; rintro e w' ⟨rfl, hb⟩; obtain ⟨hc, hf⟩ := bcell hb; have hz : w.heap.size < w'.heap.size := by (have := hb.size; (try simp at this); omega)) | (go_at_call 52; refine (fitsMarker_any _ _ _ _ _ _ _ _).mono ?_; rintro e w' ⟨rfl, hb⟩; obtain ⟨hc, hf⟩ := bcell hb; have hz : w.heap.size < w'.heap.size := by (have := hb.size; (try simp at this); omega)) | (go_at_call 53; refine (fitsNobody_any _ _ _ _ _ _ _ _).mono ?_; rintro e w' ⟨rfl, hb⟩; obtain ⟨hc, hf⟩ := bcell hb; have hz : w.heap.size < w'.heap.size := by (have := hb.size; (try simp at this); omega)))
    go_ret
    exact ⟨rfl, by repeat (first | exact bbox _ _ | refine bstep ?_ (by assumption))⟩
  by_cases hn : 40 < s.size
  · have hr : flt a b c d 1 t s.size = 1 := by simp [flt, hm, ha, hb', hc', hd, hn]
    rw [hr]
    go_enter Try.func20, Try.ntmps20
    go_wp2_with (first | (go_at_call 51; refine (inBounds_any _ _).mono ?_; rintro e w' ⟨rfl, rfl⟩) | (go_at_call 50; refine (isMarker_any _ _ _ _ _ _ _ _).mono ?_; rintro e w' ⟨rfl, hb⟩; obtain ⟨hc, hf⟩ := bcell hb; have hz : w.heap.size < w'.heap.size := by (have := hb.size; (try simp at this); omega)) | (go_at_call 52; refine (fitsMarker_any _ _ _ _ _ _ _ _).mono ?_; rintro e w' ⟨rfl, hb⟩; obtain ⟨hc, hf⟩ := bcell hb; have hz : w.heap.size < w'.heap.size := by (have := hb.size; (try simp at this); omega)) | (go_at_call 53; refine (fitsNobody_any _ _ _ _ _ _ _ _).mono ?_; rintro e w' ⟨rfl, hb⟩; obtain ⟨hc, hf⟩ := bcell hb; have hz : w.heap.size < w'.heap.size := by (have := hb.size; (try simp at this); omega)))
    go_ret
    exact ⟨rfl, by repeat (first | exact bbox _ _ | refine bstep ?_ (by assumption))⟩
  have hn' : ¬ (40 : Int) < (s.size : Int) := by omega
  by_cases hb0 : b = 0
  · subst hb0
    cases hfn : fnB c d t
    · have hr : flt a 0 c d 1 t s.size = 4 := by simp [flt, hm, ha, hb', hc', hd, hn, hfn]
      rw [hr]
      go_enter Try.func20, Try.ntmps20
      go_wp2_with (first | (go_at_call 51; refine (inBounds_any _ _).mono ?_; rintro e w' ⟨rfl, rfl⟩) | (go_at_call 50; refine (isMarker_any _ _ _ _ _ _ _ _).mono ?_; rintro e w' ⟨rfl, hb⟩; obtain ⟨hc, hf⟩ := bcell hb; have hz : w.heap.size < w'.heap.size := by (have := hb.size; (try simp at this); omega)) | (go_at_call 52; refine (fitsMarker_any _ _ _ _ _ _ _ _).mono ?_; rintro e w' ⟨rfl, hb⟩; obtain ⟨hc, hf⟩ := bcell hb; have hz : w.heap.size < w'.heap.size := by (have := hb.size; (try simp at this); omega)) | (go_at_call 53; refine (fitsNobody_any _ _ _ _ _ _ _ _).mono ?_; rintro e w' ⟨rfl, hb⟩; obtain ⟨hc, hf⟩ := bcell hb; have hz : w.heap.size < w'.heap.size := by (have := hb.size; (try simp at this); omega)))
      go_ret
      exact ⟨rfl, by repeat (first | exact bbox _ _ | refine bstep ?_ (by assumption))⟩
    · have hr : flt a 0 c d 1 t s.size = 0 := by simp [flt, hm, ha, hb', hc', hd, hn, hfn]
      rw [hr]
      go_enter Try.func20, Try.ntmps20
      go_wp2_with (first | (go_at_call 51; refine (inBounds_any _ _).mono ?_; rintro e w' ⟨rfl, rfl⟩) | (go_at_call 50; refine (isMarker_any _ _ _ _ _ _ _ _).mono ?_; rintro e w' ⟨rfl, hb⟩; obtain ⟨hc, hf⟩ := bcell hb; have hz : w.heap.size < w'.heap.size := by (have := hb.size; (try simp at this); omega)) | (go_at_call 52; refine (fitsMarker_any _ _ _ _ _ _ _ _).mono ?_; rintro e w' ⟨rfl, hb⟩; obtain ⟨hc, hf⟩ := bcell hb; have hz : w.heap.size < w'.heap.size := by (have := hb.size; (try simp at this); omega)) | (go_at_call 53; refine (fitsNobody_any _ _ _ _ _ _ _ _).mono ?_; rintro e w' ⟨rfl, hb⟩; obtain ⟨hc, hf⟩ := bcell hb; have hz : w.heap.size < w'.heap.size := by (have := hb.size; (try simp at this); omega)))
      go_ret
      exact ⟨rfl, by repeat (first | exact bbox _ _ | refine bstep ?_ (by assumption))⟩
  have g0 : (b == 0) = false := by simp [hb0]
  have hr : flt a b c d 1 t s.size = 0 := by simp [flt, hm, ha, hb', hc', hd, hn, hb0]
  rw [hr]
  go_enter Try.func20, Try.ntmps20
  go_wp2_with (first | (go_at_call 51; refine (inBounds_any _ _).mono ?_; rintro e w' ⟨rfl, rfl⟩) | (go_at_call 50; refine (isMarker_any _ _ _ _ _ _ _ _).mono ?_; rintro e w' ⟨rfl, hb⟩; obtain ⟨hc, hf⟩ := bcell hb; have hz : w.heap.size < w'.heap.size := by (have := hb.size; (try simp at this); omega)) | (go_at_call 52; refine (fitsMarker_any _ _ _ _ _ _ _ _).mono ?_; rintro e w' ⟨rfl, hb⟩; obtain ⟨hc, hf⟩ := bcell hb; have hz : w.heap.size < w'.heap.size := by (have := hb.size; (try simp at this); omega)) | (go_at_call 53; refine (fitsNobody_any _ _ _ _ _ _ _ _).mono ?_; rintro e w' ⟨rfl, hb⟩; obtain ⟨hc, hf⟩ := bcell hb; have hz : w.heap.size < w'.heap.size := by (have := hb.size; (try simp at this); omega)))
  go_ret
  exact ⟨rfl, by repeat (first | exact bbox _ _ | refine bstep ?_ (by assumption))⟩

set_option maxRecDepth 100000 in
set_option maxHeartbeats 400000 in
theorem check_any (a b c d k : Int) (t : Bool) (s : ByteArray) (w : World) :
    Calls Try.prog 20 #[.agg #[.int .i64 a, .int .i64 b, .int .i64 c, .int .i64 d, .int .i64 k, .bool t, .string s]] w fun e w' => e = .returned (.int .i64 (flt a b c d k t s.size)) ∧ Below w.heap.size w w' := by
  by_cases hk : k = 1
  · subst hk
    exact check_data a b c d t s w
  · have hk' : (k != 1) = true := by simp [hk]
    cases hm : mkB k
    · exact check_nokind a b c d k t s w hm hk'
    · exact check_marker a b c d k t s w hm hk'

theorem inR0 (n : Int) : inR n 0 1073741824 = inB n := rfl
theorem inR13 (k : Int) (hm : mkB k = true) : inR k 1 3 = true := by simp [mkB] at hm; simp [inR]; omega
theorem inR13n (k : Int) (hm : mkB k = false) (hk : k ≠ 1) : inR k 1 3 = false := by simp [mkB] at hm; simp [inR]; omega
end

section
open Go.RowKit

/-- A slice of bytes that reads as l. -/
def Rd (w : World) (v : Value) (l : List Int) : Prop :=
  Bytes l ∧ ∃ ao cap, v = .slice ao l.length cap ∧ l.length ≤ cap ∧ cap ≤ maxLen ∧ (ao = none → cap = 0) ∧ (0 < l.length → ∃ b off, ao = some ⟨b, off, none⟩ ∧ ∀ i, i < l.length → w.cell? ⟨b, off + i, none⟩ = some (.int .u8 (l.getD i 0)))


theorem sum_step (l : List Int) (k : Nat) (hb : Bytes l) (hl : l.length ≤ 300) (hlt : k < l.length) :
    wrap64 (sumFrom 0 (l.take k) + wrap64 (((k : Int) + 1) * wrap64 (l[k]'hlt))) = sumFrom 0 (l.take (k + 1)) := by
  have h1 := sum_small (l.take k) (bytes_take hb k) (by simp; omega)
  have h2 := sum_small (l.take (k + 1)) (bytes_take hb (k + 1)) (by simp; omega)
  have h3 := sum_snoc l k hlt
  have e : l.getD k 0 = l[k] := by simp [List.getD, hlt]
  have hx := bytes_getD hb k
  rw [e] at h3 hx
  rw [w64 (l[k]'hlt) (by omega)]
  generalize ((k : Int) + 1) * l[k] = m at *
  rw [w64 m (by omega), w64 _ (by omega)]
  omega

set_option maxRecDepth 100000 in
set_option maxHeartbeats 400000 in
theorem sum_some (l : List Int) (b off cap : Nat) (w : World) (hl : l.length ≤ 300) (hb : Bytes l) (hc : ∀ i, i < l.length → w.cell? ⟨b, off + i, none⟩ = some (.int .u8 (l.getD i 0))) :
    Calls Try.prog 56 #[.slice (some ⟨b, off, none⟩) l.length cap] w fun e w' => e = .returned (.int .i64 (sumL l)) ∧ w' = w := by
  go_enter Try.func56, Try.ntmps56
  go_wp2
  go_loop [3, 8] (fun s i => ∃ k : Nat, k ≤ l.length ∧ i = .int .i64 k ∧ s = .int .i64 (sumFrom 0 (l.take k))) (fun _ i => l.length - (intOf i).toNat)
  case atStart => exact ⟨0, Nat.zero_le _, rfl, rfl⟩
  case round =>
    obtain ⟨k, hk, rfl, rfl⟩ := hrel
    have hs := sum_small (l.take k) (bytes_take hb k) (by simp; omega)
    by_cases hlt : k < l.length
    · have hcx := hc k hlt
      have hx := bytes_getD hb k
      clear hc
      go_wp2
      go_round
      case rel => exact ⟨k + 1, by omega, by go_num, by rw [sum_step l k hb hl hlt]⟩
      case measure => simp [intOf]; omega
    · go_wp2
      go_ret
      exact ⟨by rw [List.take_of_length_le (by omega)]; rfl, rfl⟩

set_option maxRecDepth 100000 in
set_option maxHeartbeats 400000 in
theorem sum_none (ao : Option Addr) (cap : Nat) (w : World) :
    Calls Try.prog 56 #[.slice ao 0 cap] w fun e w' => e = .returned (.int .i64 0) ∧ w' = w := by
  go_enter Try.func56, Try.ntmps56
  go_wp2
  refine wp_loop_rounds 1 ?_
  rw [rounds_succ]
  go_wp2
  go_ret
  exact ⟨rfl, rfl⟩

theorem sum_any (l : List Int) (v : Value) (w : World) (hl : l.length ≤ 300) (h : Rd w v l) :
    Calls Try.prog 56 #[v] w fun e w' => e = .returned (.int .i64 (sumL l)) ∧ w' = w := by
  obtain ⟨hb, ao, cap, rfl, _, _, _, hc⟩ := h
  by_cases h0 : 0 < l.length
  · obtain ⟨b, off, rfl, hc'⟩ := hc h0
    exact sum_some l b off cap w hl hb hc'
  · have : l = [] := List.eq_nil_of_length_eq_zero (by omega)
    subst this
    exact sum_none ao cap w

set_option maxRecDepth 100000 in
set_option maxHeartbeats 400000 in
theorem sumOf_some (l : List Int) (b off cap : Nat) (w : World) (hl : l.length ≤ 300) (hb : Bytes l) (hc : ∀ i, i < l.length → w.cell? ⟨b, off + i, none⟩ = some (.int .u8 (l.getD i 0))) :
    Calls Try.prog 58 #[.slice (some ⟨b, off, none⟩) l.length cap] w fun e w' => e = .returned (.int .i64 (sumL l)) ∧ w' = w := by
  go_enter Try.func58, Try.ntmps58
  go_wp2
  go_loop [3, 4] (fun s i => ∃ k : Nat, k ≤ l.length ∧ i = .int .i64 k ∧ s = .int .i64 (sumFrom 0 (l.take k))) (fun _ i => l.length - (intOf i).toNat)
  case atStart => exact ⟨0, Nat.zero_le _, rfl, rfl⟩
  case round =>
    obtain ⟨k, hk, rfl, rfl⟩ := hrel
    have hs := sum_small (l.take k) (bytes_take hb k) (by simp; omega)
    by_cases hlt : k < l.length
    · have hcx := hc k hlt
      have hx := bytes_getD hb k
      clear hc
      go_wp2
      go_round
      case rel => exact ⟨k + 1, by omega, by go_num, by rw [sum_step l k hb hl hlt]⟩
      case measure => simp [intOf]; omega
    · go_wp2
      go_ret
      exact ⟨by rw [List.take_of_length_le (by omega)]; rfl, rfl⟩

set_option maxRecDepth 100000 in
set_option maxHeartbeats 400000 in
theorem sumOf_none (ao : Option Addr) (cap : Nat) (w : World) :
    Calls Try.prog 58 #[.slice ao 0 cap] w fun e w' => e = .returned (.int .i64 0) ∧ w' = w := by
  go_enter Try.func58, Try.ntmps58
  go_wp2
  refine wp_loop_rounds 1 ?_
  rw [rounds_succ]
  go_wp2
  go_ret
  exact ⟨rfl, rfl⟩

theorem sumOf_any (l : List Int) (v : Value) (w : World) (hl : l.length ≤ 300) (h : Rd w v l) :
    Calls Try.prog 58 #[v] w fun e w' => e = .returned (.int .i64 (sumL l)) ∧ w' = w := by
  obtain ⟨hb, ao, cap, rfl, _, _, _, hc⟩ := h
  by_cases h0 : 0 < l.length
  · obtain ⟨b, off, rfl, hc'⟩ := hc h0
    exact sumOf_some l b off cap w hl hb hc'
  · have : l = [] := List.eq_nil_of_length_eq_zero (by omega)
    subst this
    exact sumOf_none ao cap w
end

section
open Go.RowKit

theorem infoByte : (Try.prog.info? 5).map (fun i => (i.zero, i.size, i.bytes)) = some (some (.int .u8 0), 1, 1) := by kernel_rfl

/-- The slice v owns the bytes l, in a block from B on. -/
def Own (B : Nat) (v : Value) (l : List Int) (w : World) : Prop := w.ownsRow B 5 1 v l.length (l.map (Value.int .u8)) ∧ Bytes l ∧ B ≤ w.heap.size

theorem Own.mono {B C : Nat} {v : Value} {l : List Int} {w : World} (h : Own B v l w) (hC : C ≤ B) : Own C v l w := by
  obtain ⟨⟨h1, h2⟩, h3, h4⟩ := h
  refine ⟨⟨h1, ?_⟩, h3, by omega⟩
  rcases h2 with h2 | ⟨g, cap, cur, r1, r2, r3⟩
  · exact .inl h2
  · exact .inr ⟨g, cap, cur, r1, by omega, r3⟩

theorem Own.alloc {B : Nat} {v : Value} {l : List Int} {w : World} (h : Own B v l w) (o : Obj) : Own B v l (w.alloc o) :=
  ⟨h.1.alloc o, h.2.1, Nat.le_trans h.2.2 ((Below.refl 0 w).alloc (Nat.zero_le _) o).size⟩

theorem Own.drew {B : Nat} {v : Value} {l : List Int} {w : World} (h : Own B v l w) : Own B v l w.drew := h

/-- What is owned stays owned where nothing turns below a number beyond it. -/
theorem Own.below {B C : Nat} {v : Value} {l : List Int} {w w' : World} (h : Own B v l w) (hC : w.heap.size ≤ C) (hb : Below C w w') : Own B v l w' := by
  obtain ⟨⟨h1, h2⟩, h3, h4⟩ := h
  refine ⟨⟨h1, ?_⟩, h3, Nat.le_trans h4 hb.size⟩
  rcases h2 with h2 | ⟨g, cap, cur, r1, r2, r3, r4⟩
  · exact .inl h2
  · have hg : g < w.heap.size := by
      rcases Nat.lt_or_ge g w.heap.size with hg | hg
      · exact hg
      · rw [Array.getElem?_eq_none hg] at r3; simp at r3
    exact .inr ⟨g, cap, cur, r1, r2, by rw [hb.block g (by omega)]; exact r3, r4⟩

theorem own_nil (B : Nat) (w : World) (hB : B ≤ w.heap.size) : Own B (.slice none 0 0) [] w := ⟨World.ownsRow_nil w B _ 1, fun n hn => by simp at hn, hB⟩

/-- A literal of bytes. -/
theorem own_lit (B : Nat) (w : World) (l : List Int) (hb : Bytes l) (hB : B ≤ w.heap.size) (hl : l.length ≤ maxLen) :
    Own B (.slice (some ⟨w.heap.size, 0, none⟩) l.length l.length) l (w.alloc (.cells (l.map (Value.int .u8)).toArray 5)) := by
  refine ⟨?_, hb, Nat.le_trans hB ((Below.refl 0 w).alloc (Nat.zero_le _) _).size⟩
  have := World.ownsRow_lit (e := 5) (size := 1) (base := B) w (l.map (Value.int .u8)).toArray l.length hB hl (by simp)
  simpa using this

/-- What is owned can be read. -/
theorem Own.rd {B : Nat} {v : Value} {l : List Int} {w : World} (h : Own B v l w) : Rd w v l := by
  obtain ⟨h1, h3, h4⟩ := h
  rcases h1.2 with ⟨rfl, h0⟩ | ⟨g, cap, cur, rfl, r2, r3, r4, r5, r6⟩
  · refine ⟨h3, none, 0, by rw [h0], by omega, by unfold maxLen; omega, fun _ => rfl, fun h => by omega⟩
  · refine ⟨h3, _, _, rfl, r4, r5, (fun h => by simp at h), fun _ => ⟨g, 0, rfl, fun i hi => ?_⟩⟩
    have := h1.cellAt i (by omega)
    rw [Nat.zero_add, this]
    simp [List.getD, hi]

theorem rd_lit (w : World) (l : List Int) (hb : Bytes l) (hl : l.length ≤ maxLen) : Rd (w.alloc (.cells (l.map (Value.int .u8)).toArray 5)) (.slice (some ⟨w.heap.size, 0, none⟩) l.length l.length) l :=
  (own_lit 0 w l hb (Nat.zero_le _) hl).rd

theorem own_one (B : Nat) (w : World) (c : Int) (hc : 0 ≤ c ∧ c ≤ 255) (hB : B ≤ w.heap.size) : Own B (.slice (some ⟨w.heap.size, 0, none⟩) 1 1) [c] (w.alloc (.cells #[.int .u8 c] 5)) := by
  have := own_lit B w [c] (by intro n hn; simp at hn; omega) hB (by simp [maxLen])
  simpa using this
theorem rd_one (w : World) (c : Int) (hc : 0 ≤ c ∧ c ≤ 255) : Rd (w.alloc (.cells #[.int .u8 c] 5)) (.slice (some ⟨w.heap.size, 0, none⟩) 1 1) [c] := (own_one 0 w c hc (Nat.zero_le _)).rd
theorem rd_two (w : World) (c d : Int) (hc : 0 ≤ c ∧ c ≤ 255) (hd : 0 ≤ d ∧ d ≤ 255) : Rd (w.alloc (.cells #[.int .u8 c, .int .u8 d] 5)) (.slice (some ⟨w.heap.size, 0, none⟩) 2 2) [c, d] := by
  have := rd_lit w [c, d] (by intro n hn; simp at hn; omega) (by simp [maxLen])
  simpa using this

theorem Rd.below {C : Nat} {v : Value} {l : List Int} {w w' : World} (h : Rd w v l) (hC : w.heap.size ≤ C) (hb : Below C w w') : Rd w' v l := by
  obtain ⟨h3, ao, cap, rfl, r4, r5, r6, hc⟩ := h
  refine ⟨h3, ao, cap, rfl, r4, r5, r6, fun h0 => ?_⟩
  obtain ⟨b, off, rfl, hc'⟩ := hc h0
  refine ⟨b, off, rfl, fun i hi => ?_⟩
  have h1 := hc' i hi
  have hlt : b < w.heap.size := by
    rcases Nat.lt_or_ge b w.heap.size with hg | hg
    · exact hg
    · simp [World.cell?, Array.getElem?_eq_none hg] at h1
  rw [hb.cell (p := ⟨b, off + i, none⟩) (by show b < C; omega)]
  exact h1

section
variable {w : World} {ops : Array Oper} {rest : List Oper} {o : Oper} {a : Act} {Q : Exit → Act → World → Prop}
theorem wp_app (hgd : o.guard = none) (s x : Operand)
    (ho : o.op = .call { callee := .builtin .append, args := #[s, x], argTypes := #[27, 27] })
    (B : Nat) (v : Value) (l : List Int) (hs : a.eval s = v) (hown : Own B v l w) (vx : Value) (r : List Int) (hx : a.eval x = vx) (hr : Rd w vx r) (hlen : l.length + r.length ≤ 140737488355328)
    (h : ∀ v' w', Own B v' (l ++ r) w' → Below B w w' → wpList Try.prog ops Q rest (a.put o.dst v') w') : wpList Try.prog ops Q (o :: rest) a w := by
  obtain ⟨i, hi, hz0, hz1, hz2⟩ := info_parts infoByte
  obtain ⟨hb, ao, cap, rfl, r4, r5, r6, hc⟩ := hr
  have hbel : ∀ w', w.grownBy w' v.ownBlock → Below B w w' := fun w' hg => (Below.refl B w).grown hg hown.2.2 (fun k hk => (hown.1.lt k hk).1)
  cases ao with
  | none =>
    have h0 : r.length = 0 := by have := r6 rfl; omega
    have hr0 : r = [] := List.eq_nil_of_length_eq_zero h0
    subst hr0
    obtain rfl := r6 rfl
    refine wpList_append_own_none hgd s x _ ho B _ i 1 Try.underlying27 hi v _ _ hs hown.1 hx ?_
    exact h v w (by simpa using hown) (Below.refl _ _)
  | some ad =>
    refine wpList_append_own w hgd s x _ ho B _ i (.int .u8 0) 1 1 Try.underlying27 hi hz0 hz1 hz2 rfl (by decide) v _ _ hs hown.1 ad r.length cap (r.map (Value.int .u8)) hx (by simp) ?_ ?_ (by unfold maxLen; omega) (by omega) hown.2.2 ?_
    · intro j u hj
      have hj' : j < r.length := by
        have := (List.getElem?_eq_some_iff.1 hj).1
        simpa using this
      obtain ⟨b, off, e, hc'⟩ := hc (by omega)
      obtain rfl := Option.some.inj e
      rw [Addr.add_lit, hc' j hj']
      simp [hj'] at hj
      subst hj
      simp [List.getD, hj']
    · intro u hu
      simp at hu
      obtain ⟨n, _, rfl⟩ := hu
      rfl
    · intro v' w' ho' hg _
      refine h v' w' ⟨by simpa using ho', bytes_append hown.2.1 hb, Nat.le_trans hown.2.2 hg.size⟩ (hbel w' hg)


theorem wp_app_str (hgd : o.guard = none) (s x : Operand)
    (ho : o.op = .call { callee := .builtin .append, args := #[s, x], argTypes := #[27, 9] })
    (B : Nat) (v : Value) (l : List Int) (hs : a.eval s = v) (hown : Own B v l w) (t : ByteArray) (hx : a.eval x = .string t) (hlen : l.length + t.size ≤ 140737488355328)
    (h : ∀ v' w', Own B v' (l ++ strL t) w' → Below B w w' → wpList Try.prog ops Q rest (a.put o.dst v') w') : wpList Try.prog ops Q (o :: rest) a w := by
  obtain ⟨i, hi, hz0, hz1, hz2⟩ := info_parts infoByte
  refine Lib.wpList_append_own_string w hgd s x _ _ ho B _ i Try.underlying27 Try.underlying9 hi hz0 hz1 hz2 v _ _ hs hown.1 t hx (by unfold maxLen; omega) hlen hown.2.2 ?_
  intro v' w' ho' hg _
  refine h v' w' ⟨?_, bytes_append hown.2.1 (strL_bytes t), Nat.le_trans hown.2.2 hg.size⟩ ((Below.refl B w).grown hg hown.2.2 (fun k hk => (hown.1.lt k hk).1))
  have e : (l ++ strL t).map (Value.int .u8) = l.map (Value.int .u8) ++ Lib.strCells t := by simp [strL, Lib.strCells]
  rw [e, List.length_append, strL_len]
  exact ho'
end
end

section
open Go.RowKit

set_option maxRecDepth 100000 in
set_option maxHeartbeats 400000 in
theorem sevens_small (f : Nat) (n : Int) (w : World) (h0 : 0 ≤ n) (hs : n < 128) :
    Calls Try.prog 67 #[.int .i64 n] w fun e w' => ∃ v, e = .returned v ∧ Own w.heap.size v (sevF (f + 1) n.toNat) w' ∧ Below w.heap.size w w' := by
  have e : sevF (f + 1) n.toNat = [n] := by rw [sevF_small _ _ (by omega)]; simp; omega
  rw [e]
  clear e
  go_enter Try.func67, Try.ntmps67
  go_wp2
  go_ret
  exact ⟨_, rfl, own_one _ w n (by omega) (Nat.le_refl _), bbox _ _⟩

set_option maxRecDepth 100000 in
set_option maxHeartbeats 400000 in
theorem sevens_any (f : Nat) (n : Int) (w : World) (h0 : 0 ≤ n) (h1 : n.toNat < 128 ^ (f + 1)) (hm : n ≤ 1073741824) (hf : f ≤ 10) :
    Calls Try.prog 67 #[.int .i64 n] w fun e w' => ∃ v, e = .returned v ∧ Own w.heap.size v (sevF (f + 1) n.toNat) w' ∧ Below w.heap.size w w' := by
  induction f generalizing n w with
  | zero => exact sevens_small 0 n w h0 (by omega)
  | succ f ih =>
    by_cases hs : n < 128
    · exact sevens_small (f + 1) n w h0 hs
    · have IH := fun w => ih (n / 128) w (by omega) (by rw [Nat.pow_succ] at h1; omega) (by omega) (by omega)
      have e : sevF (f + 1 + 1) n.toNat = [128 + n % 128] ++ sevF (f + 1) (n / 128).toNat := by
        rw [sevF_big _ _ (by omega)]
        have e1 : (n / 128).toNat = n.toNat / 128 := by omega
        rw [e1]
        simp
        omega
      rw [e]
      have hl := sevF_len (f + 1) (n / 128).toNat
      generalize hr : sevF (f + 1) (n / 128).toNat = r at *
      have H : Hid _ := IH
      clear IH ih e h1 hr
      go_enter Try.func67, Try.ntmps67
      go_wp2_with fail
      refine (H.out _).mono ?_
      rintro e w1 ⟨v, rfl, hown, hb⟩
      have h1 := own_one w.heap.size w (128 + n % 128) (by omega) (Nat.le_refl _)
      have h2 := h1.below (Nat.le_refl _) hb
      have hb2 := bstep (bbox w (.cells #[.int .u8 (128 + n % 128)] 5)) hb
      clear hb h1
      go_wp2_with (at_builtin; refine wp_app rfl _ _ rfl _ _ _ rfl h2 _ r rfl hown.rd (by simp; omega) ?_)
      intro v' w' hown' hb'
      have hb3 : Below w.heap.size w w' := hb2.trans hb'
      clear hb2 hb' h2 hown
      go_wp2
      go_ret
      exact ⟨_, rfl, hown', hb3⟩

theorem sev_len (n : Int) : (sev n).length ≤ 5 := sevF_len 5 n.toNat
theorem sev_bytes (n : Int) : Bytes (sev n) := sevF_bytes 5 n.toNat

theorem sevens_sev (n : Int) (w : World) (h0 : 0 ≤ n) (hm : n ≤ 1073741824) :
    Calls Try.prog 67 #[.int .i64 n] w fun e w' => ∃ v, e = .returned v ∧ Own w.heap.size v (sev n) w' ∧ Below w.heap.size w w' :=
  sevens_any 4 n w h0 (by omega) hm (by omega)

theorem num_step (f : Nat) (m : Int) (l l' X : List Int) (hM : m.toNat < 128 ^ (f + 1)) (hs : ¬ m < 128) (H : l ++ X = l' ++ sevF (f + 1) m.toNat) :
    ∃ f', f = f' + 1 ∧ (m / 128).toNat < 128 ^ (f' + 1) ∧ l ++ X = (l' ++ [m % 128 + 128]) ++ sevF (f' + 1) (m / 128).toNat := by
  cases f with
  | zero => omega
  | succ f' =>
    have e1 : (m / 128).toNat = m.toNat / 128 := by omega
    refine ⟨f', rfl, by rw [Nat.pow_succ] at hM; omega, ?_⟩
    rw [H, sevF_big _ _ (by omega), e1, List.append_assoc, List.singleton_append]
    congr 2
    omega

set_option maxRecDepth 100000 in
set_option maxHeartbeats 400000 in
theorem appendNumber_any (B : Nat) (v0 : Value) (l : List Int) (n : Int) (w : World) (hown : Own B v0 l w) (hl : l.length ≤ 1000) (h0 : 0 ≤ n) (hm : n ≤ 1073741824) :
    Calls Try.prog 66 #[v0, .int .i64 n] w fun e w' => ∃ v, e = .returned v ∧ Own B v (l ++ sev n) w' ∧ Below B w w' := by
  have hs0 : sev n = sevF 5 n.toNat := rfl
  rw [hs0]
  clear hs0
  have hN : Hid (n.toNat < 128 ^ 5) := show n.toNat < 128 ^ 5 by omega
  go_enter Try.func66, Try.ntmps66
  go_wp2
  go_loopw [0, 1] (fun v i wr => ∃ (f : Nat) (m : Int) (l' : List Int), f ≤ 4 ∧ i = .int .i64 m ∧ 0 ≤ m ∧ m ≤ 1073741824 ∧ Hid (m.toNat < 128 ^ (f + 1)) ∧ l'.length + f ≤ l.length + 4 ∧ Hid (l ++ sevF 5 n.toNat = l' ++ sevF (f + 1) m.toNat) ∧ Own B v l' wr ∧ Below B w wr) (fun _ i _ => (intOf i).toNat)
  case atStart => exact ⟨4, n, l, by omega, rfl, h0, hm, hN, by omega, rfl, hown, Below.refl _ _⟩
  case round =>
    obtain ⟨f, m, l', hf, rfl, hm0, hm2, HM, hll, H, hown', hb⟩ := hrel
    clear hN
    by_cases hs : m < 128
    · have hA := hown'.alloc (.cells #[.int .u8 m] 5)
      have hr := rd_one wr m (by omega)
      go_wp2_with (at_builtin; refine wp_app rfl _ _ rfl _ _ _ rfl hA _ _ rfl hr (by simp; omega) ?_)
      intro v' w' hown2 hb2
      have hb3 : Below B w w' := (hb.alloc hown'.2.2 _).trans hb2
      clear hb2 hA hr hown' hb
      go_wp2
      go_ret
      refine ⟨_, rfl, ?_, hb3⟩
      have e : sevF (f + 1) m.toNat = [m] := by rw [sevF_small _ _ (by omega)]; simp; omega
      rw [H.out, e]
      exact hown2
    · have hA := hown'.alloc (.cells #[.int .u8 (m % 128 + 128)] 5)
      have hr := rd_one wr (m % 128 + 128) (by omega)
      go_wp2_with (at_builtin; refine wp_app rfl _ _ rfl _ _ _ rfl hA _ _ rfl hr (by simp; omega) ?_)
      intro v' w' hown2 hb2
      have hb3 : Below B w w' := (hb.alloc hown'.2.2 _).trans hb2
      clear hb2 hA hr hown' hb
      go_wp2
      go_roundw
      case rel =>
        obtain ⟨f', rfl, hM', H'⟩ := num_step f m l l' _ HM.out (by omega) H.out
        exact ⟨f', m / 128, l' ++ [m % 128 + 128], by omega, rfl, by omega, by omega, hM', by simp; omega, H', hown2, hb3⟩
      case measure => simp [intOf]; omega
end

section
open Go.RowKit
set_option linter.unusedVariables false


def kindB (k : Int) (t : Bool) : Int := if t then k + 16 else k
/-- The bytes of an entry's body. -/
def bodyL (a b c d k : Int) (t : Bool) (s : ByteArray) : List Int := kindB k t :: (sev a ++ (sev b ++ (sev c ++ (sev d ++ strL s))))

theorem bodyL_len (a b c d k : Int) (t : Bool) (s : ByteArray) : (bodyL a b c d k t s).length ≤ 21 + s.size := by
  have h1 := sev_len a
  have h2 := sev_len b
  have h3 := sev_len c
  have h4 := sev_len d
  simp only [bodyL, List.length_cons, List.length_append, strL_len]
  omega

set_option maxRecDepth 100000 in
set_option maxHeartbeats 2000000 in
theorem bodyOf_false (a b c d k : Int) (s : ByteArray) (w : World) (ha : 0 ≤ a ∧ a ≤ 1073741824) (hb : 0 ≤ b ∧ b ≤ 1073741824) (hc : 0 ≤ c ∧ c ≤ 1073741824) (hd : 0 ≤ d ∧ d ≤ 1073741824) (hk : 1 ≤ k ∧ k ≤ 3) (hs : s.size ≤ 40) :
    Calls Try.prog 57 #[.agg #[.int .i64 a, .int .i64 b, .int .i64 c, .int .i64 d, .int .i64 k, .bool false, .string s]] w fun e w' => ∃ v, e = .returned v ∧ Own w.heap.size v (bodyL a b c d k false s) w' ∧ Below w.heap.size w w' := by
  have hown0 := own_one (w.heap.size + 1) (w.alloc (.cells #[.int .i64 a, .int .i64 b, .int .i64 c, .int .i64 d, .int .i64 k, .bool false, .string s] 23)) k (by omega) (by simp)
  have hbel0 := bbox (w.alloc (.cells #[.int .i64 a, .int .i64 b, .int .i64 c, .int .i64 d, .int .i64 k, .bool false, .string s] 23)) (.cells #[.int .u8 k] 5)
  simp only [World.size_alloc] at hown0 hbel0
  go_enter Try.func57, Try.ntmps57
  go_wp2_with fail
  refine (sevens_sev a _ (by omega) (by omega)).mono ?_
  rintro e x1 ⟨u1, rfl, hu1, hx1⟩
  have ho1 := hown0.below (Nat.le_refl _) hx1
  have hB1 := hbel0.trans (hx1.mono hown0.2.2)
  have hL1 := sev_len a
  clear hx1 hown0 hbel0
  go_wp2_with (at_builtin; refine wp_app rfl _ _ rfl _ _ _ rfl ho1 _ _ rfl hu1.rd (by simp; omega) ?_)
  intro v1 w1 hown1 hy1
  have hbel1 := hB1.trans hy1
  have hcell1 := box_cells hbel1
  clear hy1 hB1 ho1 hu1
  go_wp2_with fail
  refine (sevens_sev b _ (by omega) (by omega)).mono ?_
  rintro e x2 ⟨u2, rfl, hu2, hx2⟩
  have ho2 := hown1.below (Nat.le_refl _) hx2
  have hB2 := hbel1.trans (hx2.mono hown1.2.2)
  have hL2 := sev_len b
  clear hx2 hown1 hbel1
  go_wp2_with (at_builtin; refine wp_app rfl _ _ rfl _ _ _ rfl ho2 _ _ rfl hu2.rd (by simp; omega) ?_)
  intro v2 w2 hown2 hy2
  have hbel2 := hB2.trans hy2
  have hcell2 := box_cells hbel2
  clear hy2 hB2 ho2 hu2
  go_wp2_with fail
  refine (sevens_sev c _ (by omega) (by omega)).mono ?_
  rintro e x3 ⟨u3, rfl, hu3, hx3⟩
  have ho3 := hown2.below (Nat.le_refl _) hx3
  have hB3 := hbel2.trans (hx3.mono hown2.2.2)
  have hL3 := sev_len c
  clear hx3 hown2 hbel2
  go_wp2_with (at_builtin; refine wp_app rfl _ _ rfl _ _ _ rfl ho3 _ _ rfl hu3.rd (by simp; omega) ?_)
  intro v3 w3 hown3 hy3
  have hbel3 := hB3.trans hy3
  have hcell3 := box_cells hbel3
  clear hy3 hB3 ho3 hu3
  go_wp2_with fail
  refine (sevens_sev d _ (by omega) (by omega)).mono ?_
  rintro e x4 ⟨u4, rfl, hu4, hx4⟩
  have ho4 := hown3.below (Nat.le_refl _) hx4
  have hB4 := hbel3.trans (hx4.mono hown3.2.2)
  have hL4 := sev_len d
  clear hx4 hown3 hbel3
  go_wp2_with (at_builtin; refine wp_app rfl _ _ rfl _ _ _ rfl ho4 _ _ rfl hu4.rd (by simp; omega) ?_)
  intro v4 w4 hown4 hy4
  have hbel4 := hB4.trans hy4
  have hcell4 := box_cells hbel4
  clear hy4 hB4 ho4 hu4
  go_wp2_with (at_builtin; refine wp_app_str rfl _ _ rfl _ _ _ rfl hown4 _ rfl (by simp; omega) ?_)
  intro v5 w5 hown5 hy5
  have hbel5 := below_unbox (hbel4.trans hy5)
  have hfin : Own w.heap.size v5 (bodyL a b c d k false s) w5 := by (have := hown5.mono (C := w.heap.size) (by omega); simpa [bodyL, kindB] using this)
  clear hy5 hown4 hbel4 hown5
  go_wp2
  go_ret
  exact ⟨_, rfl, hfin, hbel5⟩

set_option maxRecDepth 100000 in
set_option maxHeartbeats 2000000 in
theorem bodyOf_true (a b c d k : Int) (s : ByteArray) (w : World) (ha : 0 ≤ a ∧ a ≤ 1073741824) (hb : 0 ≤ b ∧ b ≤ 1073741824) (hc : 0 ≤ c ∧ c ≤ 1073741824) (hd : 0 ≤ d ∧ d ≤ 1073741824) (hk : 1 ≤ k ∧ k ≤ 3) (hs : s.size ≤ 40) :
    Calls Try.prog 57 #[.agg #[.int .i64 a, .int .i64 b, .int .i64 c, .int .i64 d, .int .i64 k, .bool true, .string s]] w fun e w' => ∃ v, e = .returned v ∧ Own w.heap.size v (bodyL a b c d k true s) w' ∧ Below w.heap.size w w' := by
  have hown0 := own_one (w.heap.size + 1) (w.alloc (.cells #[.int .i64 a, .int .i64 b, .int .i64 c, .int .i64 d, .int .i64 k, .bool true, .string s] 23)) (k + 16) (by omega) (by simp)
  have hbel0 := bbox (w.alloc (.cells #[.int .i64 a, .int .i64 b, .int .i64 c, .int .i64 d, .int .i64 k, .bool true, .string s] 23)) (.cells #[.int .u8 (k + 16)] 5)
  simp only [World.size_alloc] at hown0 hbel0
  go_enter Try.func57, Try.ntmps57
  go_wp2_with fail
  refine (sevens_sev a _ (by omega) (by omega)).mono ?_
  rintro e x1 ⟨u1, rfl, hu1, hx1⟩
  have ho1 := hown0.below (Nat.le_refl _) hx1
  have hB1 := hbel0.trans (hx1.mono hown0.2.2)
  have hL1 := sev_len a
  clear hx1 hown0 hbel0
  go_wp2_with (at_builtin; refine wp_app rfl _ _ rfl _ _ _ rfl ho1 _ _ rfl hu1.rd (by simp; omega) ?_)
  intro v1 w1 hown1 hy1
  have hbel1 := hB1.trans hy1
  have hcell1 := box_cells hbel1
  clear hy1 hB1 ho1 hu1
  go_wp2_with fail
  refine (sevens_sev b _ (by omega) (by omega)).mono ?_
  rintro e x2 ⟨u2, rfl, hu2, hx2⟩
  have ho2 := hown1.below (Nat.le_refl _) hx2
  have hB2 := hbel1.trans (hx2.mono hown1.2.2)
  have hL2 := sev_len b
  clear hx2 hown1 hbel1
  go_wp2_with (at_builtin; refine wp_app rfl _ _ rfl _ _ _ rfl ho2 _ _ rfl hu2.rd (by simp; omega) ?_)
  intro v2 w2 hown2 hy2
  have hbel2 := hB2.trans hy2
  have hcell2 := box_cells hbel2
  clear hy2 hB2 ho2 hu2
  go_wp2_with fail
  refine (sevens_sev c _ (by omega) (by omega)).mono ?_
  rintro e x3 ⟨u3, rfl, hu3, hx3⟩
  have ho3 := hown2.below (Nat.le_refl _) hx3
  have hB3 := hbel2.trans (hx3.mono hown2.2.2)
  have hL3 := sev_len c
  clear hx3 hown2 hbel2
  go_wp2_with (at_builtin; refine wp_app rfl _ _ rfl _ _ _ rfl ho3 _ _ rfl hu3.rd (by simp; omega) ?_)
  intro v3 w3 hown3 hy3
  have hbel3 := hB3.trans hy3
  have hcell3 := box_cells hbel3
  clear hy3 hB3 ho3 hu3
  go_wp2_with fail
  refine (sevens_sev d _ (by omega) (by omega)).mono ?_
  rintro e x4 ⟨u4, rfl, hu4, hx4⟩
  have ho4 := hown3.below (Nat.le_refl _) hx4
  have hB4 := hbel3.trans (hx4.mono hown3.2.2)
  have hL4 := sev_len d
  clear hx4 hown3 hbel3
  go_wp2_with (at_builtin; refine wp_app rfl _ _ rfl _ _ _ rfl ho4 _ _ rfl hu4.rd (by simp; omega) ?_)
  intro v4 w4 hown4 hy4
  have hbel4 := hB4.trans hy4
  have hcell4 := box_cells hbel4
  clear hy4 hB4 ho4 hu4
  go_wp2_with (at_builtin; refine wp_app_str rfl _ _ rfl _ _ _ rfl hown4 _ rfl (by simp; omega) ?_)
  intro v5 w5 hown5 hy5
  have hbel5 := below_unbox (hbel4.trans hy5)
  have hfin : Own w.heap.size v5 (bodyL a b c d k true s) w5 := by (have := hown5.mono (C := w.heap.size) (by omega); simpa [bodyL, kindB] using this)
  clear hy5 hown4 hbel4 hown5
  go_wp2
  go_ret
  exact ⟨_, rfl, hfin, hbel5⟩

theorem bodyOf_any (a b c d k : Int) (t : Bool) (s : ByteArray) (w : World) (ha : 0 ≤ a ∧ a ≤ 1073741824) (hb : 0 ≤ b ∧ b ≤ 1073741824) (hc : 0 ≤ c ∧ c ≤ 1073741824) (hd : 0 ≤ d ∧ d ≤ 1073741824) (hk : 1 ≤ k ∧ k ≤ 3) (hs : s.size ≤ 40) :
    Calls Try.prog 57 #[.agg #[.int .i64 a, .int .i64 b, .int .i64 c, .int .i64 d, .int .i64 k, .bool t, .string s]] w fun e w' => ∃ v, e = .returned v ∧ Own w.heap.size v (bodyL a b c d k t s) w' ∧ Below w.heap.size w w' := by
  cases t
  · exact bodyOf_false a b c d k s w ha hb hc hd hk hs
  · exact bodyOf_true a b c d k s w ha hb hc hd hk hs

/-- The body as far as the first so many numbers. -/
def bodyUp (kb a b c d : Int) : Nat → List Int
  | 0 => [kb]
  | 1 => [kb] ++ sev a
  | 2 => ([kb] ++ sev a) ++ sev b
  | 3 => (([kb] ++ sev a) ++ sev b) ++ sev c
  | _ => ((([kb] ++ sev a) ++ sev b) ++ sev c) ++ sev d

set_option maxRecDepth 100000 in
set_option maxHeartbeats 2000000 in
theorem encodeBody_false (a b c d k : Int) (s : ByteArray) (w : World) (ha : 0 ≤ a ∧ a ≤ 1073741824) (hb : 0 ≤ b ∧ b ≤ 1073741824) (hc : 0 ≤ c ∧ c ≤ 1073741824) (hd : 0 ≤ d ∧ d ≤ 1073741824) (hk : 1 ≤ k ∧ k ≤ 3) (hs : s.size ≤ 40) :
    Calls Try.prog 55 #[.agg #[.int .i64 a, .int .i64 b, .int .i64 c, .int .i64 d, .int .i64 k, .bool false, .string s]] w fun e w' => ∃ v, e = .returned v ∧ Own w.heap.size v (bodyL a b c d k false s) w' ∧ Below w.heap.size w w' := by
  have hown0 := own_one (w.heap.size + 1) (w.alloc (.cells #[.int .i64 a, .int .i64 b, .int .i64 c, .int .i64 d, .int .i64 k, .bool false, .string s] 23)) k (by omega) (by simp)
  have hbel0 := bbox (w.alloc (.cells #[.int .i64 a, .int .i64 b, .int .i64 c, .int .i64 d, .int .i64 k, .bool false, .string s] 23)) (.cells #[.int .u8 k] 5)
  simp only [World.size_alloc] at hown0 hbel0
  have i0 : ∀ w, (Instr.index 79 (.agg #[.int .i64 a, .int .i64 b, .int .i64 c, .int .i64 d]) (.int .i64 0)).run Try.prog w = .ok (.int .i64 a) w := fun _ => by kernel_rfl
  have i1 : ∀ w, (Instr.index 79 (.agg #[.int .i64 a, .int .i64 b, .int .i64 c, .int .i64 d]) (.int .i64 1)).run Try.prog w = .ok (.int .i64 b) w := fun _ => by kernel_rfl
  have i2 : ∀ w, (Instr.index 79 (.agg #[.int .i64 a, .int .i64 b, .int .i64 c, .int .i64 d]) (.int .i64 2)).run Try.prog w = .ok (.int .i64 c) w := fun _ => by kernel_rfl
  have i3 : ∀ w, (Instr.index 79 (.agg #[.int .i64 a, .int .i64 b, .int .i64 c, .int .i64 d]) (.int .i64 3)).run Try.prog w = .ok (.int .i64 d) w := fun _ => by kernel_rfl
  have hLa := sev_len a
  have hLb := sev_len b
  have hLc := sev_len c
  have hLd := sev_len d
  go_enter Try.func55, Try.ntmps55
  go_wp2
  go_loopw [4, 25] (fun v i wr => ∃ n : Nat, n ≤ 4 ∧ i = .int .i64 n ∧ Own (w.heap.size + 1) v (bodyUp k a b c d n) wr ∧ Below (w.heap.size + 1) (w.alloc (.cells #[.int .i64 a, .int .i64 b, .int .i64 c, .int .i64 d, .int .i64 k, .bool false, .string s] 23)) wr) (fun _ i _ => 4 - (intOf i).toNat)
  case atStart => exact ⟨0, by omega, rfl, hown0, hbel0⟩
  case round =>
    obtain ⟨n, hn, rfl, hown, hbel⟩ := hrel
    clear hown0 hbel0
    rcases (show n = 0 ∨ n = 1 ∨ n = 2 ∨ n = 3 ∨ n = 4 from by omega) with rfl | rfl | rfl | rfl | rfl
    · have hi := i0
      clear i0 i1 i2 i3
      go_wp2_with fail
      refine (appendNumber_any (w.heap.size + 1) _ _ _ _ hown (by simp [bodyUp] <;> omega) (by omega) (by omega)).mono ?_
      rintro e x ⟨u, rfl, hu, hx⟩
      have hb2 := hbel.trans hx
      clear hx hown hbel
      go_wp2
      go_roundw
      case rel => exact ⟨1, by omega, rfl, hu, hb2⟩
      case measure => simp [intOf]
    · have hi := i1
      clear i0 i1 i2 i3
      go_wp2_with fail
      refine (appendNumber_any (w.heap.size + 1) _ _ _ _ hown (by simp [bodyUp] <;> omega) (by omega) (by omega)).mono ?_
      rintro e x ⟨u, rfl, hu, hx⟩
      have hb2 := hbel.trans hx
      clear hx hown hbel
      go_wp2
      go_roundw
      case rel => exact ⟨2, by omega, rfl, hu, hb2⟩
      case measure => simp [intOf]
    · have hi := i2
      clear i0 i1 i2 i3
      go_wp2_with fail
      refine (appendNumber_any (w.heap.size + 1) _ _ _ _ hown (by simp [bodyUp] <;> omega) (by omega) (by omega)).mono ?_
      rintro e x ⟨u, rfl, hu, hx⟩
      have hb2 := hbel.trans hx
      clear hx hown hbel
      go_wp2
      go_roundw
      case rel => exact ⟨3, by omega, rfl, hu, hb2⟩
      case measure => simp [intOf]
    · have hi := i3
      clear i0 i1 i2 i3
      go_wp2_with fail
      refine (appendNumber_any (w.heap.size + 1) _ _ _ _ hown (by simp [bodyUp] <;> omega) (by omega) (by omega)).mono ?_
      rintro e x ⟨u, rfl, hu, hx⟩
      have hb2 := hbel.trans hx
      clear hx hown hbel
      go_wp2
      go_roundw
      case rel => exact ⟨4, by omega, rfl, hu, hb2⟩
      case measure => simp [intOf]
    · have hcell := box_cells hbel
      clear i0 i1 i2 i3
      go_wp2_with (at_builtin; refine wp_app_str rfl _ _ rfl _ _ _ rfl hown _ rfl (by simp [bodyUp]; omega) ?_)
      intro v5 w5 hown5 hy5
      have hbel5 := below_unbox (hbel.trans hy5)
      have hfin : Own w.heap.size v5 (bodyL a b c d k false s) w5 := by (have := hown5.mono (C := w.heap.size) (by omega); simpa [bodyL, kindB, bodyUp] using this)
      clear hy5 hown hbel hown5
      go_wp2
      go_ret
      exact ⟨_, rfl, hfin, hbel5⟩

set_option maxRecDepth 100000 in
set_option maxHeartbeats 2000000 in
theorem encodeBody_true (a b c d k : Int) (s : ByteArray) (w : World) (ha : 0 ≤ a ∧ a ≤ 1073741824) (hb : 0 ≤ b ∧ b ≤ 1073741824) (hc : 0 ≤ c ∧ c ≤ 1073741824) (hd : 0 ≤ d ∧ d ≤ 1073741824) (hk : 1 ≤ k ∧ k ≤ 3) (hs : s.size ≤ 40) :
    Calls Try.prog 55 #[.agg #[.int .i64 a, .int .i64 b, .int .i64 c, .int .i64 d, .int .i64 k, .bool true, .string s]] w fun e w' => ∃ v, e = .returned v ∧ Own w.heap.size v (bodyL a b c d k true s) w' ∧ Below w.heap.size w w' := by
  have hown0 := own_one (w.heap.size + 1) (w.alloc (.cells #[.int .i64 a, .int .i64 b, .int .i64 c, .int .i64 d, .int .i64 k, .bool true, .string s] 23)) (k + 16) (by omega) (by simp)
  have hbel0 := bbox (w.alloc (.cells #[.int .i64 a, .int .i64 b, .int .i64 c, .int .i64 d, .int .i64 k, .bool true, .string s] 23)) (.cells #[.int .u8 (k + 16)] 5)
  simp only [World.size_alloc] at hown0 hbel0
  have i0 : ∀ w, (Instr.index 79 (.agg #[.int .i64 a, .int .i64 b, .int .i64 c, .int .i64 d]) (.int .i64 0)).run Try.prog w = .ok (.int .i64 a) w := fun _ => by kernel_rfl
  have i1 : ∀ w, (Instr.index 79 (.agg #[.int .i64 a, .int .i64 b, .int .i64 c, .int .i64 d]) (.int .i64 1)).run Try.prog w = .ok (.int .i64 b) w := fun _ => by kernel_rfl
  have i2 : ∀ w, (Instr.index 79 (.agg #[.int .i64 a, .int .i64 b, .int .i64 c, .int .i64 d]) (.int .i64 2)).run Try.prog w = .ok (.int .i64 c) w := fun _ => by kernel_rfl
  have i3 : ∀ w, (Instr.index 79 (.agg #[.int .i64 a, .int .i64 b, .int .i64 c, .int .i64 d]) (.int .i64 3)).run Try.prog w = .ok (.int .i64 d) w := fun _ => by kernel_rfl
  have hLa := sev_len a
  have hLb := sev_len b
  have hLc := sev_len c
  have hLd := sev_len d
  go_enter Try.func55, Try.ntmps55
  go_wp2
  go_loopw [4, 25] (fun v i wr => ∃ n : Nat, n ≤ 4 ∧ i = .int .i64 n ∧ Own (w.heap.size + 1) v (bodyUp (k + 16) a b c d n) wr ∧ Below (w.heap.size + 1) (w.alloc (.cells #[.int .i64 a, .int .i64 b, .int .i64 c, .int .i64 d, .int .i64 k, .bool true, .string s] 23)) wr) (fun _ i _ => 4 - (intOf i).toNat)
  case atStart => exact ⟨0, by omega, rfl, hown0, hbel0⟩
  case round =>
    obtain ⟨n, hn, rfl, hown, hbel⟩ := hrel
    clear hown0 hbel0
    rcases (show n = 0 ∨ n = 1 ∨ n = 2 ∨ n = 3 ∨ n = 4 from by omega) with rfl | rfl | rfl | rfl | rfl
    · have hi := i0
      clear i0 i1 i2 i3
      go_wp2_with fail
      refine (appendNumber_any (w.heap.size + 1) _ _ _ _ hown (by simp [bodyUp] <;> omega) (by omega) (by omega)).mono ?_
      rintro e x ⟨u, rfl, hu, hx⟩
      have hb2 := hbel.trans hx
      clear hx hown hbel
      go_wp2
      go_roundw
      case rel => exact ⟨1, by omega, rfl, hu, hb2⟩
      case measure => simp [intOf]
    · have hi := i1
      clear i0 i1 i2 i3
      go_wp2_with fail
      refine (appendNumber_any (w.heap.size + 1) _ _ _ _ hown (by simp [bodyUp] <;> omega) (by omega) (by omega)).mono ?_
      rintro e x ⟨u, rfl, hu, hx⟩
      have hb2 := hbel.trans hx
      clear hx hown hbel
      go_wp2
      go_roundw
      case rel => exact ⟨2, by omega, rfl, hu, hb2⟩
      case measure => simp [intOf]
    · have hi := i2
      clear i0 i1 i2 i3
      go_wp2_with fail
      refine (appendNumber_any (w.heap.size + 1) _ _ _ _ hown (by simp [bodyUp] <;> omega) (by omega) (by omega)).mono ?_
      rintro e x ⟨u, rfl, hu, hx⟩
      have hb2 := hbel.trans hx
      clear hx hown hbel
      go_wp2
      go_roundw
      case rel => exact ⟨3, by omega, rfl, hu, hb2⟩
      case measure => simp [intOf]
    · have hi := i3
      clear i0 i1 i2 i3
      go_wp2_with fail
      refine (appendNumber_any (w.heap.size + 1) _ _ _ _ hown (by simp [bodyUp] <;> omega) (by omega) (by omega)).mono ?_
      rintro e x ⟨u, rfl, hu, hx⟩
      have hb2 := hbel.trans hx
      clear hx hown hbel
      go_wp2
      go_roundw
      case rel => exact ⟨4, by omega, rfl, hu, hb2⟩
      case measure => simp [intOf]
    · have hcell := box_cells hbel
      clear i0 i1 i2 i3
      go_wp2_with (at_builtin; refine wp_app_str rfl _ _ rfl _ _ _ rfl hown _ rfl (by simp [bodyUp]; omega) ?_)
      intro v5 w5 hown5 hy5
      have hbel5 := below_unbox (hbel.trans hy5)
      have hfin : Own w.heap.size v5 (bodyL a b c d k true s) w5 := by (have := hown5.mono (C := w.heap.size) (by omega); simpa [bodyL, kindB, bodyUp] using this)
      clear hy5 hown hbel hown5
      go_wp2
      go_ret
      exact ⟨_, rfl, hfin, hbel5⟩

theorem encodeBody_any (a b c d k : Int) (t : Bool) (s : ByteArray) (w : World) (ha : 0 ≤ a ∧ a ≤ 1073741824) (hb : 0 ≤ b ∧ b ≤ 1073741824) (hc : 0 ≤ c ∧ c ≤ 1073741824) (hd : 0 ≤ d ∧ d ≤ 1073741824) (hk : 1 ≤ k ∧ k ≤ 3) (hs : s.size ≤ 40) :
    Calls Try.prog 55 #[.agg #[.int .i64 a, .int .i64 b, .int .i64 c, .int .i64 d, .int .i64 k, .bool t, .string s]] w fun e w' => ∃ v, e = .returned v ∧ Own w.heap.size v (bodyL a b c d k t s) w' ∧ Below w.heap.size w w' := by
  cases t
  · exact encodeBody_false a b c d k s w ha hb hc hd hk hs
  · exact encodeBody_true a b c d k s w ha hb hc hd hk hs
end

section
open Go.RowKit

set_option maxRecDepth 100000 in
set_option maxHeartbeats 1000000 in
theorem fault_nokind (a b c d k : Int) (t : Bool) (s : ByteArray) (w : World) (hm : mkB k = false) (hk : (k != 1) = true) :
    Calls Try.prog 21 #[.agg #[.int .i64 a, .int .i64 b, .int .i64 c, .int .i64 d, .int .i64 k, .bool t, .string s]] w fun e w' => e = .returned (.int .i64 (flt a b c d k t s.size)) ∧ Below w.heap.size w w' := by
  have hk1 : k ≠ 1 := by simpa using hk
  have hr : flt a b c d k t s.size = 3 := by simp [flt, hm, hk1]
  rw [hr]
  have hk2 := inR13n k hm hk1
  clear hk1
  go_enter Try.func21, Try.ntmps21
  go_wp2_with (first | (go_at_call 54; refine (In_any _ _ _ _).mono ?_; rintro e w' ⟨rfl, rfl⟩; (try rw [inR0])))
  go_ret
  exact ⟨rfl, by repeat (first | exact bbox _ _ | refine bstep ?_ (by assumption))⟩

set_option maxRecDepth 100000 in
set_option maxHeartbeats 2000000 in
theorem fault_marker (a b c d k : Int) (t : Bool) (s : ByteArray) (w : World) (hm : mkB k = true) (hk : (k != 1) = true) :
    Calls Try.prog 21 #[.agg #[.int .i64 a, .int .i64 b, .int .i64 c, .int .i64 d, .int .i64 k, .bool t, .string s]] w fun e w' => e = .returned (.int .i64 (flt a b c d k t s.size)) ∧ Below w.heap.size w w' := by
  have hk1 : k ≠ 1 := by simpa using hk
  clear hk1
  have hk2 := inR13 k hm
  cases ha : inB a
  · have hr : flt a b c d k t s.size = 2 := by simp [flt, hm, ha]
    rw [hr]
    go_enter Try.func21, Try.ntmps21
    go_wp2_with (first | (go_at_call 54; refine (In_any _ _ _ _).mono ?_; rintro e w' ⟨rfl, rfl⟩; (try rw [inR0])))
    go_ret
    exact ⟨rfl, by repeat (first | exact bbox _ _ | refine bstep ?_ (by assumption))⟩
  cases hb' : inB b
  · have hr : flt a b c d k t s.size = 2 := by simp [flt, hm, hb']
    rw [hr]
    go_enter Try.func21, Try.ntmps21
    go_wp2_with (first | (go_at_call 54; refine (In_any _ _ _ _).mono ?_; rintro e w' ⟨rfl, rfl⟩; (try rw [inR0])))
    go_ret
    exact ⟨rfl, by repeat (first | exact bbox _ _ | refine bstep ?_ (by assumption))⟩
  cases hc' : inB c
  · have hr : flt a b c d k t s.size = 2 := by simp [flt, hm, hc']
    rw [hr]
    go_enter Try.func21, Try.ntmps21
    go_wp2_with (first | (go_at_call 54; refine (In_any _ _ _ _).mono ?_; rintro e w' ⟨rfl, rfl⟩; (try rw [inR0])))
    go_ret
    exact ⟨rfl, by repeat (first | exact bbox _ _ | refine bstep ?_ (by assumption))⟩
  cases hd : inB d
  · have hr : flt a b c d k t s.size = 2 := by simp [flt, hm, hd]
    rw [hr]
    go_enter Try.func21, Try.ntmps21
    go_wp2_with (first | (go_at_call 54; refine (In_any _ _ _ _).mono ?_; rintro e w' ⟨rfl, rfl⟩; (try rw [inR0])))
    go_ret
    exact ⟨rfl, by repeat (first | exact bbox _ _ | refine bstep ?_ (by assumption))⟩
  by_cases hn : 40 < s.size
  · have hr : flt a b c d k t s.size = 1 := by simp [flt, hm, ha, hb', hc', hd, hn]
    rw [hr]
    go_enter Try.func21, Try.ntmps21
    go_wp2_with (first | (go_at_call 54; refine (In_any _ _ _ _).mono ?_; rintro e w' ⟨rfl, rfl⟩; (try rw [inR0])))
    go_ret
    exact ⟨rfl, by repeat (first | exact bbox _ _ | refine bstep ?_ (by assumption))⟩
  have hn' : ¬ (40 : Int) < (s.size : Int) := by omega
  have hd0 : 0 ≤ d := by simp [inB] at hd; exact hd.1
  by_cases hb0 : b = 0
  · subst hb0
    have hfm : fmB 0 d t s.size = false := by simp [fmB]
    have hr : flt a 0 c d k t s.size = 4 := by simp [flt, hm, ha, hb', hc', hd, hn, hfm]
    rw [hr]
    go_enter Try.func21, Try.ntmps21
    go_wp2_with (first | (go_at_call 54; refine (In_any _ _ _ _).mono ?_; rintro e w' ⟨rfl, rfl⟩; (try rw [inR0])))
    go_ret
    exact ⟨rfl, by repeat (first | exact bbox _ _ | refine bstep ?_ (by assumption))⟩
  have g0 : (b == 0) = false := by simp [hb0]
  cases t
  · have hfm : fmB b d false s.size = false := by simp [fmB]
    have hr : flt a b c d k false s.size = 4 := by simp [flt, hm, ha, hb', hc', hd, hn, hfm]
    rw [hr]
    go_enter Try.func21, Try.ntmps21
    go_wp2_with (first | (go_at_call 54; refine (In_any _ _ _ _).mono ?_; rintro e w' ⟨rfl, rfl⟩; (try rw [inR0])))
    go_ret
    exact ⟨rfl, by repeat (first | exact bbox _ _ | refine bstep ?_ (by assumption))⟩
  by_cases h1 : d = 0
  · subst h1
    by_cases h2 : s.size = 0
    · have hfm : fmB b 0 true s.size = true := by simp [fmB, hb0, h2]
      have hr : flt a b c 0 k true s.size = 0 := by simp [flt, hm, ha, hb', hc', hd, hn, hfm, hb0]
      rw [hr]
      have h3 : ¬ (0 : Int) < (s.size : Int) := by omega
      clear h2
      go_enter Try.func21, Try.ntmps21
      go_wp2_with (first | (go_at_call 54; refine (In_any _ _ _ _).mono ?_; rintro e w' ⟨rfl, rfl⟩; (try rw [inR0])))
      go_ret
      exact ⟨rfl, by repeat (first | exact bbox _ _ | refine bstep ?_ (by assumption))⟩
    · have hfm : fmB b 0 true s.size = false := by simp [fmB, h2]
      have hr : flt a b c 0 k true s.size = 4 := by simp [flt, hm, ha, hb', hc', hd, hn, hfm]
      rw [hr]
      have h3 : (0 : Int) < (s.size : Int) := by omega
      clear h2
      go_enter Try.func21, Try.ntmps21
      go_wp2_with (first | (go_at_call 54; refine (In_any _ _ _ _).mono ?_; rintro e w' ⟨rfl, rfl⟩; (try rw [inR0])))
      go_ret
      exact ⟨rfl, by repeat (first | exact bbox _ _ | refine bstep ?_ (by assumption))⟩
  · have hfm : fmB b d true s.size = false := by simp [fmB, h1]
    have hr : flt a b c d k true s.size = 4 := by simp [flt, hm, ha, hb', hc', hd, hn, hfm]
    rw [hr]
    have h3 : (0 : Int) < d := by omega
    go_enter Try.func21, Try.ntmps21
    go_wp2_with (first | (go_at_call 54; refine (In_any _ _ _ _).mono ?_; rintro e w' ⟨rfl, rfl⟩; (try rw [inR0])))
    go_ret
    exact ⟨rfl, by repeat (first | exact bbox _ _ | refine bstep ?_ (by assumption))⟩

set_option maxRecDepth 100000 in
set_option maxHeartbeats 2000000 in
theorem fault_data (a b c d : Int) (t : Bool) (s : ByteArray) (w : World)  :
    Calls Try.prog 21 #[.agg #[.int .i64 a, .int .i64 b, .int .i64 c, .int .i64 d, .int .i64 1, .bool t, .string s]] w fun e w' => e = .returned (.int .i64 (flt a b c d 1 t s.size)) ∧ Below w.heap.size w w' := by
  have hm : mkB 1 = false := by decide
  have hk2 : inR 1 1 3 = true := by decide
  cases ha : inB a
  · have hr : flt a b c d 1 t s.size = 2 := by simp [flt, hm, ha]
    rw [hr]
    go_enter Try.func21, Try.ntmps21
    go_wp2_with (first | (go_at_call 54; refine (In_any _ _ _ _).mono ?_; rintro e w' ⟨rfl, rfl⟩; (try rw [inR0])))
    go_ret
    exact ⟨rfl, by repeat (first | exact bbox _ _ | refine bstep ?_ (by assumption))⟩
  cases hb' : inB b
  · have hr : flt a b c d 1 t s.size = 2 := by simp [flt, hm, hb']
    rw [hr]
    go_enter Try.func21, Try.ntmps21
    go_wp2_with (first | (go_at_call 54; refine (In_any _ _ _ _).mono ?_; rintro e w' ⟨rfl, rfl⟩; (try rw [inR0])))
    go_ret
    exact ⟨rfl, by repeat (first | exact bbox _ _ | refine bstep ?_ (by assumption))⟩
  cases hc' : inB c
  · have hr : flt a b c d 1 t s.size = 2 := by simp [flt, hm, hc']
    rw [hr]
    go_enter Try.func21, Try.ntmps21
    go_wp2_with (first | (go_at_call 54; refine (In_any _ _ _ _).mono ?_; rintro e w' ⟨rfl, rfl⟩; (try rw [inR0])))
    go_ret
    exact ⟨rfl, by repeat (first | exact bbox _ _ | refine bstep ?_ (by assumption))⟩
  cases hd : inB d
  · have hr : flt a b c d 1 t s.size = 2 := by simp [flt, hm, hd]
    rw [hr]
    go_enter Try.func21, Try.ntmps21
    go_wp2_with (first | (go_at_call 54; refine (In_any _ _ _ _).mono ?_; rintro e w' ⟨rfl, rfl⟩; (try rw [inR0])))
    go_ret
    exact ⟨rfl, by repeat (first | exact bbox _ _ | refine bstep ?_ (by assumption))⟩
  by_cases hn : 40 < s.size
  · have hr : flt a b c d 1 t s.size = 1 := by simp [flt, hm, ha, hb', hc', hd, hn]
    rw [hr]
    go_enter Try.func21, Try.ntmps21
    go_wp2_with (first | (go_at_call 54; refine (In_any _ _ _ _).mono ?_; rintro e w' ⟨rfl, rfl⟩; (try rw [inR0])))
    go_ret
    exact ⟨rfl, by repeat (first | exact bbox _ _ | refine bstep ?_ (by assumption))⟩
  have hn' : ¬ (40 : Int) < (s.size : Int) := by omega
  have hd0 : 0 ≤ d := by simp [inB] at hd; exact hd.1
  have hc0 : 0 ≤ c := by simp [inB] at hc'; exact hc'.1
  by_cases hb0 : b = 0
  · subst hb0
    cases t
    · by_cases h1 : c = 0
      · subst h1
        by_cases h2 : d = 0
        · subst h2
          have hfn : fnB 0 0 false = true := by decide
          have hr : flt a 0 0 0 1 false s.size = 0 := by simp [flt, hm, ha, hb', hn, hfn]
          rw [hr]
          go_enter Try.func21, Try.ntmps21
          go_wp2_with (first | (go_at_call 54; refine (In_any _ _ _ _).mono ?_; rintro e w' ⟨rfl, rfl⟩; (try rw [inR0])))
          go_ret
          exact ⟨rfl, by repeat (first | exact bbox _ _ | refine bstep ?_ (by assumption))⟩
        · have hfn : fnB 0 d false = false := by simp [fnB, h2]
          have hr : flt a 0 0 d 1 false s.size = 4 := by simp [flt, hm, ha, hb', hd, hn, hfn]
          rw [hr]
          have h3 : (0 : Int) < d := by omega
          go_enter Try.func21, Try.ntmps21
          go_wp2_with (first | (go_at_call 54; refine (In_any _ _ _ _).mono ?_; rintro e w' ⟨rfl, rfl⟩; (try rw [inR0])))
          go_ret
          exact ⟨rfl, by repeat (first | exact bbox _ _ | refine bstep ?_ (by assumption))⟩
      · have hfn : fnB c d false = false := by simp [fnB, h1]
        have hr : flt a 0 c d 1 false s.size = 4 := by simp [flt, hm, ha, hb', hc', hd, hn, hfn]
        rw [hr]
        have h3 : (0 : Int) < c := by omega
        go_enter Try.func21, Try.ntmps21
        go_wp2_with (first | (go_at_call 54; refine (In_any _ _ _ _).mono ?_; rintro e w' ⟨rfl, rfl⟩; (try rw [inR0])))
        go_ret
        exact ⟨rfl, by repeat (first | exact bbox _ _ | refine bstep ?_ (by assumption))⟩
    · have hfn : fnB c d true = false := by simp [fnB]
      have hr : flt a 0 c d 1 true s.size = 4 := by simp [flt, hm, ha, hb', hc', hd, hn, hfn]
      rw [hr]
      go_enter Try.func21, Try.ntmps21
      go_wp2_with (first | (go_at_call 54; refine (In_any _ _ _ _).mono ?_; rintro e w' ⟨rfl, rfl⟩; (try rw [inR0])))
      go_ret
      exact ⟨rfl, by repeat (first | exact bbox _ _ | refine bstep ?_ (by assumption))⟩
  have g0 : (b == 0) = false := by simp [hb0]
  have hr : flt a b c d 1 t s.size = 0 := by simp [flt, hm, ha, hb', hc', hd, hn, hb0]
  rw [hr]
  go_enter Try.func21, Try.ntmps21
  go_wp2_with (first | (go_at_call 54; refine (In_any _ _ _ _).mono ?_; rintro e w' ⟨rfl, rfl⟩; (try rw [inR0])))
  go_ret
  exact ⟨rfl, by repeat (first | exact bbox _ _ | refine bstep ?_ (by assumption))⟩

set_option maxRecDepth 100000 in
set_option maxHeartbeats 400000 in
theorem fault_any (a b c d k : Int) (t : Bool) (s : ByteArray) (w : World) :
    Calls Try.prog 21 #[.agg #[.int .i64 a, .int .i64 b, .int .i64 c, .int .i64 d, .int .i64 k, .bool t, .string s]] w fun e w' => e = .returned (.int .i64 (flt a b c d k t s.size)) ∧ Below w.heap.size w w' := by
  by_cases hk : k = 1
  · subst hk
    exact fault_data a b c d t s w
  · have hk' : (k != 1) = true := by simp [hk]
    cases hm : mkB k
    · exact fault_nokind a b c d k t s w hm hk'
    · exact fault_marker a b c d k t s w hm hk'
end

section
open Go.RowKit
set_option linter.unusedVariables false

theorem flt_ok {a b c d k : Int} {t : Bool} {n : Nat} (h : flt a b c d k t n = 0) :
    (0 ≤ a ∧ a ≤ 1073741824) ∧ (0 ≤ b ∧ b ≤ 1073741824) ∧ (0 ≤ c ∧ c ≤ 1073741824) ∧ (0 ≤ d ∧ d ≤ 1073741824) ∧ (1 ≤ k ∧ k ≤ 3) ∧ n ≤ 40 := by
  unfold flt at h
  split at h
  · omega
  · rename_i h1
    split at h
    · omega
    · rename_i h2
      split at h
      · omega
      · rename_i h3
        simp [inB] at h2
        have hk : 1 ≤ k ∧ k ≤ 3 := by
          by_cases e : k = 1
          · omega
          · cases hm : mkB k
            · exact absurd ⟨e, hm⟩ h1
            · simp [mkB] at hm; omega
        omega

/-- The bytes of an entry whose body is L. -/
def encB (L : List Int) : List Int := (L.length : Int) :: (L ++ [sumL L / 256, sumL L % 256])
def encL (a b c d k : Int) (t : Bool) (s : ByteArray) : List Int := encB (bodyL a b c d k t s)

theorem Own.shape {B : Nat} {v : Value} {l : List Int} {w : World} (h : Own B v l w) : ∃ ao cap, v = .slice ao l.length cap := by
  obtain ⟨_, ao, cap, h, _⟩ := h.rd
  exact ⟨ao, cap, h⟩

section
variable {w : World} {ops : Array Oper} {rest : List Oper} {o : Oper} {a : Act} {Q : Exit → Act → World → Prop}
theorem wp_mk (hgd : o.guard = none) (x y : Operand) (ho : o.op = Op.makeSlice 27 x y) (B : Nat) (kl kc : IntKind) (C : Int) (n : Nat) (hx : a.eval x = .int kl 0) (hy : a.eval y = .int kc C) (hC : C = (n : Int)) (hn : n ≤ 100000000)
    (hB : B ≤ w.heap.size) (h : ∀ w', Own B (.slice (some ⟨w.heap.size, 0, none⟩) 0 n) [] w' → Below B w w' → wpList Try.prog ops Q rest (a.put o.dst (.slice (some ⟨w.heap.size, 0, none⟩) 0 n)) w') : wpList Try.prog ops Q (o :: rest) a w := by
  obtain ⟨i, hi, hz0, hz1, hz2⟩ := info_parts infoByte
  refine wpList_make_own w hgd x y _ ho B _ i (.int .u8 0) 1 Try.underlying27 hi hz0 hz1 kl kc C n hx hy hC (by rw [hz2]; omega) (by unfold maxLen; omega) hB ?_
  intro w' ho' hg
  exact h w' ⟨by simpa using ho', fun n hn => by simp at hn, Nat.le_trans hB hg.size⟩ ((Below.refl B w).grown hg hB (fun k hk => by cases hk))
end

set_option maxRecDepth 100000 in
set_option maxHeartbeats 1000000 in
theorem encode_bad (a b c d k : Int) (t : Bool) (s : ByteArray) (w : World) (r : Int) (hr : flt a b c d k t s.size = r) (h0 : (r != 0) = true) :
    Calls Try.prog 22 #[.agg #[.int .i64 a, .int .i64 b, .int .i64 c, .int .i64 d, .int .i64 k, .bool t, .string s]] w fun e w' => e = .returned (.tuple #[.slice none 0 0, .int .i64 r]) ∧ Below w.heap.size w w' := by
  have HC : Hid (∀ w, _) := fun w => check_any a b c d k t s w
  rw [hr] at HC
  clear hr
  go_enter Try.func22, Try.ntmps22
  go_wp2_with fail
  refine (HC.out _).mono ?_
  rintro e w1 ⟨rfl, hb1⟩
  have hb := bstep (bbox _ _) hb1
  clear hb1 HC
  go_wp2_with fail
  go_ret2
  exact ⟨rfl, hb⟩

set_option maxRecDepth 100000 in
set_option maxHeartbeats 2000000 in
theorem encode_ok (a b c d k : Int) (t : Bool) (s : ByteArray) (w : World) (hr : flt a b c d k t s.size = 0) :
    Calls Try.prog 22 #[.agg #[.int .i64 a, .int .i64 b, .int .i64 c, .int .i64 d, .int .i64 k, .bool t, .string s]] w fun e w' => ∃ v, e = .returned (.tuple #[v, .int .i64 0]) ∧ Own w.heap.size v (encL a b c d k t s) w' ∧ Below w.heap.size w w' := by
  obtain ⟨ha, hb, hc, hd, hk, hs⟩ := flt_ok hr
  have HC : Hid (∀ w, _) := fun w => check_any a b c d k t s w
  rw [hr] at HC
  have HE : Hid (∀ w, _) := fun w => encodeBody_any a b c d k t s w ha hb hc hd hk hs
  have hlen := bodyL_len a b c d k t s
  have hfin : encL a b c d k t s = encB (bodyL a b c d k t s) := rfl
  rw [hfin]
  generalize bodyL a b c d k t s = L at *
  clear hr hfin ha hb hc hd hk
  go_enter Try.func22, Try.ntmps22
  go_wp2_with fail
  refine (HC.out _).mono ?_
  rintro e w1 ⟨rfl, hb1⟩
  have hcell1 := box_cells (by simpa using hb1)
  have hb1' := bstep (bbox _ _) hb1
  clear hb1 HC
  go_wp2_with fail
  refine (HE.out _).mono ?_
  rintro e w2 ⟨vb, rfl, hvb, hb2⟩
  have hb2' := bstep hb1' hb2
  clear hb2 HE hb1' hcell1
  obtain ⟨ao, cap, rfl⟩ := hvb.shape
  go_wp2_with (at_make; refine wp_mk rfl _ _ rfl w2.heap.size _ _ _ (1 + L.length + 2) rfl rfl (by omega) (by omega) (Nat.le_refl _) ?_)
  intro w3 hown3 hb3
  have hrd2 := hvb.rd
  have hA := hown3.alloc (.cells #[.int .u8 L.length] 5)
  have hr := rd_one w3 L.length (by omega)
  go_wp2_with (at_builtin; refine wp_app rfl _ _ rfl _ _ _ rfl hA _ _ rfl hr (by simp) ?_)
  intro v4 w4 hown4 hb4
  have hW4 := (hb3.alloc hown3.2.2 _).trans hb4
  have hrd4 := hrd2.below (Nat.le_refl _) hW4
  clear hA hr hb4 hown3 hb3
  go_wp2_with (at_builtin; refine wp_app rfl _ _ rfl _ _ _ rfl hown4 _ _ rfl hrd4 (by simp; omega) ?_)
  intro v5 w5 hown5 hb5
  have hW5 := hW4.trans hb5
  have hrd5 := hrd2.below (Nat.le_refl _) hW5
  clear hb5 hown4 hrd4 hW4
  go_wp2_with fail
  refine (sum_any L _ _ (by omega) hrd5).mono ?_
  rintro e w' ⟨rfl, rfl⟩
  have hS := sumL_bd L
  have hA := hown5.alloc (.cells #[.int .u8 (sumL L / 256), .int .u8 (sumL L % 256)] 5)
  have hr := rd_two w' (sumL L / 256) (sumL L % 256) (by omega) (by omega)
  clear hrd5 hrd2 hvb
  go_wp2_with (at_builtin; go_loud (refine wp_app rfl _ _ rfl _ _ _ rfl hA _ _ rfl hr (by simp; omega) ?_))
  intro v6 w6 hown6 hb6
  have hW6 := (hW5.alloc hown5.2.2 _).trans hb6
  have hfin : Own w.heap.size v6 (encB L) w6 := by (have := hown6.mono (C := w.heap.size) hb2'.size; simpa [encB] using this)
  have hbel : Below w.heap.size w w6 := bstep hb2' hW6
  clear hW5 hW6 hb6 hown6 hown5 hA hr hb2'
  go_wp2
  go_ret2
  exact ⟨_, rfl, hfin, hbel⟩

set_option maxRecDepth 100000 in
set_option maxHeartbeats 1000000 in
theorem bytes_bad (a b c d k : Int) (t : Bool) (s : ByteArray) (w : World) (r : Int) (hr : flt a b c d k t s.size = r) (h0 : (r != 0) = true) :
    Calls Try.prog 23 #[.agg #[.int .i64 a, .int .i64 b, .int .i64 c, .int .i64 d, .int .i64 k, .bool t, .string s]] w fun e w' => e = .returned (.tuple #[.slice none 0 0, .int .i64 r]) ∧ Below w.heap.size w w' := by
  have HC : Hid (∀ w, _) := fun w => fault_any a b c d k t s w
  rw [hr] at HC
  clear hr
  go_enter Try.func23, Try.ntmps23
  go_wp2_with fail
  refine (HC.out _).mono ?_
  rintro e w1 ⟨rfl, hb1⟩
  have hb := bstep (bbox _ _) hb1
  clear hb1 HC
  go_wp2_with fail
  go_ret2
  exact ⟨rfl, hb⟩

set_option maxRecDepth 100000 in
set_option maxHeartbeats 2000000 in
theorem bytes_ok (a b c d k : Int) (t : Bool) (s : ByteArray) (w : World) (hr : flt a b c d k t s.size = 0) :
    Calls Try.prog 23 #[.agg #[.int .i64 a, .int .i64 b, .int .i64 c, .int .i64 d, .int .i64 k, .bool t, .string s]] w fun e w' => ∃ v, e = .returned (.tuple #[v, .int .i64 0]) ∧ Own w.heap.size v (encL a b c d k t s) w' ∧ Below w.heap.size w w' := by
  obtain ⟨ha, hb, hc, hd, hk, hs⟩ := flt_ok hr
  have HC : Hid (∀ w, _) := fun w => fault_any a b c d k t s w
  rw [hr] at HC
  have HE : Hid (∀ w, _) := fun w => bodyOf_any a b c d k t s w ha hb hc hd hk hs
  have hlen := bodyL_len a b c d k t s
  have hfin : encL a b c d k t s = encB (bodyL a b c d k t s) := rfl
  rw [hfin]
  generalize bodyL a b c d k t s = L at *
  clear hr hfin ha hb hc hd hk
  go_enter Try.func23, Try.ntmps23
  go_wp2_with fail
  refine (HC.out _).mono ?_
  rintro e w1 ⟨rfl, hb1⟩
  have hcell1 := box_cells (by simpa using hb1)
  have hb1' := bstep (bbox _ _) hb1
  clear hb1 HC
  go_wp2_with fail
  refine (HE.out _).mono ?_
  rintro e w2 ⟨vb, rfl, hvb, hb2⟩
  have hb2' := bstep hb1' hb2
  clear hb2 HE hb1' hcell1
  obtain ⟨ao, cap, rfl⟩ := hvb.shape
  have hrd2 := hvb.rd
  have hown4 := own_one w2.heap.size w2 L.length (by omega) (Nat.le_refl _)
  have hW4 := bbox w2 (.cells #[.int .u8 L.length] 5)
  have hrd4 := hrd2.below (Nat.le_refl _) hW4
  go_wp2_with (at_builtin; refine wp_app rfl _ _ rfl _ _ _ rfl hown4 _ _ rfl hrd4 (by simp; omega) ?_)
  intro v5 w5 hown5 hb5
  have hW5 := hW4.trans hb5
  have hrd5 := hrd2.below (Nat.le_refl _) hW5
  clear hb5 hown4 hrd4 hW4
  have hS := sumL_bd L
  go_wp2_with fail
  refine (sumOf_any L _ _ (by omega) hrd5).mono ?_
  rintro e w' ⟨rfl, rfl⟩
  go_wp2_with fail
  refine (sumOf_any L _ _ (by omega) hrd5).mono ?_
  rintro e w'' ⟨rfl, rfl⟩
  have hA := hown5.alloc (.cells #[.int .u8 (sumL L / 256), .int .u8 (sumL L % 256)] 5)
  have hr := rd_two w'' (sumL L / 256) (sumL L % 256) (by omega) (by omega)
  clear hrd5 hrd2 hvb
  go_wp2_with (at_builtin; refine wp_app rfl _ _ rfl _ _ _ rfl hA _ _ rfl hr (by simp; omega) ?_)
  intro v6 w6 hown6 hb6
  have hW6 := (hW5.alloc hown5.2.2 _).trans hb6
  have hfin : Own w.heap.size v6 (encB L) w6 := by (have := hown6.mono (C := w.heap.size) hb2'.size; simpa [encB] using this)
  have hbel : Below w.heap.size w w6 := bstep hb2' hW6
  clear hW5 hW6 hb6 hown6 hown5 hA hr hb2'
  go_wp2
  go_ret2
  exact ⟨_, rfl, hfin, hbel⟩

/-- The text that a slice of bytes is turned into. -/
theorem conv_str {w : World} {v : Value} {l : List Int} (h : Rd w v l) : (convert 27 9 v).run Try.prog w = .ok (.string (strOfNums l)) w := by
  obtain ⟨hb, ao, cap, rfl, r4, r5, r6, hc⟩ := h
  by_cases h0 : 0 < l.length
  · obtain ⟨b, off, rfl, hc'⟩ := hc h0
    exact run_convert_bytes_arg w _ _ Try.underlying27 Try.underlying5 b off l.length cap l rfl hc' _ Try.underlying9
  · have hl : l = [] := List.eq_nil_of_length_eq_zero (by omega)
    subst hl
    cases ao with
    | none => exact run_convert_bytes_nil w _ _ Try.underlying27 Try.underlying5 0 cap _ Try.underlying9
    | some ad =>
      have hl : (loadCells ad 0).run Try.prog w = .ok (([] : List Int).map (Value.int .u8)).toArray w := by
        have := run_loadCells_list (P := Try.prog) w ad [] (fun j v hj => by simp at hj)
        simpa using this
      have := run_convert_bytes_string (P := Try.prog) w 27 9 5 (some ad) 0 cap Try.underlying27 Try.underlying5 Try.underlying9
      rw [List.length_nil, this, run_bytesToString w ad 0 cap [] hl]
      rfl
end

end Go.Proofs.Ytknipikmbfdcnaa
