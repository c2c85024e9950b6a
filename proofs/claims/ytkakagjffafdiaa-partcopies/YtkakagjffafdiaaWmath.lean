/-
  Plain lists of numbers: the bytes of a number, of an entry's body, and their sum.
-/
import Derived.WalkKit
namespace Go.Proofs.Ytkakagjffafdiaa
open Go.RowKit
theorem w64 (n : Int) (h : -9223372036854775808 ≤ n ∧ n ≤ 9223372036854775807) : wrap64 n = n := by unfold wrap64; omega

/-- A number in bytes of seven bits, the lowest ones first; so many bytes at the most. -/
def sevF : Nat → Nat → List Int
  | 0, _ => []
  | f + 1, n => if n < 128 then [(n : Int)] else ((128 + n % 128 : Nat) : Int) :: sevF f (n / 128)
def sev (n : Int) : List Int := sevF 5 n.toNat

/-- Each byte by its place, from the i-th on. -/
def sumFrom : Nat → List Int → Int
  | _, [] => 0
  | i, x :: r => ((i : Int) + 1) * x + sumFrom (i + 1) r
def sumL (l : List Int) : Int := sumFrom 0 l % 65521

def isByte (n : Int) : Prop := 0 ≤ n ∧ n ≤ 255
def Bytes (l : List Int) : Prop := ∀ n ∈ l, 0 ≤ n ∧ n ≤ 255

theorem sumFrom_append (i : Nat) (l r : List Int) : sumFrom i (l ++ r) = sumFrom i l + sumFrom (i + l.length) r := by
  induction l generalizing i with
  | nil => simp [sumFrom]
  | cons x l ih => simp only [List.cons_append, sumFrom, ih, List.length_cons]; rw [show i + 1 + l.length = i + (l.length + 1) by omega]; omega

theorem sum_snoc (l : List Int) (k : Nat) (h : k < l.length) : sumFrom 0 (l.take (k + 1)) = sumFrom 0 (l.take k) + ((k : Int) + 1) * l.getD k 0 := by
  rw [List.take_succ_eq_append_getElem h, sumFrom_append]
  have hl : (l.take k).length = k := by simp; omega
  have e : l.getD k 0 = l[k] := by simp [List.getD, h]
  rw [hl, e]
  simp [sumFrom]

theorem sumFrom_bd (l : List Int) (hb : Bytes l) (i : Nat) : 0 ≤ sumFrom i l ∧ sumFrom i l ≤ ((i + l.length : Nat) : Int) * 255 * (l.length : Int) := by
  induction l generalizing i with
  | nil => simp [sumFrom]
  | cons x l ih =>
    have h1 := ih (fun n hn => hb n (List.mem_cons_of_mem _ hn)) (i + 1)
    have hx := hb x (List.mem_cons_self ..)
    simp only [sumFrom, List.length_cons]
    rw [show (i + 1 + l.length) = i + (l.length + 1) by omega] at h1
    have h2 : 0 ≤ ((i : Int) + 1) * x := Int.mul_nonneg (by omega) hx.1
    have h3 : ((i : Int) + 1) * x ≤ ((i : Int) + 1) * 255 := Int.mul_le_mul_of_nonneg_left hx.2 (by omega)
    have h4 : ((i : Int) + 1) * 255 ≤ ((i + (l.length + 1) : Nat) : Int) * 255 := by omega
    have h5 : ((i + (l.length + 1) : Nat) : Int) * 255 * ((l.length + 1 : Nat) : Int) = ((i + (l.length + 1) : Nat) : Int) * 255 * (l.length : Int) + ((i + (l.length + 1) : Nat) : Int) * 255 := by
      rw [show ((l.length + 1 : Nat) : Int) = (l.length : Int) + 1 by omega, Int.mul_add, Int.mul_one]
    rw [h5]
    omega

theorem sum_small (l : List Int) (hb : Bytes l) (hl : l.length ≤ 300) : 0 ≤ sumFrom 0 l ∧ sumFrom 0 l ≤ 22950000 := by
  have h := sumFrom_bd l hb 0
  refine ⟨h.1, Int.le_trans h.2 ?_⟩
  have h1 : (((0 + l.length : Nat) : Int)) * 255 ≤ 76500 := by omega
  have h2 : (((0 + l.length : Nat) : Int)) * 255 * (l.length : Int) ≤ 76500 * (l.length : Int) := Int.mul_le_mul_of_nonneg_right h1 (by omega)
  omega

theorem bytes_take {l : List Int} (hb : Bytes l) (k : Nat) : Bytes (l.take k) := fun n hn => hb n (List.mem_of_mem_take hn)
theorem bytes_drop {l : List Int} (hb : Bytes l) (k : Nat) : Bytes (l.drop k) := fun n hn => hb n (List.mem_of_mem_drop hn)
theorem bytes_append {l r : List Int} (hl : Bytes l) (hr : Bytes r) : Bytes (l ++ r) := fun n hn => (List.mem_append.1 hn).elim (hl n) (hr n)
theorem bytes_getD {l : List Int} (hb : Bytes l) (k : Nat) : 0 ≤ l.getD k 0 ∧ l.getD k 0 ≤ 255 := by
  by_cases h : k < l.length
  · have e : l.getD k 0 = l[k] := by simp [List.getD, h]
    rw [e]; exact hb _ (List.getElem_mem h)
  · have e : l.getD k 0 = 0 := by simp [List.getD, List.getElem?_eq_none (show l.length ≤ k by omega)]
    rw [e]; omega
theorem sumL_bd (l : List Int) : 0 ≤ sumL l ∧ sumL l < 65521 := by unfold sumL; omega

theorem sevF_bytes (f n : Nat) : Bytes (sevF f n) := by
  induction f generalizing n with
  | zero => intro x hx; simp [sevF] at hx
  | succ f ih =>
    intro x hx
    by_cases h : n < 128
    · simp only [sevF, if_pos h, List.mem_singleton] at hx; omega
    · simp only [sevF, if_neg h, List.mem_cons] at hx
      rcases hx with rfl | hx
      · omega
      · exact ih _ x hx
theorem sevF_len (f n : Nat) : (sevF f n).length ≤ f := by
  induction f generalizing n with
  | zero => simp [sevF]
  | succ f ih =>
    by_cases h : n < 128
    · simp [sevF, h]
    · have := ih (n / 128); simp [sevF, h]; omega
theorem sevF_small (f n : Nat) (h : n < 128) : sevF (f + 1) n = [(n : Int)] := by simp [sevF, h]
theorem sevF_big (f n : Nat) (h : ¬ n < 128) : sevF (f + 1) n = ((128 + n % 128 : Nat) : Int) :: sevF f (n / 128) := by simp [sevF, h]

end Go.Proofs.Ytkakagjffafdiaa
