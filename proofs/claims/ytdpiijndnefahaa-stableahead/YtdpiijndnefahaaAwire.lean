/-
  Plain lists of numbers: the bytes of a number, of an entry's body, and their sum.
  The walks of wire.Check and of the document's EntryFault: each returns the same number of the entry's fields, and turns nothing that was there.
  The walks of the two sums over a slice of bytes.
  A slice of bytes that a call owns, and the laws by which it grows.
  The walks of the two ways to write a number.
  The walks of the two ways to write an entry's body.
  The walk of the document's EntryFault: it returns what flt says of the entry's fields, and turns nothing that was there.
  The walks of wire.Encode and of the document's EntryBytes: the bytes of an entry, or what is wrong with it.
-/
import Derived.WalkKit
import Derived.Test.YtdpiijndnefahaaRows
import Derived.WalkSpells
import Derived.WalkLawsBesides
import Derived.Lib.Strings
import Derived.Laws.AppendOwnNone
import Derived.Lib.AppendStr
import Derived.Laws.BytesArg
import Derived.Test.YtdpiijndnefahaaEbase
namespace Go.Proofs.Ytdpiijndnefahaa

section
open Go.RowKit

/-- A number in bytes of seven bits, the lowest ones first; so many bytes at the most. -/
def sevF : Nat → Nat → List Int
  | 0, _ => []
  | f + 1, n => if n < 128 then [(n : Int)] else ((128 + n % 128 : Nat) : Int) :: sevF f (n / 128)
def sev (n : Int) : List Int := sevF 5 n.toNat

/-- Each byte by its place, from the i-th on. -/
def sumFrom : Nat → List Int → Int
  | _, [] => 0
  | i, x :: r => ((i : Int) + 1) * x + sumFrom (i + 1) r
def sumL (l : List Int) : Int := sumFrom 0 l % 65521

def isByte (n : Int) : Prop := 0 ≤ n ∧ n ≤ 255

theorem sumFrom_append (i : Nat) (l r : List Int) : sumFrom i (l ++ r) = sumFrom i l + sumFrom (i + l.length) r := by
  induction l generalizing i with
  | nil => simp [sumFrom]
  | cons x l ih => simp only [List.cons_append, sumFrom, ih, List.length_cons]; rw [show i + 1 + l.length = i + (l.length + 1) by omega]; omega

theorem sum_snoc (l : List Int) (k : Nat) (h : k < l.length) : sumFrom 0 (l.take (k + 1)) = sumFrom 0 (l.take k) + ((k : Int) + 1) * l.getD k 0 := by
  rw [List.take_succ_eq_append_getElem h, sumFrom_append]
  have hl : (l.take k).length = k := by simp; omega
  have e : l.getD k 0 = l[k] := by simp [List.getD, h]
  rw [hl, e]
  simp [sumFrom]

theorem sumFrom_bd (l : List Int) (hb : Bytes l) (i : Nat) : 0 ≤ sumFrom i l ∧ sumFrom i l ≤ ((i + l.length : Nat) : Int) * 255 * (l.length : Int) := by
  induction l generalizing i with
  | nil => simp [sumFrom]
  | cons x l ih =>
    have h1 := ih (fun n hn => hb n (List.mem_cons_of_mem _ hn)) (i + 1)
    have hx := hb x (List.mem_cons_self ..)
    simp only [sumFrom, List.length_cons]
    rw [show (i + 1 + l.length) = i + (l.length + 1) by omega] at h1
    have h2 : 0 ≤ ((i : Int) + 1) * x := Int.mul_nonneg (by omega) hx.1
    have h3 : ((i : Int) + 1) * x ≤ ((i : Int) + 1) * 255 := Int.mul_le_mul_of_nonneg_left hx.2 (by omega)
    have h4 : ((i : Int) + 1) * 255 ≤ ((i + (l.length + 1) : Nat) : Int) * 255 := by omega
    have h5 : ((i + (l.length + 1) : Nat) : Int) * 255 * ((l.length + 1 : Nat) : Int) = ((i + (l.length + 1) : Nat) : Int) * 255 * (l.length : Int) + ((i + (l.length + 1) : Nat) : Int) * 255 := by
      rw [show ((l.length + 1 : Nat) : Int) = (l.length : Int) + 1 by omega, Int.mul_add, Int.mul_one]
    rw [h5]
    omega

theorem sum_small (l : List Int) (hb : Bytes l) (hl : l.length ≤ 300) : 0 ≤ sumFrom 0 l ∧ sumFrom 0 l ≤ 22950000 := by
  have h := sumFrom_bd l hb 0
  refine ⟨h.1, Int.le_trans h.2 ?_⟩
  have h1 : (((0 + l.length : Nat) : Int)) * 255 ≤ 76500 := by omega
  have h2 : (((0 + l.length : Nat) : Int)) * 255 * (l.length : Int) ≤ 76500 * (l.length : Int) := Int.mul_le_mul_of_nonneg_right h1 (by omega)
  omega

theorem bytes_take {l : List Int} (hb : Bytes l) (k : Nat) : Bytes (l.take k) := fun n hn => hb n (List.mem_of_mem_take hn)
theorem bytes_drop {l : List Int} (hb : Bytes l) (k : Nat) : Bytes (l.drop k) := fun n hn => hb n (List.mem_of_mem_drop hn)
theorem bytes_append {l r : List Int} (hl : Bytes l) (hr : Bytes r) : Bytes (l ++ r) := fun n hn => (List.mem_append.1 hn).elim (hl n) (hr n)
theorem bytes_getD {l : List Int} (hb : Bytes l) (k : Nat) : 0 ≤ l.getD k 0 ∧ l.getD k 0 ≤ 255 := by
  by_cases h : k < l.length
  · have e : l.getD k 0 = l[k] := by simp [List.getD, h]
    rw [e]; exact hb _ (List.getElem_mem h)
  · have e : l.getD k 0 = 0 := by simp [List.getD, List.getElem?_eq_none (show l.length ≤ k by omega)]
    rw [e]; omega
theorem sumL_bd (l : List Int) : 0 ≤ sumL l ∧ sumL l < 65521 := by unfold sumL; omega

theorem sevF_bytes (f n : Nat) : Bytes (sevF f n) := by
  induction f generalizing n with
  | zero => intro x hx; simp [sevF] at hx
  | succ f ih =>
    intro x hx
    by_cases h : n < 128
    · simp only [sevF, if_pos h, List.mem_singleton] at hx; omega
    · simp only [sevF, if_neg h, List.mem_cons] at hx
      rcases hx with rfl | hx
      · omega
      · exact ih _ x hx
theorem sevF_len (f n : Nat) : (sevF f n).length ≤ f := by
  induction f generalizing n with
  | zero => simp [sevF]
  | succ f ih =>
    by_cases h : n < 128
    · simp [sevF, h]
    · have := ih (n / 128); simp [sevF, h]; omega
theorem sevF_small (f n : Nat) (h : n < 128) : sevF (f + 1) n = [(n : Int)] := by simp [sevF, h]
theorem sevF_big (f n : Nat) (h : ¬ n < 128) : sevF (f + 1) n = ((128 + n % 128 : Nat) : Int) :: sevF f (n / 128) := by simp [sevF, h]
end

section
open Go.RowKit


def inB (n : Int) : Bool := decide (0 ≤ n ∧ n ≤ 1073741824)
def mkB (k : Int) : Bool := decide (k = 2 ∨ k = 3)
def fmB (b d : Int) (t : Bool) (n : Nat) : Bool := decide (b ≠ 0 ∧ t = true ∧ d = 0 ∧ n = 0)
def fnB (c d : Int) (t : Bool) : Bool := decide (t = false ∧ c = 0 ∧ d = 0)
/-- What P1.1 answers. -/
def flt (a b c d k : Int) (t : Bool) (n : Nat) : Int :=
  if k ≠ 1 ∧ mkB k = false then 3
  else if inB a = false ∨ inB b = false ∨ inB c = false ∨ inB d = false then 2
  else if 40 < n then 1
  else if mkB k = true ∧ fmB b d t n = false then 4
  else if b = 0 ∧ fnB c d t = false then 4
  else 0



theorem sempty (s : ByteArray) : s.toList.isEmpty = decide (s.size = 0) := by
  rw [Lib.toList_data]
  have h : s.size = s.data.toList.length := by simp
  rw [h]
  cases s.data.toList <;> simp

theorem inR0 (n : Int) : inR n 0 1073741824 = inB n := rfl
theorem inR13 (k : Int) (hm : mkB k = true) : inR k 1 3 = true := by simp [mkB] at hm; simp [inR]; omega
theorem inR13n (k : Int) (hm : mkB k = false) (hk : k ≠ 1) : inR k 1 3 = false := by simp [mkB] at hm; simp [inR]; omega
end

section
open Go.RowKit

/-- A slice of bytes that reads as l. -/
def Rd (w : World) (v : Value) (l : List Int) : Prop :=
  Bytes l ∧ ∃ ao cap, v = .slice ao l.length cap ∧ l.length ≤ cap ∧ cap ≤ maxLen ∧ (ao = none → cap = 0) ∧ (0 < l.length → ∃ b off, ao = some ⟨b, off, none⟩ ∧ ∀ i, i < l.length → w.cell? ⟨b, off + i, none⟩ = some (.int .u8 (l.getD i 0)))


theorem sum_step (l : List Int) (k : Nat) (hb : Bytes l) (hl : l.length ≤ 300) (hlt : k < l.length) :
    wrap64 (sumFrom 0 (l.take k) + wrap64 (((k : Int) + 1) * wrap64 (l[k]'hlt))) = sumFrom 0 (l.take (k + 1)) := by
  have h1 := sum_small (l.take k) (bytes_take hb k) (by simp; omega)
  have h2 := sum_small (l.take (k + 1)) (bytes_take hb (k + 1)) (by simp; omega)
  have h3 := sum_snoc l k hlt
  have e : l.getD k 0 = l[k] := by simp [List.getD, hlt]
  have hx := bytes_getD hb k
  rw [e] at h3 hx
  rw [w64 (l[k]'hlt) (by omega)]
  generalize ((k : Int) + 1) * l[k] = m at *
  rw [w64 m (by omega), w64 _ (by omega)]
  omega

end

section
open Go.RowKit

theorem infoByte : (Try.prog.info? 5).map (fun i => (i.zero, i.size, i.bytes)) = some (some (.int .u8 0), 1, 1) := by kernel_rfl

/-- The slice v owns the bytes l, in a block from B on. -/
def Own (B : Nat) (v : Value) (l : List Int) (w : World) : Prop := w.ownsRow B 5 1 v l.length (l.map (Value.int .u8)) ∧ Bytes l ∧ B ≤ w.heap.size

theorem Own.mono {B C : Nat} {v : Value} {l : List Int} {w : World} (h : Own B v l w) (hC : C ≤ B) : Own C v l w := by
  obtain ⟨⟨h1, h2⟩, h3, h4⟩ := h
  refine ⟨⟨h1, ?_⟩, h3, by omega⟩
  rcases h2 with h2 | ⟨g, cap, cur, r1, r2, r3⟩
  · exact .inl h2
  · exact .inr ⟨g, cap, cur, r1, by omega, r3⟩

theorem Own.alloc {B : Nat} {v : Value} {l : List Int} {w : World} (h : Own B v l w) (o : Obj) : Own B v l (w.alloc o) :=
  ⟨h.1.alloc o, h.2.1, Nat.le_trans h.2.2 ((Below.refl 0 w).alloc (Nat.zero_le _) o).size⟩

theorem Own.drew {B : Nat} {v : Value} {l : List Int} {w : World} (h : Own B v l w) : Own B v l w.drew := h

/-- What is owned stays owned where nothing turns below a number beyond it. -/
theorem Own.below {B C : Nat} {v : Value} {l : List Int} {w w' : World} (h : Own B v l w) (hC : w.heap.size ≤ C) (hb : Below C w w') : Own B v l w' := by
  obtain ⟨⟨h1, h2⟩, h3, h4⟩ := h
  refine ⟨⟨h1, ?_⟩, h3, Nat.le_trans h4 hb.size⟩
  rcases h2 with h2 | ⟨g, cap, cur, r1, r2, r3, r4⟩
  · exact .inl h2
  · have hg : g < w.heap.size := by
      rcases Nat.lt_or_ge g w.heap.size with hg | hg
      · exact hg
      · rw [Array.getElem?_eq_none hg] at r3; simp at r3
    exact .inr ⟨g, cap, cur, r1, r2, by rw [hb.block g (by omega)]; exact r3, r4⟩

theorem own_nil (B : Nat) (w : World) (hB : B ≤ w.heap.size) : Own B (.slice none 0 0) [] w := ⟨World.ownsRow_nil w B _ 1, fun n hn => by simp at hn, hB⟩

/-- A literal of bytes. -/
theorem own_lit (B : Nat) (w : World) (l : List Int) (hb : Bytes l) (hB : B ≤ w.heap.size) (hl : l.length ≤ maxLen) :
    Own B (.slice (some ⟨w.heap.size, 0, none⟩) l.length l.length) l (w.alloc (.cells (l.map (Value.int .u8)).toArray 5)) := by
  refine ⟨?_, hb, Nat.le_trans hB ((Below.refl 0 w).alloc (Nat.zero_le _) _).size⟩
  have := World.ownsRow_lit (e := 5) (size := 1) (base := B) w (l.map (Value.int .u8)).toArray l.length hB hl (by simp)
  simpa using this

/-- What is owned can be read. -/
theorem Own.rd {B : Nat} {v : Value} {l : List Int} {w : World} (h : Own B v l w) : Rd w v l := by
  obtain ⟨h1, h3, h4⟩ := h
  rcases h1.2 with ⟨rfl, h0⟩ | ⟨g, cap, cur, rfl, r2, r3, r4, r5, r6⟩
  · refine ⟨h3, none, 0, by rw [h0], by omega, by unfold maxLen; omega, fun _ => rfl, fun h => by omega⟩
  · refine ⟨h3, _, _, rfl, r4, r5, (fun h => by simp at h), fun _ => ⟨g, 0, rfl, fun i hi => ?_⟩⟩
    have := h1.cellAt i (by omega)
    rw [Nat.zero_add, this]
    simp [List.getD, hi]

theorem rd_lit (w : World) (l : List Int) (hb : Bytes l) (hl : l.length ≤ maxLen) : Rd (w.alloc (.cells (l.map (Value.int .u8)).toArray 5)) (.slice (some ⟨w.heap.size, 0, none⟩) l.length l.length) l :=
  (own_lit 0 w l hb (Nat.zero_le _) hl).rd

theorem own_one (B : Nat) (w : World) (c : Int) (hc : 0 ≤ c ∧ c ≤ 255) (hB : B ≤ w.heap.size) : Own B (.slice (some ⟨w.heap.size, 0, none⟩) 1 1) [c] (w.alloc (.cells #[.int .u8 c] 5)) := by
  have := own_lit B w [c] (by intro n hn; simp at hn; omega) hB (by simp [maxLen])
  simpa using this
theorem rd_one (w : World) (c : Int) (hc : 0 ≤ c ∧ c ≤ 255) : Rd (w.alloc (.cells #[.int .u8 c] 5)) (.slice (some ⟨w.heap.size, 0, none⟩) 1 1) [c] := (own_one 0 w c hc (Nat.zero_le _)).rd
theorem rd_two (w : World) (c d : Int) (hc : 0 ≤ c ∧ c ≤ 255) (hd : 0 ≤ d ∧ d ≤ 255) : Rd (w.alloc (.cells #[.int .u8 c, .int .u8 d] 5)) (.slice (some ⟨w.heap.size, 0, none⟩) 2 2) [c, d] := by
  have := rd_lit w [c, d] (by intro n hn; simp at hn; omega) (by simp [maxLen])
  simpa using this

theorem Rd.below {C : Nat} {v : Value} {l : List Int} {w w' : World} (h : Rd w v l) (hC : w.heap.size ≤ C) (hb : Below C w w') : Rd w' v l := by
  obtain ⟨h3, ao, cap, rfl, r4, r5, r6, hc⟩ := h
  refine ⟨h3, ao, cap, rfl, r4, r5, r6, fun h0 => ?_⟩
  obtain ⟨b, off, rfl, hc'⟩ := hc h0
  refine ⟨b, off, rfl, fun i hi => ?_⟩
  have h1 := hc' i hi
  have hlt : b < w.heap.size := by
    rcases Nat.lt_or_ge b w.heap.size with hg | hg
    · exact hg
    · simp [World.cell?, Array.getElem?_eq_none hg] at h1
  rw [hb.cell (p := ⟨b, off + i, none⟩) (by show b < C; omega)]
  exact h1

section

end
end

section
open Go.RowKit

theorem sev_len (n : Int) : (sev n).length ≤ 5 := sevF_len 5 n.toNat
theorem sev_bytes (n : Int) : Bytes (sev n) := sevF_bytes 5 n.toNat

theorem num_step (f : Nat) (m : Int) (l l' X : List Int) (hM : m.toNat < 128 ^ (f + 1)) (hs : ¬ m < 128) (H : l ++ X = l' ++ sevF (f + 1) m.toNat) :
    ∃ f', f = f' + 1 ∧ (m / 128).toNat < 128 ^ (f' + 1) ∧ l ++ X = (l' ++ [m % 128 + 128]) ++ sevF (f' + 1) (m / 128).toNat := by
  cases f with
  | zero => omega
  | succ f' =>
    have e1 : (m / 128).toNat = m.toNat / 128 := by omega
    refine ⟨f', rfl, by rw [Nat.pow_succ] at hM; omega, ?_⟩
    rw [H, sevF_big _ _ (by omega), e1, List.append_assoc, List.singleton_append]
    congr 2
    omega

end

section
open Go.RowKit
set_option linter.unusedVariables false


def kindB (k : Int) (t : Bool) : Int := if t then k + 16 else k
/-- The bytes of an entry's body. -/
def bodyL (a b c d k : Int) (t : Bool) (s : ByteArray) : List Int := kindB k t :: (sev a ++ (sev b ++ (sev c ++ (sev d ++ strL s))))

theorem bodyL_len (a b c d k : Int) (t : Bool) (s : ByteArray) : (bodyL a b c d k t s).length ≤ 21 + s.size := by
  have h1 := sev_len a
  have h2 := sev_len b
  have h3 := sev_len c
  have h4 := sev_len d
  simp only [bodyL, List.length_cons, List.length_append, strL_len]
  omega

/-- The body as far as the first so many numbers. -/
def bodyUp (kb a b c d : Int) : Nat → List Int
  | 0 => [kb]
  | 1 => [kb] ++ sev a
  | 2 => ([kb] ++ sev a) ++ sev b
  | 3 => (([kb] ++ sev a) ++ sev b) ++ sev c
  | _ => ((([kb] ++ sev a) ++ sev b) ++ sev c) ++ sev d

end

section
open Go.RowKit

end

section
open Go.RowKit
set_option linter.unusedVariables false

theorem flt_ok {a b c d k : Int} {t : Bool} {n : Nat} (h : flt a b c d k t n = 0) :
    (0 ≤ a ∧ a ≤ 1073741824) ∧ (0 ≤ b ∧ b ≤ 1073741824) ∧ (0 ≤ c ∧ c ≤ 1073741824) ∧ (0 ≤ d ∧ d ≤ 1073741824) ∧ (1 ≤ k ∧ k ≤ 3) ∧ n ≤ 40 := by
  unfold flt at h
  split at h
  · omega
  · rename_i h1
    split at h
    · omega
    · rename_i h2
      split at h
      · omega
      · rename_i h3
        simp [inB] at h2
        have hk : 1 ≤ k ∧ k ≤ 3 := by
          by_cases e : k = 1
          · omega
          · cases hm : mkB k
            · exact absurd ⟨e, hm⟩ h1
            · simp [mkB] at hm; omega
        omega

/-- The bytes of an entry whose body is L. -/
def encB (L : List Int) : List Int := (L.length : Int) :: (L ++ [sumL L / 256, sumL L % 256])
def encL (a b c d k : Int) (t : Bool) (s : ByteArray) : List Int := encB (bodyL a b c d k t s)

theorem Own.shape {B : Nat} {v : Value} {l : List Int} {w : World} (h : Own B v l w) : ∃ ao cap, v = .slice ao l.length cap := by
  obtain ⟨_, ao, cap, h, _⟩ := h.rd
  exact ⟨ao, cap, h⟩

section
end

end

end Go.Proofs.Ytdpiijndnefahaa
