/-
  The walk of wire.decodeBody: what a body says, if its numbers end.
-/
import Derived.Test.YtimnfgfomlegpaeDnum
namespace Go.Proofs.Ytimnfgfomlegpae
open Go.RowKit
set_option linter.unusedVariables false

theorem rd_drop {w : World} {l : List Int} {b off cap : Nat} (hb : Bytes l) (hcap : l.length ≤ cap) (hm : cap ≤ maxLen) (hc : ∀ i, i < l.length → w.cell? ⟨b, off + i, none⟩ = some (.int .u8 (l.getD i 0))) (k : Nat) (hk : k ≤ l.length) :
    Rd w (.slice (if cap = k then some ⟨b, off, none⟩ else some ⟨b, off + k, none⟩) (l.length - k) (cap - k)) (l.drop k) := by
  refine ⟨bytes_drop hb k, _, cap - k, by rw [List.length_drop], by rw [List.length_drop]; omega, by omega, ?_, fun h => ?_⟩
  · intro h
    split at h <;> simp at h
  · rw [List.length_drop] at h
    refine ⟨b, off + k, by rw [if_neg (by omega)], fun i hi => ?_⟩
    rw [List.length_drop] at hi
    have := hc (k + i) (by omega)
    rw [← Nat.add_assoc] at this
    rw [this]
    simp [List.getD]

theorem rawF_rest (f : Nat) (l : List Int) (n : Int) (r : List Int) (h : rawF f l = some (n, r)) : ∃ z, 1 ≤ z ∧ z ≤ l.length ∧ r = l.drop z ∧ l.length - r.length = z := by
  induction f generalizing l n with
  | zero => simp [rawF] at h
  | succ f ih =>
    cases l with
    | nil => simp [rawF] at h
    | cons c l =>
      simp only [rawF] at h
      split at h
      · simp only [Option.some.injEq, Prod.mk.injEq] at h
        obtain ⟨_, rfl⟩ := h
        exact ⟨1, by omega, by simp, by simp, by simp⟩
      · split at h
        · simp at h
        · rename_i n' r' hr
          simp only [Option.some.injEq, Prod.mk.injEq] at h
          obtain ⟨_, rfl⟩ := h
          obtain ⟨z, h1, h2, h3, h4⟩ := ih l n' hr
          refine ⟨z + 1, by omega, by simp; omega, by simpa using h3, ?_⟩
          have : r'.length = l.length - z := by rw [h3]; simp
          simp only [List.length_cons]
          omega

theorem cell_lt {w : World} {b o : Nat} {v : Value} (h : w.cell? ⟨b, o, none⟩ = some v) : b < w.heap.size := by
  rcases Nat.lt_or_ge b w.heap.size with hg | hg
  · exact hg
  · simp [World.cell?, Array.getElem?_eq_none hg] at h

theorem u8_clr (c : Int) (h : 0 ≤ c ∧ c ≤ 255) : bits .andNot .u8 c 16 = kAnd c := by
  rw [u8_andNot c 16 (by omega) (by omega) (by omega) (by omega)]
  have key : ∀ n : Fin 256, n.val &&& 239 = n.val - 16 * (n.val / 16 % 2) := by decide +kernel
  have := key ⟨c.toNat, by omega⟩
  have e : c.toNat &&& (255 - (16 : Int).toNat) = c.toNat &&& 239 := rfl
  simp only at this
  rw [e, this]
  unfold kAnd
  omega
theorem u8_bit (c : Int) (h : 0 ≤ c ∧ c ≤ 255) : (bits .and .u8 c 16 != 0) = tAnd c := by
  rw [u8_and c 16 (by omega) (by omega) (by omega) (by omega)]
  have key : ∀ n : Fin 256, n.val &&& 16 = 16 * (n.val / 16 % 2) := by decide +kernel
  have := key ⟨c.toNat, by omega⟩
  have e : c.toNat &&& (16 : Int).toNat = c.toNat &&& 16 := rfl
  simp only at this
  rw [e, this]
  unfold tAnd
  rw [Bool.eq_iff_iff, bne_iff_ne, decide_eq_true_iff]
  omega

def Ent.val (e : Ent) : Value := .agg #[.int .i64 e.a, .int .i64 e.b, .int .i64 e.c, .int .i64 e.d, .int .i64 e.k, .bool e.t, .string e.s]
def zeroE : Ent := ⟨0, 0, 0, 0, 0, false, ⟨#[]⟩⟩
def rawV (l : List Int) : Ent × Bool := match rawB l with
  | none => (zeroE, false)
  | some e => (e, true)
theorem rawV_none {l : List Int} (h : rawB l = none) : rawV l = (zeroE, false) := by simp [rawV, h]
theorem rawV_some {l : List Int} {e : Ent} (h : rawB l = some e) : rawV l = (e, true) := by simp [rawV, h]

end Go.Proofs.Ytimnfgfomlegpae
