/-
  The bytes of entries that may be, as plain lists.
-/
import Derived.Test.YtknipikmbfdcnaaAseg
namespace Go.Proofs.Ytknipikmbfdcnaa
open Go.RowKit
set_option linter.unusedVariables false
set_option linter.unusedSimpArgs false

abbrev flat (es : List Ent) : List Int := es.flatMap Ent.enc
def Oks (es : List Ent) : Prop := ∀ e ∈ es, e.flt = 0
theorem Oks.take {es : List Ent} (h : Oks es) (k : Nat) : Oks (es.take k) := fun e he => h e (List.mem_of_mem_take he)
theorem Oks.snoc {es : List Ent} (h : Oks es) {x : Ent} (hx : x.flt = 0) : Oks (es ++ [x]) := fun e he => by
  rcases List.mem_append.1 he with he | he
  · exact h e he
  · simp at he; subst he; exact hx
theorem flat_snoc (es : List Ent) (x : Ent) : flat (es ++ [x]) = flat es ++ x.enc := by simp [flat, List.flatMap_append]
theorem flat_bytes {es : List Ent} (h : Oks es) : Bytes (flat es) := fun n hn => by
  obtain ⟨e, he, hn⟩ := List.mem_flatMap.1 hn
  exact enc_bytes e (h e he) n hn
theorem endOf_snoc (es : List Ent) (x : Ent) (k : Nat) (hk : k ≤ es.length) : endOf (es ++ [x]) k = endOf es k := by
  unfold endOf
  rw [List.take_append_of_le_length hk]

/-- Such a log may be, and so many are safe. -/
theorem lft_flat {es : List Ent} (h : Oks es) (hl : es.length ≤ 400) (k : Nat) (hk : k ≤ es.length) :
    lft (flat es) (endOf es k) = 0 ∧ (decL (flat es)).1 = es ∧ (decL ((flat es).take (endOf es k))).1 = es.take k := by
  have hd := dec_encs es h
  have hfl := flat_len es h
  have hle := endOf_le es k
  have hc : (flat es).take (endOf es k) = flat (es.take k) := endOf_take es k
  have hd2 := dec_encs (es.take k) (h.take k)
  refine ⟨?_, by rw [show decL (flat es) = _ from hd], by rw [hc, show decL (flat (es.take k)) = _ from hd2]⟩
  unfold lft
  have e1 : decL (flat es) = (es, (flat es).length) := hd
  have e2 : (decL ((flat es).take (endOf es k))).2 = endOf es k := by rw [hc, show decL (flat (es.take k)) = _ from hd2]; rfl
  rw [e1]
  simp only [Int.toNat_natCast, e2]
  rw [if_neg (by show ¬ 40000 < (es.flatMap Ent.enc).length; omega), if_neg (by simp; omega), if_neg (by show ¬ ((endOf es k : Int) < 0 ∨ ((es.flatMap Ent.enc).length : Int) < endOf es k); omega), if_neg (by simp)]

end Go.Proofs.Ytknipikmbfdcnaa
