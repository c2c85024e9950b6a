/-
  The walks of wire.Encode and of the document's EntryBytes: the bytes of an entry, or what is wrong with it.
-/
import Derived.Test.YtimnfgfomlegpaeWbody
import Derived.Test.YtimnfgfomlegpaeWfault
import Derived.Laws.BytesArg
namespace Go.Proofs.Ytimnfgfomlegpae
open Go.RowKit
set_option linter.unusedVariables false

theorem flt_ok {a b c d k : Int} {t : Bool} {n : Nat} (h : flt a b c d k t n = 0) :
    (0 ≤ a ∧ a ≤ 1073741824) ∧ (0 ≤ b ∧ b ≤ 1073741824) ∧ (0 ≤ c ∧ c ≤ 1073741824) ∧ (0 ≤ d ∧ d ≤ 1073741824) ∧ (1 ≤ k ∧ k ≤ 3) ∧ n ≤ 40 := by
  unfold flt at h
  split at h
  · omega
  · rename_i h1
    split at h
    · omega
    · rename_i h2
      split at h
      · omega
      · rename_i h3
        simp [inB] at h2
        have hk : 1 ≤ k ∧ k ≤ 3 := by
          by_cases e : k = 1
          · omega
          · cases hm : mkB k
            · exact absurd ⟨e, hm⟩ h1
            · simp [mkB] at hm; omega
        omega

/-- The bytes of an entry whose body is L. -/
def encB (L : List Int) : List Int := (L.length : Int) :: (L ++ [sumL L / 256, sumL L % 256])
def encL (a b c d k : Int) (t : Bool) (s : ByteArray) : List Int := encB (bodyL a b c d k t s)

theorem Own.shape {B : Nat} {v : Value} {l : List Int} {w : World} (h : Own B v l w) : ∃ ao cap, v = .slice ao l.length cap := by
  obtain ⟨_, ao, cap, h, _⟩ := h.rd
  exact ⟨ao, cap, h⟩

end Go.Proofs.Ytimnfgfomlegpae
