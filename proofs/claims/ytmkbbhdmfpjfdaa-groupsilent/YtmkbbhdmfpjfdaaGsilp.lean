/-
  What becomes of a group of two, of whom one is silent: pure.
-/
import Derived.Test.YtmkbbhdmfpjfdaaGtick
namespace Go.Proofs.Ytmkbbhdmfpjfdaa
open Go.RowKit
set_option linter.unusedVariables false
set_option linter.unusedSimpArgs false

def nmA : ByteArray := ⟨#[97]⟩
def nmB : ByteArray := ⟨#[98]⟩
/-- The clock, how long a member may be silent, the generation, who is in it. -/
def gS (c k n : Int) (l : List Mem) : Grp := ⟨c, k, n, l, []⟩
theorem nmA_ok : nameB nmA = true := by decide +kernel
theorem nmB_ok : nameB nmB = true := by decide +kernel
theorem asgA : asg [nmA] 2 = [[0, 1]] := by decide +kernel
theorem asgAB : asg [nmA, nmB] 2 = [[0], [1]] := by decide +kernel
theorem nmAB : nmA ≠ nmB := by decide +kernel
theorem mayS {c k n : Int} {l : List Mem} (hc0 : 0 ≤ c) (hc1 : c ≤ 1073741824) (hk0 : 1 ≤ k) (hk1 : k ≤ 1000) (hn0 : 0 ≤ n) (hn1 : n ≤ 1073741824) (hl : l.length ≤ 6) (ok : ∀ m ∈ l, MemOk c m) (nd : l.Pairwise (fun x y => x.nm ≠ y.nm)) : MayG (gS c k n l) := by
  refine ⟨hc0, hc1, hk0, hk1, hn0, hn1, hl, by simp [gS], fun i hi => ?_, fun i j hi hj => ?_, fun i hi => by simp [gS] at hi, by show riseB ([] : List Int) = true; decide⟩
  · rw [at_mem_g hi]
    exact ok _ (List.getElem_mem hi)
  · rw [at_mem_g hi, at_mem_g (by omega)]
    exact (List.pairwise_iff_getElem.1 nd) j i _ _ hj
theorem okS {c h : Int} {s : ByteArray} {l : List Int} (hs : nameB s = true) (h0 : 0 ≤ h) (h1 : h ≤ c) (hl : riseB l = true) : MemOk c ⟨s, h, l⟩ := ⟨hs, h0, h1, hl⟩
section
variable {k t : Int}
theorem S0 (hk : 2 ≤ k) (hk1 : k ≤ 31) : (gS 0 k 0 []).join nmA 2 = (gS 0 k 1 [⟨nmA, 0, [0, 1]⟩], 0) := by
  have hm : MayG (gS 0 k 0 []) := mayS (by omega) (by omega) (by omega) (by omega) (by omega) (by omega) (by decide) (fun m hm => by cases hm) (by simp)
  rw [join_yes (gflt_zero_iff.2 ⟨hm, nmA_ok⟩) (canB_iff.2 ⟨by omega, by show (0 : Int) < 1073741824; decide⟩) (by show (-1 : Int) < 0; decide) (by show ¬ 6 ≤ 0; omega)]
  unfold Grp.anew Grp.plus gS
  simp only [List.nil_append, List.map_cons, List.map_nil, asgA]
  rfl
theorem S1 (hk : 2 ≤ k) (hk1 : k ≤ 31) : (gS 0 k 1 [⟨nmA, 0, [0, 1]⟩]).join nmB 2 = (gS 0 k 2 [⟨nmA, 0, [0]⟩, ⟨nmB, 0, [1]⟩], 0) := by
  have hm : MayG (gS 0 k 1 [⟨nmA, 0, [0, 1]⟩]) := mayS (by omega) (by omega) (by omega) (by omega) (by omega) (by omega) (by decide) (fun m hm => by
    rw [List.mem_singleton] at hm
    subst hm
    exact okS nmA_ok (by omega) (by omega) (by decide)) (by simp)
  rw [join_yes (gflt_zero_iff.2 ⟨hm, nmB_ok⟩) (canB_iff.2 ⟨by omega, by show (1 : Int) < 1073741824; decide⟩) (by
    rcases posG_cases (gS 0 k 1 [⟨nmA, 0, [0, 1]⟩]) nmB with h | ⟨i, hi, _, h⟩
    · rw [h]; decide
    · have : i = 0 := by simp [gS] at hi; omega
      subst this
      exact absurd h nmAB) (by show ¬ 6 ≤ 1; omega)]
  unfold Grp.anew Grp.plus gS
  simp only [List.cons_append, List.nil_append, List.map_cons, List.map_nil, asgAB]
  rfl
theorem mayTwo {c h1 h2 : Int} {n : Int} (hk : 2 ≤ k) (hk1 : k ≤ 31) (hc1 : c ≤ 31) (a0 : 0 ≤ h1) (a1 : h1 ≤ c) (b0 : 0 ≤ h2) (b1 : h2 ≤ c) (n0 : 0 ≤ n) (n1 : n ≤ 3) : MayG (gS c k n [⟨nmA, h1, [0]⟩, ⟨nmB, h2, [1]⟩]) :=
  mayS (by omega) (by omega) (by omega) (by omega) (by omega) (by omega) (by simp) (fun m hm => by
    simp only [List.mem_cons, List.not_mem_nil, or_false] at hm
    rcases hm with rfl | rfl
    · exact okS nmA_ok a0 a1 (by decide)
    · exact okS nmB_ok b0 b1 (by decide)) (by simp [nmAB])
theorem S2 (hk : 2 ≤ k) (hk1 : k ≤ 31) (ht : 0 ≤ t) (htk : t < k) : (gS 0 k 2 [⟨nmA, 0, [0]⟩, ⟨nmB, 0, [1]⟩]).tick t 2 = (gS t k 2 [⟨nmA, 0, [0]⟩, ⟨nmB, 0, [1]⟩], 0) := by
  have hm := mayTwo (c := 0) (h1 := 0) (h2 := 0) (n := 2) hk hk1 (by omega) (by omega) (by omega) (by omega) (by omega) (by omega) (by omega)
  have e : (gS 0 k 2 [⟨nmA, 0, [0]⟩, ⟨nmB, 0, [1]⟩]).stay t = gS t k 2 [⟨nmA, 0, [0]⟩, ⟨nmB, 0, [1]⟩] := by
    unfold Grp.stay Grp.keep gS Grp.silB
    simp [show ¬ k ≤ t by omega]
  rw [tick_in (mayG_iff.2 hm) (inR_iff.2 (by omega)) (by show 0 + t ≤ _; omega) (canB_iff.2 ⟨by omega, by show (2 : Int) < 1073741824; decide⟩) (by rw [e]; show ¬ 2 < 2; omega), e]
theorem S3 (hk : 2 ≤ k) (hk1 : k ≤ 31) (ht : 0 ≤ t) (htk : t < k) : (gS t k 2 [⟨nmA, 0, [0]⟩, ⟨nmB, 0, [1]⟩]).beat nmA 2 = (gS t k 2 [⟨nmA, t, [0]⟩, ⟨nmB, 0, [1]⟩], 0) := by
  have hm := mayTwo (c := t) (h1 := 0) (h2 := 0) (n := 2) hk hk1 (by omega) (by omega) (by omega) (by omega) (by omega) (by omega) (by omega)
  have hp : (gS t k 2 [⟨nmA, 0, [0]⟩, ⟨nmB, 0, [1]⟩]).pos nmA = ((0 : Nat) : Int) := scan_some (by omega) (by simp [gS]) (sameN_iff.2 rfl) (fun j _ hj => by omega)
  have h0 : (gS t k 2 [⟨nmA, 0, [0]⟩, ⟨nmB, 0, [1]⟩]).hfl nmA 2 = 0 := by
    unfold Grp.hfl
    rw [if_neg (by rw [gflt_zero_iff.2 ⟨hm, nmA_ok⟩]; simp), if_neg (by rw [hp]; decide), if_pos (show (gS t k 2 [⟨nmA, 0, [0]⟩, ⟨nmB, 0, [1]⟩]).gn = 2 from rfl)]
  rw [beat_yes h0 hp]
  rfl
theorem S4 (hk : 2 ≤ k) (hk1 : k ≤ 31) (ht : 0 ≤ t) (htk : t < k) : (gS t k 2 [⟨nmA, t, [0]⟩, ⟨nmB, 0, [1]⟩]).tick (k - t) 2 = (gS k k 3 (if t = 0 then [] else [⟨nmA, t, [0, 1]⟩]), 0) := by
  have hm := mayTwo (c := t) (h1 := t) (h2 := 0) (n := 2) hk hk1 (by omega) (by omega) (by omega) (by omega) (by omega) (by omega) (by omega)
  have e : (gS t k 2 [⟨nmA, t, [0]⟩, ⟨nmB, 0, [1]⟩]).stay (k - t) = gS k k 2 (if t = 0 then [] else [⟨nmA, t, [0]⟩]) := by
    unfold Grp.stay Grp.keep gS Grp.silB
    rw [show t + (k - t) = k by omega]
    by_cases h : t = 0
    · simp [h]
    · simp [h, List.filter_cons, show ¬ t + k ≤ k by omega]
  have hl : (gS k k 2 (if t = 0 then [] else [⟨nmA, t, [0]⟩])).ms.length < 2 := by
    unfold gS
    by_cases h : t = 0 <;> simp [h]
  rw [tick_out (mayG_iff.2 hm) (inR_iff.2 (by omega)) (by show t + (k - t) ≤ _; omega) (canB_iff.2 ⟨by omega, by show (2 : Int) < 1073741824; decide⟩) (by rw [e]; exact hl), e]
  by_cases h : t = 0
  · rw [if_pos h, if_pos h]
    rfl
  · rw [if_neg h, if_neg h]
    unfold Grp.anew gS
    simp only [List.map_cons, List.map_nil, asgA]
    rfl
end

end Go.Proofs.Ytmkbbhdmfpjfdaa
