/-
  What part.Read answers, in plain words.
-/
import Derived.Test.YtkolelpdedmkeaaAplain
import Derived.Test.YtkolelpdedmkeaaAread
import Derived.Test.YtkolelpdedmkeaaAapp
import Derived.Test.YtkolelpdedmkeaaPnamed
namespace Go.Proofs.Ytkolelpdedmkeaa
open Go.RowKit
set_option linter.unusedVariables false
set_option linter.unusedSimpArgs false

theorem flt_plain {e : Ent} (h : e.flt = 0) : (1 ≤ e.k ∧ e.k ≤ 3 ∧ 0 ≤ e.b ∧ e.b ≤ 1073741824 ∧ 0 ≤ e.c ∧ e.c ≤ 1073741824 ∧ 0 ≤ e.d ∧ e.d ≤ 1073741824) ∧ (e.b = 0 → e.t = false) := by
  unfold Ent.flt Ytkolelpdedmkeaa.flt at h
  by_cases h1 : e.k ≠ 1 ∧ mkB e.k = false
  · rw [if_pos h1] at h; cases h
  · rw [if_neg h1] at h
    by_cases h2 : inB e.a = false ∨ inB e.b = false ∨ inB e.c = false ∨ inB e.d = false
    · rw [if_pos h2] at h; cases h
    · rw [if_neg h2] at h
      by_cases h3 : 40 < e.s.size
      · rw [if_pos h3] at h; cases h
      · rw [if_neg h3] at h
        by_cases h4 : mkB e.k = true ∧ fmB e.b e.d e.t e.s.size = false
        · rw [if_pos h4] at h; cases h
        · rw [if_neg h4] at h
          by_cases h5 : e.b = 0 ∧ fnB e.c e.d e.t = false
          · rw [if_pos h5] at h; cases h
          · simp only [not_or, Bool.not_eq_false, inB, decide_eq_true_eq] at h2
            obtain ⟨_, ⟨b1, b2⟩, ⟨c1, c2⟩, ⟨d1, d2⟩⟩ := h2
            have hk : 1 ≤ e.k ∧ e.k ≤ 3 := by
              simp only [not_and, Bool.not_eq_false, mkB, decide_eq_true_eq] at h1
              by_cases hk : e.k = 1
              · omega
              · have := h1 hk; omega
            refine ⟨⟨hk.1, hk.2, b1, b2, c1, c2, d1, d2⟩, fun hb => ?_⟩
            simp only [not_and, Bool.not_eq_false, fnB, decide_eq_true_eq] at h5
            exact (h5 hb).1
theorem es_plain {r : Rep} (hb : Bytes r.l) : Plain r.es ∧ NoTx r.es :=
  ⟨fun e he => (flt_plain ((dec_back r.l hb).2.2 e he)).1, fun e he => (flt_plain ((dec_back r.l hb).2.2 e he)).2⟩
/-- P4.11. -/
def Prt.readP (p : Prt) (fr ms : Int) : List ByteArray × Int × Int :=
  if p.mayB = false then ([], 0, 12)
  else if p.ld < 0 then ([], 0, 8)
  else rdA (p.at p.ld.toNat).es (p.at p.ld.toNat).h fr ms
theorem readP_may {p : Prt} (h : p.mayB = false) (fr ms : Int) : p.readP fr ms = ([], 0, 12) := by unfold Prt.readP; rw [if_pos h]
theorem readP_lead {p : Prt} (h : p.mayB = true) (h0 : p.ld < 0) (fr ms : Int) : p.readP fr ms = ([], 0, 8) := by unfold Prt.readP; rw [if_neg (by simp [h]), if_pos h0]
theorem readP_ok {p : Prt} (h : p.mayB = true) (h0 : 0 ≤ p.ld) (fr ms : Int) : p.readP fr ms = rdA (p.at p.ld.toNat).es (p.at p.ld.toNat).h fr ms := by unfold Prt.readP; rw [if_neg (by simp [h]), if_neg (by omega)]
theorem may_es {p : Prt} (m : May p) {j : Nat} (hj : j < p.rs.length) : ((p.at j).es.length : Int) ≤ 400 := by
  have := (lft_ok (m.ok j hj).1)
  unfold Rep.es
  omega

end Go.Proofs.Ytkolelpdedmkeaa
