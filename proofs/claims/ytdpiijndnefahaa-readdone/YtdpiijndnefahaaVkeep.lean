/-
  What is sent of raw numbers: plain entries, each number once, no transaction without a producer; and many, then sent, given what view.Check answers.
-/
import Derived.Test.YtdpiijndnefahaaVsent
import Derived.Test.YtdpiijndnefahaaVonce
namespace Go.Proofs.Ytdpiijndnefahaa
open Go.RowKit
set_option linter.unusedVariables false
set_option linter.unusedSimpArgs false

theorem rawE_plain (kd a b c : Int) : Plain [rawE kd a b c] := by
  have h1 := pick_bd a 4 (by omega)
  have h2 := pick_bd b 4 (by omega)
  have h3 := pick_bd a 3 (by omega)
  have h4 := pick_bd c 2 (by omega)
  have h5 := pick_bd c 5 (by omega)
  intro e he
  simp only [List.mem_singleton] at he
  subst he
  unfold rawE
  split
  · simp
  · split <;> simp <;> omega
theorem rawE_txn (kd a b c : Int) (h : (rawE kd a b c).t = true) : 0 < (rawE kd a b c).b := by
  have h2 := pick_bd b 4 (by omega)
  unfold rawE at h ⊢
  split
  · rename_i h0
    rw [if_pos h0] at h
    simp at h
  · split <;> simp <;> omega
/-- The first so many entries of raw numbers. -/
def manyL (rs : List Raw4) (m : Nat) : List Ent := (rs.map Raw4.ent).take m
theorem manyL_mem {rs : List Raw4} {m : Nat} {e : Ent} (h : e ∈ manyL rs m) : ∃ r ∈ rs, e = r.ent := by
  have := List.mem_of_mem_take h
  obtain ⟨r, hr, rfl⟩ := List.mem_map.1 this
  exact ⟨r, hr, rfl⟩
theorem manyL_plain (rs : List Raw4) (m : Nat) : Plain (manyL rs m) := by
  intro e he
  obtain ⟨r, _, rfl⟩ := manyL_mem he
  exact rawE_plain r.k r.a r.b r.c _ (by simp [Raw4.ent])
/-- What is sent of them. -/
def sentL (rs : List Raw4) (m : Nat) : List Ent := sentK (manyL rs m) (manyL rs m).length
theorem sentL_plain (rs : List Raw4) (m : Nat) : Plain (sentL rs m) := (manyL_plain rs m).sent _ (Nat.le_refl _)
theorem sentL_len (rs : List Raw4) (m : Nat) : (sentL rs m).length ≤ m := by
  have h := sentK_len (manyL rs m) (manyL rs m).length
  have h' : (manyL rs m).length ≤ m := by simp [manyL]; omega
  exact Nat.le_trans h h'
theorem sentL_txn (rs : List Raw4) (m : Nat) (i : Nat) (hi : i < (sentL rs m).length) (h : (Ent.at (sentL rs m) i).t = true) : 0 < (Ent.at (sentL rs m) i).b := by
  have hm : Ent.at (sentL rs m) i ∈ sentL rs m := by rw [at_get hi]; exact List.getElem_mem _
  obtain ⟨r, _, e⟩ := manyL_mem (sentK_mem _ _ (Nat.le_refl _) _ hm)
  rw [e] at h ⊢
  exact rawE_txn r.k r.a r.b r.c h
theorem plain_ver {es : List Ent} (h : Plain es) (i : Nat) (hi : i < es.length) : 0 ≤ (Ent.at es i).c := by
  rw [at_get hi]
  exact (h _ (List.getElem_mem _)).2.2.2.2.1
theorem sentK_once {es : List Ent} (h : Plain es) (k : Nat) (hk : k ≤ es.length) : Once (sentK es k) (sentK es k).length := by
  induction k with
  | zero => intro i hi; simp [sentK] at hi
  | succ k ih =>
    have hp := h.sent k (by omega)
    simp only [sentK]
    split
    · rename_i hc
      exact once_next (ih (by omega)) (plain_ver hp) hc.1 hc.2
    · exact ih (by omega)
theorem sentL_once (rs : List Raw4) (m : Nat) : Once (sentL rs m) (sentL rs m).length := sentK_once (manyL_plain rs m) _ (Nat.le_refl _)

end Go.Proofs.Ytdpiijndnefahaa
