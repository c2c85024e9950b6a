/-
  The walk of many: the first so many entries of raw numbers; each may be.
-/
import Derived.Test.YtkolelpdedmkeaaKraw
import Derived.Test.YtkolelpdedmkeaaAdec
namespace Go.Proofs.Ytkolelpdedmkeaa
open Go.RowKit
set_option linter.unusedVariables false
set_option linter.unusedSimpArgs false

/-- Raw numbers. -/
structure Raw4 where
  k : Int
  a : Int
  b : Int
  c : Int
def I64 (n : Int) : Prop := -9223372036854775808 ≤ n ∧ n ≤ 9223372036854775807
def Raw4.ok (r : Raw4) : Prop := I64 r.k ∧ I64 r.a ∧ I64 r.b ∧ I64 r.c
def Raw4.ent (r : Raw4) : Ent := rawE r.k r.a r.b r.c
theorem Raw4.ent_ok (r : Raw4) : r.ent.flt = 0 := rawE_ok r.k r.a r.b r.c

/-- A slice of raw numbers that reads as rs. -/
def RdR (w : World) (v : Value) (rs : List Raw4) : Prop :=
  (∀ r ∈ rs, r.ok) ∧ ∃ ao cap, v = .slice ao rs.length cap ∧ (0 < rs.length → ∃ b off, ao = some ⟨b, off, none⟩ ∧ ∀ i, (h : i < rs.length) →
    w.cell? ⟨b, off + i * 4, none⟩ = some (.int .i64 (rs[i]'h).k) ∧ w.cell? ⟨b, off + i * 4 + 1, none⟩ = some (.int .i64 (rs[i]'h).a) ∧ w.cell? ⟨b, off + i * 4 + 2, none⟩ = some (.int .i64 (rs[i]'h).b) ∧ w.cell? ⟨b, off + i * 4 + 3, none⟩ = some (.int .i64 (rs[i]'h).c))

theorem RdR.below {v : Value} {rs : List Raw4} {w w' : World} (h : RdR w v rs) (hb : Below w.heap.size w w') : RdR w' v rs := by
  obtain ⟨hok, ao, cap, rfl, h3⟩ := h
  refine ⟨hok, ao, cap, rfl, fun h0 => ?_⟩
  obtain ⟨b, off, rfl, hg⟩ := h3 h0
  have hlt : b < w.heap.size := cell_lt (hg 0 h0).1
  refine ⟨b, off, rfl, fun i hi => ?_⟩
  obtain ⟨q0, q1, q2, q3⟩ := hg i hi
  exact ⟨(hb.cell (p := ⟨b, off + i * 4, none⟩) hlt).trans q0, (hb.cell (p := ⟨b, off + i * 4 + 1, none⟩) hlt).trans q1, (hb.cell (p := ⟨b, off + i * 4 + 2, none⟩) hlt).trans q2, (hb.cell (p := ⟨b, off + i * 4 + 3, none⟩) hlt).trans q3⟩

end Go.Proofs.Ytkolelpdedmkeaa
