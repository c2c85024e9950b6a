/-
  An entry in a box; what part.Put answers, in plain words.
-/
import Derived.Test.YtkolelpdedmkeaaPst
import Derived.Test.YtkolelpdedmkeaaPopD0
import Derived.Test.YtkolelpdedmkeaaVcon1
import Derived.Test.YtkolelpdedmkeaaAapp
namespace Go.Proofs.Ytkolelpdedmkeaa
open Go.RowKit
set_option linter.unusedVariables false
set_option linter.unusedSimpArgs false

/-- A box that holds an entry, and may be stored to. -/
def XB (w : World) (b : Nat) (e : Ent) : Prop := EBox w b e ∧ ∀ o, w.frozen? ⟨b, o, none⟩ = false
theorem XB.below {w w' : World} {b : Nat} {e : Ent} (h : XB w b e) (hb : Below w.heap.size w w') : XB w' b e :=
  ⟨h.1.below hb, fun o => (hb.frozen (p := ⟨b, o, none⟩) h.1.1).trans (h.2 o)⟩
theorem XB.setA {w : World} {b : Nat} {e : Ent} (h : XB w b e) (n : Int) : XB (w.setCell ⟨b, 0, none⟩ (.int .i64 n)) b { e with a := n } := by
  obtain ⟨⟨s, a0, a1, a2, a3, a4, a5, a6⟩, f⟩ := h
  refine ⟨⟨by simpa using s, ?_, ?_, ?_, ?_, ?_, ?_, ?_⟩, fun o' => by simp [go_sem, f]⟩ <;> simp [go_sem, a0, a1, a2, a3, a4, a5, a6]
theorem putP_may {p : Prt} {x : Ent} (h : p.mayB = false) : p.putP x = (Prt.zero, 0, 12) := by unfold Prt.putP; rw [if_pos h]
theorem putP_lead {p : Prt} {x : Ent} (h : p.mayB = true) (h0 : p.ld < 0) : p.putP x = (Prt.zero, 0, 8) := by unfold Prt.putP; rw [if_neg (by simp [h]), if_pos h0]
theorem putP_wire {p : Prt} {x : Ent} (h : p.mayB = true) (h0 : 0 ≤ p.ld) (h1 : (p.ent x).flt ≠ 0) : p.putP x = (Prt.zero, 0, (p.ent x).flt) := by unfold Prt.putP; rw [if_neg (by simp [h]), if_neg (by omega), if_pos h1]
theorem putP_rest {p : Prt} {x : Ent} (h : p.mayB = true) (h0 : 0 ≤ p.ld) (h1 : (p.ent x).flt = 0) : p.putP x = if (chk (p.at p.ld.toNat).es (p.ent x)).2 ≠ 0 then (Prt.zero, 0, (chk (p.at p.ld.toNat).es (p.ent x)).2)
  else if 0 ≤ (chk (p.at p.ld.toNat).es (p.ent x)).1 then (p, (chk (p.at p.ld.toNat).es (p.ent x)).1, 0)
  else if (p.ups p.isr.length : Int) < p.fw then (Prt.zero, 0, 9)
  else if appF (p.at p.ld.toNat).l (p.at p.ld.toNat).y (p.ent x) ≠ 0 then (Prt.zero, 0, appF (p.at p.ld.toNat).l (p.at p.ld.toNat).y (p.ent x))
  else (p.setR p.ld.toNat (fun r => { r with l := r.l ++ (p.ent x).enc }), (p.at p.ld.toNat).es.length, 0) := by unfold Prt.putP; rw [if_neg (by simp [h]), if_neg (by omega), if_neg (by simp [h1])]
theorem segAppend_ok (l : List Int) (u : Value) (y : Int) (x : Ent) (w : World) (hl : l.length ≤ 140737488355328) (h : Rd w u l) (h0 : apf l y x = 0) :
    Calls Try.prog 78 #[.agg #[u, .int .i64 y], .agg #[.int .i64 x.a, .int .i64 x.b, .int .i64 x.c, .int .i64 x.d, .int .i64 x.k, .bool x.t, .string x.s]] w fun e w' => ∃ av cv, e = .returned (.tuple #[.agg #[.slice av (l ++ x.enc).length cv, .int .i64 y], .int .i64 0]) ∧ Own w.heap.size (.slice av (l ++ x.enc).length cv) (l ++ x.enc) w' ∧ Below w.heap.size w w' :=
  (segAppend_any l u y x w hl h).mono fun e w' ⟨hb, _, h⟩ => by
    obtain ⟨v, h1, h2⟩ := h h0
    obtain ⟨av, cv, rfl⟩ := h2.shape
    exact ⟨av, cv, h1, h2, hb⟩
theorem segAppend_bad (l : List Int) (u : Value) (y : Int) (x : Ent) (w : World) (hl : l.length ≤ 140737488355328) (h : Rd w u l) (h0 : apf l y x ≠ 0) :
    Calls Try.prog 78 #[.agg #[u, .int .i64 y], .agg #[.int .i64 x.a, .int .i64 x.b, .int .i64 x.c, .int .i64 x.d, .int .i64 x.k, .bool x.t, .string x.s]] w fun e w' => e = .returned (.tuple #[.agg #[.slice none 0 0, .int .i64 0], .int .i64 (apf l y x)]) ∧ Below w.heap.size w w' :=
  (segAppend_any l u y x w hl h).mono fun e w' ⟨hb, h, _⟩ => ⟨h h0, hb⟩

end Go.Proofs.Ytkolelpdedmkeaa
