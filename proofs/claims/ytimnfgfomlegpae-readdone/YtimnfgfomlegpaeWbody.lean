/-
  The walks of the two ways to write an entry's body.
-/
import Derived.Test.YtimnfgfomlegpaeWnum
namespace Go.Proofs.Ytimnfgfomlegpae
open Go.RowKit
set_option linter.unusedVariables false

theorem box_cells {w wi : World} {cs : Array Value} {T : TypeId} (hb : Below (w.heap.size + 1) (w.alloc (.cells cs T)) wi) (o : Nat) : wi.cell? ⟨w.heap.size, o, none⟩ = (w.alloc (.cells cs T)).cell? ⟨w.heap.size, o, none⟩ :=
  hb.cell (p := ⟨w.heap.size, o, none⟩) (by show w.heap.size < _; omega)
theorem below_unbox {w wi : World} {o : Obj} (hb : Below (w.heap.size + 1) (w.alloc o) wi) : Below w.heap.size w wi := (bbox w o).trans (hb.mono (by omega))

def kindB (k : Int) (t : Bool) : Int := if t then k + 16 else k
/-- The bytes of an entry's body. -/
def bodyL (a b c d k : Int) (t : Bool) (s : ByteArray) : List Int := kindB k t :: (sev a ++ (sev b ++ (sev c ++ (sev d ++ strL s))))

theorem bodyL_len (a b c d k : Int) (t : Bool) (s : ByteArray) : (bodyL a b c d k t s).length ≤ 21 + s.size := by
  have h1 := sev_len a
  have h2 := sev_len b
  have h3 := sev_len c
  have h4 := sev_len d
  simp only [bodyL, List.length_cons, List.length_append, strL_len]
  omega

/-- The body as far as the first so many numbers. -/
def bodyUp (kb a b c d : Int) : Nat → List Int
  | 0 => [kb]
  | 1 => [kb] ++ sev a
  | 2 => ([kb] ++ sev a) ++ sev b
  | 3 => (([kb] ++ sev a) ++ sev b) ++ sev c
  | _ => ((([kb] ++ sev a) ++ sev b) ++ sev c) ++ sev d

end Go.Proofs.Ytimnfgfomlegpae
