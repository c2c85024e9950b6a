/-
  A group as plain lists (P6): what may be; how its members and offsets lie in memory.
-/
import Derived.Test.YtmkbbhdmfpjfdaaCpure
import Derived.Test.YtmkbbhdmfpjfdaaErow
namespace Go.Proofs.Ytmkbbhdmfpjfdaa
open Go.RowKit
set_option linter.unusedVariables false
set_option linter.unusedSimpArgs false

/-- A member: its name, when it was heard of, its parts. -/
structure Mem where
  nm : ByteArray
  hd : Int
  ps : List Int
def zeroM : Mem := ⟨⟨#[]⟩, 0, []⟩
/-- How far a part was read. -/
structure Ofs where
  pt : Int
  pl : Int
def zeroO : Ofs := ⟨0, 0⟩
/-- A group. -/
structure Grp where
  ck : Int
  wt : Int
  gn : Int
  ms : List Mem
  os : List Ofs
def Grp.zero : Grp := ⟨0, 0, 0, [], []⟩
def Grp.at (g : Grp) (i : Nat) : Mem := g.ms.getD i zeroM
def Grp.off (g : Grp) (i : Nat) : Ofs := g.os.getD i zeroO
theorem at_mem_g {g : Grp} {i : Nat} (h : i < g.ms.length) : g.at i = g.ms[i]'h := by simp [Grp.at, List.getD, h]
theorem at_off_g {g : Grp} {i : Nat} (h : i < g.os.length) : g.off i = g.os[i]'h := by simp [Grp.off, List.getD, h]
def memE : El Mem where
  z := 3
  cs := fun m u => [.string m.nm, .int .i64 m.hd, u]
  ns := Mem.ps
  len := fun _ _ => rfl
  one := fun m u hu c hc => by
    simp only [List.mem_cons, List.not_mem_nil, or_false] at hc
    rcases hc with rfl | rfl | rfl <;> first | rfl | exact hu
/-- An offset has no slice of its own: it is taken to be nil. -/
def ofsE : El Ofs where
  z := 2
  cs := fun o _ => [.int .i64 o.pt, .int .i64 o.pl]
  ns := fun _ => []
  len := fun _ _ => rfl
  one := fun o u hu c hc => by
    simp only [List.mem_cons, List.not_mem_nil, or_false] at hc
    rcases hc with rfl | rfl <;> rfl
/-- A member by itself (P6.3). -/
def Grp.okM (g : Grp) (m : Mem) : Bool := nameB m.nm && inR m.hd 0 g.ck && riseB m.ps
/-- Has none ahead of the i-th its name? -/
def Grp.freeM (g : Grp) (i : Nat) : Bool := allN (fun k => !sameN (g.at k).nm (g.at i).nm) i
def Grp.numB (g : Grp) : Bool := inR g.ck 0 1073741824 && inR g.wt 1 1000 && inR g.gn 0 1073741824
def Grp.ofsB (g : Grp) : Bool := allN (fun i => inR (g.off i).pl 0 400) g.os.length && riseB (g.os.map Ofs.pt)
def Grp.mayB (g : Grp) : Bool := g.numB && decide (g.ms.length ≤ 6) && decide (g.os.length ≤ 4) && allN (fun i => g.okM (g.at i) && g.freeM i) g.ms.length && g.ofsB
/-- The place of a member; -1: there is none. -/
def Grp.pos (g : Grp) (s : ByteArray) : Int := scan (fun i => sameN (g.at i).nm s = true) g.ms.length 0
/-- What is refused ahead of all else, where a name is told. -/
def Grp.flt (g : Grp) (s : ByteArray) : Int := if g.mayB then (if nameB s then 0 else 4) else 12

/-- What a member that may be is. -/
structure MemOk (ck : Int) (m : Mem) : Prop where
  nm : nameB m.nm = true
  h0 : 0 ≤ m.hd
  h1 : m.hd ≤ ck
  ps : riseB m.ps = true
theorem okM_iff {g : Grp} {m : Mem} : g.okM m = true ↔ MemOk g.ck m := by
  unfold Grp.okM
  simp only [Bool.and_eq_true, inR_iff]
  constructor
  · rintro ⟨⟨h1, h2, h3⟩, h4⟩
    exact ⟨h1, h2, h3, h4⟩
  · intro h
    exact ⟨⟨h.nm, h.h0, h.h1⟩, h.ps⟩
/-- What a group that may be is. -/
structure MayG (g : Grp) : Prop where
  c0 : 0 ≤ g.ck
  c1 : g.ck ≤ 1073741824
  w0 : 1 ≤ g.wt
  w1 : g.wt ≤ 1000
  g0 : 0 ≤ g.gn
  g1 : g.gn ≤ 1073741824
  n6 : g.ms.length ≤ 6
  n4 : g.os.length ≤ 4
  ok : ∀ i, i < g.ms.length → MemOk g.ck (g.at i)
  fr : ∀ i k, i < g.ms.length → k < i → (g.at k).nm ≠ (g.at i).nm
  pl : ∀ i, i < g.os.length → 0 ≤ (g.off i).pl ∧ (g.off i).pl ≤ 400
  up : riseB (g.os.map Ofs.pt) = true
theorem mayG_iff {g : Grp} : g.mayB = true ↔ MayG g := by
  unfold Grp.mayB Grp.numB Grp.ofsB
  simp only [Bool.and_eq_true, inR_iff, decide_eq_true_eq, allN_iff, okM_iff]
  constructor
  · rintro ⟨⟨⟨⟨⟨⟨⟨h1, h2⟩, h3, h4⟩, h5, h6⟩, h7⟩, h8⟩, h9⟩, h10, h11⟩
    refine ⟨h1, h2, h3, h4, h5, h6, h7, h8, fun i hi => (h9 i hi).1, fun i k hi hk => ?_, h10, h11⟩
    have := allN_iff.1 (h9 i hi).2 k hk
    simp only [Bool.not_eq_true', sameN_no] at this
    exact this
  · intro h
    refine ⟨⟨⟨⟨⟨⟨⟨h.c0, h.c1⟩, h.w0, h.w1⟩, h.g0, h.g1⟩, h.n6⟩, h.n4⟩, fun i hi => ⟨h.ok i hi, allN_iff.2 fun k hk => ?_⟩⟩, h.pl, h.up⟩
    simp only [Bool.not_eq_true', sameN_no]
    exact h.fr i k hi hk
theorem mayG_no {g : Grp} (h : ¬ MayG g) : g.mayB = false := by
  cases e : g.mayB with
  | false => rfl
  | true => exact absurd (mayG_iff.1 e) h
theorem gflt_zero_iff {g : Grp} {s : ByteArray} : g.flt s = 0 ↔ MayG g ∧ nameB s = true := by
  unfold Grp.flt
  rw [← mayG_iff]
  cases g.mayB <;> cases nameB s <;> simp
end Go.Proofs.Ytmkbbhdmfpjfdaa
