/-
  A log that comes in by value, opened: its bytes read as a list of numbers from 0 to 255, no longer than the form's own reach.
-/
import Derived.Test.YtknipikmbfdcnaaOpen
import Derived.Test.YtknipikmbfdcnaaAwire
import Derived.SizedLaws
namespace Go.Proofs.Ytknipikmbfdcnaa
open Go.ChangeShapes Go.WideShapes Go.ChangeAt Go.RowKit
set_option maxRecDepth 100000

theorem cellsLog : Try.prog.cellsOf 46 = 2 := by kernel_rfl
theorem cellsBs : Try.prog.cellsOf 27 = 1 := by kernel_rfl
theorem bytesU8 : Try.prog.bytesOf 5 = 1 := by kernel_rfl
theorem array2' {α : Type} {a : Array α} (h : a.size = 2) : ∃ x0 x1, a = #[x0, x1] := by
  obtain ⟨l⟩ := a
  match l, h with
  | [x0, x1], _ => exact ⟨x0, x1, rfl⟩

/-- One cell that reads as a slice of bytes. -/
theorem bytes_cell {H : Type} {enc : TypeId × Value → H} {W : World} {base : Nat} {held : Bool} {fuel : Nat} {c0 : Value} {x : DataW H × List MemPlace}
    (hf : DataW.trod enc Try.prog W base (fun _ => true) held fuel 27 [c0] = some x) :
    ∃ l : List Int, Rd W c0 l ∧ (l = [] ∨ ∃ elems spare, x.1 = .slice elems spare ∧ l.length ≤ elems.length + spare.length) := by
  rcases open_ints Try.underlying27 Try.underlying5 (by kernel_rfl) hf with ⟨hcs, _⟩ | ⟨x, l, c, zs, hcs, _, hl, hm, hz, hx, hcell, hwz⟩
  · simp at hcs
    subst hcs
    exact ⟨[], ⟨fun n hn => by simp at hn, none, 0, rfl, by simp, by simp [maxLen], fun _ => rfl, fun h => by simp at h⟩, .inl rfl⟩
  · simp at hcs
    subst hcs
    simp only [if_true] at hz
    have htl : (zs.take l).length = l := by simp; omega
    refine ⟨zs.take l, ⟨fun n hn => ?_, some x, c, by rw [htl], by omega, hm, (fun h => by simp at h), fun h0 => ?_⟩, .inr ?_⟩
    · exact bounds_u8 (hwz n (List.mem_of_mem_take hn))
    · rw [htl] at h0 ⊢
      obtain ⟨b, off, spot⟩ := x
      have hc := hcell 0 (by omega)
      have hspot : spot = none := by simpa [Addr.add] using World.cell?_spot hc
      subst hspot
      refine ⟨b, off, rfl, fun i hi => ?_⟩
      have := hcell i (by omega)
      rw [Addr.add_lit] at this
      rw [this]
      simp [List.getD, hi]
    · rw [hx]
      refine ⟨_, _, rfl, ?_⟩
      simp [lits]

theorem open_log {H : Type} {enc : TypeId × Value → H} {W : World} {base : Nat} {held : Bool} {r : Reach} {b0 : Nat} {v : Value} {d : DataW H} {p : List MemPlace}
    (hv : Value.okWide Try.prog W r b0 46 v) (h : DataW.Trod enc Try.prog W base (fun _ => true) held 46 v d p) :
    ∃ (u : Value) (y : Int) (l : List Int), v = .agg #[u, .int .i64 y] ∧ (Lit.int .i64 y).wf = true ∧ Rd W u l ∧ (l = [] ∨ ∃ elems spare e1, d = .agg [.slice elems spare, e1] ∧ l.length ≤ elems.length + spare.length) := by
  obtain ⟨cs, rfl, hsz⟩ := okWide_struct Try.underlying46 hv
  obtain ⟨c0, c1, rfl⟩ := array2' (hsz.trans cellsLog)
  obtain ⟨fuel, hf⟩ := h
  have hf' : DataW.trod enc Try.prog W base (fun _ => true) held fuel 46 [c0, c1] = some (d, p) := by simpa [Value.cells] using hf
  obtain ⟨xs, n, _, hx, hl, hlen, hg⟩ := DataW.trod_struct Try.underlying46 hf'
  match xs, hlen with
  | [y0, y1], _ =>
    have g0 := hg 0 _ rfl
    have g1 := hg 1 _ rfl
    simp [cellsI, cellsBs] at g0 g1
    obtain ⟨y, e1, _, w1⟩ := DataW.trod_int Try.underlying3 g1
    simp at e1
    obtain ⟨l, hl, hd⟩ := bytes_cell g0
    refine ⟨c0, y, l, by rw [e1], w1, hl, ?_⟩
    rcases hd with hd | ⟨elems, spare, h1, h2⟩
    · exact .inl hd
    · refine .inr ⟨elems, spare, y1.1, ?_, h2⟩
      have := (Prod.mk.injEq .. ▸ hx : d = _ ∧ p = _).1
      rw [this]
      simp [h1]

theorem log_reach {H : Type} {ts : List TypeId} {ds : List (DataW H)} (h : (DataW.weightsEach Try.prog ts ds).all (· ≤ reachBytes) = true) {j : Nat} {d : DataW H} (ht : ts[j]? = some 46) (hd : ds[j]? = some d) {l : List Int}
    (hl : l = [] ∨ ∃ elems spare e1, d = .agg [.slice elems spare, e1] ∧ l.length ≤ elems.length + spare.length) : l.length ≤ 140737488351232 := by
  rcases hl with rfl | ⟨elems, spare, e1, rfl, h2⟩
  · simp
  · have := List.all_eq_true.1 h _ (DataW.weights_mem_each ht hd ((elems.length + spare.length) * Try.prog.bytesOf 5) (by simp [DataW.weights, DataW.weightsEach, Try.underlying46, Try.underlying27]))
    rw [bytesU8] at this
    have h3 : (elems.length + spare.length) * 1 ≤ reachBytes := of_decide_eq_true this
    unfold reachBytes at h3
    omega

end Go.Proofs.Ytknipikmbfdcnaa
