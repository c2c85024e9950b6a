/-
  A coordinator that comes in by value, opened: its producers read as a list.
-/
import Derived.Test.YtjhpfnogdjpbmaaOpenG
import Derived.Test.YtjhpfnogdjpbmaaCcopy
namespace Go.Proofs.Ytjhpfnogdjpbmaa
open Go.ChangeShapes Go.WideShapes Go.ChangeAt Go.RowKit Go.Deep
set_option maxRecDepth 100000
set_option linter.unusedVariables false
set_option linter.unusedSimpArgs false

theorem cellsCoord : Try.prog.cellsOf 24 = 4 := by kernel_rfl

theorem cellsTxn : Try.prog.cellsOf 62 = 7 := by kernel_rfl

theorem cellsSt : Try.prog.cellsOf 22 = 1 := by kernel_rfl

theorem bytesTxn : Try.prog.bytesOf 62 = 80 := by kernel_rfl

theorem array4c {α : Type} {a : Array α} (h : a.size = 4) : ∃ x0 x1 x2 x3, a = #[x0, x1, x2, x3] := by
  obtain ⟨l⟩ := a
  match l, h with
  | [x0, x1, x2, x3], _ => exact ⟨x0, x1, x2, x3, rfl⟩

/-- Seven cells that read as a producer. -/
theorem txn_cells {H : Type} {enc : TypeId × Value → H} {W : World} {base : Nat} {held : Bool} {fuel : Nat} {c0 c1 c2 c3 c4 c5 c6 : Value} {x : DataW H × List MemPlace}
    (hf : DataW.trod enc Try.prog W base (fun _ => true) held fuel 62 [c0, c1, c2, c3, c4, c5, c6] = some x) :
    ∃ (t : Txn), c0 = .string t.nm ∧ c1 = .int .i64 t.id ∧ c2 = .int .i64 t.v ∧ c3 = .int .i64 t.st ∧ c5 = .int .i64 t.sn ∧ c6 = .int .i64 t.dn ∧ RdV W c4 (ints t.ps) ∧ t.nm.size ≤ maxLen ∧ ∀ B, (∀ n ∈ x.1.weights Try.prog 62, n ≤ B) → t.ps.length * 8 ≤ B := by
  obtain ⟨xs, n, _, hx, hl, hlen, hg⟩ := DataW.trod_struct Try.underlying62 hf
  match xs, hlen with
  | [y0, y1, y2, y3, y4, y5, y6], _ =>
    have g0 := hg 0 _ rfl
    have g1 := hg 1 _ rfl
    have g2 := hg 2 _ rfl
    have g3 := hg 3 _ rfl
    have g4 := hg 4 _ rfl
    have g5 := hg 5 _ rfl
    have g6 := hg 6 _ rfl
    simp [cellsI, cellsS, cellsSi] at g0 g1 g2 g3 g4 g5 g6
    obtain ⟨nm, e0, _, w0⟩ := DataW.trod_string Try.underlying9 g0
    obtain ⟨id, e1, _, _⟩ := DataW.trod_int Try.underlying3 g1
    obtain ⟨v, e2, _, _⟩ := DataW.trod_int Try.underlying3 g2
    obtain ⟨st, e3, _, _⟩ := DataW.trod_int Try.underlying3 g3
    obtain ⟨sn, e5, _, _⟩ := DataW.trod_int Try.underlying3 g5
    obtain ⟨dn, e6, _, _⟩ := DataW.trod_int Try.underlying3 g6
    obtain ⟨ps, hr, _, hw⟩ := ints_cell g4
    simp at e0 e1 e2 e3 e5 e6
    refine ⟨⟨nm, id, v, st, ps, sn, dn⟩, e0, e1, e2, e3, e5, e6, hr, w0, fun B hB => hw B (fun n hn => hB n ?_)⟩
    rw [hx]
    simp only [DataW.weights, Try.underlying62]
    exact DataW.weights_mem_each (j := 4) rfl rfl n hn

/-- A slice of producers. -/
theorem txns_cell {H : Type} {enc : TypeId × Value → H} {W : World} {base : Nat} {held : Bool} {fuel : Nat} {c0 : Value} {x : DataW H × List MemPlace}
    (hf : DataW.trod enc Try.prog W base (fun _ => true) held fuel 22 [c0] = some x) : ∃ (ts : List Txn) (us : Nat → Value), RdW txnE W c0 ts us ∧ (∀ t ∈ ts, t.nm.size ≤ maxLen) ∧ ∀ B, (∀ n ∈ x.1.weights Try.prog 22, n ≤ B) → (∀ t ∈ ts, t.ps.length * 8 ≤ B) ∧ ts.length * 80 ≤ B := by
  rcases open_slice Try.underlying22 hf with ⟨hcs, _⟩ | ⟨a, l, c, m, n, D, Pl, hcs, _, hl, hm, hmm, hx, hcell⟩
  · simp at hcs
    subst hcs
    exact ⟨[], fun _ => .slice none 0 0, ⟨none, 0, rfl, by simp, by simp [maxLen], fun _ => rfl, fun h => by simp at h⟩, fun t ht => by simp at ht, fun B hB => ⟨fun r hr => by simp at hr, by simp⟩⟩
  · simp at hcs
    subst hcs
    simp only [if_true] at hmm
    subst hmm
    rw [cellsTxn] at hcell
    have key : ∀ i, i < l → ∃ q : Txn × Value, (∀ B, (∀ n ∈ (D i).weights Try.prog 62, n ≤ B) → q.1.ps.length * 8 ≤ B) ∧ q.1.nm.size ≤ maxLen ∧ RdV W q.2 (ints q.1.ps) ∧ ∀ j c, (txnE.cs q.1 q.2)[j]? = some c → W.cell? ((a.add (i * 7)).add j) = some c := by
      intro i hi
      obtain ⟨cs', h1, h2⟩ := hcell i (by omega)
      obtain ⟨_, hlen, hc⟩ := World.cells?_some h1
      match cs', hlen with
      | [c0, c1, c2, c3, c4, c5, c6], _ =>
        obtain ⟨r, rfl, rfl, rfl, rfl, rfl, rfl, hr, hnm, hw⟩ := txn_cells h2
        refine ⟨(r, c4), hw, hnm, hr, fun j x hx => ?_⟩
        have hj : j < 7 := (List.getElem?_eq_some_iff.1 hx).1
        rw [hc j hj]
        exact hx
    obtain ⟨qs, hrl, hq⟩ := list_by l _ key
    refine ⟨qs.map Prod.fst, fun i => ((qs[i]?).map Prod.snd).getD (.slice none 0 0), ⟨some a, m, by rw [List.length_map, hrl], by rw [List.length_map]; omega, hm, fun h => by simp at h, fun h0 => ?_⟩, fun t ht => ?_, fun B hB => ⟨fun r hr => ?_, ?_⟩⟩
    rotate_left
    · obtain ⟨q, hqm, rfl⟩ := List.mem_map.1 ht
      obtain ⟨i, hi, rfl⟩ := List.mem_iff_getElem.1 hqm
      exact (hq i hi).2.1
    · obtain ⟨q, hqm, rfl⟩ := List.mem_map.1 hr
      obtain ⟨i, hi, rfl⟩ := List.mem_iff_getElem.1 hqm
      refine (hq i hi).1 B (fun n hn => hB n ?_)
      rw [hx]
      simp only [DataW.weights, Try.underlying22]
      refine List.mem_cons_of_mem _ (List.mem_append_left _ (weightsAll_mem (List.mem_map.2 ⟨i, ?_, rfl⟩) n hn))
      rw [List.mem_range]
      omega
    · have := hB ((((List.range l).map D).length + ((List.range (m - l)).map fun j => D (l + j)).length) * Try.prog.bytesOf 62) (by
        rw [hx]
        simp [DataW.weights, Try.underlying22])
      rw [bytesTxn] at this
      simp only [List.length_map, List.length_range] at this
      rw [List.length_map, hrl]
      omega
    rw [List.length_map] at h0
    obtain ⟨b, off, spot⟩ := a
    have h' := (hq 0 h0).2.2.2 0 _ rfl
    have hspot : spot = none := by simpa [Addr.add] using World.cell?_spot h'
    subst hspot
    refine ⟨b, off, rfl, fun i hi => ?_⟩
    rw [List.length_map] at hi
    obtain ⟨_, _, k0, k1⟩ := hq i hi
    simp only [List.getElem_map]
    have e : ((qs[i]?).map Prod.snd).getD (.slice none 0 0) = (qs[i]'hi).2 := by simp [hi]
    rw [e]
    refine ⟨k0, fun j c hc => ?_⟩
    have := k1 j c hc
    simp only [Addr.add_lit] at this
    exact this

def Crd.val (c : Crd) (vt : Value) : Value := .agg #[.int .i64 c.ck, .int .i64 c.nx, .int .i64 c.wt, vt]
theorem open_coord {H : Type} {enc : TypeId × Value → H} {W : World} {base : Nat} {held : Bool} {r : Reach} {b0 : Nat} {v : Value} {d : DataW H} {p : List MemPlace}
    (hv : Value.okWide Try.prog W r b0 24 v) (h : DataW.Trod enc Try.prog W base (fun _ => true) held 24 v d p) :
    ∃ (c : Crd) (vt : Value) (us : Nat → Value), v = .agg #[.int .i64 c.ck, .int .i64 c.nx, .int .i64 c.wt, vt] ∧ RdC W c vt us ∧ c.small ∧ ((Lit.int .i64 c.ck).wf = true ∧ (Lit.int .i64 c.nx).wf = true ∧ (Lit.int .i64 c.wt).wf = true) ∧ ∀ B, (∀ n ∈ d.weights Try.prog 24, n ≤ B) → (∀ t ∈ c.ts, t.ps.length * 8 ≤ B) ∧ c.ts.length * 80 ≤ B := by
  obtain ⟨cs, rfl, hsz⟩ := okWide_struct Try.underlying24 hv
  obtain ⟨c0, c1, c2, c3, rfl⟩ := array4c (hsz.trans cellsCoord)
  obtain ⟨fuel, hf⟩ := h
  have hf' : DataW.trod enc Try.prog W base (fun _ => true) held fuel 24 [c0, c1, c2, c3] = some (d, p) := by simpa [Value.cells] using hf
  obtain ⟨xs, n, _, hx, hl, hlen, hg⟩ := DataW.trod_struct Try.underlying24 hf'
  match xs, hlen with
  | [y0, y1, y2, y3], _ =>
    have g0 := hg 0 _ rfl
    have g1 := hg 1 _ rfl
    have g2 := hg 2 _ rfl
    have g3 := hg 3 _ rfl
    simp [cellsI, cellsSt] at g0 g1 g2 g3
    obtain ⟨ck, e0, _, w0⟩ := DataW.trod_int Try.underlying3 g0
    obtain ⟨nx, e1, _, w1⟩ := DataW.trod_int Try.underlying3 g1
    obtain ⟨wt, e2, _, w2⟩ := DataW.trod_int Try.underlying3 g2
    simp at e0 e1 e2
    obtain ⟨ts, us, hr, hs, hw⟩ := txns_cell g3
    have hd : d = _ := (Prod.mk.injEq .. ▸ hx : d = _ ∧ p = _).1
    refine ⟨⟨ck, nx, wt, ts⟩, c3, us, by rw [e0, e1, e2], hr, hs, ⟨w0, w1, w2⟩, fun B hB => hw B (fun n hn => hB n ?_)⟩
    rw [hd]
    simp only [DataW.weights, Try.underlying24]
    exact DataW.weights_mem_each (j := 3) rfl rfl n hn

theorem coord_reach {H : Type} {ts : List TypeId} {ds : List (DataW H)} (h : (DataW.weightsEach Try.prog ts ds).all (· ≤ reachBytes) = true) {j : Nat} {d : DataW H} (ht : ts[j]? = some 24) (hd : ds[j]? = some d) : ∀ n ∈ d.weights Try.prog 24, n ≤ 140737488351232 := by
  intro n hn
  have := List.all_eq_true.1 h _ (DataW.weights_mem_each ht hd n hn)
  have h3 : n ≤ reachBytes := of_decide_eq_true this
  unfold reachBytes at h3
  omega

theorem coord_fits {c : Crd} {N : List Nat} (h : ∀ B, (∀ n ∈ N, n ≤ B) → (∀ t ∈ c.ts, t.ps.length * 8 ≤ B) ∧ c.ts.length * 80 ≤ B) (hN : ∀ n ∈ N, n ≤ 140737488351232) (hs : c.small) : c.fits := by
  obtain ⟨h1, h2⟩ := h _ hN
  exact ⟨by omega, fun t ht => by have := h1 t ht; omega, hs⟩

end Go.Proofs.Ytjhpfnogdjpbmaa
