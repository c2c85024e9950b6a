/-
  A group that comes in by value, opened: its members and offsets read as lists.
-/
import Derived.Test.YtmkbbhdmfpjfdaaOpenG
import Derived.Test.YtmkbbhdmfpjfdaaGcopy
namespace Go.Proofs.Ytmkbbhdmfpjfdaa
open Go.ChangeShapes Go.WideShapes Go.ChangeAt Go.RowKit Go.Deep
set_option maxRecDepth 100000
set_option linter.unusedVariables false
set_option linter.unusedSimpArgs false

theorem cellsGroup : Try.prog.cellsOf 25 = 5 := by kernel_rfl

theorem cellsMem : Try.prog.cellsOf 55 = 3 := by kernel_rfl

theorem cellsOfs : Try.prog.cellsOf 63 = 2 := by kernel_rfl

theorem cellsSm : Try.prog.cellsOf 22 = 1 := by kernel_rfl

theorem cellsSo : Try.prog.cellsOf 23 = 1 := by kernel_rfl

theorem bytesMem : Try.prog.bytesOf 55 = 48 := by kernel_rfl

theorem bytesOfs : Try.prog.bytesOf 63 = 16 := by kernel_rfl

theorem array5g {α : Type} {a : Array α} (h : a.size = 5) : ∃ x0 x1 x2 x3 x4, a = #[x0, x1, x2, x3, x4] := by
  obtain ⟨l⟩ := a
  match l, h with
  | [x0, x1, x2, x3, x4], _ => exact ⟨x0, x1, x2, x3, x4, rfl⟩

/-- Three cells that read as a member. -/
theorem mem_cells {H : Type} {enc : TypeId × Value → H} {W : World} {base : Nat} {held : Bool} {fuel : Nat} {c0 c1 c2 : Value} {x : DataW H × List MemPlace}
    (hf : DataW.trod enc Try.prog W base (fun _ => true) held fuel 55 [c0, c1, c2] = some x) :
    ∃ (t : Mem), c0 = .string t.nm ∧ c1 = .int .i64 t.hd ∧ RdV W c2 (ints t.ps) ∧ t.nm.size ≤ maxLen ∧ ∀ B, (∀ n ∈ x.1.weights Try.prog 55, n ≤ B) → t.ps.length * 8 ≤ B := by
  obtain ⟨xs, n, _, hx, hl, hlen, hg⟩ := DataW.trod_struct Try.underlying55 hf
  match xs, hlen with
  | [y0, y1, y2], _ =>
    have g0 := hg 0 _ rfl
    have g1 := hg 1 _ rfl
    have g2 := hg 2 _ rfl
    simp [cellsI, cellsS, cellsSi] at g0 g1 g2
    obtain ⟨nm, e0, _, w0⟩ := DataW.trod_string Try.underlying9 g0
    obtain ⟨hd, e1, _, _⟩ := DataW.trod_int Try.underlying3 g1
    obtain ⟨ps, hr, _, hw⟩ := ints_cell g2
    simp at e0 e1
    refine ⟨⟨nm, hd, ps⟩, e0, e1, hr, w0, fun B hB => hw B (fun n hn => hB n ?_)⟩
    rw [hx]
    simp only [DataW.weights, Try.underlying55]
    exact DataW.weights_mem_each (j := 2) rfl rfl n hn

/-- Two cells that read as an offset. -/
theorem ofs_cells {H : Type} {enc : TypeId × Value → H} {W : World} {base : Nat} {held : Bool} {fuel : Nat} {c0 c1 : Value} {x : DataW H × List MemPlace}
    (hf : DataW.trod enc Try.prog W base (fun _ => true) held fuel 63 [c0, c1] = some x) :
    ∃ (t : Ofs), c0 = .int .i64 t.pt ∧ c1 = .int .i64 t.pl := by
  obtain ⟨xs, n, _, hx, hl, hlen, hg⟩ := DataW.trod_struct Try.underlying63 hf
  match xs, hlen with
  | [y0, y1], _ =>
    have g0 := hg 0 _ rfl
    have g1 := hg 1 _ rfl
    simp [cellsI] at g0 g1
    obtain ⟨pt, e0, _, _⟩ := DataW.trod_int Try.underlying3 g0
    obtain ⟨pl, e1, _, _⟩ := DataW.trod_int Try.underlying3 g1
    simp at e0 e1
    exact ⟨⟨pt, pl⟩, e0, e1⟩

/-- A slice of members. -/
theorem mems_cell {H : Type} {enc : TypeId × Value → H} {W : World} {base : Nat} {held : Bool} {fuel : Nat} {c0 : Value} {x : DataW H × List MemPlace}
    (hf : DataW.trod enc Try.prog W base (fun _ => true) held fuel 22 [c0] = some x) : ∃ (ts : List Mem) (us : Nat → Value), RdW memE W c0 ts us ∧ (∀ t ∈ ts, t.nm.size ≤ maxLen) ∧ ∀ B, (∀ n ∈ x.1.weights Try.prog 22, n ≤ B) → (∀ t ∈ ts, t.ps.length * 8 ≤ B) ∧ ts.length * 48 ≤ B := by
  rcases open_slice Try.underlying22 hf with ⟨hcs, _⟩ | ⟨a, l, c, m, n, D, Pl, hcs, _, hl, hm, hmm, hx, hcell⟩
  · simp at hcs
    subst hcs
    exact ⟨[], fun _ => .slice none 0 0, ⟨none, 0, rfl, by simp, by simp [maxLen], fun _ => rfl, fun h => by simp at h⟩, fun t ht => by simp at ht, fun B hB => ⟨fun r hr => by simp at hr, by simp⟩⟩
  · simp at hcs
    subst hcs
    simp only [if_true] at hmm
    subst hmm
    rw [cellsMem] at hcell
    have key : ∀ i, i < l → ∃ q : Mem × Value, (∀ B, (∀ n ∈ (D i).weights Try.prog 55, n ≤ B) → q.1.ps.length * 8 ≤ B) ∧ q.1.nm.size ≤ maxLen ∧ RdV W q.2 (ints q.1.ps) ∧ ∀ j c, (memE.cs q.1 q.2)[j]? = some c → W.cell? ((a.add (i * 3)).add j) = some c := by
      intro i hi
      obtain ⟨cs', h1, h2⟩ := hcell i (by omega)
      obtain ⟨_, hlen, hc⟩ := World.cells?_some h1
      match cs', hlen with
      | [c0, c1, c2], _ =>
        obtain ⟨r, rfl, rfl, hr, hnm, hw⟩ := mem_cells h2
        refine ⟨(r, c2), hw, hnm, hr, fun j x hx => ?_⟩
        have hj : j < 3 := (List.getElem?_eq_some_iff.1 hx).1
        rw [hc j hj]
        exact hx
    obtain ⟨qs, hrl, hq⟩ := list_by l _ key
    refine ⟨qs.map Prod.fst, fun i => ((qs[i]?).map Prod.snd).getD (.slice none 0 0), ⟨some a, m, by rw [List.length_map, hrl], by rw [List.length_map]; omega, hm, fun h => by simp at h, fun h0 => ?_⟩, fun t ht => ?_, fun B hB => ⟨fun r hr => ?_, ?_⟩⟩
    rotate_left
    · obtain ⟨q, hqm, rfl⟩ := List.mem_map.1 ht
      obtain ⟨i, hi, rfl⟩ := List.mem_iff_getElem.1 hqm
      exact (hq i hi).2.1
    · obtain ⟨q, hqm, rfl⟩ := List.mem_map.1 hr
      obtain ⟨i, hi, rfl⟩ := List.mem_iff_getElem.1 hqm
      refine (hq i hi).1 B (fun n hn => hB n ?_)
      rw [hx]
      simp only [DataW.weights, Try.underlying22]
      refine List.mem_cons_of_mem _ (List.mem_append_left _ (weightsAll_mem (List.mem_map.2 ⟨i, ?_, rfl⟩) n hn))
      rw [List.mem_range]
      omega
    · have := hB ((((List.range l).map D).length + ((List.range (m - l)).map fun j => D (l + j)).length) * Try.prog.bytesOf 55) (by
        rw [hx]
        simp [DataW.weights, Try.underlying22])
      rw [bytesMem] at this
      simp only [List.length_map, List.length_range] at this
      rw [List.length_map, hrl]
      omega
    rw [List.length_map] at h0
    obtain ⟨b, off, spot⟩ := a
    have h' := (hq 0 h0).2.2.2 0 _ rfl
    have hspot : spot = none := by simpa [Addr.add] using World.cell?_spot h'
    subst hspot
    refine ⟨b, off, rfl, fun i hi => ?_⟩
    rw [List.length_map] at hi
    obtain ⟨_, _, k0, k1⟩ := hq i hi
    simp only [List.getElem_map]
    have e : ((qs[i]?).map Prod.snd).getD (.slice none 0 0) = (qs[i]'hi).2 := by simp [hi]
    rw [e]
    refine ⟨k0, fun j c hc => ?_⟩
    have := k1 j c hc
    simp only [Addr.add_lit] at this
    exact this

/-- A slice of offsets. -/
theorem ofss_cell {H : Type} {enc : TypeId × Value → H} {W : World} {base : Nat} {held : Bool} {fuel : Nat} {c0 : Value} {x : DataW H × List MemPlace}
    (hf : DataW.trod enc Try.prog W base (fun _ => true) held fuel 23 [c0] = some x) : ∃ (os : List Ofs), RdW ofsE W c0 os nilS ∧ ∀ B, (∀ n ∈ x.1.weights Try.prog 23, n ≤ B) → os.length * 16 ≤ B := by
  rcases open_slice Try.underlying23 hf with ⟨hcs, _⟩ | ⟨a, l, c, m, n, D, Pl, hcs, _, hl, hm, hmm, hx, hcell⟩
  · simp at hcs
    subst hcs
    exact ⟨[], ⟨none, 0, rfl, by simp, by simp [maxLen], fun _ => rfl, fun h => by simp at h⟩, fun B hB => by simp⟩
  · simp at hcs
    subst hcs
    simp only [if_true] at hmm
    subst hmm
    rw [cellsOfs] at hcell
    have key : ∀ i, i < l → ∃ q : Ofs, ∀ j c, (ofsE.cs q (.slice none 0 0))[j]? = some c → W.cell? ((a.add (i * 2)).add j) = some c := by
      intro i hi
      obtain ⟨cs', h1, h2⟩ := hcell i (by omega)
      obtain ⟨_, hlen, hc⟩ := World.cells?_some h1
      match cs', hlen with
      | [c0, c1], _ =>
        obtain ⟨r, rfl, rfl⟩ := ofs_cells h2
        refine ⟨r, fun j x hx => ?_⟩
        have hj : j < 2 := (List.getElem?_eq_some_iff.1 hx).1
        rw [hc j hj]
        exact hx
    obtain ⟨qs, hrl, hq⟩ := list_by l _ key
    refine ⟨qs, ⟨some a, m, by rw [hrl], by omega, hm, fun h => by simp at h, fun h0 => ?_⟩, fun B hB => ?_⟩
    rotate_left
    · have := hB ((((List.range l).map D).length + ((List.range (m - l)).map fun j => D (l + j)).length) * Try.prog.bytesOf 63) (by
        rw [hx]
        simp [DataW.weights, Try.underlying23])
      rw [bytesOfs] at this
      simp only [List.length_map, List.length_range] at this
      omega
    obtain ⟨b, off, spot⟩ := a
    have h' := hq 0 h0 0 _ rfl
    have hspot : spot = none := by simpa [Addr.add] using World.cell?_spot h'
    subst hspot
    refine ⟨b, off, rfl, fun i hi => ?_⟩
    refine ⟨⟨none, 0, rfl, by simp [ofsE, ints], by simp [maxLen], fun _ => rfl, fun h => by simp [ofsE, ints] at h⟩, fun j c hc => ?_⟩
    have := hq i hi j c hc
    simp only [Addr.add_lit] at this
    exact this

theorem open_group {H : Type} {enc : TypeId × Value → H} {W : World} {base : Nat} {held : Bool} {r : Reach} {b0 : Nat} {v : Value} {d : DataW H} {p : List MemPlace}
    (hv : Value.okWide Try.prog W r b0 25 v) (h : DataW.Trod enc Try.prog W base (fun _ => true) held 25 v d p) :
    ∃ (g : Grp) (vm vo : Value) (us : Nat → Value), v = .agg #[.int .i64 g.ck, .int .i64 g.wt, .int .i64 g.gn, vm, vo] ∧ RdG W g vm vo us ∧ g.small ∧ ((Lit.int .i64 g.ck).wf = true ∧ (Lit.int .i64 g.wt).wf = true ∧ (Lit.int .i64 g.gn).wf = true) ∧ ∀ B, (∀ n ∈ d.weights Try.prog 25, n ≤ B) → (∀ t ∈ g.ms, t.ps.length * 8 ≤ B) ∧ g.ms.length * 48 ≤ B ∧ g.os.length * 16 ≤ B := by
  obtain ⟨cs, rfl, hsz⟩ := okWide_struct Try.underlying25 hv
  obtain ⟨c0, c1, c2, c3, c4, rfl⟩ := array5g (hsz.trans cellsGroup)
  obtain ⟨fuel, hf⟩ := h
  have hf' : DataW.trod enc Try.prog W base (fun _ => true) held fuel 25 [c0, c1, c2, c3, c4] = some (d, p) := by simpa [Value.cells] using hf
  obtain ⟨xs, n, _, hx, hl, hlen, hg⟩ := DataW.trod_struct Try.underlying25 hf'
  match xs, hlen with
  | [y0, y1, y2, y3, y4], _ =>
    have g0 := hg 0 _ rfl
    have g1 := hg 1 _ rfl
    have g2 := hg 2 _ rfl
    have g3 := hg 3 _ rfl
    have g4 := hg 4 _ rfl
    simp [cellsI, cellsSm, cellsSo] at g0 g1 g2 g3 g4
    obtain ⟨ck, e0, _, w0⟩ := DataW.trod_int Try.underlying3 g0
    obtain ⟨wt, e1, _, w1⟩ := DataW.trod_int Try.underlying3 g1
    obtain ⟨gn, e2, _, w2⟩ := DataW.trod_int Try.underlying3 g2
    simp at e0 e1 e2
    obtain ⟨ms, us, hr, hs, hw⟩ := mems_cell g3
    obtain ⟨os, hro, hwo⟩ := ofss_cell g4
    have hd : d = _ := (Prod.mk.injEq .. ▸ hx : d = _ ∧ p = _).1
    refine ⟨⟨ck, wt, gn, ms, os⟩, c3, c4, us, by rw [e0, e1, e2], ⟨hr, hro⟩, hs, ⟨w0, w1, w2⟩, fun B hB => ?_⟩
    rw [hd] at hB
    simp only [DataW.weights, Try.underlying25] at hB
    obtain ⟨h1, h2⟩ := hw B (fun n hn => hB n (DataW.weights_mem_each (j := 3) rfl rfl n hn))
    exact ⟨h1, h2, hwo B (fun n hn => hB n (DataW.weights_mem_each (j := 4) rfl rfl n hn))⟩

theorem group_reach {H : Type} {ts : List TypeId} {ds : List (DataW H)} (h : (DataW.weightsEach Try.prog ts ds).all (· ≤ reachBytes) = true) {j : Nat} {d : DataW H} (ht : ts[j]? = some 25) (hd : ds[j]? = some d) : ∀ n ∈ d.weights Try.prog 25, n ≤ 140737488351232 := by
  intro n hn
  have := List.all_eq_true.1 h _ (DataW.weights_mem_each ht hd n hn)
  have h3 : n ≤ reachBytes := of_decide_eq_true this
  unfold reachBytes at h3
  omega

theorem group_fits {g : Grp} {N : List Nat} (h : ∀ B, (∀ n ∈ N, n ≤ B) → (∀ t ∈ g.ms, t.ps.length * 8 ≤ B) ∧ g.ms.length * 48 ≤ B ∧ g.os.length * 16 ≤ B) (hN : ∀ n ∈ N, n ≤ 140737488351232) (hs : g.small) : g.fits := by
  obtain ⟨h1, h2, h3⟩ := h _ hN
  exact ⟨by omega, by omega, fun t ht => by have := h1 t ht; omega, hs⟩

end Go.Proofs.Ytmkbbhdmfpjfdaa
