/-
  A part that comes in by value, opened: its three slices read as lists.
-/
import Derived.Test.YtkolelpdedmkeaaOpenL
import Derived.Test.YtkolelpdedmkeaaOpenE
import Derived.Test.YtkolelpdedmkeaaAown
namespace Go.Proofs.Ytkolelpdedmkeaa
open Go.ChangeShapes Go.WideShapes Go.ChangeAt Go.RowKit Go.Deep
set_option maxRecDepth 100000
set_option linter.unusedVariables false
set_option linter.unusedSimpArgs false

theorem cellsPart : Try.prog.cellsOf 26 = 7 := by kernel_rfl
theorem cellsRep : Try.prog.cellsOf 63 = 4 := by kernel_rfl
theorem cellsSb : Try.prog.cellsOf 22 = 1 := by kernel_rfl
theorem cellsSr : Try.prog.cellsOf 24 = 1 := by kernel_rfl
theorem bytesRep : Try.prog.bytesOf 63 = 48 := by kernel_rfl
theorem bytesBo : Try.prog.bytesOf 4 = 1 := by kernel_rfl
theorem cellsBo : Try.prog.cellsOf 4 = 1 := by kernel_rfl


/-- Two cells that read as a log. -/
theorem log_cells {H : Type} {enc : TypeId × Value → H} {W : World} {base : Nat} {held : Bool} {fuel : Nat} {c0 c1 : Value} {x : DataW H × List MemPlace}
    (hf : DataW.trod enc Try.prog W base (fun _ => true) held fuel 61 [c0, c1] = some x) :
    ∃ (y : Int) (l : List Int), c1 = .int .i64 y ∧ Rd W c0 l ∧ ∀ B, (∀ n ∈ x.1.weights Try.prog 61, n ≤ B) → l.length ≤ B := by
  obtain ⟨xs, n, _, hx, hl, hlen, hg⟩ := DataW.trod_struct Try.underlying61 hf
  match xs, hlen with
  | [y0, y1], _ =>
    have g0 := hg 0 _ rfl
    have g1 := hg 1 _ rfl
    simp [cellsI, cellsBs] at g0 g1
    obtain ⟨y, e1, _, w1⟩ := DataW.trod_int Try.underlying3 g1
    simp at e1
    obtain ⟨l, hl, hd⟩ := bytes_cell g0
    refine ⟨y, l, e1, hl, fun B hB => ?_⟩
    rcases hd with hd | ⟨elems, spare, h1, h2⟩
    · rw [hd]; simp
    · have := hB ((elems.length + spare.length) * Try.prog.bytesOf 5) (by
        rw [hx]
        simp [h1, DataW.weights, DataW.weightsEach, Try.underlying61, Try.underlying59])
      rw [bytesU8] at this
      omega
/-- Four cells that read as a replica. -/
theorem rep_cells {H : Type} {enc : TypeId × Value → H} {W : World} {base : Nat} {held : Bool} {fuel : Nat} {c0 c1 c2 c3 : Value} {x : DataW H × List MemPlace}
    (hf : DataW.trod enc Try.prog W base (fun _ => true) held fuel 63 [c0, c1, c2, c3] = some x) :
    ∃ (r : Rep), c0 = .bool r.up ∧ c2 = .int .i64 r.y ∧ c3 = .int .i64 r.h ∧ Rd W c1 r.l ∧ ∀ B, (∀ n ∈ x.1.weights Try.prog 63, n ≤ B) → r.l.length ≤ B := by
  obtain ⟨xs, n, _, hx, hl, hlen, hg⟩ := DataW.trod_struct Try.underlying63 hf
  match xs, hlen with
  | [y0, y1, y2], _ =>
    have g0 := hg 0 _ rfl
    have g1 := hg 1 _ rfl
    have g2 := hg 2 _ rfl
    simp [cellsI, cellsBo, cellsLog] at g0 g1 g2
    obtain ⟨up, e0, _⟩ := DataW.trod_bool Try.underlying4 g0
    obtain ⟨h, e2, _, w2⟩ := DataW.trod_int Try.underlying3 g2
    obtain ⟨y, l, e1, hr, hw⟩ := log_cells g1
    simp at e0 e2
    refine ⟨⟨up, l, y, h⟩, e0, e1, e2, hr, fun B hB => hw B (fun n hn => hB n ?_)⟩
    rw [hx]
    simp only [DataW.weights, Try.underlying63]
    exact DataW.weights_mem_each (j := 1) rfl rfl n hn

/-- A slice of replicas. -/
theorem reps_cells {H : Type} {enc : TypeId × Value → H} {W : World} {base : Nat} {held : Bool} {fuel : Nat} {c0 : Value} {x : DataW H × List MemPlace}
    (hf : DataW.trod enc Try.prog W base (fun _ => true) held fuel 24 [c0] = some x) : ∃ (rs : List Rep) (us : Nat → Value), RdRs W c0 rs us ∧ ∀ B, (∀ n ∈ x.1.weights Try.prog 24, n ≤ B) → (∀ r ∈ rs, r.l.length ≤ B) ∧ rs.length * 48 ≤ B := by
  rcases open_slice Try.underlying24 hf with ⟨hcs, _⟩ | ⟨a, l, c, m, n, D, Pl, hcs, _, hl, hm, hmm, hx, hcell⟩
  · simp at hcs
    subst hcs
    exact ⟨[], fun _ => .slice none 0 0, ⟨none, 0, rfl, by simp, by simp [maxLen], fun _ => rfl, fun h => by simp at h⟩, fun B hB => ⟨fun r hr => by simp at hr, by simp⟩⟩
  · simp at hcs
    subst hcs
    simp only [if_true] at hmm
    subst hmm
    rw [cellsRep] at hcell
    have key : ∀ i, i < l → ∃ q : Rep × Value, (∀ B, (∀ n ∈ (D i).weights Try.prog 63, n ≤ B) → q.1.l.length ≤ B) ∧ Rd W q.2 q.1.l ∧ W.cell? ((a.add (i * 4)).add 0) = some (.bool q.1.up) ∧ W.cell? ((a.add (i * 4)).add 1) = some q.2 ∧ W.cell? ((a.add (i * 4)).add 2) = some (.int .i64 q.1.y) ∧ W.cell? ((a.add (i * 4)).add 3) = some (.int .i64 q.1.h) := by
      intro i hi
      obtain ⟨cs', h1, h2⟩ := hcell i (by omega)
      obtain ⟨_, hlen, hc⟩ := World.cells?_some h1
      match cs', hlen with
      | [c0, c1, c2, c3], _ =>
        obtain ⟨r, rfl, rfl, rfl, hr, hw⟩ := rep_cells h2
        exact ⟨(r, c1), hw, hr, by rw [hc 0 (by omega)]; rfl, by rw [hc 1 (by omega)]; rfl, by rw [hc 2 (by omega)]; rfl, by rw [hc 3 (by omega)]; rfl⟩
    obtain ⟨qs, hrl, hq⟩ := list_by l _ key
    refine ⟨qs.map Prod.fst, fun i => ((qs[i]?).map Prod.snd).getD (.slice none 0 0), ⟨some a, m, by rw [List.length_map, hrl], by rw [List.length_map]; omega, hm, fun h => by simp at h, fun h0 => ?_⟩, fun B hB => ⟨fun r hr => ?_, ?_⟩⟩
    rotate_left
    · obtain ⟨q, hqm, rfl⟩ := List.mem_map.1 hr
      obtain ⟨i, hi, rfl⟩ := List.mem_iff_getElem.1 hqm
      refine (hq i hi).1 B (fun n hn => hB n ?_)
      rw [hx]
      simp only [DataW.weights, Try.underlying24]
      refine List.mem_cons_of_mem _ (List.mem_append_left _ (weightsAll_mem (List.mem_map.2 ⟨i, ?_, rfl⟩) n hn))
      rw [List.mem_range]
      omega
    · have := hB ((((List.range l).map D).length + ((List.range (m - l)).map fun j => D (l + j)).length) * Try.prog.bytesOf 63) (by
        rw [hx]
        simp [DataW.weights, Try.underlying24])
      rw [bytesRep] at this
      simp only [List.length_map, List.length_range] at this
      rw [List.length_map, hrl]
      omega
    rw [List.length_map] at h0
    obtain ⟨b, off, spot⟩ := a
    have h' := (hq 0 h0).2.2.1
    have hspot : spot = none := by simpa [Addr.add] using World.cell?_spot h'
    subst hspot
    refine ⟨b, off, rfl, fun i hi => ?_⟩
    rw [List.length_map] at hi
    obtain ⟨_, k0, k1, k2, k3, k4⟩ := hq i hi
    simp only [Addr.add_lit, Nat.add_zero] at k1 k2 k3 k4
    simp only [List.getElem_map]
    have e : ((qs[i]?).map Prod.snd).getD (.slice none 0 0) = (qs[i]'hi).2 := by simp [hi]
    rw [e]
    exact ⟨k0, k1, k2, k3, k4⟩

theorem open_part {H : Type} {enc : TypeId × Value → H} {W : World} {base : Nat} {held : Bool} {r : Reach} {b0 : Nat} {v : Value} {d : DataW H} {p : List MemPlace}
    (hv : Value.okWide Try.prog W r b0 26 v) (h : DataW.Trod enc Try.prog W base (fun _ => true) held 26 v d p) :
    ∃ (q : Prt) (vi vk vr : Value) (us : Nat → Value), v = q.val vi vk vr ∧ RdP W q vi vk vr us ∧ ∀ B, (∀ n ∈ d.weights Try.prog 26, n ≤ B) → (∀ r ∈ q.rs, r.l.length ≤ B) ∧ q.rs.length * 48 ≤ B ∧ q.isr.length ≤ B ∧ q.kn.length * 8 ≤ B := by
  obtain ⟨cs, rfl, hsz⟩ := okWide_struct Try.underlying26 hv
  obtain ⟨c0, c1, c2, c3, c4, c5, c6, rfl⟩ := array7' (hsz.trans cellsPart)
  obtain ⟨fuel, hf⟩ := h
  have hf' : DataW.trod enc Try.prog W base (fun _ => true) held fuel 26 [c0, c1, c2, c3, c4, c5, c6] = some (d, p) := by simpa [Value.cells] using hf
  obtain ⟨xs, n, _, hx, hl, hlen, hg⟩ := DataW.trod_struct Try.underlying26 hf'
  match xs, hlen with
  | [y0, y1, y2, y3, y4, y5, y6], _ =>
    have g0 := hg 0 _ rfl
    have g1 := hg 1 _ rfl
    have g2 := hg 2 _ rfl
    have g3 := hg 3 _ rfl
    have g4 := hg 4 _ rfl
    have g5 := hg 5 _ rfl
    have g6 := hg 6 _ rfl
    simp [cellsI, cellsSb, cellsSi, cellsSr] at g0 g1 g2 g3 g4 g5 g6
    obtain ⟨ep, e0, _, w0⟩ := DataW.trod_int Try.underlying3 g0
    obtain ⟨ld, e1, _, w1⟩ := DataW.trod_int Try.underlying3 g1
    obtain ⟨fw, e5, _, w5⟩ := DataW.trod_int Try.underlying3 g5
    obtain ⟨bs, e6, _, w6⟩ := DataW.trod_int Try.underlying3 g6
    simp at e0 e1 e5 e6
    obtain ⟨bis, hbi, kbi, wbi⟩ := slice_cells Try.underlying22 cellsBo g2 (fun v => ∃ x, v = Value.bool x) (fun n c y hy => by
      obtain ⟨x, e, _⟩ := DataW.trod_bool Try.underlying4 hy
      simp at e
      exact ⟨x, e⟩)
    obtain ⟨kns, hkn, kkn, wkn⟩ := slice_cells Try.underlying23 cellsI g3 (fun v => ∃ x, v = Value.int .i64 x) (fun n c y hy => by
      obtain ⟨x, e, _, _⟩ := DataW.trod_int Try.underlying3 hy
      simp at e
      exact ⟨x, e⟩)
    obtain ⟨isr, rfl⟩ := map_of _ bis kbi
    obtain ⟨kn, rfl⟩ := map_of _ kns kkn
    obtain ⟨rs, us, hrs, hw⟩ := reps_cells g4
    have hd : d = _ := (Prod.mk.injEq .. ▸ hx : d = _ ∧ p = _).1
    refine ⟨⟨ep, ld, isr, kn, rs, fw, bs⟩, c2, c3, c4, us, by rw [e0, e1, e5, e6]; rfl, ⟨hbi, hkn, hrs⟩, fun B hB => ?_⟩
    obtain ⟨x1, x2⟩ := hw B (fun n hn => hB n (by
      rw [hd]
      simp only [DataW.weights, Try.underlying26]
      exact DataW.weights_mem_each (j := 4) rfl rfl n hn))
    have x3 := wbi B (fun n hn => hB n (by
      rw [hd]
      simp only [DataW.weights, Try.underlying26]
      exact DataW.weights_mem_each (j := 2) rfl rfl n hn))
    have x4 := wkn B (fun n hn => hB n (by
      rw [hd]
      simp only [DataW.weights, Try.underlying26]
      exact DataW.weights_mem_each (j := 3) rfl rfl n hn))
    rw [bytesBo, List.length_map] at x3
    rw [bytesIn, List.length_map] at x4
    exact ⟨x1, x2, by show isr.length ≤ B; omega, x4⟩

theorem part_reach {H : Type} {ts : List TypeId} {ds : List (DataW H)} (h : (DataW.weightsEach Try.prog ts ds).all (· ≤ reachBytes) = true) {j : Nat} {d : DataW H} (ht : ts[j]? = some 26) (hd : ds[j]? = some d) : ∀ n ∈ d.weights Try.prog 26, n ≤ 140737488351232 := by
  intro n hn
  have := List.all_eq_true.1 h _ (DataW.weights_mem_each ht hd n hn)
  have h3 : n ≤ reachBytes := of_decide_eq_true this
  unfold reachBytes at h3
  omega

theorem part_fits {q : Prt} {N : List Nat} (h : ∀ B, (∀ n ∈ N, n ≤ B) → (∀ r ∈ q.rs, r.l.length ≤ B) ∧ q.rs.length * 48 ≤ B ∧ q.isr.length ≤ B ∧ q.kn.length * 8 ≤ B) (hN : ∀ n ∈ N, n ≤ 140737488351232) : q.fits := by
  obtain ⟨h1, h2, h3, h4⟩ := h _ hN
  exact ⟨by omega, by omega, by omega, fun r hr => by have := h1 r hr; omega⟩

end Go.Proofs.Ytkolelpdedmkeaa
