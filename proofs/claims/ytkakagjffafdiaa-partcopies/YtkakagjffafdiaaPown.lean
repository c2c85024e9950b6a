/-
  Parts in memory of one's own: three blocks, and the bytes of the logs apart from them.
-/
import Derived.Test.YtkakagjffafdiaaPbox
namespace Go.Proofs.Ytkakagjffafdiaa
open Go.RowKit
set_option linter.unusedVariables false
set_option linter.unusedSimpArgs false

theorem rd_block {w : World} {v : Value} {l : List Int} (h : Rd w v l) {b : Nat} (hb : v.ownBlock ≠ some b) (o : Nat) (x : Value) : Rd (w.setCell ⟨b, o, none⟩ x) v l := by
  obtain ⟨h3, ao, cap, rfl, r4, r5, r6, hc⟩ := h
  refine ⟨h3, ao, cap, rfl, r4, r5, r6, fun h0 => ?_⟩
  obtain ⟨g, off, rfl, hc'⟩ := hc h0
  refine ⟨g, off, rfl, fun i hi => ?_⟩
  have hne : g ≠ b := fun e => hb (by simp [Value.ownBlock, e])
  have hblk : (w.setCell ⟨b, o, none⟩ x).heap[g]? = w.heap[g]? := Below.heap_setCell w ⟨b, o, none⟩ x g hne
  have h1 := World.cell?_of_block (w := w) (w' := w.setCell ⟨b, o, none⟩ x) (a := ⟨g, off + i, none⟩) hblk
  rw [h1]
  exact hc' i hi
/-- A block that is not stored to reads as before. -/
theorem cell_far {w : World} {b g : Nat} (h : g ≠ b) (o o' : Nat) (x : Value) : (w.setCell ⟨b, o, none⟩ x).cell? ⟨g, o', none⟩ = w.cell? ⟨g, o', none⟩ :=
  World.cell?_of_block (w := w) (w' := w.setCell ⟨b, o, none⟩ x) (a := ⟨g, o', none⟩) (Below.heap_setCell w ⟨b, o, none⟩ x g h)
theorem frozen_far {w : World} {b g : Nat} (h : g ≠ b) (o o' : Nat) (x : Value) : (w.setCell ⟨b, o, none⟩ x).frozen? ⟨g, o', none⟩ = w.frozen? ⟨g, o', none⟩ :=
  World.frozen?_of_block (w := w) (w' := w.setCell ⟨b, o, none⟩ x) (a := ⟨g, o', none⟩) (Below.heap_setCell w ⟨b, o, none⟩ x g h)
theorem rdv_far {w : World} {g n cap b : Nat} {xs : List Value} (h : RdV w (.slice (some ⟨g, 0, none⟩) n cap) xs) (hne : g ≠ b) (o : Nat) (x : Value) : RdV (w.setCell ⟨b, o, none⟩ x) (.slice (some ⟨g, 0, none⟩) n cap) xs := by
  obtain ⟨ao, cap', e, h1, h2, h4, h3⟩ := h
  refine ⟨ao, cap', e, h1, h2, h4, fun h0 => ?_⟩
  obtain ⟨g', off, rfl, hg⟩ := h3 h0
  simp only [Value.slice.injEq, Option.some.injEq, Addr.mk.injEq, and_true] at e
  obtain ⟨⟨rfl, rfl⟩, rfl, rfl⟩ := e
  exact ⟨g, 0, rfl, fun i hi => (cell_far hne _ _ _).trans (hg i hi)⟩
theorem rdv_set {w : World} {g n cap : Nat} {xs : List Value} (h : RdV w (.slice (some ⟨g, 0, none⟩) n cap) xs) (i : Nat) (hi : i < xs.length) (hf : w.frozen? ⟨g, i, none⟩ = false) (x : Value) : RdV (w.setCell ⟨g, i, none⟩ x) (.slice (some ⟨g, 0, none⟩) n cap) (xs.set i x) := by
  obtain ⟨ao, cap', e, h1, h2, h4, h3⟩ := h
  obtain ⟨g', off, rfl, hg⟩ := h3 (by omega)
  simp only [Value.slice.injEq, Option.some.injEq, Addr.mk.injEq, and_true] at e
  obtain ⟨⟨rfl, rfl⟩, rfl, rfl⟩ := e
  refine ⟨_, cap, by simp, by simpa using h1, h2, by simp, fun _ => ⟨g, 0, rfl, fun j hj => ?_⟩⟩
  have hj' : j < xs.length := by simpa using hj
  have hc := hg j hj'
  have hci := hg i hi
  simp only [Nat.zero_add] at hc hci ⊢
  by_cases e : i = j
  · subst e
    simp [go_sem, hci]
  · have e' : ¬ j = i := fun h => e h.symm
    simp [go_sem, hc, hci, e, e']

/-- Its blocks: from B on, no two the same; what lies in them may be stored to; no log's bytes lie there. -/
structure Apart (B : Nat) (w : World) (n : Nat) (gi gk gr : Nat) (us : Nat → Value) : Prop where
  bi : B ≤ gi
  bk : B ≤ gk
  br : B ≤ gr
  si : gi < w.heap.size
  sk : gk < w.heap.size
  sr : gr < w.heap.size
  ik : gi ≠ gk
  ir : gi ≠ gr
  kr : gk ≠ gr
  fi : ∀ o, w.frozen? ⟨gi, o, none⟩ = false
  fk : ∀ o, w.frozen? ⟨gk, o, none⟩ = false
  fr : ∀ o, w.frozen? ⟨gr, o, none⟩ = false
  un : ∀ i, i < n → ∀ k, (us i).ownBlock = some k → B ≤ k ∧ k < w.heap.size ∧ k ≠ gi ∧ k ≠ gk ∧ k ≠ gr

theorem Apart.below {B C : Nat} {w w' : World} {n gi gk gr : Nat} {us : Nat → Value} (h : Apart B w n gi gk gr us) (hC : w.heap.size ≤ C) (hb : Below C w w') : Apart B w' n gi gk gr us := by
  have hz := hb.size
  have a := h.si
  have b := h.sk
  have c := h.sr
  exact ⟨h.bi, h.bk, h.br, by omega, by omega, by omega, h.ik, h.ir, h.kr, fun o => (hb.frozen (p := ⟨gi, o, none⟩) (by show gi < C; omega)).trans (h.fi o), fun o => (hb.frozen (p := ⟨gk, o, none⟩) (by show gk < C; omega)).trans (h.fk o), fun o => (hb.frozen (p := ⟨gr, o, none⟩) (by show gr < C; omega)).trans (h.fr o), fun i hi k hk => by
    obtain ⟨x1, x2, x3⟩ := h.un i hi k hk
    exact ⟨x1, by omega, x3⟩⟩
theorem frozen_set {w : World} {b : Nat} (h : ∀ o, w.frozen? ⟨b, o, none⟩ = false) (g o : Nat) (x : Value) (hg : ∀ o, w.frozen? ⟨g, o, none⟩ = false) : ∀ o', (w.setCell ⟨b, o, none⟩ x).frozen? ⟨g, o', none⟩ = false := by
  intro o'
  rw [← hg o']
  simp [go_sem]
theorem Apart.set {B : Nat} {w : World} {n gi gk gr : Nat} {us : Nat → Value} (h : Apart B w n gi gk gr us) (b o : Nat) (x : Value) (hf : ∀ o, w.frozen? ⟨b, o, none⟩ = false) : Apart B (w.setCell ⟨b, o, none⟩ x) n gi gk gr us := by
  have e : (w.setCell ⟨b, o, none⟩ x).heap.size = w.heap.size := by simp
  exact ⟨h.bi, h.bk, h.br, by rw [e]; exact h.si, by rw [e]; exact h.sk, by rw [e]; exact h.sr, h.ik, h.ir, h.kr, frozen_set hf _ _ _ h.fi, frozen_set hf _ _ _ h.fk, frozen_set hf _ _ _ h.fr, fun i hi k hk => by rw [e]; exact h.un i hi k hk⟩

/-- A part that is owned. -/
def OwnP (B : Nat) (w : World) (p : Prt) (gi gk gr ci ck cr : Nat) (us : Nat → Value) : Prop :=
  RdP w p (.slice (some ⟨gi, 0, none⟩) p.isr.length ci) (.slice (some ⟨gk, 0, none⟩) p.kn.length ck) (.slice (some ⟨gr, 0, none⟩) p.rs.length cr) us ∧ Apart B w p.rs.length gi gk gr us

theorem OwnP.below {B C : Nat} {w w' : World} {p : Prt} {gi gk gr ci ck cr : Nat} {us : Nat → Value} (h : OwnP B w p gi gk gr ci ck cr us) (hC : w.heap.size ≤ C) (hb : Below C w w') : OwnP B w' p gi gk gr ci ck cr us :=
  ⟨h.1.below hC hb, h.2.below hC hb⟩

theorem rdrs_far {w : World} {g n cap b : Nat} {rs : List Rep} {us : Nat → Value} (h : RdRs w (.slice (some ⟨g, 0, none⟩) n cap) rs us) (hne : g ≠ b) (hu : ∀ i, i < rs.length → (us i).ownBlock ≠ some b) (o : Nat) (x : Value) : RdRs (w.setCell ⟨b, o, none⟩ x) (.slice (some ⟨g, 0, none⟩) n cap) rs us := by
  obtain ⟨ao, cap', e, h1, h2, h4, h3⟩ := h
  refine ⟨ao, cap', e, h1, h2, h4, fun h0 => ?_⟩
  obtain ⟨g', off, rfl, hg⟩ := h3 h0
  simp only [Value.slice.injEq, Option.some.injEq, Addr.mk.injEq, and_true] at e
  obtain ⟨⟨rfl, rfl⟩, rfl, rfl⟩ := e
  refine ⟨g, 0, rfl, fun i hi => ?_⟩
  obtain ⟨r0, r1, r2, r3, r4⟩ := hg i hi
  exact ⟨rd_block r0 (hu i hi) _ _, (cell_far hne _ _ _).trans r1, (cell_far hne _ _ _).trans r2, (cell_far hne _ _ _).trans r3, (cell_far hne _ _ _).trans r4⟩
/-- What is stored elsewhere. -/
theorem OwnP.far {B : Nat} {w : World} {p : Prt} {gi gk gr ci ck cr : Nat} {us : Nat → Value} (h : OwnP B w p gi gk gr ci ck cr us) {b : Nat} (hf : ∀ o, w.frozen? ⟨b, o, none⟩ = false) (h1 : gi ≠ b) (h2 : gk ≠ b) (h3 : gr ≠ b) (h4 : ∀ i, i < p.rs.length → (us i).ownBlock ≠ some b) (o : Nat) (x : Value) : OwnP B (w.setCell ⟨b, o, none⟩ x) p gi gk gr ci ck cr us :=
  ⟨⟨rdv_far h.1.1 h1 o x, rdv_far h.1.2.1 h2 o x, rdrs_far h.1.2.2 h3 h4 o x⟩, h.2.set b o x hf⟩
/-- A box that lies ahead of all. -/
theorem OwnP.box {B : Nat} {w : World} {p : Prt} {gi gk gr ci ck cr : Nat} {us : Nat → Value} (h : OwnP B w p gi gk gr ci ck cr us) {b : Nat} (hf : ∀ o, w.frozen? ⟨b, o, none⟩ = false) (hb : b < B) (o : Nat) (x : Value) : OwnP B (w.setCell ⟨b, o, none⟩ x) p gi gk gr ci ck cr us := by
  have a1 := h.2.bi
  have a2 := h.2.bk
  have a3 := h.2.br
  refine h.far hf (by omega) (by omega) (by omega) (fun i hi e => ?_) o x
  have := (h.2.un i hi b e).1
  omega
theorem OwnP.setIsr {B : Nat} {w : World} {p : Prt} {gi gk gr ci ck cr : Nat} {us : Nat → Value} (h : OwnP B w p gi gk gr ci ck cr us) (i : Nat) (hi : i < p.isr.length) (b : Bool) : OwnP B (w.setCell ⟨gi, i, none⟩ (.bool b)) { p with isr := p.isr.set i b } gi gk gr ci ck cr us := by
  refine ⟨⟨?_, rdv_far h.1.2.1 (fun e => h.2.ik e.symm) _ _, rdrs_far h.1.2.2 (fun e => h.2.ir e.symm) (fun j hj e => (h.2.un j hj gi e).2.2.1 rfl) _ _⟩, h.2.set _ _ _ h.2.fi⟩
  have := rdv_set h.1.1 i (by simpa using hi) (h.2.fi i) (.bool b)
  rw [← List.map_set] at this
  simpa using this
theorem OwnP.setKn {B : Nat} {w : World} {p : Prt} {gi gk gr ci ck cr : Nat} {us : Nat → Value} (h : OwnP B w p gi gk gr ci ck cr us) (i : Nat) (hi : i < p.kn.length) (n : Int) : OwnP B (w.setCell ⟨gk, i, none⟩ (.int .i64 n)) { p with kn := p.kn.set i n } gi gk gr ci ck cr us := by
  refine ⟨⟨rdv_far h.1.1 h.2.ik _ _, ?_, rdrs_far h.1.2.2 (fun e => h.2.kr e.symm) (fun j hj e => (h.2.un j hj gk e).2.2.2.1 rfl) _ _⟩, h.2.set _ _ _ h.2.fk⟩
  have := rdv_set h.1.2.1 i (by simpa using hi) (h.2.fk i) (.int .i64 n)
  rw [← List.map_set] at this
  simpa using this

/-- One cell of a replica is stored: the four ways. -/
theorem rdrs_set {w : World} {g n cap : Nat} {rs rs' : List Rep} {us us' : Nat → Value} (h : RdRs w (.slice (some ⟨g, 0, none⟩) n cap) rs us) (i c : Nat) (hi : i < rs.length) (hc : c < 4) (hf : ∀ o, w.frozen? ⟨g, o, none⟩ = false) (x : Value)
    (hl : rs'.length = rs.length) (hb : ∀ j, (h1 : j < rs.length) → (h2 : j < rs'.length) → Rd (w.setCell ⟨g, i * 4 + c, none⟩ x) (us' j) (rs'[j]'h2).l)
    (hj : ∀ j, (h1 : j < rs.length) → (h2 : j < rs'.length) → j ≠ i → (rs'[j]'h2).up = (rs[j]'h1).up ∧ us' j = us j ∧ (rs'[j]'h2).y = (rs[j]'h1).y ∧ (rs'[j]'h2).h = (rs[j]'h1).h)
    (h0 : (h2 : i < rs'.length) → some (Value.bool (rs'[i]'h2).up) = if c = 0 then some x else some (.bool (rs[i]'hi).up))
    (h1 : (h2 : i < rs'.length) → some (us' i) = if c = 1 then some x else some (us i))
    (h2 : (h2 : i < rs'.length) → some (Value.int .i64 (rs'[i]'h2).y) = if c = 2 then some x else some (.int .i64 (rs[i]'hi).y))
    (h3 : (h2 : i < rs'.length) → some (Value.int .i64 (rs'[i]'h2).h) = if c = 3 then some x else some (.int .i64 (rs[i]'hi).h)) :
    RdRs (w.setCell ⟨g, i * 4 + c, none⟩ x) (.slice (some ⟨g, 0, none⟩) n cap) rs' us' := by
  obtain ⟨ao, cap', e, k1, k2, k4, k3⟩ := h
  obtain ⟨g', off, rfl, hg⟩ := k3 (by omega)
  simp only [Value.slice.injEq, Option.some.injEq, Addr.mk.injEq, and_true] at e
  obtain ⟨⟨rfl, rfl⟩, rfl, rfl⟩ := e
  refine ⟨_, cap, by rw [hl], by omega, k2, by simp, fun _ => ⟨g, 0, rfl, fun j hj' => ?_⟩⟩
  have hjr : j < rs.length := by omega
  refine ⟨hb j hjr hj', ?_⟩
  obtain ⟨i0, i1, i2, i3, i4⟩ := hg i hi
  simp only [Nat.zero_add] at i1 i2 i3 i4 ⊢
  have hcc : ∃ y, w.cell? ⟨g, i * 4 + c, none⟩ = some y := by
    rcases (show c = 0 ∨ c = 1 ∨ c = 2 ∨ c = 3 by omega) with rfl | rfl | rfl | rfl
    · exact ⟨_, i1⟩
    · exact ⟨_, i2⟩
    · exact ⟨_, i3⟩
    · exact ⟨_, i4⟩
  obtain ⟨y0, hcc⟩ := hcc
  have same : ∀ o, (w.setCell ⟨g, i * 4 + c, none⟩ x).cell? ⟨g, o, none⟩ = if o = i * 4 + c then some x else w.cell? ⟨g, o, none⟩ := by
    intro o
    by_cases e : o = i * 4 + c
    · subst e
      simp [go_sem, hcc]
    · have e' : ¬ i * 4 + c = o := fun h => e h.symm
      simp [go_sem, e, e']
  by_cases e : j = i
  · subst e
    simp only [same]
    rw [h0 hj', h1 hj', h2 hj', h3 hj', i1, i2, i3, i4]
    rcases (show c = 0 ∨ c = 1 ∨ c = 2 ∨ c = 3 by omega) with rfl | rfl | rfl | rfl <;> simp
  · obtain ⟨j0, j1, j2, j3, j4⟩ := hg j hjr
    simp only [Nat.zero_add] at j1 j2 j3 j4
    obtain ⟨q1, q2, q3, q4⟩ := hj j hjr hj' e
    simp only [same]
    rw [q1, q2, q3, q4, if_neg (by omega), if_neg (by omega), if_neg (by omega), if_neg (by omega)]
    exact ⟨j1, j2, j3, j4⟩

theorem modify_len {rs : List Rep} {i : Nat} {f : Rep → Rep} : (rs.modify i f).length = rs.length := by simp
theorem modify_same {rs : List Rep} {i : Nat} {f : Rep → Rep} (h : i < rs.length) (h' : i < (rs.modify i f).length) : (rs.modify i f)[i]'h' = f (rs[i]'h) := by simp
theorem modify_other {rs : List Rep} {i j : Nat} {f : Rep → Rep} (h : j < rs.length) (h' : j < (rs.modify i f).length) (e : j ≠ i) : (rs.modify i f)[j]'h' = rs[j]'h := by
  rw [List.getElem_modify, if_neg (fun h => e h.symm)]
theorem OwnP.rdAt {B : Nat} {w : World} {p : Prt} {gi gk gr ci ck cr : Nat} {us : Nat → Value} (h : OwnP B w p gi gk gr ci ck cr us) (i : Nat) (hi : i < p.rs.length) : Rd w (us i) (p.rs[i]'hi).l := by
  obtain ⟨ao, cap', e, k1, k2, k4, k3⟩ := h.1.2.2
  obtain ⟨g', off, rfl, hg⟩ := k3 (by omega)
  exact (hg i hi).1
theorem OwnP.setRep {B : Nat} {w : World} {p : Prt} {gi gk gr ci ck cr : Nat} {us : Nat → Value} (h : OwnP B w p gi gk gr ci ck cr us) (i c : Nat) (hi : i < p.rs.length) (hc : c < 4) (x : Value) (f : Rep → Rep) (us' : Nat → Value)
    (hu : ∀ j, j ≠ i → us' j = us j) (hk : ∀ k, (us' i).ownBlock = some k → B ≤ k ∧ k < w.heap.size ∧ k ≠ gi ∧ k ≠ gk ∧ k ≠ gr) (hrd : Rd w (us' i) (f (p.rs[i]'hi)).l)
    (h0 : some (Value.bool (f (p.rs[i]'hi)).up) = if c = 0 then some x else some (.bool (p.rs[i]'hi).up))
    (h1 : some (us' i) = if c = 1 then some x else some (us i))
    (h2 : some (Value.int .i64 (f (p.rs[i]'hi)).y) = if c = 2 then some x else some (.int .i64 (p.rs[i]'hi).y))
    (h3 : some (Value.int .i64 (f (p.rs[i]'hi)).h) = if c = 3 then some x else some (.int .i64 (p.rs[i]'hi).h)) :
    OwnP B (w.setCell ⟨gr, i * 4 + c, none⟩ x) (p.setR i f) gi gk gr ci ck cr us' := by
  have hl : (p.rs.modify i f).length = p.rs.length := by simp
  have hun : ∀ j, j < p.rs.length → ∀ k, (us' j).ownBlock = some k → B ≤ k ∧ k < w.heap.size ∧ k ≠ gi ∧ k ≠ gk ∧ k ≠ gr := fun j hj k hk' => by
    by_cases e : j = i
    · subst e; exact hk k hk'
    · rw [hu j e] at hk'
      exact h.2.un j hj k hk'
  refine ⟨⟨rdv_far h.1.1 h.2.ir _ _, rdv_far h.1.2.1 h.2.kr _ _, ?_⟩, ?_⟩
  · show RdRs _ (.slice (some ⟨gr, 0, none⟩) (p.rs.modify i f).length cr) (p.rs.modify i f) us'
    rw [hl]
    refine rdrs_set h.1.2.2 i c hi hc h.2.fr x hl (fun j k1 k2 => ?_) (fun j k1 k2 e => ?_) (fun h2' => ?_) (fun h2' => ?_) (fun h2' => ?_) (fun h2' => ?_)
    · refine rd_block ?_ (fun e => (hun j k1 gr e).2.2.2.2 rfl) _ _
      by_cases e : j = i
      · subst e
        rw [modify_same k1]
        exact hrd
      · rw [modify_other k1 k2 e, hu j e]
        exact h.rdAt j k1
    · rw [modify_other k1 k2 e]
      exact ⟨rfl, hu j e, rfl, rfl⟩
    · rw [modify_same hi]; exact h0
    · exact h1
    · rw [modify_same hi]; exact h2
    · rw [modify_same hi]; exact h3
  · show Apart B _ (p.rs.modify i f).length gi gk gr us'
    rw [hl]
    have := h.2.set gr (i * 4 + c) x h.2.fr
    exact ⟨this.bi, this.bk, this.br, this.si, this.sk, this.sr, this.ik, this.ir, this.kr, this.fi, this.fk, this.fr, fun j hj k hk' => by
      have := hun j hj k hk'
      simpa using this⟩
theorem OwnP.setUp {B : Nat} {w : World} {p : Prt} {gi gk gr ci ck cr : Nat} {us : Nat → Value} (h : OwnP B w p gi gk gr ci ck cr us) (i : Nat) (hi : i < p.rs.length) (b : Bool) : OwnP B (w.setCell ⟨gr, i * 4, none⟩ (.bool b)) (p.setR i (fun r => { r with up := b })) gi gk gr ci ck cr us :=
  h.setRep i 0 hi (by omega) (.bool b) _ us (fun _ _ => rfl) (h.2.un i hi) (h.rdAt i hi) (by simp) (by simp) (by simp) (by simp)
theorem OwnP.setY {B : Nat} {w : World} {p : Prt} {gi gk gr ci ck cr : Nat} {us : Nat → Value} (h : OwnP B w p gi gk gr ci ck cr us) (i : Nat) (hi : i < p.rs.length) (n : Int) : OwnP B (w.setCell ⟨gr, i * 4 + 2, none⟩ (.int .i64 n)) (p.setR i (fun r => { r with y := n })) gi gk gr ci ck cr us :=
  h.setRep i 2 hi (by omega) (.int .i64 n) _ us (fun _ _ => rfl) (h.2.un i hi) (h.rdAt i hi) (by simp) (by simp) (by simp) (by simp)
theorem OwnP.setH {B : Nat} {w : World} {p : Prt} {gi gk gr ci ck cr : Nat} {us : Nat → Value} (h : OwnP B w p gi gk gr ci ck cr us) (i : Nat) (hi : i < p.rs.length) (n : Int) : OwnP B (w.setCell ⟨gr, i * 4 + 3, none⟩ (.int .i64 n)) (p.setR i (fun r => { r with h := n })) gi gk gr ci ck cr us :=
  h.setRep i 3 hi (by omega) (.int .i64 n) _ us (fun _ _ => rfl) (h.2.un i hi) (h.rdAt i hi) (by simp) (by simp) (by simp) (by simp)
theorem OwnP.setB {B : Nat} {w : World} {p : Prt} {gi gk gr ci ck cr : Nat} {us : Nat → Value} (h : OwnP B w p gi gk gr ci ck cr us) (i : Nat) (hi : i < p.rs.length) (u : Value) (l : List Int) (hr : Rd w u l) (hk : ∀ k, u.ownBlock = some k → B ≤ k ∧ k < w.heap.size ∧ k ≠ gi ∧ k ≠ gk ∧ k ≠ gr) : OwnP B (w.setCell ⟨gr, i * 4 + 1, none⟩ u) (p.setR i (fun r => { r with l := l })) gi gk gr ci ck cr (fun j => if j = i then u else us j) :=
  h.setRep i 1 hi (by omega) u _ _ (fun j hj => by simp [hj]) (by simpa using hk) (by simpa using hr) (by simp) (by simp) (by simp) (by simp)

end Go.Proofs.Ytkakagjffafdiaa
