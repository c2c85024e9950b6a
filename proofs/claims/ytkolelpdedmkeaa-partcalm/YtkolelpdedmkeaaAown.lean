/-
  Parts in memory of one's own: three blocks, and the bytes of the logs apart from them.
  Rows that a call owns: of bools, of numbers, of replicas; how they grow.
  slices.Clone of rows: of bools, of numbers, of replicas.
  Parts in new memory, whatever their lengths; boxes that hold a part.
  The walk of part.Copy: the same part, in new memory.
-/
import Derived.Test.YtkolelpdedmkeaaAplain
import Derived.Lib.BufferMore
import Derived.Test.YtkolelpdedmkeaaAseg
import Derived.Deep.DeepCutAuto
import Derived.Deep.RegionWith
namespace Go.Proofs.Ytkolelpdedmkeaa

section
open Go.RowKit
set_option linter.unusedVariables false
set_option linter.unusedSimpArgs false

theorem rd_block {w : World} {v : Value} {l : List Int} (h : Rd w v l) {b : Nat} (hb : v.ownBlock ≠ some b) (o : Nat) (x : Value) : Rd (w.setCell ⟨b, o, none⟩ x) v l := by
  obtain ⟨h3, ao, cap, rfl, r4, r5, r6, hc⟩ := h
  refine ⟨h3, ao, cap, rfl, r4, r5, r6, fun h0 => ?_⟩
  obtain ⟨g, off, rfl, hc'⟩ := hc h0
  refine ⟨g, off, rfl, fun i hi => ?_⟩
  have hne : g ≠ b := fun e => hb (by simp [Value.ownBlock, e])
  have hblk : (w.setCell ⟨b, o, none⟩ x).heap[g]? = w.heap[g]? := Below.heap_setCell w ⟨b, o, none⟩ x g hne
  have h1 := World.cell?_of_block (w := w) (w' := w.setCell ⟨b, o, none⟩ x) (a := ⟨g, off + i, none⟩) hblk
  rw [h1]
  exact hc' i hi

/-- Its blocks: from B on, no two the same; what lies in them may be stored to; no log's bytes lie there. -/
structure Apart (B : Nat) (w : World) (n : Nat) (gi gk gr : Nat) (us : Nat → Value) : Prop where
  bi : B ≤ gi
  bk : B ≤ gk
  br : B ≤ gr
  si : gi < w.heap.size
  sk : gk < w.heap.size
  sr : gr < w.heap.size
  ik : gi ≠ gk
  ir : gi ≠ gr
  kr : gk ≠ gr
  fi : ∀ o, w.frozen? ⟨gi, o, none⟩ = false
  fk : ∀ o, w.frozen? ⟨gk, o, none⟩ = false
  fr : ∀ o, w.frozen? ⟨gr, o, none⟩ = false
  un : ∀ i, i < n → ∀ k, (us i).ownBlock = some k → B ≤ k ∧ k < w.heap.size ∧ k ≠ gi ∧ k ≠ gk ∧ k ≠ gr

theorem Apart.below {B C : Nat} {w w' : World} {n gi gk gr : Nat} {us : Nat → Value} (h : Apart B w n gi gk gr us) (hC : w.heap.size ≤ C) (hb : Below C w w') : Apart B w' n gi gk gr us := by
  have hz := hb.size
  have a := h.si
  have b := h.sk
  have c := h.sr
  exact ⟨h.bi, h.bk, h.br, by omega, by omega, by omega, h.ik, h.ir, h.kr, fun o => (hb.frozen (p := ⟨gi, o, none⟩) (by show gi < C; omega)).trans (h.fi o), fun o => (hb.frozen (p := ⟨gk, o, none⟩) (by show gk < C; omega)).trans (h.fk o), fun o => (hb.frozen (p := ⟨gr, o, none⟩) (by show gr < C; omega)).trans (h.fr o), fun i hi k hk => by
    obtain ⟨x1, x2, x3⟩ := h.un i hi k hk
    exact ⟨x1, by omega, x3⟩⟩
theorem Apart.set {B : Nat} {w : World} {n gi gk gr : Nat} {us : Nat → Value} (h : Apart B w n gi gk gr us) (b o : Nat) (x : Value) (hf : ∀ o, w.frozen? ⟨b, o, none⟩ = false) : Apart B (w.setCell ⟨b, o, none⟩ x) n gi gk gr us := by
  have e : (w.setCell ⟨b, o, none⟩ x).heap.size = w.heap.size := by simp
  exact ⟨h.bi, h.bk, h.br, by rw [e]; exact h.si, by rw [e]; exact h.sk, by rw [e]; exact h.sr, h.ik, h.ir, h.kr, frozen_set hf _ _ _ h.fi, frozen_set hf _ _ _ h.fk, frozen_set hf _ _ _ h.fr, fun i hi k hk => by rw [e]; exact h.un i hi k hk⟩

/-- A part that is owned. -/
def OwnP (B : Nat) (w : World) (p : Prt) (gi gk gr ci ck cr : Nat) (us : Nat → Value) : Prop :=
  RdP w p (.slice (some ⟨gi, 0, none⟩) p.isr.length ci) (.slice (some ⟨gk, 0, none⟩) p.kn.length ck) (.slice (some ⟨gr, 0, none⟩) p.rs.length cr) us ∧ Apart B w p.rs.length gi gk gr us

theorem OwnP.below {B C : Nat} {w w' : World} {p : Prt} {gi gk gr ci ck cr : Nat} {us : Nat → Value} (h : OwnP B w p gi gk gr ci ck cr us) (hC : w.heap.size ≤ C) (hb : Below C w w') : OwnP B w' p gi gk gr ci ck cr us :=
  ⟨h.1.below hC hb, h.2.below hC hb⟩

theorem rdrs_far {w : World} {g n cap b : Nat} {rs : List Rep} {us : Nat → Value} (h : RdRs w (.slice (some ⟨g, 0, none⟩) n cap) rs us) (hne : g ≠ b) (hu : ∀ i, i < rs.length → (us i).ownBlock ≠ some b) (o : Nat) (x : Value) : RdRs (w.setCell ⟨b, o, none⟩ x) (.slice (some ⟨g, 0, none⟩) n cap) rs us := by
  obtain ⟨ao, cap', e, h1, h2, h4, h3⟩ := h
  refine ⟨ao, cap', e, h1, h2, h4, fun h0 => ?_⟩
  obtain ⟨g', off, rfl, hg⟩ := h3 h0
  simp only [Value.slice.injEq, Option.some.injEq, Addr.mk.injEq, and_true] at e
  obtain ⟨⟨rfl, rfl⟩, rfl, rfl⟩ := e
  refine ⟨g, 0, rfl, fun i hi => ?_⟩
  obtain ⟨r0, r1, r2, r3, r4⟩ := hg i hi
  exact ⟨rd_block r0 (hu i hi) _ _, (cell_far hne _ _ _).trans r1, (cell_far hne _ _ _).trans r2, (cell_far hne _ _ _).trans r3, (cell_far hne _ _ _).trans r4⟩
/-- What is stored elsewhere. -/
theorem OwnP.far {B : Nat} {w : World} {p : Prt} {gi gk gr ci ck cr : Nat} {us : Nat → Value} (h : OwnP B w p gi gk gr ci ck cr us) {b : Nat} (hf : ∀ o, w.frozen? ⟨b, o, none⟩ = false) (h1 : gi ≠ b) (h2 : gk ≠ b) (h3 : gr ≠ b) (h4 : ∀ i, i < p.rs.length → (us i).ownBlock ≠ some b) (o : Nat) (x : Value) : OwnP B (w.setCell ⟨b, o, none⟩ x) p gi gk gr ci ck cr us :=
  ⟨⟨rdv_far h.1.1 h1 o x, rdv_far h.1.2.1 h2 o x, rdrs_far h.1.2.2 h3 h4 o x⟩, h.2.set b o x hf⟩
/-- A box that lies ahead of all. -/
theorem OwnP.box {B : Nat} {w : World} {p : Prt} {gi gk gr ci ck cr : Nat} {us : Nat → Value} (h : OwnP B w p gi gk gr ci ck cr us) {b : Nat} (hf : ∀ o, w.frozen? ⟨b, o, none⟩ = false) (hb : b < B) (o : Nat) (x : Value) : OwnP B (w.setCell ⟨b, o, none⟩ x) p gi gk gr ci ck cr us := by
  have a1 := h.2.bi
  have a2 := h.2.bk
  have a3 := h.2.br
  refine h.far hf (by omega) (by omega) (by omega) (fun i hi e => ?_) o x
  have := (h.2.un i hi b e).1
  omega
theorem OwnP.setIsr {B : Nat} {w : World} {p : Prt} {gi gk gr ci ck cr : Nat} {us : Nat → Value} (h : OwnP B w p gi gk gr ci ck cr us) (i : Nat) (hi : i < p.isr.length) (b : Bool) : OwnP B (w.setCell ⟨gi, i, none⟩ (.bool b)) { p with isr := p.isr.set i b } gi gk gr ci ck cr us := by
  refine ⟨⟨?_, rdv_far h.1.2.1 (fun e => h.2.ik e.symm) _ _, rdrs_far h.1.2.2 (fun e => h.2.ir e.symm) (fun j hj e => (h.2.un j hj gi e).2.2.1 rfl) _ _⟩, h.2.set _ _ _ h.2.fi⟩
  have := rdv_set h.1.1 i (by simpa using hi) (h.2.fi i) (.bool b)
  rw [← List.map_set] at this
  simpa using this
theorem OwnP.setKn {B : Nat} {w : World} {p : Prt} {gi gk gr ci ck cr : Nat} {us : Nat → Value} (h : OwnP B w p gi gk gr ci ck cr us) (i : Nat) (hi : i < p.kn.length) (n : Int) : OwnP B (w.setCell ⟨gk, i, none⟩ (.int .i64 n)) { p with kn := p.kn.set i n } gi gk gr ci ck cr us := by
  refine ⟨⟨rdv_far h.1.1 h.2.ik _ _, ?_, rdrs_far h.1.2.2 (fun e => h.2.kr e.symm) (fun j hj e => (h.2.un j hj gk e).2.2.2.1 rfl) _ _⟩, h.2.set _ _ _ h.2.fk⟩
  have := rdv_set h.1.2.1 i (by simpa using hi) (h.2.fk i) (.int .i64 n)
  rw [← List.map_set] at this
  simpa using this

/-- One cell of a replica is stored: the four ways. -/
theorem rdrs_set {w : World} {g n cap : Nat} {rs rs' : List Rep} {us us' : Nat → Value} (h : RdRs w (.slice (some ⟨g, 0, none⟩) n cap) rs us) (i c : Nat) (hi : i < rs.length) (hc : c < 4) (hf : ∀ o, w.frozen? ⟨g, o, none⟩ = false) (x : Value)
    (hl : rs'.length = rs.length) (hb : ∀ j, (h1 : j < rs.length) → (h2 : j < rs'.length) → Rd (w.setCell ⟨g, i * 4 + c, none⟩ x) (us' j) (rs'[j]'h2).l)
    (hj : ∀ j, (h1 : j < rs.length) → (h2 : j < rs'.length) → j ≠ i → (rs'[j]'h2).up = (rs[j]'h1).up ∧ us' j = us j ∧ (rs'[j]'h2).y = (rs[j]'h1).y ∧ (rs'[j]'h2).h = (rs[j]'h1).h)
    (h0 : (h2 : i < rs'.length) → some (Value.bool (rs'[i]'h2).up) = if c = 0 then some x else some (.bool (rs[i]'hi).up))
    (h1 : (h2 : i < rs'.length) → some (us' i) = if c = 1 then some x else some (us i))
    (h2 : (h2 : i < rs'.length) → some (Value.int .i64 (rs'[i]'h2).y) = if c = 2 then some x else some (.int .i64 (rs[i]'hi).y))
    (h3 : (h2 : i < rs'.length) → some (Value.int .i64 (rs'[i]'h2).h) = if c = 3 then some x else some (.int .i64 (rs[i]'hi).h)) :
    RdRs (w.setCell ⟨g, i * 4 + c, none⟩ x) (.slice (some ⟨g, 0, none⟩) n cap) rs' us' := by
  obtain ⟨ao, cap', e, k1, k2, k4, k3⟩ := h
  obtain ⟨g', off, rfl, hg⟩ := k3 (by omega)
  simp only [Value.slice.injEq, Option.some.injEq, Addr.mk.injEq, and_true] at e
  obtain ⟨⟨rfl, rfl⟩, rfl, rfl⟩ := e
  refine ⟨_, cap, by rw [hl], by omega, k2, by simp, fun _ => ⟨g, 0, rfl, fun j hj' => ?_⟩⟩
  have hjr : j < rs.length := by omega
  refine ⟨hb j hjr hj', ?_⟩
  obtain ⟨i0, i1, i2, i3, i4⟩ := hg i hi
  simp only [Nat.zero_add] at i1 i2 i3 i4 ⊢
  have hcc : ∃ y, w.cell? ⟨g, i * 4 + c, none⟩ = some y := by
    rcases (show c = 0 ∨ c = 1 ∨ c = 2 ∨ c = 3 by omega) with rfl | rfl | rfl | rfl
    · exact ⟨_, i1⟩
    · exact ⟨_, i2⟩
    · exact ⟨_, i3⟩
    · exact ⟨_, i4⟩
  obtain ⟨y0, hcc⟩ := hcc
  have same : ∀ o, (w.setCell ⟨g, i * 4 + c, none⟩ x).cell? ⟨g, o, none⟩ = if o = i * 4 + c then some x else w.cell? ⟨g, o, none⟩ := by
    intro o
    by_cases e : o = i * 4 + c
    · subst e
      simp [go_sem, hcc]
    · have e' : ¬ i * 4 + c = o := fun h => e h.symm
      simp [go_sem, e, e']
  by_cases e : j = i
  · subst e
    simp only [same]
    rw [h0 hj', h1 hj', h2 hj', h3 hj', i1, i2, i3, i4]
    rcases (show c = 0 ∨ c = 1 ∨ c = 2 ∨ c = 3 by omega) with rfl | rfl | rfl | rfl <;> simp
  · obtain ⟨j0, j1, j2, j3, j4⟩ := hg j hjr
    simp only [Nat.zero_add] at j1 j2 j3 j4
    obtain ⟨q1, q2, q3, q4⟩ := hj j hjr hj' e
    simp only [same]
    rw [q1, q2, q3, q4, if_neg (by omega), if_neg (by omega), if_neg (by omega), if_neg (by omega)]
    exact ⟨j1, j2, j3, j4⟩

theorem modify_len {rs : List Rep} {i : Nat} {f : Rep → Rep} : (rs.modify i f).length = rs.length := by simp
theorem modify_same {rs : List Rep} {i : Nat} {f : Rep → Rep} (h : i < rs.length) (h' : i < (rs.modify i f).length) : (rs.modify i f)[i]'h' = f (rs[i]'h) := by simp
theorem modify_other {rs : List Rep} {i j : Nat} {f : Rep → Rep} (h : j < rs.length) (h' : j < (rs.modify i f).length) (e : j ≠ i) : (rs.modify i f)[j]'h' = rs[j]'h := by
  rw [List.getElem_modify, if_neg (fun h => e h.symm)]
theorem OwnP.rdAt {B : Nat} {w : World} {p : Prt} {gi gk gr ci ck cr : Nat} {us : Nat → Value} (h : OwnP B w p gi gk gr ci ck cr us) (i : Nat) (hi : i < p.rs.length) : Rd w (us i) (p.rs[i]'hi).l := by
  obtain ⟨ao, cap', e, k1, k2, k4, k3⟩ := h.1.2.2
  obtain ⟨g', off, rfl, hg⟩ := k3 (by omega)
  exact (hg i hi).1
theorem OwnP.setRep {B : Nat} {w : World} {p : Prt} {gi gk gr ci ck cr : Nat} {us : Nat → Value} (h : OwnP B w p gi gk gr ci ck cr us) (i c : Nat) (hi : i < p.rs.length) (hc : c < 4) (x : Value) (f : Rep → Rep) (us' : Nat → Value)
    (hu : ∀ j, j ≠ i → us' j = us j) (hk : ∀ k, (us' i).ownBlock = some k → B ≤ k ∧ k < w.heap.size ∧ k ≠ gi ∧ k ≠ gk ∧ k ≠ gr) (hrd : Rd w (us' i) (f (p.rs[i]'hi)).l)
    (h0 : some (Value.bool (f (p.rs[i]'hi)).up) = if c = 0 then some x else some (.bool (p.rs[i]'hi).up))
    (h1 : some (us' i) = if c = 1 then some x else some (us i))
    (h2 : some (Value.int .i64 (f (p.rs[i]'hi)).y) = if c = 2 then some x else some (.int .i64 (p.rs[i]'hi).y))
    (h3 : some (Value.int .i64 (f (p.rs[i]'hi)).h) = if c = 3 then some x else some (.int .i64 (p.rs[i]'hi).h)) :
    OwnP B (w.setCell ⟨gr, i * 4 + c, none⟩ x) (p.setR i f) gi gk gr ci ck cr us' := by
  have hl : (p.rs.modify i f).length = p.rs.length := by simp
  have hun : ∀ j, j < p.rs.length → ∀ k, (us' j).ownBlock = some k → B ≤ k ∧ k < w.heap.size ∧ k ≠ gi ∧ k ≠ gk ∧ k ≠ gr := fun j hj k hk' => by
    by_cases e : j = i
    · subst e; exact hk k hk'
    · rw [hu j e] at hk'
      exact h.2.un j hj k hk'
  refine ⟨⟨rdv_far h.1.1 h.2.ir _ _, rdv_far h.1.2.1 h.2.kr _ _, ?_⟩, ?_⟩
  · show RdRs _ (.slice (some ⟨gr, 0, none⟩) (p.rs.modify i f).length cr) (p.rs.modify i f) us'
    rw [hl]
    refine rdrs_set h.1.2.2 i c hi hc h.2.fr x hl (fun j k1 k2 => ?_) (fun j k1 k2 e => ?_) (fun h2' => ?_) (fun h2' => ?_) (fun h2' => ?_) (fun h2' => ?_)
    · refine rd_block ?_ (fun e => (hun j k1 gr e).2.2.2.2 rfl) _ _
      by_cases e : j = i
      · subst e
        rw [modify_same k1]
        exact hrd
      · rw [modify_other k1 k2 e, hu j e]
        exact h.rdAt j k1
    · rw [modify_other k1 k2 e]
      exact ⟨rfl, hu j e, rfl, rfl⟩
    · rw [modify_same hi]; exact h0
    · exact h1
    · rw [modify_same hi]; exact h2
    · rw [modify_same hi]; exact h3
  · show Apart B _ (p.rs.modify i f).length gi gk gr us'
    rw [hl]
    have := h.2.set gr (i * 4 + c) x h.2.fr
    exact ⟨this.bi, this.bk, this.br, this.si, this.sk, this.sr, this.ik, this.ir, this.kr, this.fi, this.fk, this.fr, fun j hj k hk' => by
      have := hun j hj k hk'
      simpa using this⟩
theorem OwnP.setUp {B : Nat} {w : World} {p : Prt} {gi gk gr ci ck cr : Nat} {us : Nat → Value} (h : OwnP B w p gi gk gr ci ck cr us) (i : Nat) (hi : i < p.rs.length) (b : Bool) : OwnP B (w.setCell ⟨gr, i * 4, none⟩ (.bool b)) (p.setR i (fun r => { r with up := b })) gi gk gr ci ck cr us :=
  h.setRep i 0 hi (by omega) (.bool b) _ us (fun _ _ => rfl) (h.2.un i hi) (h.rdAt i hi) (by simp) (by simp) (by simp) (by simp)
theorem OwnP.setY {B : Nat} {w : World} {p : Prt} {gi gk gr ci ck cr : Nat} {us : Nat → Value} (h : OwnP B w p gi gk gr ci ck cr us) (i : Nat) (hi : i < p.rs.length) (n : Int) : OwnP B (w.setCell ⟨gr, i * 4 + 2, none⟩ (.int .i64 n)) (p.setR i (fun r => { r with y := n })) gi gk gr ci ck cr us :=
  h.setRep i 2 hi (by omega) (.int .i64 n) _ us (fun _ _ => rfl) (h.2.un i hi) (h.rdAt i hi) (by simp) (by simp) (by simp) (by simp)
theorem OwnP.setH {B : Nat} {w : World} {p : Prt} {gi gk gr ci ck cr : Nat} {us : Nat → Value} (h : OwnP B w p gi gk gr ci ck cr us) (i : Nat) (hi : i < p.rs.length) (n : Int) : OwnP B (w.setCell ⟨gr, i * 4 + 3, none⟩ (.int .i64 n)) (p.setR i (fun r => { r with h := n })) gi gk gr ci ck cr us :=
  h.setRep i 3 hi (by omega) (.int .i64 n) _ us (fun _ _ => rfl) (h.2.un i hi) (h.rdAt i hi) (by simp) (by simp) (by simp) (by simp)
theorem OwnP.setB {B : Nat} {w : World} {p : Prt} {gi gk gr ci ck cr : Nat} {us : Nat → Value} (h : OwnP B w p gi gk gr ci ck cr us) (i : Nat) (hi : i < p.rs.length) (u : Value) (l : List Int) (hr : Rd w u l) (hk : ∀ k, u.ownBlock = some k → B ≤ k ∧ k < w.heap.size ∧ k ≠ gi ∧ k ≠ gk ∧ k ≠ gr) : OwnP B (w.setCell ⟨gr, i * 4 + 1, none⟩ u) (p.setR i (fun r => { r with l := l })) gi gk gr ci ck cr (fun j => if j = i then u else us j) :=
  h.setRep i 1 hi (by omega) u _ _ (fun j hj => by simp [hj]) (by simpa using hk) (by simpa using hr) (by simp) (by simp) (by simp) (by simp)
end

section
open Go.RowKit
set_option linter.unusedVariables false
set_option linter.unusedSimpArgs false

def zeroR : Value := .agg #[.bool false, .slice none 0 0, .int .i64 0, .int .i64 0]
theorem infoRep : (Try.prog.info? 63).map (fun i => (i.zero, i.size, i.bytes)) = some (some zeroR, 4, 48) := by kernel_rfl


/-- The cells of replicas, whose bytes' slices are told apart. -/
def repCells (us : Nat → Value) : List Rep → Nat → List Value
  | [], _ => []
  | r :: rs, k => .bool r.up :: us k :: .int .i64 r.y :: .int .i64 r.h :: repCells us rs (k + 1)
theorem repCells_len (us : Nat → Value) (rs : List Rep) (k : Nat) : (repCells us rs k).length = rs.length * 4 := by
  induction rs generalizing k with
  | nil => rfl
  | cons r rs ih => simp only [repCells, List.length_cons, ih]; omega
theorem repCells_at (us : Nat → Value) (rs : List Rep) (k i : Nat) (h : i < rs.length) : (repCells us rs k)[i * 4]? = some (.bool (rs[i]'h).up) ∧ (repCells us rs k)[i * 4 + 1]? = some (us (k + i)) ∧ (repCells us rs k)[i * 4 + 2]? = some (.int .i64 (rs[i]'h).y) ∧ (repCells us rs k)[i * 4 + 3]? = some (.int .i64 (rs[i]'h).h) := by
  induction rs generalizing k i with
  | nil => simp at h
  | cons r rs ih =>
    cases i with
    | zero => simp [repCells]
    | succ i =>
      have := ih (k + 1) i (by simpa using h)
      have e : (i + 1) * 4 = i * 4 + 4 := by omega
      simp only [repCells, e, List.getElem_cons_succ]
      rw [show i * 4 + 4 + 1 = (i * 4 + 1) + 4 by omega, show i * 4 + 4 + 2 = (i * 4 + 2) + 4 by omega, show i * 4 + 4 + 3 = (i * 4 + 3) + 4 by omega]
      simp only [List.getElem?_cons_succ]
      rw [show k + (i + 1) = k + 1 + i by omega]
      exact this
theorem repCells_congr {us us' : Nat → Value} (rs : List Rep) (k : Nat) (h : ∀ i, i < rs.length → us (k + i) = us' (k + i)) : repCells us rs k = repCells us' rs k := by
  induction rs generalizing k with
  | nil => rfl
  | cons r rs ih =>
    simp only [repCells]
    rw [ih (k + 1) (fun i hi => by have := h (i + 1) (by simpa using hi); rwa [show k + (i + 1) = k + 1 + i by omega] at this), show us k = us' k from h 0 (by simp)]
theorem repCells_set (us : Nat → Value) (rs : List Rep) (k i : Nat) (h : i < rs.length) (u : Value) : (repCells us rs k).set (i * 4 + 1) u = repCells (fun j => if j = k + i then u else us j) rs k := by
  induction rs generalizing k i with
  | nil => simp at h
  | cons r rs ih =>
    cases i with
    | zero =>
      simp only [repCells, Nat.zero_mul, Nat.zero_add, List.set_cons_succ, List.set_cons_zero, Nat.add_zero, if_true]
      rw [repCells_congr rs (k + 1) (us := us) (us' := fun j => if j = k then u else us j) (fun i _ => by simp [show ¬ k + 1 + i = k by omega])]
    | succ i =>
      have := ih (k + 1) i (by simpa using h)
      rw [show (i + 1) * 4 + 1 = (i * 4 + 1) + 4 by omega]
      simp only [repCells, List.set_cons_succ]
      rw [this, show k + 1 + i = k + (i + 1) by omega, if_neg (by omega)]
theorem repCells_snoc (us : Nat → Value) (rs : List Rep) (r : Rep) (k : Nat) : repCells us (rs ++ [r]) k = repCells us rs k ++ [.bool r.up, us (k + rs.length), .int .i64 r.y, .int .i64 r.h] := by
  induction rs generalizing k with
  | nil => simp [repCells]
  | cons x rs ih =>
    simp only [List.cons_append, repCells, List.length_cons]
    rw [ih (k + 1), show k + 1 + rs.length = k + (rs.length + 1) by omega]
theorem repCells_one {us : Nat → Value} {rs : List Rep} {k : Nat} (h : ∀ i, i < rs.length → (us (k + i)).oneCell' = true) : ∀ u ∈ repCells us rs k, u.oneCell' = true := by
  induction rs generalizing k with
  | nil => intro u hu; simp [repCells] at hu
  | cons r rs ih =>
    intro u hu
    simp only [repCells, List.mem_cons] at hu
    rcases hu with rfl | rfl | rfl | rfl | hu
    · rfl
    · exact h 0 (by simp)
    · rfl
    · rfl
    · exact ih (fun i hi => by have := h (i + 1) (by simpa using hi); rwa [show k + (i + 1) = k + 1 + i by omega] at this) u hu
theorem OwnV.rdrs {B : Nat} {v : Value} {rs : List Rep} {us : Nat → Value} {w : World} (h : OwnV B 63 4 v rs.length (repCells us rs 0) w) (hr : ∀ i, (hi : i < rs.length) → Rd w (us i) (rs[i]'hi).l) : RdRs w v rs us := by
  rcases h.1.2 with ⟨rfl, h2⟩ | ⟨g, cap, cur, rfl, r2, r3, r4, r5, _⟩
  · exact ⟨none, 0, by rw [h2], by omega, by simp [maxLen], fun _ => rfl, fun h => by omega⟩
  · refine ⟨_, cap, rfl, by omega, r5, by simp, fun _ => ⟨g, 0, rfl, fun i hi => ?_⟩⟩
    obtain ⟨c0, c1, c2, c3⟩ := repCells_at us rs 0 i hi
    simp only [Nat.zero_add] at c1 ⊢
    refine ⟨hr i hi, ?_, ?_, ?_, ?_⟩
    · rw [h.1.cellAt _ (by omega)]; exact c0
    · rw [h.1.cellAt _ (by omega)]; exact c1
    · rw [h.1.cellAt _ (by omega)]; exact c2
    · rw [h.1.cellAt _ (by omega)]; exact c3
theorem rd_one' {w : World} {v : Value} {l : List Int} (h : Rd w v l) : v.oneCell' = true := by
  obtain ⟨_, ao, cap, rfl, _⟩ := h
  rfl

section
variable {w : World} {ops : Array Oper} {rest : List Oper} {o : Oper} {a : Act} {Q : Exit → Act → World → Prop}
theorem wp_appR (hgd : o.guard = none) (s x : Operand)
    (ho : o.op = .call { callee := .builtin .append, args := #[s, x], argTypes := #[24, 24] })
    (B : Nat) (v : Value) (n : Nat) (xs : List Value) (hs : a.eval s = v) (hown : OwnV B 63 4 v n xs w) (ad : Addr) (m cap : Nat) (rs : List Rep) (us : Nat → Value) (hx : a.eval x = .slice (some ad) m cap) (hr : RdRs w (.slice (some ad) m cap) rs us) (hlen : (n + m) * 48 ≤ 140737488355328)
    (h : ∀ v' w', OwnV B 63 4 v' (n + m) (xs ++ repCells us rs 0) w' → Below B w w' → wpList Try.prog ops Q rest (a.put o.dst v') w') : wpList Try.prog ops Q (o :: rest) a w := by
  obtain ⟨i, hi, hz0, hz1, hz2⟩ := info_parts infoRep
  obtain ⟨ao, c', e, h1, h2, h4, h3⟩ := hr
  simp only [Value.slice.injEq] at e
  obtain ⟨rfl, rfl, rfl⟩ := e
  refine wpList_append_own w hgd s x _ ho B _ i zeroR 4 48 Try.underlying24 hi hz0 hz1 hz2 rfl (by decide) v _ _ hs hown.1 ad _ cap (repCells us rs 0) hx (repCells_len us rs 0) ?_ ?_ (by unfold maxLen; omega) (by omega) hown.2 ?_
  · intro j u hj
    have hj' : j < rs.length * 4 := by
      have := (List.getElem?_eq_some_iff.1 hj).1
      rw [repCells_len] at this
      exact this
    obtain ⟨g, off, e, hc⟩ := h3 (by omega)
    obtain rfl := Option.some.inj e
    obtain ⟨_, d0, d1, d2, d3⟩ := hc (j / 4) (by omega)
    obtain ⟨c0, c1, c2, c3⟩ := repCells_at us rs 0 (j / 4) (by omega)
    rw [Addr.add_lit]
    rw [Nat.zero_add] at c1
    rcases (show j = j / 4 * 4 ∨ j = j / 4 * 4 + 1 ∨ j = j / 4 * 4 + 2 ∨ j = j / 4 * 4 + 3 by omega) with e | e | e | e
    · rw [e] at hj ⊢
      rw [c0] at hj
      rw [d0]
      exact hj
    · rw [e] at hj ⊢
      rw [c1] at hj
      rw [← Nat.add_assoc, d1]
      exact hj
    · rw [e] at hj ⊢
      rw [c2] at hj
      rw [← Nat.add_assoc, d2]
      exact hj
    · rw [e] at hj ⊢
      rw [c3] at hj
      rw [← Nat.add_assoc, d3]
      exact hj
  · exact repCells_one (fun i hi => by
      obtain ⟨g, off, e, hc⟩ := h3 (by omega)
      rw [Nat.zero_add]
      exact rd_one' (hc i hi).1)
  · intro v' w' ho' hg _
    exact h v' w' ⟨ho', Nat.le_trans hown.2 hg.size⟩ ((Below.refl B w).grown hg hown.2 (fun k hk => (hown.1.lt k hk).1))
end
end

section
open Go.RowKit
set_option linter.unusedVariables false
set_option linter.unusedSimpArgs false







set_option maxRecDepth 100000 in
set_option maxHeartbeats 1000000 in
theorem cloneR_none (w : World) : Calls Try.prog 71 #[.slice none 0 0] w fun e w' => ∃ v, e = .returned v ∧ OwnV w.heap.size 63 4 v 0 [] w' ∧ Below w.heap.size w w' := by
  have e0 := Lib.run_eql_slice_nil_nil (P := Try.prog) w (t := 24) 0 0 Try.underlying24
  go_enter Try.func71, Try.ntmps71
  go_wp2
  go_ret
  exact ⟨_, rfl, ownV_nil _ _ _ _ (Nat.le_refl _), Below.refl _ _⟩

set_option maxRecDepth 100000 in
set_option maxHeartbeats 1000000 in
theorem cloneR_some (rs : List Rep) (us : Nat → Value) (ad : Addr) (m cap : Nat) (w : World) (hl : m * 48 ≤ 140737488355328) (h : RdRs w (.slice (some ad) m cap) rs us) : Calls Try.prog 71 #[.slice (some ad) m cap] w fun e w' => ∃ v, e = .returned v ∧ OwnV w.heap.size 63 4 v m (repCells us rs 0) w' ∧ Below w.heap.size w w' := by
  have e0 := Lib.run_eql_slice_some_nil (P := Try.prog) w (t := 24) ad m cap Try.underlying24
  have H : Hid (RdRs w (.slice (some ad) m cap) rs us) := h
  have o0 := ownV_none w 63 4
  clear h
  go_enter Try.func71, Try.ntmps71
  go_wp2_with (at_builtin; refine wp_appR rfl _ _ rfl _ _ _ _ rfl o0 _ _ _ rs us rfl (H.out.below (Nat.le_refl _) (bbox _ _)) (by omega) ?_)
  intro v' w' hown hb
  clear o0 H
  go_wp2
  go_ret
  exact ⟨_, rfl, by simpa using hown, (bbox _ _).trans hb⟩

theorem cloneR_any (rs : List Rep) (us : Nat → Value) (v : Value) (w : World) (hl : rs.length * 48 ≤ 140737488355328) (h : RdRs w v rs us) : Calls Try.prog 71 #[v] w fun e w' => ∃ v', e = .returned v' ∧ OwnV w.heap.size 63 4 v' rs.length (repCells us rs 0) w' ∧ Below w.heap.size w w' := by
  have H := h
  obtain ⟨ao, cap, rfl, h1, h2, h4, h3⟩ := h
  cases ao with
  | none =>
    obtain rfl := h4 rfl
    have hb : rs = [] := List.eq_nil_of_length_eq_zero (by omega)
    subst hb
    exact cloneR_none w
  | some ad => exact cloneR_some rs us ad _ cap w hl H
end

section
open Go.RowKit
set_option linter.unusedVariables false
set_option linter.unusedSimpArgs false


/-- A part in new memory, from B on. -/
structure FreshP (B : Nat) (w : World) (p : Prt) (vi vk vr : Value) (us : Nat → Value) : Prop where
  oi : OwnV B 4 1 vi p.isr.length (p.isr.map Value.bool) w
  ok : OwnV B 3 1 vk p.kn.length (p.kn.map (Value.int .i64)) w
  or : OwnV B 63 4 vr p.rs.length (repCells us p.rs 0) w
  rd : ∀ i, (h : i < p.rs.length) → Rd w (us i) (p.rs[i]'h).l
  ik : ∀ k, vi.ownBlock = some k → vk.ownBlock ≠ some k
  ir : ∀ k, vi.ownBlock = some k → vr.ownBlock ≠ some k
  kr : ∀ k, vk.ownBlock = some k → vr.ownBlock ≠ some k
  un : ∀ i, i < p.rs.length → ∀ k, (us i).ownBlock = some k → B ≤ k ∧ k < w.heap.size ∧ vi.ownBlock ≠ some k ∧ vk.ownBlock ≠ some k ∧ vr.ownBlock ≠ some k
theorem FreshP.rdp {B : Nat} {w : World} {p : Prt} {vi vk vr : Value} {us : Nat → Value} (h : FreshP B w p vi vk vr us) : RdP w p vi vk vr us :=
  ⟨h.oi.rdv, h.ok.rdv, h.or.rdrs h.rd⟩
theorem FreshP.mono {B C : Nat} {w : World} {p : Prt} {vi vk vr : Value} {us : Nat → Value} (h : FreshP B w p vi vk vr us) (hC : C ≤ B) : FreshP C w p vi vk vr us :=
  ⟨h.oi.mono hC, h.ok.mono hC, h.or.mono hC, h.rd, h.ik, h.ir, h.kr, fun i hi k hk => by
    obtain ⟨x1, x2⟩ := h.un i hi k hk
    exact ⟨by omega, x2⟩⟩
theorem FreshP.below {B C : Nat} {w w' : World} {p : Prt} {vi vk vr : Value} {us : Nat → Value} (h : FreshP B w p vi vk vr us) (hC : w.heap.size ≤ C) (hb : Below C w w') : FreshP B w' p vi vk vr us :=
  ⟨h.oi.below hC hb, h.ok.below hC hb, h.or.below hC hb, fun i hi => (h.rd i hi).below hC hb, h.ik, h.ir, h.kr, fun i hi k hk => by
    obtain ⟨x1, x2, x3⟩ := h.un i hi k hk
    exact ⟨x1, Nat.lt_of_lt_of_le x2 hb.size, x3⟩⟩
theorem FreshP.box {B : Nat} {w : World} {p : Prt} {vi vk vr : Value} {us : Nat → Value} (h : FreshP B w p vi vk vr us) {b : Nat} (hb : b < B) (o : Nat) (x : Value) : FreshP B (w.setCell ⟨b, o, none⟩ x) p vi vk vr us :=
  ⟨h.oi.far (fun e => by have := (h.oi.blk b e).1; omega) o x, h.ok.far (fun e => by have := (h.ok.blk b e).1; omega) o x, h.or.far (fun e => by have := (h.or.blk b e).1; omega) o x, fun i hi => rd_block (h.rd i hi) (fun e => by have := (h.un i hi b e).1; omega) o x, h.ik, h.ir, h.kr, fun i hi k hk => by simpa using h.un i hi k hk⟩
theorem FreshP.own {B : Nat} {w : World} {p : Prt} {vi vk vr : Value} {us : Nat → Value} (h : FreshP B w p vi vk vr us) (h1 : 0 < p.isr.length) (h2 : 0 < p.kn.length) (h3 : 0 < p.rs.length) :
    ∃ gi gk gr ci ck cr, vi = .slice (some ⟨gi, 0, none⟩) p.isr.length ci ∧ vk = .slice (some ⟨gk, 0, none⟩) p.kn.length ck ∧ vr = .slice (some ⟨gr, 0, none⟩) p.rs.length cr ∧ OwnP B w p gi gk gr ci ck cr us := by
  have hr := h.rdp
  obtain ⟨gi, ci, rfl, i1, i2, _, _, i3, _⟩ := h.oi.form h1
  obtain ⟨gk, ck, rfl, k1, k2, _, _, k3, _⟩ := h.ok.form h2
  obtain ⟨gr, cr, rfl, r1, r2, _, _, r3, _⟩ := h.or.form h3
  have e1 := h.ik gi rfl
  have e2 := h.ir gi rfl
  have e3 := h.kr gk rfl
  simp [Value.ownBlock] at e1 e2 e3
  refine ⟨gi, gk, gr, ci, ck, cr, rfl, rfl, rfl, hr, ⟨i1, k1, r1, i2, k2, r2, fun e => e1 e.symm, fun e => e2 e.symm, fun e => e3 e.symm, i3, k3, r3, fun i hi k hk => ?_⟩⟩
  obtain ⟨x1, x2, x3, x4, x5⟩ := h.un i hi k hk
  simp [Value.ownBlock] at x3 x4 x5
  exact ⟨x1, x2, fun e => x3 e.symm, fun e => x4 e.symm, fun e => x5 e.symm⟩

/-- A box that holds a part, and may be stored to. -/
def PB (w : World) (b : Nat) (p : Prt) (vi vk vr : Value) : Prop := b < w.heap.size ∧ PBox w b p vi vk vr ∧ ∀ o, w.frozen? ⟨b, o, none⟩ = false
theorem PB.below {w w' : World} {b C : Nat} {p : Prt} {vi vk vr : Value} (h : PB w b p vi vk vr) (hg : b < C) (hb : Below C w w') : PB w' b p vi vk vr :=
  ⟨Nat.lt_of_lt_of_le h.1 hb.size, h.2.1.below hg hb, fun o => (hb.frozen (p := ⟨b, o, none⟩) hg).trans (h.2.2 o)⟩
theorem PB.far {w : World} {b : Nat} {p : Prt} {vi vk vr : Value} (h : PB w b p vi vk vr) {g : Nat} (hg : b ≠ g) (o : Nat) (x : Value) : PB (w.setCell ⟨g, o, none⟩ x) b p vi vk vr := by
  obtain ⟨h1, ⟨a0, a1, a2, a3, a4, a5, a6⟩, h3⟩ := h
  exact ⟨by simpa using h1, ⟨(cell_far hg _ _ _).trans a0, (cell_far hg _ _ _).trans a1, (cell_far hg _ _ _).trans a2, (cell_far hg _ _ _).trans a3, (cell_far hg _ _ _).trans a4, (cell_far hg _ _ _).trans a5, (cell_far hg _ _ _).trans a6⟩, fun o' => (frozen_far hg _ _ _).trans (h3 o')⟩
theorem pb_new (w : World) (p : Prt) (vi vk vr : Value) (T : TypeId) (b : Nat) (hb : b = w.heap.size) : PB (w.alloc (.cells #[.int .i64 p.ep, .int .i64 p.ld, vi, vk, vr, .int .i64 p.fw, .int .i64 p.bs] T)) b p vi vk vr := by
  subst hb
  exact ⟨by simp, pbox_new w p vi vk vr T, fun o => by simp⟩
theorem PB.setI {w : World} {b : Nat} {p : Prt} {vi vk vr : Value} (h : PB w b p vi vk vr) (x : Value) : PB (w.setCell ⟨b, 2, none⟩ x) b p x vk vr := by
  obtain ⟨h1, ⟨a0, a1, a2, a3, a4, a5, a6⟩, h3⟩ := h
  exact ⟨by simpa using h1, ⟨by simp [go_sem, a0, a2], by simp [go_sem, a1, a2], by simp [go_sem, a2], by simp [go_sem, a3, a2], by simp [go_sem, a4, a2], by simp [go_sem, a5, a2], by simp [go_sem, a6, a2]⟩, fun o' => by simp [go_sem, h3]⟩
theorem PB.setK {w : World} {b : Nat} {p : Prt} {vi vk vr : Value} (h : PB w b p vi vk vr) (x : Value) : PB (w.setCell ⟨b, 3, none⟩ x) b p vi x vr := by
  obtain ⟨h1, ⟨a0, a1, a2, a3, a4, a5, a6⟩, h3⟩ := h
  exact ⟨by simpa using h1, ⟨by simp [go_sem, a0, a3], by simp [go_sem, a1, a3], by simp [go_sem, a2, a3], by simp [go_sem, a3], by simp [go_sem, a4, a3], by simp [go_sem, a5, a3], by simp [go_sem, a6, a3]⟩, fun o' => by simp [go_sem, h3]⟩
theorem PB.setR {w : World} {b : Nat} {p : Prt} {vi vk vr : Value} (h : PB w b p vi vk vr) (x : Value) : PB (w.setCell ⟨b, 4, none⟩ x) b p vi vk x := by
  obtain ⟨h1, ⟨a0, a1, a2, a3, a4, a5, a6⟩, h3⟩ := h
  exact ⟨by simpa using h1, ⟨by simp [go_sem, a0, a4], by simp [go_sem, a1, a4], by simp [go_sem, a2, a4], by simp [go_sem, a3, a4], by simp [go_sem, a4], by simp [go_sem, a5, a4], by simp [go_sem, a6, a4]⟩, fun o' => by simp [go_sem, h3]⟩
/-- All seven cells are stored. -/
def put7 (w : World) (b : Nat) (p : Prt) (vi vk vr : Value) : World := ((((((w.setCell ⟨b, 0, none⟩ (.int .i64 p.ep)).setCell ⟨b, 1, none⟩ (.int .i64 p.ld)).setCell ⟨b, 2, none⟩ vi).setCell ⟨b, 3, none⟩ vk).setCell ⟨b, 4, none⟩ vr).setCell ⟨b, 5, none⟩ (.int .i64 p.fw)).setCell ⟨b, 6, none⟩ (.int .i64 p.bs)
theorem PB.put {w : World} {b : Nat} {q : Prt} {ui uk ur : Value} (h : PB w b q ui uk ur) (p : Prt) (vi vk vr : Value) : PB (put7 w b p vi vk vr) b p vi vk vr := by
  obtain ⟨h1, ⟨a0, a1, a2, a3, a4, a5, a6⟩, h3⟩ := h
  unfold put7
  exact ⟨by simpa using h1, ⟨by simp [go_sem, a0], by simp [go_sem, a1], by simp [go_sem, a2], by simp [go_sem, a3], by simp [go_sem, a4], by simp [go_sem, a5], by simp [go_sem, a6]⟩, fun o' => by simp [go_sem, h3]⟩
theorem FreshP.put {B : Nat} {w : World} {p : Prt} {vi vk vr : Value} {us : Nat → Value} (h : FreshP B w p vi vk vr us) {b : Nat} (hb : b < B) (q : Prt) (x y z : Value) : FreshP B (put7 w b q x y z) p vi vk vr us := by
  unfold put7
  exact ((((((h.box hb _ _).box hb _ _).box hb _ _).box hb _ _).box hb _ _).box hb _ _).box hb _ _
theorem below_put {B b : Nat} {w0 w : World} (h : Below B w0 w) (hb : B ≤ b) (q : Prt) (x y z : Value) : Below B w0 (put7 w b q x y z) := by
  unfold put7
  exact ((((((h.setCell hb _).setCell hb _).setCell hb _).setCell hb _).setCell hb _).setCell hb _).setCell hb _
theorem put7_size (w : World) (b : Nat) (q : Prt) (x y z : Value) : (put7 w b q x y z).heap.size = w.heap.size := by unfold put7; simp
theorem PB.putFar {w : World} {b : Nat} {p : Prt} {vi vk vr : Value} (h : PB w b p vi vk vr) {g : Nat} (hg : b ≠ g) (q : Prt) (x y z : Value) : PB (put7 w g q x y z) b p vi vk vr := by
  unfold put7
  exact ((((((h.far hg _ _).far hg _ _).far hg _ _).far hg _ _).far hg _ _).far hg _ _).far hg _ _
theorem OwnP.put {B : Nat} {w : World} {p : Prt} {gi gk gr ci ck cr : Nat} {us : Nat → Value} (h : OwnP B w p gi gk gr ci ck cr us) {b : Nat} (hf : ∀ o, w.frozen? ⟨b, o, none⟩ = false) (hb : b < B) (q : Prt) (x y z : Value) : OwnP B (put7 w b q x y z) p gi gk gr ci ck cr us := by
  unfold put7
  have f1 := frozen_set hf b 0 (.int .i64 q.ep) hf
  have f2 := frozen_set f1 b 1 (.int .i64 q.ld) f1
  have f3 := frozen_set f2 b 2 x f2
  have f4 := frozen_set f3 b 3 y f3
  have f5 := frozen_set f4 b 4 z f4
  have f6 := frozen_set f5 b 5 (.int .i64 q.fw) f5
  exact ((((((h.box hf hb _ _).box f1 hb _ _).box f2 hb _ _).box f3 hb _ _).box f4 hb _ _).box f5 hb _ _).box f6 hb _ _

/-- Its lists are within Go's bounds. -/
structure Prt.fits (p : Prt) : Prop where
  i : p.isr.length ≤ 140737488355328
  k : p.kn.length * 8 ≤ 140737488355328
  r : p.rs.length * 48 ≤ 140737488355328
  s : p.small
theorem nil_rdp (w : World) : RdP w Prt.zero (.slice none 0 0) (.slice none 0 0) (.slice none 0 0) (fun _ => .slice none 0 0) :=
  ⟨⟨none, 0, rfl, by simp [Prt.zero], by simp [maxLen], fun _ => rfl, fun h => by simp [Prt.zero] at h⟩, ⟨none, 0, rfl, by simp [Prt.zero], by simp [maxLen], fun _ => rfl, fun h => by simp [Prt.zero] at h⟩, ⟨none, 0, rfl, by simp [Prt.zero], by simp [maxLen], fun _ => rfl, fun h => by simp [Prt.zero] at h⟩⟩
end

section
open Go.RowKit
set_option linter.unusedVariables false
set_option linter.unusedSimpArgs false

abbrev nilV : Value := .slice none 0 0
/-- In the midst of the copy: the bytes of the first k replicas are new. -/
structure CopySt (B : Nat) (w : World) (b : Nat) (p : Prt) (vi vk vr : Value) (us new : Nat → Value) (k : Nat) (wr : World) : Prop where
  bel : Below w.heap.size w wr
  bs : w.heap.size ≤ b
  pb : PB wr b p vi vk vr
  pz : PB wr (b + 1) Prt.zero nilV nilV nilV
  bB : b + 1 < B
  oi : OwnV B 4 1 vi p.isr.length (p.isr.map Value.bool) wr
  ok : OwnV B 3 1 vk p.kn.length (p.kn.map (Value.int .i64)) wr
  or : OwnV B 63 4 vr p.rs.length (repCells (fun j => if j < k then new j else us j) p.rs 0) wr
  rd : ∀ i, (h : i < p.rs.length) → i < k → Rd wr (new i) (p.rs[i]'h).l
  ik : ∀ k, vi.ownBlock = some k → vk.ownBlock ≠ some k
  ir : ∀ k, vi.ownBlock = some k → vr.ownBlock ≠ some k
  kr : ∀ k, vk.ownBlock = some k → vr.ownBlock ≠ some k
  un : ∀ i, i < p.rs.length → i < k → ∀ k, (new i).ownBlock = some k → B ≤ k ∧ k < wr.heap.size ∧ vi.ownBlock ≠ some k ∧ vk.ownBlock ≠ some k ∧ vr.ownBlock ≠ some k
theorem Own.blk {B : Nat} {v : Value} {l : List Int} {w : World} (h : Own B v l w) (k : Nat) (hk : v.ownBlock = some k) : B ≤ k ∧ k < w.heap.size := h.1.lt k hk
theorem CopySt.step {B : Nat} {w : World} {b : Nat} {p : Prt} {vi vk : Value} {us new : Nat → Value} {k : Nat} {wr W : World} {gr cr : Nat} {v : Value} (h : CopySt B w b p vi vk (.slice (some ⟨gr, 0, none⟩) p.rs.length cr) us new k wr) (hk : k < p.rs.length) (hb : Below wr.heap.size wr W) (ho : Own wr.heap.size v (p.rs[k]'hk).l W) :
    CopySt B w b p vi vk (.slice (some ⟨gr, 0, none⟩) p.rs.length cr) us (fun j => if j = k then v else new j) (k + 1) (W.setCell ⟨gr, k * 4 + 1, none⟩ v) := by
  have hgr := h.or.blk gr rfl
  have hz := hb.size
  have hbb := h.bB
  have hbs := h.bs
  have hgi : vi.ownBlock ≠ some gr := fun e => h.ir gr e rfl
  have hgk : vk.ownBlock ≠ some gr := fun e => h.kr gr e rfl
  have hv : v.ownBlock ≠ some gr := fun e => by have := (ho.blk gr e).1; omega
  refine ⟨((h.bel.trans (hb.mono h.bel.size))).setCell (by show _ ≤ gr; omega) _, h.bs, (h.pb.below h.pb.1 hb).far (by omega) _ _, (h.pz.below h.pz.1 hb).far (by omega) _ _, h.bB, (h.oi.below (Nat.le_refl _) hb).far hgi _ _, (h.ok.below (Nat.le_refl _) hb).far hgk _ _, ?_, ?_, h.ik, h.ir, h.kr, ?_⟩
  · have := (h.or.below (Nat.le_refl _) hb).stored (k * 4 + 1) v
    rw [repCells_set _ _ _ _ hk] at this
    rw [repCells_congr p.rs 0 (us' := fun j => if j = 0 + k then v else if j < k then new j else us j) (fun i _ => by
      by_cases e : i = k
      · subst e; simp
      · by_cases e2 : i < k
        · simp [e, e2, show i < k + 1 by omega]
        · simp [e, e2, show ¬ i < k + 1 by omega])]
    exact this
  · intro i hi hik
    by_cases e : i = k
    · subst e
      simp only [if_true]
      exact rd_block ho.rd hv _ _
    · simp only [if_neg e]
      exact rd_block ((h.rd i hi (by omega)).below (Nat.le_refl _) hb) (fun e => (h.un i hi (by omega) gr e).2.2.2.2 rfl) _ _
  · intro i hi hik k' hk'
    have esz : (W.setCell ⟨gr, k * 4 + 1, none⟩ v).heap.size = W.heap.size := by simp
    rw [esz]
    by_cases e : i = k
    · subst e
      simp only [if_true] at hk'
      obtain ⟨y1, y2⟩ := ho.blk k' hk'
      refine ⟨by omega, y2, fun e => ?_, fun e => ?_, fun e => ?_⟩
      · have := (h.oi.blk k' e).2; omega
      · have := (h.ok.blk k' e).2; omega
      · have := (h.or.blk k' e).2; omega
    · simp only [if_neg e] at hk'
      obtain ⟨y1, y2, y3⟩ := h.un i hi (by omega) k' hk'
      exact ⟨y1, by omega, y3⟩
theorem CopySt.fresh {B : Nat} {w : World} {b : Nat} {p : Prt} {vi vk vr : Value} {us new : Nat → Value} {wr : World} (h : CopySt B w b p vi vk vr us new p.rs.length wr) : FreshP B wr p vi vk vr new :=
  ⟨h.oi, h.ok, by
    have := h.or
    rwa [repCells_congr p.rs 0 (us' := new) (fun i hi => by simp [hi])] at this, fun i hi => h.rd i hi hi, h.ik, h.ir, h.kr, fun i hi => h.un i hi hi⟩
/-- A replica's cells in the midst of the copy. -/
theorem OwnV.repAt {B : Nat} {rs : List Rep} {us : Nat → Value} {w : World} {gr n cr : Nat} (h : OwnV B 63 4 (.slice (some ⟨gr, 0, none⟩) n cr) rs.length (repCells us rs 0) w) (hn : n = rs.length) (i : Nat) (hi : i < rs.length) : w.cell? ⟨gr, i * 4, none⟩ = some (.bool (rs[i]'hi).up) ∧ w.cell? ⟨gr, i * 4 + 1, none⟩ = some (us i) ∧ w.cell? ⟨gr, i * 4 + 2, none⟩ = some (.int .i64 (rs[i]'hi).y) ∧ w.cell? ⟨gr, i * 4 + 3, none⟩ = some (.int .i64 (rs[i]'hi).h) ∧ ∀ o, w.frozen? ⟨gr, o, none⟩ = false := by
  subst hn
  obtain ⟨c0, c1, c2, c3⟩ := repCells_at us rs 0 i hi
  rw [Nat.zero_add] at c1
  refine ⟨?_, ?_, ?_, ?_, fun o => h.1.frozenAt o⟩
  · rw [h.1.cellAt _ (by omega)]; exact c0
  · rw [h.1.cellAt _ (by omega)]; exact c1
  · rw [h.1.cellAt _ (by omega)]; exact c2
  · rw [h.1.cellAt _ (by omega)]; exact c3

set_option maxRecDepth 100000 in
set_option maxHeartbeats 2000000 in
theorem copy_any (p : Prt) (vi vk vr : Value) (us : Nat → Value) (w : World) (h : RdP w p vi vk vr us) (hf : p.fits) :
    Calls Try.prog 29 #[.agg #[.int .i64 p.ep, .int .i64 p.ld, vi, vk, vr, .int .i64 p.fw, .int .i64 p.bs]] w fun e w' => ∃ vi' vk' vr' us', e = .returned (.agg #[.int .i64 p.ep, .int .i64 p.ld, vi', vk', vr', .int .i64 p.fw, .int .i64 p.bs]) ∧ FreshP w.heap.size w' p vi' vk' vr' us' ∧ Below w.heap.size w w' := by
  have HRW : Hid (RdP w p vi vk vr us) := h
  have HF : Hid p.fits := hf
  have l3 : (p.rs.length : Int) ≤ 9223372036854775807 := by obtain ⟨ai, ci, ak, ck, ar, cr, _, _, _, l1, l2, l3⟩ := h.lens; exact l3
  clear h hf
  go_enter Try.func29, Try.ntmps29
  go_wp2_with fail
  have B0 : Below w.heap.size w ((w.alloc (.cells #[.int .i64 p.ep, .int .i64 p.ld, vi, vk, vr, .int .i64 p.fw, .int .i64 p.bs] 26)).alloc (.cells #[.int .i64 0, .int .i64 0, .slice none 0 0, .slice none 0 0, .slice none 0 0, .int .i64 0, .int .i64 0] 26)) := bstep (bbox _ _) (bbox _ _)
  have P0 := (pb_new w p vi vk vr 26 w.heap.size rfl).below (C := w.heap.size + 1) (by omega) ((Below.refl _ _).alloc (by simp) (.cells #[.int .i64 0, .int .i64 0, .slice none 0 0, .slice none 0 0, .slice none 0 0, .int .i64 0, .int .i64 0] 26))
  have Z0 : PB ((w.alloc (.cells #[.int .i64 p.ep, .int .i64 p.ld, vi, vk, vr, .int .i64 p.fw, .int .i64 p.bs] 26)).alloc (.cells #[.int .i64 0, .int .i64 0, .slice none 0 0, .slice none 0 0, .slice none 0 0, .int .i64 0, .int .i64 0] 26)) (w.heap.size + 1) Prt.zero nilV nilV nilV := pb_new _ Prt.zero nilV nilV nilV 26 (w.heap.size + 1) (by simp)
  have hsz : ((w.alloc (.cells #[.int .i64 p.ep, .int .i64 p.ld, vi, vk, vr, .int .i64 p.fw, .int .i64 p.bs] 26)).alloc (.cells #[.int .i64 0, .int .i64 0, .slice none 0 0, .slice none 0 0, .slice none 0 0, .int .i64 0, .int .i64 0] 26)).heap.size = w.heap.size + 2 := by simp
  generalize (w.alloc (.cells #[.int .i64 p.ep, .int .i64 p.ld, vi, vk, vr, .int .i64 p.fw, .int .i64 p.bs] 26)).alloc (.cells #[.int .i64 0, .int .i64 0, .slice none 0 0, .slice none 0 0, .slice none 0 0, .int .i64 0, .int .i64 0] 26) = W0 at *
  refine (cloneB_any p.isr _ _ HF.out.i (HRW.out.below (Nat.le_refl _) B0).1).mono ?_
  rintro e w1 ⟨xi, rfl, hi, hb1⟩
  obtain ⟨ai, ci, rfl⟩ := hi.shape
  have B1 := bstep B0 hb1
  have P1 := P0.below P0.1 hb1
  have Z1 := Z0.below Z0.1 hb1
  have hi1 := hi.mono (C := w.heap.size + 2) (by omega)
  have HB1 : Hid _ := B1.setCell (p := ⟨w.heap.size, 2, none⟩) (Nat.le_refl _) (.slice ai p.isr.length ci)
  have HP1 : Hid _ := P1.setI (.slice ai p.isr.length ci)
  have HZ1 : Hid _ := Z1.far (g := w.heap.size) (by omega) 2 (.slice ai p.isr.length ci)
  have HI1 : Hid _ := hi1.far (b := w.heap.size) (fun e => by have := (hi1.blk _ e).1; omega) 2 (.slice ai p.isr.length ci)
  have HS1 : Hid _ := show w.heap.size + 2 ≤ (w1.setCell ⟨w.heap.size, 2, none⟩ (.slice ai p.isr.length ci)).heap.size by have := hb1.size; simp; omega
  obtain ⟨s1, ⟨a0, a1, a2, a3, a4, a5, a6⟩, f1⟩ := P1
  clear B0 P0 Z0 B1 Z1 hi hi1 hb1
  go_wp2_with fail
  clear a0 a1 a2 a3 a4 a5 a6 f1 s1
  generalize w1.setCell ⟨w.heap.size, 2, none⟩ (.slice ai p.isr.length ci) = w1' at *
  refine (cloneI_any p.kn _ _ HF.out.k (HRW.out.below (Nat.le_refl _) HB1.out).2.1).mono ?_
  rintro e w2 ⟨xk, rfl, hk, hb2⟩
  obtain ⟨ak, ck, rfl⟩ := hk.shape
  have B2 := bstep HB1.out hb2
  have P2 := PB.below HP1.out HP1.out.1 hb2
  have Z2 := PB.below HZ1.out HZ1.out.1 hb2
  have hi2 := OwnV.below HI1.out (Nat.le_refl _) hb2
  have hk2 := hk.mono (C := w.heap.size + 2) HS1.out
  have hne : ∀ k, (Value.slice ai p.isr.length ci).ownBlock = some k → (Value.slice ak p.kn.length ck).ownBlock ≠ some k := fun k e1 e2 => by
    have x1 := (OwnV.blk HI1.out k e1).2
    have x2 := (hk.blk k e2).1
    omega
  have HIK : Hid (∀ k, (Value.slice ai p.isr.length ci).ownBlock = some k → (Value.slice ak p.kn.length ck).ownBlock ≠ some k) := hne
  have HB2 : Hid _ := B2.setCell (p := ⟨w.heap.size, 3, none⟩) (Nat.le_refl _) (.slice ak p.kn.length ck)
  have HP2 : Hid _ := P2.setK (.slice ak p.kn.length ck)
  have HZ2 : Hid _ := Z2.far (g := w.heap.size) (by omega) 3 (.slice ak p.kn.length ck)
  have HI2 : Hid _ := hi2.far (b := w.heap.size) (fun e => by have := (hi2.blk _ e).1; omega) 3 (.slice ak p.kn.length ck)
  have HK2 : Hid _ := hk2.far (b := w.heap.size) (fun e => by have := (hk2.blk _ e).1; omega) 3 (.slice ak p.kn.length ck)
  have HS2 : Hid _ := show w.heap.size + 2 ≤ (w2.setCell ⟨w.heap.size, 3, none⟩ (.slice ak p.kn.length ck)).heap.size by have := hb2.size; have := HS1.out; simp; omega
  obtain ⟨s1, ⟨a0, a1, a2, a3, a4, a5, a6⟩, f1⟩ := P2
  clear B2 Z2 hi2 hk2 hb2 hk hne HB1 HP1 HZ1 HI1 HS1
  go_wp2_with fail
  clear a0 a1 a2 a3 a4 a5 a6 f1 s1
  generalize w2.setCell ⟨w.heap.size, 3, none⟩ (.slice ak p.kn.length ck) = w2' at *
  refine (cloneR_any p.rs us _ _ HF.out.r (HRW.out.below (Nat.le_refl _) HB2.out).2.2).mono ?_
  rintro e w3 ⟨xr, rfl, hr, hb3⟩
  obtain ⟨ar, cr, rfl⟩ := hr.shape
  have B3 := bstep HB2.out hb3
  have P3 := PB.below HP2.out HP2.out.1 hb3
  have Z3 := PB.below HZ2.out HZ2.out.1 hb3
  have hi3 := OwnV.below HI2.out (Nat.le_refl _) hb3
  have hk3 := OwnV.below HK2.out (Nat.le_refl _) hb3
  have hr3 := hr.mono (C := w.heap.size + 2) HS2.out
  have hir : ∀ k, (Value.slice ai p.isr.length ci).ownBlock = some k → (Value.slice ar p.rs.length cr).ownBlock ≠ some k := fun k e1 e2 => by
    have x1 := (OwnV.blk HI2.out k e1).2
    have x2 := (hr.blk k e2).1
    omega
  have hkr : ∀ k, (Value.slice ak p.kn.length ck).ownBlock = some k → (Value.slice ar p.rs.length cr).ownBlock ≠ some k := fun k e1 e2 => by
    have x1 := (OwnV.blk HK2.out k e1).2
    have x2 := (hr.blk k e2).1
    omega
  have HST : Hid (CopySt (w.heap.size + 2) w w.heap.size p (.slice ai p.isr.length ci) (.slice ak p.kn.length ck) (.slice ar p.rs.length cr) us us 0 (w3.setCell ⟨w.heap.size, 4, none⟩ (.slice ar p.rs.length cr))) :=
    ⟨B3.setCell (p := ⟨w.heap.size, 4, none⟩) (Nat.le_refl _) (.slice ar p.rs.length cr), Nat.le_refl _, P3.setR (.slice ar p.rs.length cr), Z3.far (g := w.heap.size) (by omega) 4 (.slice ar p.rs.length cr), by omega, hi3.far (b := w.heap.size) (fun e => by have := (hi3.blk _ e).1; omega) 4 (.slice ar p.rs.length cr), hk3.far (b := w.heap.size) (fun e => by have := (hk3.blk _ e).1; omega) 4 (.slice ar p.rs.length cr), by
      have := hr3.far (b := w.heap.size) (fun e => by have := (hr3.blk _ e).1; omega) 4 (.slice ar p.rs.length cr)
      simpa using this, fun i hi h0 => by omega, HIK.out, hir, hkr, fun i hi h0 => by omega⟩
  obtain ⟨s1, ⟨a0, a1, a2, a3, a4, a5, a6⟩, f1⟩ := P3
  clear B3 Z3 hi3 hk3 hr3 hb3 hr HIK hir hkr HB2 HP2 HZ2 HI2 HS2 HK2
  go_wp2_with fail
  clear a0 a1 a2 a3 a4 a5 a6 f1 s1
  generalize w3.setCell ⟨w.heap.size, 4, none⟩ (.slice ar p.rs.length cr) = w3' at *
  go_loopw [19] (fun i wr => ∃ k : Nat, k ≤ p.rs.length ∧ i = .int .i64 k ∧ Hid (∃ new, CopySt (w.heap.size + 2) w w.heap.size p (.slice ai p.isr.length ci) (.slice ak p.kn.length ck) (.slice ar p.rs.length cr) us new k wr)) (fun i _ => p.rs.length - (intOf i).toNat)
  case atStart => exact ⟨0, by omega, rfl, us, HST.out⟩
  case round =>
    obtain ⟨k, hk, rfl, HN⟩ := hrel
    obtain ⟨new, hst⟩ := HN.out
    by_cases hlt : k < p.rs.length
    · obtain ⟨gr, cr', e, _⟩ := hst.or.form (by omega)
      simp only [Value.slice.injEq] at e
      obtain ⟨rfl, _, rfl⟩ := e
      have hlt' : (k : Int) < p.rs.length := by omega
      have HST' : Hid _ := hst
      obtain ⟨s1, ⟨a0, a1, a2, a3, a4, a5, a6⟩, f1⟩ := hst.pb
      obtain ⟨c0, c1, c2, c3, fz⟩ := hst.or.repAt rfl k hlt
      simp only [Nat.lt_irrefl, if_false] at c1
      have HU : Hid (∀ W, Below wr.heap.size wr W → Rd W (us k) (p.rs[k]'hlt).l) := fun W hW => by
        obtain ⟨ao, cap, e, _, _, _, h3⟩ := HRW.out.2.2
        obtain ⟨g, off, rfl, hg⟩ := h3 (by omega)
        exact (hg k hlt).1.below (Nat.le_refl _) (hst.bel.trans (hW.mono hst.bel.size))
      have HL : Hid ((p.rs[k]'hlt).l.length ≤ 140737488355328) := HF.out.s _ (List.getElem_mem hlt)
      have hgr := hst.or.blk gr rfl
      have hgl : gr < wr.heap.size := hgr.2
      have hgne : w.heap.size ≠ gr := by omega
      clear hst HN hgr
      go_wp2
      go_region_with (go_at_call 72; refine (bclone_any _ _ _ HL.out (HU.out _ (by repeat (first | exact Below.refl _ _ | refine Below.drew ?_)))).mono ?_; rintro e w5 ⟨v5, rfl, ho5, hb5⟩; have hB5 : Below wr.heap.size wr w5 := bstep (by repeat (first | exact Below.refl _ _ | refine Below.drew ?_)) hb5; obtain ⟨m1, m2⟩ := bcell hB5; obtain ⟨av5, cv5, rfl⟩ := ho5.shape)
      all_goals
        have HX : Hid (∃ new, CopySt (w.heap.size + 2) w w.heap.size p (.slice ai p.isr.length ci) (.slice ak p.kn.length ck) (.slice (some ⟨gr, 0, none⟩) p.rs.length cr) us new (k + 1) _) := ⟨_, CopySt.step HST'.out hlt hB5 ho5⟩
        clear a0 a1 a2 a3 a4 a5 a6 f1 s1 c0 c1 c2 c3 fz m1 m2 hB5 ho5 hb5 HST' HU HL
        go_wp2
        go_roundw
        case rel => exact ⟨k + 1, by omega, by go_num, HX⟩
        case measure => simp [intOf]; omega
    · have hke : k = p.rs.length := by omega
      subst hke
      have hz := hst.pz
      obtain ⟨s1, ⟨a0, a1, a2, a3, a4, a5, a6⟩, f1⟩ := hst.pb
      obtain ⟨z1, ⟨e0, e1, e2, e3, e4, e5, e6⟩, g1⟩ := hst.pz
      have hz1 : w.heap.size + 1 < wr.heap.size := z1
      have HF' : Hid (FreshP w.heap.size (put7 wr (w.heap.size + 1) p _ _ _) p _ _ _ new) := (hst.fresh.put (b := w.heap.size + 1) hst.bB p (.slice ai p.isr.length ci) (.slice ak p.kn.length ck) (.slice ar p.rs.length cr)).mono (by omega)
      have HBz : Hid (Below w.heap.size w (put7 wr (w.heap.size + 1) p (.slice ai p.isr.length ci) (.slice ak p.kn.length ck) (.slice ar p.rs.length cr))) := below_put hst.bel (by omega) _ _ _ _
      clear hst HN hz
      go_wp2
      refine bodyPost_ret (v := .agg #[.int .i64 p.ep, .int .i64 p.ld, .slice ai p.isr.length ci, .slice ak p.kn.length ck, .slice ar p.rs.length cr, .int .i64 p.fw, .int .i64 p.bs]) (by simp [results, Try.results29, go_sem, e0, e1, e2, e3, e4, e5, e6]) rfl ⟨_, _, _, new, rfl, HF'.out, HBz.out⟩
end

end Go.Proofs.Ytkolelpdedmkeaa
