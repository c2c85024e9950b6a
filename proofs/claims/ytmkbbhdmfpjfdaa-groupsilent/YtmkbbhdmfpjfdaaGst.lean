/-
  The state in the midst of a call on a group: its box, the result's box, its rows in new memory; how each step turns it.
-/
import Derived.Test.YtmkbbhdmfpjfdaaGcopy
namespace Go.Proofs.Ytmkbbhdmfpjfdaa
open Go.RowKit
set_option linter.unusedVariables false
set_option linter.unusedSimpArgs false

theorem OwnW.grown {α : Type} {E : El α} {T B : Nat} {w w' : World} {v : Value} {xs : List α} {us : Nat → Value} {r : Option Nat} (h : OwnW E T B w v xs us) (hg : w.grownBy w' r) (h1 : ∀ k, v.ownBlock = some k → r ≠ some k) (h2 : ∀ i, i < xs.length → ∀ k, (us i).ownBlock = some k → r ≠ some k) : OwnW E T B w' v xs us :=
  ⟨h.o.grown hg h1, fun i hi => (h.i i hi).grown hg (h2 i hi), h.a, h.d⟩
theorem nil_off (i b : Nat) : (nilS i).ownBlock ≠ some b := fun e => by cases e
/-- The block is none of the group's. -/
def Off (g : Grp) (vm vo : Value) (us : Nat → Value) (b : Nat) : Prop := vm.ownBlock ≠ some b ∧ vo.ownBlock ≠ some b ∧ ∀ i, i < g.ms.length → (us i).ownBlock ≠ some b
theorem off_lt {B : Nat} {w : World} {g : Grp} {vm vo : Value} {us : Nat → Value} (h : FreshG B w g vm vo us) {b : Nat} (hb : b < B) : Off g vm vo us b :=
  ⟨fun e => by have := (h.m.o.blk b e).1; omega, fun e => by have := (h.o.o.blk b e).1; omega, fun i hi e => by have := ((h.m.i i hi).blk b e).1; omega⟩
theorem off_ge {B : Nat} {w : World} {g : Grp} {vm vo : Value} {us : Nat → Value} (h : FreshG B w g vm vo us) {b : Nat} (hb : w.heap.size ≤ b) : Off g vm vo us b :=
  ⟨fun e => by have := (h.m.o.blk b e).2; omega, fun e => by have := (h.o.o.blk b e).2; omega, fun i hi e => by have := ((h.m.i i hi).blk b e).2; omega⟩
theorem FreshG.far {B : Nat} {w : World} {g : Grp} {vm vo : Value} {us : Nat → Value} (h : FreshG B w g vm vo us) {b : Nat} (hb : Off g vm vo us b) (o : Nat) (x : Value) : FreshG B (w.setCell ⟨b, o, none⟩ x) g vm vo us :=
  ⟨h.m.far hb.1 hb.2.2 o x, h.o.far hb.2.1 (fun i _ => nil_off i b) o x, h.a, h.d⟩
theorem FreshG.put {B : Nat} {w : World} {g : Grp} {vm vo : Value} {us : Nat → Value} (h : FreshG B w g vm vo us) {b : Nat} (hb : Off g vm vo us b) (d : Grp) (x y : Value) : FreshG B (Go.Proofs.Ytmkbbhdmfpjfdaa.put5 w b d x y) g vm vo us := by
  unfold Go.Proofs.Ytmkbbhdmfpjfdaa.put5
  exact ((((h.far hb _ _).far hb _ _).far hb _ _).far hb _ _).far hb _ _
/-- Another row of members. -/
theorem FreshG.rowM {B : Nat} {W W' : World} {g : Grp} {vm vo v' : Value} {us us' : Nat → Value} {ms' : List Mem} (h : FreshG B W g vm vo us) (ho : OwnW memE 55 B W' v' ms' us') (hg : W.grownBy W' vm.ownBlock) (hv : ∀ c, v'.ownBlock = some c → vm.ownBlock = some c ∨ W.heap.size ≤ c) (hu : ∀ i, i < ms'.length → ∀ c, (us' i).ownBlock = some c → vo.ownBlock ≠ some c) :
    FreshG B W' { g with ms := ms' } v' vo us' := by
  refine ⟨ho, h.o.grown hg (fun k e e2 => h.a k e e2) (fun i _ k e => by cases e), fun b e e2 => ?_, fun i hi b e e2 => hu i hi b e2 e⟩
  rcases hv b e2 with h1 | h1
  · exact h.a b e h1
  · have := (h.o.o.blk b e).2
    omega
/-- Another row of offsets. -/
theorem FreshG.rowO {B : Nat} {W W' : World} {g : Grp} {vm vo v' : Value} {us : Nat → Value} {os' : List Ofs} (h : FreshG B W g vm vo us) (ho : OwnW ofsE 63 B W' v' os' nilS) (hg : W.grownBy W' vo.ownBlock) (hv : ∀ c, v'.ownBlock = some c → vo.ownBlock = some c ∨ W.heap.size ≤ c) :
    FreshG B W' { g with os := os' } vm v' us := by
  refine ⟨h.m.grown hg (fun k e e2 => h.a k e2 e) (fun i hi k e e2 => h.d i hi k e2 e), ho, fun b e e2 => ?_, fun i hi b e e2 => ?_⟩
  · rcases hv b e with h1 | h1
    · exact h.a b h1 e2
    · have := (h.m.o.blk b e2).2
      omega
  · rcases hv b e with h1 | h1
    · exact h.d i hi b h1 e2
    · have := ((h.m.i i hi).blk b e2).2
      omega
def Grp.setM (g : Grp) (i : Nat) (m : Mem) : Grp := { g with ms := g.ms.set i m }
theorem setM_len (g : Grp) (i : Nat) (m : Mem) : (g.setM i m).ms.length = g.ms.length := by unfold Grp.setM; simp
theorem len_ofW {α : Type} {E : El α} {T B : Nat} {w : World} {g n cap : Nat} {xs : List α} {us : Nat → Value} (h : OwnW E T B w (.slice (some ⟨g, 0, none⟩) n cap) xs us) : n = xs.length := by
  obtain ⟨ao, c, e⟩ := h.o.shape
  simp only [Value.slice.injEq] at e
  exact e.2.1

structure Sg (w : World) (b z B R : Nat) (W0 : World) (g : Grp) (vm vo : Value) (us : Nat → Value) (W : World) : Prop where
  bel : Below w.heap.size w W
  bb : GB W b g vm vo
  zz : GB W z Grp.zero (.slice none 0 0) (.slice none 0 0)
  own : FreshG B W g vm vo us
  nb : Off g vm vo us b
  nz : Off g vm vo us z
  bz : b ≠ z
  wb : w.heap.size ≤ b
  wz : w.heap.size ≤ z
  wB : w.heap.size ≤ B
  RB : R ≤ B
  old : ∀ k, k < R → k ≠ b → W.heap[k]? = W0.heap[k]?
theorem gb_block {w w' : World} {s : Nat} {g : Grp} {vm vo : Value} (h : GB w s g vm vo) (e : w'.heap[s]? = w.heap[s]?) : GB w' s g vm vo := by
  obtain ⟨hs, ⟨a0, a1, a2, a3, a4⟩, f⟩ := h
  have hs' : s < w'.heap.size := by
    rcases Nat.lt_or_ge s w'.heap.size with h | h
    · exact h
    · rw [Array.getElem?_eq_none h, Array.getElem?_eq_getElem hs] at e
      cases e
  exact ⟨hs', ⟨(World.cell?_of_block (w := w) (w' := w') (a := ⟨s, 0, none⟩) e).trans a0, (World.cell?_of_block (w := w) (w' := w') (a := ⟨s, 1, none⟩) e).trans a1, (World.cell?_of_block (w := w) (w' := w') (a := ⟨s, 2, none⟩) e).trans a2, (World.cell?_of_block (w := w) (w' := w') (a := ⟨s, 3, none⟩) e).trans a3, (World.cell?_of_block (w := w) (w' := w') (a := ⟨s, 4, none⟩) e).trans a4⟩, fun o => (World.frozen?_of_block (w := w) (w' := w') (a := ⟨s, o, none⟩) e).trans (f o)⟩
section
variable {w : World} {b z B R : Nat} {W0 : World} {g : Grp} {vm vo : Value} {us : Nat → Value} {W : World}
theorem Sg.src (h : Sg w b z B R W0 g vm vo us W) {s : Nat} {g0 : Grp} {m0 o0 : Value} (hs : GB W0 s g0 m0 o0) (hR : s < R) (hb : s ≠ b) : GB W s g0 m0 o0 := gb_block hs (h.old s hR hb)
theorem Sg.rd (h : Sg w b z B R W0 g vm vo us W) : RdG W g vm vo us := h.own.rd
theorem Sg.below (h : Sg w b z B R W0 g vm vo us W) {W' : World} (hb : Below W.heap.size W W') : Sg w b z B R W0 g vm vo us W' :=
  ⟨bstep h.bel hb, h.bb.below h.bb.1 hb, h.zz.below h.zz.1 hb, h.own.below (Nat.le_refl _) hb, h.nb, h.nz, h.bz, h.wb, h.wz, h.wB, h.RB, fun k hk hne => (hb.block k (by have := h.own.m.o.2; have := h.RB; omega)).trans (h.old k hk hne)⟩
theorem Sg.done (h : Sg w b z B R W0 g vm vo us W) (d : Grp) : FreshG w.heap.size (put5 W z d vm vo) g vm vo us ∧ Below w.heap.size w (put5 W z d vm vo) :=
  ⟨(h.own.put h.nz d vm vo).mono h.wB, below_put5 h.bel h.wz d vm vo⟩
theorem FreshG.drew (h : FreshG B W g vm vo us) : FreshG B W.drew g vm vo us := ⟨⟨h.m.o, h.m.i, h.m.a, h.m.d⟩, ⟨h.o.o, h.o.i, h.o.a, h.o.d⟩, h.a, h.d⟩
theorem Sg.doneD (h : Sg w b z B R W0 g vm vo us W) (d : Grp) : FreshG w.heap.size (put5 W z d vm vo).drew g vm vo us ∧ Below w.heap.size w (put5 W z d vm vo).drew := ⟨(h.done d).1.drew, (h.done d).2.drew⟩
/-- What is left where all is zero. -/
theorem Sg.nil (h : Sg w b z B R W0 g vm vo us W) : FreshG w.heap.size (put5 W z Grp.zero (.slice none 0 0) (.slice none 0 0)) Grp.zero (.slice none 0 0) (.slice none 0 0) nilS ∧ Below w.heap.size w (put5 W z Grp.zero (.slice none 0 0) (.slice none 0 0)) :=
  ⟨freshG_nil _ rfl rfl (by rw [put5_size]; exact h.bel.size), below_put5 h.bel h.wz _ _ _⟩
theorem Sg.setCk (h : Sg w b z B R W0 g vm vo us W) (n : Int) : Sg w b z B R W0 { g with ck := n } vm vo us (W.setCell ⟨b, 0, none⟩ (.int .i64 n)) :=
  ⟨h.bel.setCell (p := ⟨b, 0, none⟩) h.wb _, gb_set0 h.bb n, h.zz.far (fun e => h.bz e.symm) _ _, (h.own.far h.nb _ _).ren rfl rfl, h.nb, h.nz, h.bz, h.wb, h.wz, h.wB, h.RB, fun k hk hne => (Below.heap_setCell W ⟨b, 0, none⟩ _ k hne).trans (h.old k hk hne)⟩
theorem Sg.setGn (h : Sg w b z B R W0 g vm vo us W) (n : Int) : Sg w b z B R W0 { g with gn := n } vm vo us (W.setCell ⟨b, 2, none⟩ (.int .i64 n)) :=
  ⟨h.bel.setCell (p := ⟨b, 2, none⟩) h.wb _, gb_set2 h.bb n, h.zz.far (fun e => h.bz e.symm) _ _, (h.own.far h.nb _ _).ren rfl rfl, h.nb, h.nz, h.bz, h.wb, h.wz, h.wB, h.RB, fun k hk hne => (Below.heap_setCell W ⟨b, 2, none⟩ _ k hne).trans (h.old k hk hne)⟩
/-- What is made anew is none of its blocks. -/
theorem Sg.new (h : Sg w b z B R W0 g vm vo us W) {c : Nat} (hc : W.heap.size ≤ c) : c ≠ b ∧ c ≠ z ∧ vo.ownBlock ≠ some c :=
  ⟨fun e => by have := h.bb.1; omega, fun e => by have := h.zz.1; omega, fun e => by have := (h.own.o.o.blk c e).2; omega⟩
/-- What is stored elsewhere. -/
theorem Sg.far (h : Sg w b z B R W0 g vm vo us W) {c : Nat} (hc : Off g vm vo us c) (h1 : c ≠ b) (h2 : c ≠ z) (hw : w.heap.size ≤ c) (hR : R ≤ c) (o : Nat) (x : Value) : Sg w b z B R W0 g vm vo us (W.setCell ⟨c, o, none⟩ x) :=
  ⟨h.bel.setCell (p := ⟨c, o, none⟩) hw _, h.bb.far (fun e => h1 e.symm) _ _, h.zz.far (fun e => h2 e.symm) _ _, h.own.far hc _ _, h.nb, h.nz, h.bz, h.wb, h.wz, h.wB, h.RB, fun k hk hne => (Below.heap_setCell W ⟨c, o, none⟩ _ k (by show k ≠ c; omega)).trans (h.old k hk hne)⟩
theorem Sg.ren (h : Sg w b z B R W0 g vm vo us W) {g' : Grp} (e : g = g') : Sg w b z B R W0 g' vm vo us W := e ▸ h
/-- Another row of members, in the row and in the box. -/
theorem Sg.rowM (h : Sg w b z B R W0 g vm vo us W) {W' : World} {v' : Value} {us' : Nat → Value} {ms' : List Mem} (ho : OwnW memE 55 B W' v' ms' us') (hg : W.grownBy W' vm.ownBlock) (hv : ∀ c, v'.ownBlock = some c → vm.ownBlock = some c ∨ W.heap.size ≤ c) (hu : ∀ i, i < ms'.length → ∀ c, (us' i).ownBlock = some c → (∃ j, j < g.ms.length ∧ (us j).ownBlock = some c) ∨ (c ≠ b ∧ c ≠ z ∧ vo.ownBlock ≠ some c)) :
    Sg w b z B R W0 { g with ms := ms' } v' vo us' (W'.setCell ⟨b, 3, none⟩ v') := by
  have hrow : ∀ k, vm.ownBlock = some k → B ≤ k := fun k e => (h.own.m.o.blk k e).1
  have hBW := h.own.m.o.2
  have hsz := hg.size
  have hoff : ∀ c, c < W.heap.size → (c = b ∨ c = z) → Off g vm vo us c → Off { g with ms := ms' } v' vo us' c := fun c hc hcc ho' => ⟨fun e => by
    rcases hv c e with h1 | h1
    · exact ho'.1 h1
    · omega, ho'.2.1, fun i hi e => by
    rcases hu i hi c e with ⟨j, hj, h1⟩ | ⟨h1, h2, _⟩
    · exact ho'.2.2 j hj h1
    · rcases hcc with e | e
      · exact h1 e
      · exact h2 e⟩
  have nb := hoff b h.bb.1 (.inl rfl) h.nb
  have nz := hoff z h.zz.1 (.inr rfl) h.nz
  have hf := h.own.rowM (ms' := ms') ho hg hv (fun i hi c e e2 => by
    rcases hu i hi c e with ⟨j, hj, h1⟩ | ⟨_, _, h1⟩
    · exact h.own.d j hj c e2 h1
    · exact h1 e2)
  refine ⟨(below_grown h.bel hg h.bel.size (fun k e => by have := hrow k e; have := h.wB; omega)).setCell (p := ⟨b, 3, none⟩) h.wb _, (gb_set3 (h.bb.grown hg h.nb.1) v').ren rfl rfl rfl, (h.zz.grown hg h.nz.1).far (fun e => h.bz e.symm) _ _, hf.far nb _ _, nb, nz, h.bz, h.wb, h.wz, h.wB, h.RB, fun k hk hne => (Below.heap_setCell W' ⟨b, 3, none⟩ _ k hne).trans ((hg.block k (by have := h.RB; omega) (fun e => by have := hrow k e.symm; have := h.RB; omega)).trans (h.old k hk hne))⟩
/-- Another row of offsets, in the row and in the box. -/
theorem Sg.rowO (h : Sg w b z B R W0 g vm vo us W) {W' : World} {v' : Value} {os' : List Ofs} (ho : OwnW ofsE 63 B W' v' os' nilS) (hg : W.grownBy W' vo.ownBlock) (hv : ∀ c, v'.ownBlock = some c → vo.ownBlock = some c ∨ W.heap.size ≤ c) :
    Sg w b z B R W0 { g with os := os' } vm v' us (W'.setCell ⟨b, 4, none⟩ v') := by
  have hrow : ∀ k, vo.ownBlock = some k → B ≤ k := fun k e => (h.own.o.o.blk k e).1
  have hBW := h.own.m.o.2
  have hoff : ∀ c, c < W.heap.size → Off g vm vo us c → Off { g with os := os' } vm v' us c := fun c hc ho' => ⟨ho'.1, fun e => by
    rcases hv c e with h1 | h1
    · exact ho'.2.1 h1
    · omega, ho'.2.2⟩
  have nb := hoff b h.bb.1 h.nb
  have nz := hoff z h.zz.1 h.nz
  have hf := h.own.rowO (os' := os') ho hg hv
  refine ⟨(below_grown h.bel hg h.bel.size (fun k e => by have := hrow k e; have := h.wB; omega)).setCell (p := ⟨b, 4, none⟩) h.wb _, (gb_set4 (h.bb.grown hg h.nb.2.1) v').ren rfl rfl rfl, (h.zz.grown hg h.nz.2.1).far (fun e => h.bz e.symm) _ _, hf.far nb _ _, nb, nz, h.bz, h.wb, h.wz, h.wB, h.RB, fun k hk hne => (Below.heap_setCell W' ⟨b, 4, none⟩ _ k hne).trans ((hg.block k (by have := h.RB; omega) (fun e => by have := hrow k e.symm; have := h.RB; omega)).trans (h.old k hk hne))⟩
end
section
variable {w : World} {b z B R : Nat} {W0 : World} {g : Grp} {us : Nat → Value} {W : World}
/-- When a member was heard of is stored. -/
theorem Sg.setHd {gr n cap : Nat} {vo : Value} (h : Sg w b z B R W0 g (.slice (some ⟨gr, 0, none⟩) n cap) vo us W) (i : Nat) (hi : i < g.ms.length) (x : Int) :
    Sg w b z B R W0 (g.setM i { g.at i with hd := x }) (.slice (some ⟨gr, 0, none⟩) n cap) vo us (W.setCell ⟨gr, i * 3 + 1, none⟩ (.int .i64 x)) := by
  have hg := (h.own.m.o.blk gr rfl).1
  have hbg : b ≠ gr := fun e => h.nb.1 (by rw [e]; rfl)
  have hzg : z ≠ gr := fun e => h.nz.1 (by rw [e]; rfl)
  have hw := h.wB
  have hR := h.RB
  have hm := OwnW.set h.own.m i 1 hi (by decide) { g.at i with hd := x } (.int .i64 x) (by rw [at_mem_g hi]; rfl) (by rw [at_mem_g hi]; rfl)
  refine ⟨h.bel.setCell (p := ⟨gr, _, none⟩) (by show _ ≤ gr; omega) _, (h.bb.far hbg _ _).ren rfl rfl rfl, h.zz.far hzg _ _, ⟨hm, h.own.o.far (fun e => h.own.a gr e rfl) (fun i _ => nil_off i gr) _ _, h.own.a, fun i hi => h.own.d i (by simpa [Grp.setM] using hi)⟩, ⟨h.nb.1, h.nb.2.1, fun i hi => h.nb.2.2 i (by simpa [Grp.setM] using hi)⟩, ⟨h.nz.1, h.nz.2.1, fun i hi => h.nz.2.2 i (by simpa [Grp.setM] using hi)⟩, h.bz, h.wb, h.wz, h.wB, h.RB, fun k hk hne => (Below.heap_setCell W ⟨gr, _, none⟩ _ k (by show k ≠ gr; omega)).trans (h.old k hk hne)⟩
def Grp.setO (g : Grp) (i : Nat) (x : Ofs) : Grp := { g with os := g.os.set i x }
/-- How far a part was read is stored. -/
theorem Sg.setPl {gr n cap : Nat} {vm : Value} (h : Sg w b z B R W0 g vm (.slice (some ⟨gr, 0, none⟩) n cap) us W) (i : Nat) (hi : i < g.os.length) (x : Int) :
    Sg w b z B R W0 (g.setO i { g.off i with pl := x }) vm (.slice (some ⟨gr, 0, none⟩) n cap) us (W.setCell ⟨gr, i * 2 + 1, none⟩ (.int .i64 x)) := by
  have hg := (h.own.o.o.blk gr rfl).1
  have hbg : b ≠ gr := fun e => h.nb.2.1 (by rw [e]; rfl)
  have hzg : z ≠ gr := fun e => h.nz.2.1 (by rw [e]; rfl)
  have hw := h.wB
  have hR := h.RB
  have hm := OwnW.set h.own.o i 1 hi (by decide) { g.off i with pl := x } (.int .i64 x) (by rw [at_off_g hi]; rfl) rfl
  refine ⟨h.bel.setCell (p := ⟨gr, _, none⟩) (by show _ ≤ gr; omega) _, (h.bb.far hbg _ _).ren rfl rfl rfl, h.zz.far hzg _ _, ⟨h.own.m.far (fun e => h.own.a gr rfl e) (fun i hi e => h.own.d i hi gr rfl e) _ _, hm, h.own.a, h.own.d⟩, h.nb, h.nz, h.bz, h.wb, h.wz, h.wB, h.RB, fun k hk hne => (Below.heap_setCell W ⟨gr, _, none⟩ _ k (by show k ≠ gr; omega)).trans (h.old k hk hne)⟩
end
/-- Behind 'g = Copy(g)', g the parameter. -/
theorem sg_copy {w W w3 : World} {b z : Nat} {g : Grp} {m0 o0 vm vo : Value} {us : Nat → Value} (hbel : Below w.heap.size w W) (hb : GB W b g m0 o0) (hz : GB W z Grp.zero (.slice none 0 0) (.slice none 0 0)) (hbz : b ≠ z) (wb : w.heap.size ≤ b) (wz : w.heap.size ≤ z) (hf : FreshG W.heap.size w3 g vm vo us) (hb3 : Below W.heap.size W w3) :
    Sg w b z W.heap.size 0 w g vm vo us (put5 w3 b g vm vo) := by
  have h0 := hb.below hb.1 hb3
  have nb := off_lt hf hb.1
  have nz := off_lt hf hz.1
  exact ⟨below_put5 (bstep hbel hb3) wb _ _ _, h0.put g vm vo, (hz.below hz.1 hb3).put5 (fun e => hbz e.symm), hf.put nb _ _ _, nb, nz, hbz, wb, wz, hbel.size, Nat.zero_le _, fun k hk => by omega⟩
/-- Behind 'out := GroupCopy(g)': the box of what was copied. -/
theorem sg_new {w W w3 : World} {z : Nat} {g : Grp} {vm vo : Value} {us : Nat → Value} (hbel : Below w.heap.size w W) (hz : GB W z Grp.zero (.slice none 0 0) (.slice none 0 0)) (wz : w.heap.size ≤ z) (hf : FreshG W.heap.size w3 g vm vo us) (hb3 : Below W.heap.size W w3) :
    Sg w w3.heap.size z W.heap.size W.heap.size W g vm vo us (w3.alloc (.cells #[.int .i64 g.ck, .int .i64 g.wt, .int .i64 g.gn, vm, vo] 25)) := by
  have hx := bbox w3 (.cells #[.int .i64 g.ck, .int .i64 g.wt, .int .i64 g.gn, vm, vo] 25)
  have h2 := hz.below hz.1 hb3
  have hsz := hb3.size
  have hzl := hz.1
  exact ⟨bstep (bstep hbel hb3) hx, gb_new _ _ _ _ _ rfl, h2.below h2.1 hx, hf.below (Nat.le_refl _) hx, off_ge hf (Nat.le_refl _), off_lt hf hzl, by omega, Nat.le_trans hbel.size hsz, wz, hbel.size, Nat.le_refl _, fun k hk hne => (hx.block k (by omega)).trans (hb3.block k hk)⟩
/-- Where the group is handed on, and what comes back is returned. -/
theorem Sg.call {w : World} {b z B R : Nat} {W0 : World} {g g' : Grp} {vm vo vm' vo' : Value} {us us' : Nat → Value} {W W' : World} (h : Sg w b z B R W0 g vm vo us W) (hg : W.grownBy W' vm.ownBlock) (hf : FreshG B W' g' vm' vo' us') (hz : Off g' vm' vo' us' z) (d : Grp) :
    FreshG w.heap.size (put5 W' z d vm' vo') g' vm' vo' us' ∧ Below w.heap.size w (put5 W' z d vm' vo') ∧ GB W' z Grp.zero (.slice none 0 0) (.slice none 0 0) :=
  ⟨(hf.put hz d vm' vo').mono h.wB, below_put5 (below_grown h.bel hg h.bel.size (fun k e => by have := (h.own.m.o.blk k e).1; have := h.wB; omega)) h.wz d vm' vo', h.zz.grown hg h.nz.1⟩

end Go.Proofs.Ytmkbbhdmfpjfdaa
