/-
  A group in memory: its boxes, its rows, read and owned.
-/
import Derived.Test.YtmkbbhdmfpjfdaaGpure
import Derived.Test.YtmkbbhdmfpjfdaaCleaf
namespace Go.Proofs.Ytmkbbhdmfpjfdaa
open Go.RowKit
set_option linter.unusedVariables false
set_option linter.unusedSimpArgs false

def nilS : Nat → Value := fun _ => .slice none 0 0
/-- Three cells that hold a member. -/
def MBox (w : World) (b o : Nat) (m : Mem) (u : Value) : Prop := w.cell? ⟨b, o, none⟩ = some (.string m.nm) ∧ w.cell? ⟨b, o + 1, none⟩ = some (.int .i64 m.hd) ∧ w.cell? ⟨b, o + 2, none⟩ = some u
def OBox (w : World) (b o : Nat) (x : Ofs) : Prop := w.cell? ⟨b, o, none⟩ = some (.int .i64 x.pt) ∧ w.cell? ⟨b, o + 1, none⟩ = some (.int .i64 x.pl)
theorem RdW.mem {w : World} {ao : Option Addr} {n cap : Nat} {ms : List Mem} {us : Nat → Value} (h : RdW memE w (.slice ao n cap) ms us) (i : Nat) (hi : i < ms.length) : ∃ g off, ao = some ⟨g, off, none⟩ ∧ RdV w (us i) (ints (ms[i]'hi).ps) ∧ MBox w g (off + i * 3) (ms[i]'hi) (us i) := by
  obtain ⟨g, off, rfl, hr, hc⟩ := h.at i hi
  exact ⟨g, off, rfl, hr, hc 0 _ rfl, hc 1 _ rfl, hc 2 _ rfl⟩
theorem RdW.ofs {w : World} {ao : Option Addr} {n cap : Nat} {os : List Ofs} {us : Nat → Value} (h : RdW ofsE w (.slice ao n cap) os us) (i : Nat) (hi : i < os.length) : ∃ g off, ao = some ⟨g, off, none⟩ ∧ OBox w g (off + i * 2) (os[i]'hi) := by
  obtain ⟨g, off, rfl, hr, hc⟩ := h.at i hi
  exact ⟨g, off, rfl, hc 0 _ rfl, hc 1 _ rfl⟩
theorem MBox.below {w w' : World} {b o C : Nat} {m : Mem} {u : Value} (h : MBox w b o m u) (hg : b < C) (hb : Below C w w') : MBox w' b o m u := by
  obtain ⟨a0, a1, a2⟩ := h
  exact ⟨(hb.cell (p := ⟨b, o, none⟩) hg).trans a0, (hb.cell (p := ⟨b, o + 1, none⟩) hg).trans a1, (hb.cell (p := ⟨b, o + 2, none⟩) hg).trans a2⟩
theorem OBox.below {w w' : World} {b o C : Nat} {x : Ofs} (h : OBox w b o x) (hg : b < C) (hb : Below C w w') : OBox w' b o x := by
  obtain ⟨a0, a1⟩ := h
  exact ⟨(hb.cell (p := ⟨b, o, none⟩) hg).trans a0, (hb.cell (p := ⟨b, o + 1, none⟩) hg).trans a1⟩
theorem mbox_new (w : World) (m : Mem) (u : Value) (g : Nat) (hg : g = w.heap.size) : MBox (w.alloc (.cells #[.string m.nm, .int .i64 m.hd, u] 55)) g 0 m u := by
  subst hg
  exact ⟨by simp, by simp, by simp⟩
theorem obox_new (w : World) (x : Ofs) (g : Nat) (hg : g = w.heap.size) : OBox (w.alloc (.cells #[.int .i64 x.pt, .int .i64 x.pl] 63)) g 0 x := by
  subst hg
  exact ⟨by simp, by simp⟩

/-- A group's members and offsets in memory. -/
structure RdG (w : World) (g : Grp) (vm vo : Value) (us : Nat → Value) : Prop where
  m : RdW memE w vm g.ms us
  o : RdW ofsE w vo g.os nilS
theorem RdG.below {C : Nat} {g : Grp} {vm vo : Value} {us : Nat → Value} {w w' : World} (h : RdG w g vm vo us) (hC : w.heap.size ≤ C) (hb : Below C w w') : RdG w' g vm vo us :=
  ⟨RdW.below (E := memE) (by decide) h.m hC hb, RdW.below (E := ofsE) (by decide) h.o hC hb⟩
/-- All names are within Go's bounds. -/
def Grp.small (g : Grp) : Prop := ∀ m ∈ g.ms, m.nm.size ≤ maxLen
theorem Grp.small.at {g : Grp} (h : g.small) (i : Nat) : (g.at i).nm.size ≤ maxLen := by
  by_cases hi : i < g.ms.length
  · rw [at_mem_g hi]; exact h _ (List.getElem_mem hi)
  · have e : g.at i = zeroM := by unfold Grp.at; simp [List.getD, List.getElem?_eq_none (Nat.le_of_not_lt hi)]
    rw [e]; decide
/-- Within Go's bounds. -/
structure Grp.fits (g : Grp) : Prop where
  m : g.ms.length * 48 ≤ 140737488355328
  o : g.os.length * 16 ≤ 140737488355328
  p : ∀ m ∈ g.ms, m.ps.length * 8 ≤ 140737488355328
  n : g.small

/-- A box that holds a group, and may be stored to. -/
def GBox (w : World) (b : Nat) (g : Grp) (vm vo : Value) : Prop := w.cell? ⟨b, 0, none⟩ = some (.int .i64 g.ck) ∧ w.cell? ⟨b, 1, none⟩ = some (.int .i64 g.wt) ∧ w.cell? ⟨b, 2, none⟩ = some (.int .i64 g.gn) ∧ w.cell? ⟨b, 3, none⟩ = some vm ∧ w.cell? ⟨b, 4, none⟩ = some vo
def GB (w : World) (b : Nat) (g : Grp) (vm vo : Value) : Prop := b < w.heap.size ∧ GBox w b g vm vo ∧ ∀ o, w.frozen? ⟨b, o, none⟩ = false
theorem GB.below {w w' : World} {b C : Nat} {g : Grp} {vm vo : Value} (h : GB w b g vm vo) (hg : b < C) (hb : Below C w w') : GB w' b g vm vo := by
  obtain ⟨s, ⟨a0, a1, a2, a3, a4⟩, f⟩ := h
  exact ⟨Nat.lt_of_lt_of_le s hb.size, ⟨(hb.cell (p := ⟨b, 0, none⟩) hg).trans a0, (hb.cell (p := ⟨b, 1, none⟩) hg).trans a1, (hb.cell (p := ⟨b, 2, none⟩) hg).trans a2, (hb.cell (p := ⟨b, 3, none⟩) hg).trans a3, (hb.cell (p := ⟨b, 4, none⟩) hg).trans a4⟩, fun o => (hb.frozen (p := ⟨b, o, none⟩) hg).trans (f o)⟩
theorem gb_new (w : World) (g : Grp) (vm vo : Value) (b : Nat) (hb : b = w.heap.size) : GB (w.alloc (.cells #[.int .i64 g.ck, .int .i64 g.wt, .int .i64 g.gn, vm, vo] 25)) b g vm vo := by
  subst hb
  exact ⟨by simp, ⟨by simp, by simp, by simp, by simp, by simp⟩, fun o => by simp [go_sem]⟩
theorem GB.far {w : World} {b : Nat} {g : Grp} {vm vo : Value} (h : GB w b g vm vo) {c : Nat} (hc : b ≠ c) (o : Nat) (x : Value) : GB (w.setCell ⟨c, o, none⟩ x) b g vm vo := by
  obtain ⟨s, ⟨a0, a1, a2, a3, a4⟩, f⟩ := h
  exact ⟨by simpa using s, ⟨(cell_far hc _ _ _).trans a0, (cell_far hc _ _ _).trans a1, (cell_far hc _ _ _).trans a2, (cell_far hc _ _ _).trans a3, (cell_far hc _ _ _).trans a4⟩, fun o' => (frozen_far hc _ _ _).trans (f o')⟩
theorem GB.grown {w w' : World} {b : Nat} {g : Grp} {vm vo : Value} {r : Option Nat} (h : GB w b g vm vo) (hg : w.grownBy w' r) (hne : r ≠ some b) : GB w' b g vm vo := by
  obtain ⟨s, ⟨a0, a1, a2, a3, a4⟩, f⟩ := h
  have hn : some b ≠ r := fun e => hne e.symm
  refine ⟨Nat.lt_of_lt_of_le s hg.size, ⟨?_, ?_, ?_, ?_, ?_⟩, fun o => by rw [hg.frozen_far _ s hn]; exact f o⟩
  all_goals rw [hg.cell_far _ s hn]; assumption
theorem gb_set0 {w : World} {b : Nat} {g : Grp} {vm vo : Value} (h : GB w b g vm vo) (n : Int) : GB (w.setCell ⟨b, 0, none⟩ (.int .i64 n)) b { g with ck := n } vm vo := by
  obtain ⟨s, ⟨a0, a1, a2, a3, a4⟩, f⟩ := h
  refine ⟨by simpa using s, ⟨?_, ?_, ?_, ?_, ?_⟩, frozen_set f _ _ _ f⟩
  all_goals simp [go_sem, a0, a1, a2, a3, a4]
theorem gb_set2 {w : World} {b : Nat} {g : Grp} {vm vo : Value} (h : GB w b g vm vo) (n : Int) : GB (w.setCell ⟨b, 2, none⟩ (.int .i64 n)) b { g with gn := n } vm vo := by
  obtain ⟨s, ⟨a0, a1, a2, a3, a4⟩, f⟩ := h
  refine ⟨by simpa using s, ⟨?_, ?_, ?_, ?_, ?_⟩, frozen_set f _ _ _ f⟩
  all_goals simp [go_sem, a0, a1, a2, a3, a4]
theorem gb_set3 {w : World} {b : Nat} {g : Grp} {vm vo : Value} (h : GB w b g vm vo) (v : Value) : GB (w.setCell ⟨b, 3, none⟩ v) b g v vo := by
  obtain ⟨s, ⟨a0, a1, a2, a3, a4⟩, f⟩ := h
  refine ⟨by simpa using s, ⟨?_, ?_, ?_, ?_, ?_⟩, frozen_set f _ _ _ f⟩
  all_goals simp [go_sem, a0, a1, a2, a3, a4]
theorem gb_set4 {w : World} {b : Nat} {g : Grp} {vm vo : Value} (h : GB w b g vm vo) (v : Value) : GB (w.setCell ⟨b, 4, none⟩ v) b g vm v := by
  obtain ⟨s, ⟨a0, a1, a2, a3, a4⟩, f⟩ := h
  refine ⟨by simpa using s, ⟨?_, ?_, ?_, ?_, ?_⟩, frozen_set f _ _ _ f⟩
  all_goals simp [go_sem, a0, a1, a2, a3, a4]
theorem GB.ren {w : World} {b : Nat} {g g' : Grp} {vm vo : Value} (h : GB w b g vm vo) (h0 : g'.ck = g.ck) (h1 : g'.wt = g.wt) (h2 : g'.gn = g.gn) : GB w b g' vm vo := by
  unfold GB GBox at *
  rw [h0, h1, h2]
  exact h
/-- A whole box stored. -/
def put5 (w : World) (b : Nat) (g : Grp) (vm vo : Value) : World := ((((w.setCell ⟨b, 0, none⟩ (.int .i64 g.ck)).setCell ⟨b, 1, none⟩ (.int .i64 g.wt)).setCell ⟨b, 2, none⟩ (.int .i64 g.gn)).setCell ⟨b, 3, none⟩ vm).setCell ⟨b, 4, none⟩ vo
theorem put5_size (w : World) (b : Nat) (g : Grp) (vm vo : Value) : (put5 w b g vm vo).heap.size = w.heap.size := by simp [put5]
theorem GB.put {w : World} {b : Nat} {d : Grp} {dm do_ : Value} (h : GB w b d dm do_) (g : Grp) (vm vo : Value) : GB (put5 w b g vm vo) b g vm vo := by
  obtain ⟨s, ⟨a0, a1, a2, a3, a4⟩, f⟩ := h
  unfold put5
  have f0 := frozen_set f b 0 (.int .i64 g.ck) f
  have f1 := frozen_set f0 b 1 (.int .i64 g.wt) f0
  have f2 := frozen_set f1 b 2 (.int .i64 g.gn) f1
  have f3 := frozen_set f2 b 3 vm f2
  refine ⟨by simpa using s, ⟨?_, ?_, ?_, ?_, ?_⟩, frozen_set f3 b 4 vo f3⟩
  all_goals simp [go_sem, a0, a1, a2, a3, a4]
theorem GB.put5 {w : World} {b c : Nat} {g d : Grp} {vm vo dm do_ : Value} (h : GB w b g vm vo) (hc : b ≠ c) : GB (put5 w c d dm do_) b g vm vo := by
  unfold Go.Proofs.Ytmkbbhdmfpjfdaa.put5
  exact ((((h.far hc _ _).far hc _ _).far hc _ _).far hc _ _).far hc _ _
theorem below_put5 {w0 w : World} (h : Below w0.heap.size w0 w) {b : Nat} (hb : w0.heap.size ≤ b) (g : Grp) (vm vo : Value) : Below w0.heap.size w0 (put5 w b g vm vo) := by
  unfold put5
  exact ((((h.setCell (p := ⟨b, 0, none⟩) hb _).setCell (p := ⟨b, 1, none⟩) hb _).setCell (p := ⟨b, 2, none⟩) hb _).setCell (p := ⟨b, 3, none⟩) hb _).setCell (p := ⟨b, 4, none⟩) hb _

/-- A group in new memory, all apart. -/
structure FreshG (B : Nat) (w : World) (g : Grp) (vm vo : Value) (us : Nat → Value) : Prop where
  m : OwnW memE 55 B w vm g.ms us
  o : OwnW ofsE 63 B w vo g.os nilS
  a : ∀ b, vo.ownBlock = some b → vm.ownBlock ≠ some b
  d : ∀ i, i < g.ms.length → ∀ b, vo.ownBlock = some b → (us i).ownBlock ≠ some b
theorem FreshG.rd {B : Nat} {w : World} {g : Grp} {vm vo : Value} {us : Nat → Value} (h : FreshG B w g vm vo us) : RdG w g vm vo us := ⟨h.m.rd, h.o.rd⟩
theorem FreshG.mono {B C : Nat} {w : World} {g : Grp} {vm vo : Value} {us : Nat → Value} (h : FreshG B w g vm vo us) (hC : C ≤ B) : FreshG C w g vm vo us := ⟨h.m.mono hC, h.o.mono hC, h.a, h.d⟩
theorem FreshG.below {B C : Nat} {w w' : World} {g : Grp} {vm vo : Value} {us : Nat → Value} (h : FreshG B w g vm vo us) (hC : w.heap.size ≤ C) (hb : Below C w w') : FreshG B w' g vm vo us := ⟨h.m.below hC hb, h.o.below hC hb, h.a, h.d⟩
theorem FreshG.box {B : Nat} {w : World} {g : Grp} {vm vo : Value} {us : Nat → Value} (h : FreshG B w g vm vo us) {b : Nat} (hb : b < B) (o : Nat) (x : Value) : FreshG B (w.setCell ⟨b, o, none⟩ x) g vm vo us := ⟨h.m.box hb o x, h.o.box hb o x, h.a, h.d⟩
theorem FreshG.put5 {B : Nat} {w : World} {g : Grp} {vm vo : Value} {us : Nat → Value} (h : FreshG B w g vm vo us) {b : Nat} (hb : b < B) (d : Grp) (x y : Value) : FreshG B (put5 w b d x y) g vm vo us := by
  unfold Go.Proofs.Ytmkbbhdmfpjfdaa.put5
  exact ((((h.box hb _ _).box hb _ _).box hb _ _).box hb _ _).box hb _ _
theorem FreshG.ren {B : Nat} {w : World} {g g' : Grp} {vm vo : Value} {us : Nat → Value} (h : FreshG B w g vm vo us) (h0 : g'.ms = g.ms) (h1 : g'.os = g.os) : FreshG B w g' vm vo us := by
  obtain ⟨a, b, c, d⟩ := h
  refine ⟨?_, ?_, c, ?_⟩
  · rw [h0]; exact a
  · rw [h1]; exact b
  · rw [h0]; exact d
theorem freshG_nil {B : Nat} {w : World} (g : Grp) (h : g.ms = []) (h2 : g.os = []) (hB : B ≤ w.heap.size) : FreshG B w g (.slice none 0 0) (.slice none 0 0) nilS := by
  refine ⟨?_, ?_, (fun b e => by cases e), (fun i hi b e => by cases e)⟩
  · rw [h]; exact ownW_nil memE _ B w hB
  · rw [h2]; exact ownW_nil ofsE _ B w hB
theorem ints_get (l : List Int) (i : Nat) (h : i < l.length) (h' : i < (ints l).length) : (ints l)[i]'h' = .int .i64 (l[i]'h) := by simp [ints]
/-- A number of a row that reads as l. -/
theorem RdV.intCell {w : World} {ao : Option Addr} {n cap : Nat} {l : List Int} (h : RdV w (.slice ao n cap) (ints l)) (i : Nat) (hi : i < l.length) : ∃ g off, ao = some ⟨g, off, none⟩ ∧ w.cell? ⟨g, off + i, none⟩ = some (.int .i64 (l[i]'hi)) := by
  obtain ⟨g, off, e, _, hc⟩ := h.cellAt i (by rw [ints_len]; exact hi)
  exact ⟨g, off, e, by rw [hc, ints_get]⟩
theorem RdV.intShape {w : World} {v : Value} {l : List Int} (h : RdV w v (ints l)) : ∃ ao cap, v = .slice ao l.length cap ∧ (l.length : Int) ≤ 9223372036854775807 := by
  obtain ⟨ao, cap, e, h1, h2, _⟩ := h
  rw [ints_len] at e h1
  unfold maxLen at h2
  exact ⟨ao, cap, e, by omega⟩
/-- A member that is read, with a letter for it and its parts' slice. -/
theorem RdG.memAt {w : World} {g : Grp} {ao : Option Addr} {n cap : Nat} {vo : Value} {us : Nat → Value} (h : RdG w g (.slice ao n cap) vo us) (k : Nat) (hk : k < g.ms.length) : ∃ b off m au cu, ao = some ⟨b, off, none⟩ ∧ Hid (g.at k = m) ∧ b < w.heap.size ∧ Hid (RdV w (.slice au m.ps.length cu) (ints m.ps)) ∧ Hid (us k = .slice au m.ps.length cu) ∧ Hid (m ∈ g.ms) ∧ MBox w b (off + k * 3) m (.slice au m.ps.length cu) := by
  obtain ⟨b, off, rfl, hr, ht⟩ := h.m.mem k hk
  obtain ⟨au, cu, e, _⟩ := hr.intShape
  have hm : g.ms[k]'hk ∈ g.ms := List.getElem_mem hk
  rw [← at_mem_g hk] at e hr ht hm
  rw [e] at hr ht
  exact ⟨b, off, g.at k, au, cu, rfl, rfl, cell_lt ht.1, hr, e, hm, ht⟩
theorem RdG.ofsAt {w : World} {g : Grp} {ao : Option Addr} {n cap : Nat} {vm : Value} {us : Nat → Value} (h : RdG w g vm (.slice ao n cap) us) (k : Nat) (hk : k < g.os.length) : ∃ b off x, ao = some ⟨b, off, none⟩ ∧ Hid (g.off k = x) ∧ b < w.heap.size ∧ OBox w b (off + k * 2) x := by
  obtain ⟨b, off, rfl, ht⟩ := h.o.ofs k hk
  rw [← at_off_g hk] at ht
  exact ⟨b, off, g.off k, rfl, rfl, cell_lt ht.1, ht⟩

end Go.Proofs.Ytmkbbhdmfpjfdaa
