/-
  What the calls of package part answer, and that it lies in new memory.
-/
import Derived.Test.YtkolelpdedmkeaaPst
import Derived.Test.YtkolelpdedmkeaaPgrow
namespace Go.Proofs.Ytkolelpdedmkeaa
open Go.RowKit
set_option linter.unusedVariables false
set_option linter.unusedSimpArgs false

/-- Rows whose blocks lie from B on. -/
structure NewAt (B : Nat) (w : World) (n : Nat) (vi vk vr : Value) (us : Nat → Value) : Prop where
  i : ∀ k, vi.ownBlock = some k → B ≤ k ∧ k < w.heap.size
  k : ∀ k, vk.ownBlock = some k → B ≤ k ∧ k < w.heap.size
  r : ∀ k, vr.ownBlock = some k → B ≤ k ∧ k < w.heap.size
  u : ∀ i, i < n → ∀ k, (us i).ownBlock = some k → B ≤ k ∧ k < w.heap.size
theorem nil_new (B : Nat) (w : World) (n : Nat) : NewAt B w n nilV nilV nilV (fun _ => nilV) := ⟨(fun _ h => by cases h), (fun _ h => by cases h), (fun _ h => by cases h), (fun _ _ _ h => by cases h)⟩
theorem NewAt.mono {B C n : Nat} {w w' : World} {vi vk vr : Value} {us : Nat → Value} (h : NewAt B w n vi vk vr us) (hC : C ≤ B) (hw : w.heap.size ≤ w'.heap.size) : NewAt C w' n vi vk vr us :=
  ⟨fun k e => ⟨Nat.le_trans hC (h.i k e).1, Nat.lt_of_lt_of_le (h.i k e).2 hw⟩, fun k e => ⟨Nat.le_trans hC (h.k k e).1, Nat.lt_of_lt_of_le (h.k k e).2 hw⟩, fun k e => ⟨Nat.le_trans hC (h.r k e).1, Nat.lt_of_lt_of_le (h.r k e).2 hw⟩, fun i hi k e => ⟨Nat.le_trans hC (h.u i hi k e).1, Nat.lt_of_lt_of_le (h.u i hi k e).2 hw⟩⟩
def ResF (w : World) (q : Prt) (more : List Value) (e : Ending) (w' : World) : Prop :=
  ∃ vi vk vr us, e = .returned (.tuple (.agg #[.int .i64 q.ep, .int .i64 q.ld, vi, vk, vr, .int .i64 q.fw, .int .i64 q.bs] :: more).toArray) ∧ RdP w' q vi vk vr us ∧ Below w.heap.size w w' ∧ NewAt w.heap.size w' q.rs.length vi vk vr us
theorem ResF.res {w : World} {q : Prt} {more : List Value} {e : Ending} {w' : World} (h : ResF w q more e w') : Res w q more e w' := by
  obtain ⟨vi, vk, vr, us, h1, h2, h3, -⟩ := h
  exact ⟨vi, vk, vr, us, h1, h2, h3⟩
theorem resF_zero {w W : World} {b : Nat} {q : Prt} {more : List Value} (hq : q = Prt.zero) (hB : Below w.heap.size w W) (hb : w.heap.size ≤ b) : ResF w q more (.returned (.tuple (.agg #[.int .i64 0, .int .i64 0, nilV, nilV, nilV, .int .i64 0, .int .i64 0] :: more).toArray)) (put7 W b Prt.zero nilV nilV nilV) := by
  subst hq
  exact ⟨nilV, nilV, nilV, fun _ => nilV, rfl, nil_rdp _, below_put hB hb _ _ _ _, nil_new _ _ _⟩
theorem resF_nil {w W : World} {more : List Value} (hB : Below w.heap.size w W) : ResF w Prt.zero more (.returned (.tuple (.agg #[.int .i64 0, .int .i64 0, nilV, nilV, nilV, .int .i64 0, .int .i64 0] :: more).toArray)) W :=
  ⟨nilV, nilV, nilV, fun _ => nilV, rfl, nil_rdp _, hB, nil_new _ _ _⟩
theorem OwnP.newAt {B n : Nat} {w : World} {q : Prt} {gi gk gr ci ck cr li lk lr : Nat} {us : Nat → Value} (h : OwnP B w q gi gk gr ci ck cr us) (hn : n ≤ q.rs.length) : NewAt B w n (.slice (some ⟨gi, 0, none⟩) li ci) (.slice (some ⟨gk, 0, none⟩) lk ck) (.slice (some ⟨gr, 0, none⟩) lr cr) us :=
  ⟨fun k e => by obtain rfl := Option.some.inj e; exact ⟨h.2.bi, h.2.si⟩, fun k e => by obtain rfl := Option.some.inj e; exact ⟨h.2.bk, h.2.sk⟩, fun k e => by obtain rfl := Option.some.inj e; exact ⟨h.2.br, h.2.sr⟩, fun i hi k e => ⟨(h.2.un i (by omega) k e).1, (h.2.un i (by omega) k e).2.1⟩⟩
theorem resF_ok {w W : World} {b B : Nat} {q q' p : Prt} {gi gk gr ci ck cr li lk lr : Nat} {us : Nat → Value} {more : List Value} (hq : q' = q) (hO : OwnP B W q gi gk gr ci ck cr us) (hb : b < B) (hf : ∀ o, W.frozen? ⟨b, o, none⟩ = false) (hB : Below w.heap.size w W) (hwb : w.heap.size ≤ b) (h1 : q.isr.length = li) (h2 : q.kn.length = lk) (h3 : q.rs.length = lr) (h4 : q.ep = p.ep) (h5 : q.ld = p.ld) (h6 : q.fw = p.fw) (h7 : q.bs = p.bs) :
    ResF w q' more (.returned (.tuple (.agg #[.int .i64 p.ep, .int .i64 p.ld, .slice (some ⟨gi, 0, none⟩) li ci, .slice (some ⟨gk, 0, none⟩) lk ck, .slice (some ⟨gr, 0, none⟩) lr cr, .int .i64 p.fw, .int .i64 p.bs] :: more).toArray)) (put7 W b p (.slice (some ⟨gi, 0, none⟩) li ci) (.slice (some ⟨gk, 0, none⟩) lk ck) (.slice (some ⟨gr, 0, none⟩) lr cr)) := by
  subst hq
  refine ⟨_, _, _, us, ?_, (hO.put hf hb _ _ _ _).rd' h1 h2 h3, below_put hB hwb _ _ _ _, (hO.newAt (Nat.le_refl _)).mono (by omega) (by rw [put7_size]; exact Nat.le_refl _)⟩
  rw [h4, h5, h6, h7]
theorem St.doneF {B b z : Nat} {w W : World} {q : Prt} {gi gk gr di dk dr li lk lr : Nat} {us : Nat → Value} {q' : Prt} {more : List Value} (h : St B b z w q gi gk gr di dk dr li lk lr us W) (hq : q' = q) : ResF w q' more (.returned (.tuple (.agg #[.int .i64 q.ep, .int .i64 q.ld, .slice (some ⟨gi, 0, none⟩) li di, .slice (some ⟨gk, 0, none⟩) lk dk, .slice (some ⟨gr, 0, none⟩) lr dr, .int .i64 q.fw, .int .i64 q.bs] :: more).toArray)) (put7 W z q (.slice (some ⟨gi, 0, none⟩) li di) (.slice (some ⟨gk, 0, none⟩) lk dk) (.slice (some ⟨gr, 0, none⟩) lr dr)) :=
  resF_ok hq h.o h.zB h.r.2.2 h.bel h.wz h.hli h.hlk h.hlr rfl rfl rfl rfl
theorem FreshP.newAt {B : Nat} {w : World} {p : Prt} {vi vk vr : Value} {us : Nat → Value} (h : FreshP B w p vi vk vr us) : NewAt B w p.rs.length vi vk vr us :=
  ⟨fun k e => h.oi.blk k e, fun k e => h.ok.blk k e, fun k e => h.or.blk k e, fun i hi k e => ⟨(h.un i hi k e).1, (h.un i hi k e).2.1⟩⟩
theorem RdV.apart {w : World} {v : Value} {xs : List Value} (h : RdV w v xs) {b : Nat} (hb : v.ownBlock ≠ some b) (o : Nat) (x : Value) : RdV (w.setCell ⟨b, o, none⟩ x) v xs := by
  obtain ⟨ao, cap, rfl, h1, h2, h4, h3⟩ := h
  refine ⟨ao, cap, rfl, h1, h2, h4, fun h0 => ?_⟩
  obtain ⟨g, off, rfl, hg⟩ := h3 h0
  exact ⟨g, off, rfl, fun i hi => (cell_far (fun e => hb (by rw [← e]; rfl)) _ _ _).trans (hg i hi)⟩
theorem RdRs.apart {w : World} {v : Value} {rs : List Rep} {us : Nat → Value} (h : RdRs w v rs us) {b : Nat} (hb : v.ownBlock ≠ some b) (hu : ∀ i, i < rs.length → (us i).ownBlock ≠ some b) (o : Nat) (x : Value) : RdRs (w.setCell ⟨b, o, none⟩ x) v rs us := by
  obtain ⟨ao, cap, rfl, h1, h2, h4, h3⟩ := h
  refine ⟨ao, cap, rfl, h1, h2, h4, fun h0 => ?_⟩
  obtain ⟨g, off, rfl, hg⟩ := h3 h0
  have hne : g ≠ b := fun e => hb (by rw [← e]; rfl)
  refine ⟨g, off, rfl, fun i hi => ?_⟩
  obtain ⟨r0, r1, r2, r3, r4⟩ := hg i hi
  exact ⟨rd_block r0 (hu i hi) _ _, (cell_far hne _ _ _).trans r1, (cell_far hne _ _ _).trans r2, (cell_far hne _ _ _).trans r3, (cell_far hne _ _ _).trans r4⟩
/-- A block that is none of the rows'. -/
structure Off (b n : Nat) (vi vk vr : Value) (us : Nat → Value) : Prop where
  i : vi.ownBlock ≠ some b
  k : vk.ownBlock ≠ some b
  r : vr.ownBlock ≠ some b
  u : ∀ i, i < n → (us i).ownBlock ≠ some b
theorem NewAt.off {B n : Nat} {w : World} {vi vk vr : Value} {us : Nat → Value} (h : NewAt B w n vi vk vr us) {b : Nat} (hb : b < B) : Off b n vi vk vr us :=
  ⟨fun e => by have := (h.i b e).1; omega, fun e => by have := (h.k b e).1; omega, fun e => by have := (h.r b e).1; omega, fun i hi e => by have := (h.u i hi b e).1; omega⟩
theorem NewAt.offUp {B n : Nat} {w : World} {vi vk vr : Value} {us : Nat → Value} (h : NewAt B w n vi vk vr us) {b : Nat} (hb : w.heap.size ≤ b) : Off b n vi vk vr us :=
  ⟨fun e => by have := (h.i b e).2; omega, fun e => by have := (h.k b e).2; omega, fun e => by have := (h.r b e).2; omega, fun i hi e => by have := (h.u i hi b e).2; omega⟩
theorem RdP.apart {w : World} {p : Prt} {vi vk vr : Value} {us : Nat → Value} (h : RdP w p vi vk vr us) {b n : Nat} (hn : p.rs.length = n) (hb : Off b n vi vk vr us) (o : Nat) (x : Value) : RdP (w.setCell ⟨b, o, none⟩ x) p vi vk vr us :=
  ⟨h.1.apart hb.i o x, h.2.1.apart hb.k o x, h.2.2.apart hb.r (fun i hi => hb.u i (by omega)) o x⟩
theorem RdP.put {w : World} {p : Prt} {vi vk vr : Value} {us : Nat → Value} (h : RdP w p vi vk vr us) {b n : Nat} (hn : p.rs.length = n) (hb : Off b n vi vk vr us) (q : Prt) (x y z : Value) : RdP (put7 w b q x y z) p vi vk vr us := by
  unfold put7
  exact ((((((h.apart hn hb _ _).apart hn hb _ _).apart hn hb _ _).apart hn hb _ _).apart hn hb _ _).apart hn hb _ _).apart hn hb _ _

theorem RdP.grown {w w' : World} {p : Prt} {vi vk vr : Value} {us : Nat → Value} {r : Option Nat} (h : RdP w p vi vk vr us) {B n : Nat} (hn : p.rs.length = n) (hA : NewAt B w n vi vk vr us) (hg : w.grownBy w' r) (ho : ∀ k, r = some k → Off k n vi vk vr us) : RdP w' p vi vk vr us := by
  have hc : ∀ b o, b < w.heap.size → r ≠ some b → w'.cell? ⟨b, o, none⟩ = w.cell? ⟨b, o, none⟩ := fun b o h1 h2 => World.cell?_of_block (hg.block b h1 (fun e => h2 e.symm))
  refine ⟨?_, ?_, ?_⟩
  · obtain ⟨ao, cap, rfl, h1, h2, h4, h3⟩ := h.1
    refine ⟨ao, cap, rfl, h1, h2, h4, fun h0 => ?_⟩
    obtain ⟨g, off, rfl, hg'⟩ := h3 h0
    exact ⟨g, off, rfl, fun i hi => (hc g _ (hA.i g rfl).2 (fun e => (ho g e).i rfl)).trans (hg' i hi)⟩
  · obtain ⟨ao, cap, rfl, h1, h2, h4, h3⟩ := h.2.1
    refine ⟨ao, cap, rfl, h1, h2, h4, fun h0 => ?_⟩
    obtain ⟨g, off, rfl, hg'⟩ := h3 h0
    exact ⟨g, off, rfl, fun i hi => (hc g _ (hA.k g rfl).2 (fun e => (ho g e).k rfl)).trans (hg' i hi)⟩
  · obtain ⟨ao, cap, rfl, h1, h2, h4, h3⟩ := h.2.2
    refine ⟨ao, cap, rfl, h1, h2, h4, fun h0 => ?_⟩
    obtain ⟨g, off, rfl, hg'⟩ := h3 h0
    refine ⟨g, off, rfl, fun i hi => ?_⟩
    obtain ⟨r0, r1, r2, r3, r4⟩ := hg' i hi
    have e := fun o => hc g o (hA.r g rfl).2 (fun e => (ho g e).r rfl)
    exact ⟨rd_grown r0 hg (fun k hk e2 => (ho k e2).u i (by omega) hk), (e _).trans r1, (e _).trans r2, (e _).trans r3, (e _).trans r4⟩

end Go.Proofs.Ytkolelpdedmkeaa
