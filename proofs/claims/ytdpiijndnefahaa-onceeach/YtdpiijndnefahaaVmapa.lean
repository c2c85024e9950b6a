/-
  Maps from pairs of numbers to numbers, as functions; the entry that 'm[k]++' takes.
-/
import Derived.Test.YtdpiijndnefahaaVmapi
import Derived.Test.YtdpiijndnefahaaOpen
import Derived.WideKeyEntry
import Derived.DeepKeys4
namespace Go.Proofs.Ytdpiijndnefahaa
open Go.RowKit Go.Maps
open Go.ChangeMaps (setBlock)
set_option linter.unusedVariables false
set_option linter.unusedSimpArgs false

theorem rowA : (44 : TypeId) < Try.prog.types.size := of_decide_eq_true (by kernel_rfl)
theorem wideA : (match Try.prog.underlying 44 with | some (.array _ _) | some (.struct _) => true | _ => false) = true := by rw [Try.underlying44]
theorem lawA0 : WideMaps.KeyLaw Try.prog 44 := deep_law_laid laidOut (m := 2) (by omega) rowA (by kernel_rfl) wideA
theorem lawA : Keyed Try.prog 44 := Keyed.of_law lawA0
theorem cellsA : Try.prog.cellsOf 44 = 2 := by kernel_rfl
theorem keyTypeA : Try.prog.keyType 44 = true := by kernel_rfl
/-- A pair as a key. -/
def pairV (p v : Int) : Value := .agg #[.int .i64 p, .int .i64 v]
theorem formedA (p v : Int) : (pairV p v).formed Try.prog 44 = true := by simp [pairV, Value.formed, Try.underlying44, cellsA]
theorem keyLitsI (d : Nat) (p : Int) (h : (Lit.int .i64 p).wf = true) : Try.prog.keyLits (d + 1) 3 [.int .i64 p] = some [.int .i64 p] := by
  simp [Program.keyLits, Try.underlying3, h]
theorem key_a (p v : Int) (hp : (Lit.int .i64 p).wf = true) (hv : (Lit.int .i64 v).wf = true) : ∃ l, keyOf Try.prog 44 (pairV p v) = some l := by
  obtain ⟨d, hd⟩ := Nat.exists_eq_succ_of_ne_zero (Nat.ne_of_gt (Nat.lt_of_le_of_lt (Nat.zero_le _) rowA))
  have h1 : Try.prog.keyLits (Try.prog.types.size + 1) 44 [.int .i64 p, .int .i64 v] = some [.int .i64 p, .int .i64 v] := by
    have e0 := keyLitsI d p hp
    have e1 := keyLitsI d v hv
    rw [hd]
    unfold Program.keyLits
    rw [Try.underlying44]
    simp [cellsA, cellsI, List.range_succ, e0, e1]
  refine ⟨.string (keyBytes [.int .i64 p, .int .i64 v]), ?_⟩
  unfold keyOf
  rw [Try.underlying44]
  simp only [keyTypeA, formedA, Bool.and_self, if_true]
  show Option.map _ (Try.prog.keyLits (Try.prog.types.size + 1) 44 [.int .i64 p, .int .i64 v]) = _
  rw [h1]
  rfl

/-- Block b is a map that gives M of each pair of numbers; at most n entries. -/
def MapA (w : World) (b n : Nat) (M : Int → Int → Int) : Prop :=
  ∃ D : DataW Unit, w.ownsMap Try.prog 44 (plainElem Try.prog 3) b n D ∧ ∀ p v l, keyOf Try.prog 44 (pairV p v) = some l → D.atKey l (.lit (.int .i64 0)) = .lit (.int .i64 (M p v))
theorem MapA.lt {w : World} {b n : Nat} {M : Int → Int → Int} (h : MapA w b n M) : b < w.heap.size := by
  obtain ⟨D, h, _⟩ := h
  exact h.lt
theorem MapA.below {w w' : World} {b n C : Nat} {M : Int → Int → Int} (h : MapA w b n M) (hC : b < C) (hb : Below C w w') : MapA w' b n M := by
  obtain ⟨D, ⟨es, clock, h1, r⟩, h2⟩ := h
  exact ⟨D, ⟨es, clock, by rw [hb.block b (by omega)]; exact h1, r⟩, h2⟩
theorem MapA.drewN {w : World} {b n : Nat} {M : Int → Int → Int} (h : MapA w b n M) (q : Nat) : MapA (w.drewN q) b n M := h
theorem MapA.grown {w w' : World} {b n c : Nat} {M : Int → Int → Int} (h : MapA w b n M) (hg : w.grownBy w' (some c)) (hne : b ≠ c) : MapA w' b n M := by
  obtain ⟨D, h1, h2⟩ := h
  exact ⟨D, h1.kept hg (fun e => hne (by injection e)), h2⟩
theorem MapA.congr {w : World} {b n : Nat} {M M' : Int → Int → Int} (h : MapA w b n M) (hM : ∀ p v, M p v = M' p v) : MapA w b n M' := by
  obtain ⟨D, h1, h2⟩ := h
  exact ⟨D, h1, fun p v l hl => by rw [← hM]; exact h2 p v l hl⟩
theorem mapA_new (w : World) (M : Int → Int → Int) (hM : ∀ p v, M p v = 0) : MapA (w.alloc (.map #[] 0)) w.heap.size 0 M :=
  ⟨.map [], World.ownsMap_made _ _ _ _, fun p v l _ => by rw [hM]; rfl⟩
theorem MapI.grown {w w' : World} {b n c : Nat} {M : Int → Int} (h : MapI w b n M) (hg : w.grownBy w' (some c)) (hne : b ≠ c) : MapI w' b n M := by
  obtain ⟨D, h1, h2⟩ := h
  exact ⟨D, h1.kept hg (fun e => hne (by injection e)), h2⟩

theorem MapA.look {w : World} {b n : Nat} {M : Int → Int → Int} (h : MapA w b n M) (p v : Int) (hp : (Lit.int .i64 p).wf = true) (hv : (Lit.int .i64 v).wf = true) :
    (Instr.lookup 42 (.map (some b)) (pairV p v) false).run Try.prog w = .ok (.int .i64 (M p v)) w := by
  obtain ⟨D, h1, h2⟩ := h
  obtain ⟨l, hl⟩ := key_a p v hp hv
  obtain ⟨c, hrun, hat, hwc⟩ := h1.lookup_int lawA Try.underlying42 Try.underlying3 (zeroI w) hl
  rw [h2 p v l hl] at hat
  injection hat with hat
  injection hat with _ hat
  rw [hrun, hat]

theorem pair_inj {p v p' v' : Int} (h : pairV p v = pairV p' v') : p = p' ∧ v = v' := by
  simp only [pairV] at h
  injection h with h
  simp at h
  exact h

theorem MapA.store {w : World} {b n : Nat} {M : Int → Int → Int} (h : MapA w b n M) (hn : n < maxLen) (p v d : Int) (hp : (Lit.int .i64 p).wf = true) (hv : (Lit.int .i64 v).wf = true) (hd : (Lit.int .i64 d).wf = true) :
    ∃ w', (Instr.mapUpdate 42 (.map (some b)) (pairV p v) (.int .i64 d)).run Try.prog w = .ok () w' ∧ MapA w' b (n + 1) (fun p' v' => if p' = p ∧ v' = v then d else M p' v') ∧ w.grownBy w' (some b) := by
  obtain ⟨D, h1, h2⟩ := h
  obtain ⟨l, hl⟩ := key_a p v hp hv
  obtain ⟨w', hrun, hown, hg⟩ := h1.update lawA Try.underlying42 hn hl (plainElem_int Try.underlying3 hd)
  refine ⟨w', hrun, ⟨_, hown, fun p' v' l' hl' => ?_⟩, hg⟩
  by_cases hj : p' = p ∧ v' = v
  · obtain ⟨rfl, rfl⟩ := hj
    rw [hl] at hl'
    obtain rfl := Option.some.inj hl'
    simp only [and_self, if_true]
    exact atKey_put_same h1.isMap (lawA.key hl) _ _
  · have hne : l' ≠ l := fun e => by
      subst e
      exact hj (pair_inj (lawA.inj hl' hl))
    simp only [if_neg hj]
    rw [atKey_put_other hne]
    exact h2 p' v' l' hl'

/-- The entry that 'm[k]++' takes, and what is then stored there. -/
theorem MapA.bump {w : World} {b n : Nat} {M : Int → Int → Int} (h : MapA w b n M) (hn : n < maxLen) (p v d : Int) (hp : (Lit.int .i64 p).wf = true) (hv : (Lit.int .i64 v).wf = true) (hm : (Lit.int .i64 (M p v)).wf = true) (hd : (Lit.int .i64 d).wf = true) :
    ∃ (u : Value) (st : Nat) (w1 : World), (Instr.mapEntry 42 (.map (some b)) (pairV p v)).run Try.prog w = .ok (.tuple #[u, .int .i64 st]) w1 ∧ MapA w1 b (n + 1) M ∧ w.grownBy w1 (some b) ∧
      ∀ q, ∃ w3, (Instr.entryStore 42 (.map (some b)) (.int .i64 st) (.int .i64 d)).run Try.prog (w1.drewN q) = .ok () w3 ∧ MapA w3 b (n + 1) (fun p' v' => if p' = p ∧ v' = v then d else M p' v') ∧ (w1.drewN q).grownBy w3 (some b) := by
  have hlook := h.look p v hp hv
  obtain ⟨wu, hupd, hmu, hgu⟩ := h.store hn p v (M p v) hp hv hm
  obtain ⟨l, hl⟩ := key_a p v hp hv
  obtain ⟨w3, hupd3, hm3, hg3⟩ := h.store hn p v d hp hv hd
  obtain ⟨D, h1, h2⟩ := h
  obtain ⟨es, clock, hb, F, hs, hD⟩ := h1
  obtain ⟨v0, st, es1, clock1, hE, _, hS⟩ := WideElems.entry_then_store lawA0 Try.underlying42 zeroI hb F hl
  have hw1 : setBlock w b (.map es1 clock1) = wu := by
    rcases lawA.find w hl es.toList F.keys with ⟨f1, f2⟩ | ⟨j, e0, f1, f2, f3⟩
    · simp [Instr.mapEntry, run_underlying Try.underlying42, MapKept.run_getObj_map hb, lawA.check w false hl, f1, zeroI, MapKept.run_setObj_map _ hb, Result.andThen] at hE
      simp [Instr.lookup, run_underlying Try.underlying42, MapKept.run_getObj_map hb, lawA.check w _ hl, f1, zeroI, Result.andThen] at hlook
      simp [Instr.mapUpdate, run_underlying Try.underlying42, MapKept.run_getObj_map hb, lawA.check w false hl, f1, MapKept.run_setObj_map _ hb, Result.andThen] at hupd
      rw [← hE.2, ← hupd, hlook]
    · have hj : es[j]? = some e0 := by simpa using f2
      simp [Instr.mapEntry, run_underlying Try.underlying42, MapKept.run_getObj_map hb, lawA.check w false hl, f1, hj, f3, lawA.stays w hl, MapKept.run_setObj_map _ hb, Result.andThen] at hE
      simp [Instr.lookup, run_underlying Try.underlying42, MapKept.run_getObj_map hb, lawA.check w _ hl, f1, Result.andThen] at hlook
      simp [Instr.mapUpdate, run_underlying Try.underlying42, MapKept.run_getObj_map hb, lawA.check w false hl, f1, hj, f3, lawA.stays w hl, MapKept.run_setObj_map _ hb, Result.andThen] at hupd
      rw [← hE.2, ← hupd]
      have e1 : es.modify j (fun e => { e with key := pairV p v }) = es.modify j (fun e => { e with key := pairV p v, val := .int .i64 (M p v) }) := by
        apply Array.ext'
        rw [Array.toList_modify, Array.toList_modify, ChangeMaps.modify_eq_set _ _ _ _ f2, ChangeMaps.modify_eq_set _ _ _ _ f2, hlook]
      rw [e1]
  refine ⟨v0, st, wu, ?_, hmu.congr (fun p' v' => ?_), hgu, fun q => ?_⟩
  · rw [← hw1]
    exact hE
  · split
    · rename_i e
      rw [e.1, e.2]
    · rfl
  · have hbu : (wu.drewN q).heap[b]? = some (.map es1 clock1) := by
      rw [← hw1]
      exact ChangeMaps.heap_setBlock_same hb _
    obtain ⟨es', clock', r1, r2⟩ := hS (wu.drewN q) (.int .i64 d) hbu
    rw [r2] at hupd3
    have e3 : setBlock w b (.map es' clock') = w3 := by
      injection hupd3
    refine ⟨_, r1, ?_, ?_⟩
    · obtain ⟨D3, ⟨es3, clock3, g1, g2⟩, g4⟩ := hm3
      rw [← e3, ChangeMaps.heap_setBlock_same hb _] at g1
      injection g1 with g1
      injection g1 with g1 g1'
      subst g1
      subst g1'
      exact ⟨D3, ⟨es', clock', ChangeMaps.heap_setBlock_same hbu _, g2⟩, g4⟩
    · exact ⟨rfl, rfl, rfl, by simp [setBlock], fun i _ hi => ChangeMaps.heap_setBlock_other hbu _ (fun e => hi (by rw [e]))⟩

end Go.Proofs.Ytdpiijndnefahaa
