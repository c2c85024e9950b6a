/-
  group.assignAnew and the document's anew, walked.
-/
import Derived.Test.YtmkbbhdmfpjfdaaGasgd
import Derived.Test.YtmkbbhdmfpjfdaaGbeat
namespace Go.Proofs.Ytmkbbhdmfpjfdaa
open Go.RowKit
set_option linter.unusedVariables false
set_option linter.unusedSimpArgs false

theorem infoStr : (Try.prog.info? 9).map (fun i => (i.zero, i.size, i.bytes)) = some (some (.string ⟨#[]⟩), 1, 16) := by kernel_rfl

section
variable {w : World} {ops : Array Oper} {rest : List Oper} {o : Oper} {a : Act} {Q : Exit → Act → World → Prop}
theorem wp_rowS (hgd : o.guard = none) (s x : Operand)
    (ho : o.op = .call { callee := .builtin .append, args := #[s, x], argTypes := #[31, 31] })
    (B : Nat) (v : Value) (n : Nat) (xs : List Value) (hs : a.eval s = v) (hown : OwnV B 9 1 v n xs w) (g : Nat) (hx : a.eval x = .slice (some ⟨g, 0, none⟩) 1 1) (b : ByteArray) (hc : w.cell? ⟨g, 0, none⟩ = some (.string b)) (hlen : (n + 1) * 16 ≤ 140737488355328) (H : Nat) (hH : w.heap.size = H)
    (h : ∀ g' cap w', OwnV B 9 1 (.slice (some ⟨g', 0, none⟩) (n + 1) cap) (n + 1) (xs ++ [.string b]) w' → w.grownBy w' v.ownBlock → (v.ownBlock = some g' ∨ g' = H) → g' < w'.heap.size → wpList Try.prog ops Q rest (a.put o.dst (.slice (some ⟨g', 0, none⟩) (n + 1) cap)) w') :
    wpList Try.prog ops Q (o :: rest) a w := by
  obtain ⟨i, hi, hz0, hz1, hz2⟩ := info_parts infoStr
  refine wpList_append_lies _ hgd s x _ ho B _ i (.string ⟨#[]⟩) 1 16 Try.underlying31 hi hz0 hz1 hz2 rfl (by decide) v n xs hs hown.1 ⟨g, 0, none⟩ 1 1 [.string b] hx rfl ?_ ?_ (by omega) (by unfold maxLen; omega) (by omega) hown.2 H hH ?_
  · intro j u hj
    have hj' : j < 1 := by simpa using (List.getElem?_eq_some_iff.1 hj).1
    obtain rfl : j = 0 := by omega
    rw [Addr.add_lit]
    simp at hj
    subst hj
    exact hc
  · intro u hu
    simp at hu
    subst hu
    rfl
  · intro g' cap w' ho' hg hat hlt
    exact h g' cap w' ⟨ho', Nat.le_trans hown.2 hg.size⟩ hg hat hlt
end
def Mem.with (m : Mem) (l : List Int) : Mem := { m with ps := l }
/-- The parts are given to so many. -/
def mixM (ms : List Mem) (ls : List (List Int)) (k : Nat) : List Mem := (List.zipWith Mem.with ms ls).take k ++ ms.drop k
theorem mixM_zero (ms : List Mem) (ls : List (List Int)) : mixM ms ls 0 = ms := by simp [mixM]
theorem mixM_all (ms : List Mem) (ls : List (List Int)) (h : ls.length = ms.length) : mixM ms ls ms.length = List.zipWith Mem.with ms ls := by
  unfold mixM
  rw [List.drop_length, List.append_nil, List.take_of_length_le (by rw [List.length_zipWith]; omega)]
theorem mixM_len (ms : List Mem) (ls : List (List Int)) (h : ls.length = ms.length) (k : Nat) (hk : k ≤ ms.length) : (mixM ms ls k).length = ms.length := by
  unfold mixM
  rw [List.length_append, List.length_take, List.length_zipWith, List.length_drop]
  omega
theorem mixM_at {ms : List Mem} {ls : List (List Int)} (h : ls.length = ms.length) {k i : Nat} (hk : k ≤ i) (hi : i < ms.length) (h' : i < (mixM ms ls k).length) : (mixM ms ls k)[i]'h' = ms[i]'hi := by
  have e : (mixM ms ls k)[i]? = ms[i]? := by
    unfold mixM
    rw [List.getElem?_append_right (by rw [List.length_take, List.length_zipWith]; omega), List.getElem?_drop]
    congr 1
    rw [List.length_take, List.length_zipWith]
    omega
  rw [List.getElem?_eq_getElem h', List.getElem?_eq_getElem hi] at e
  exact Option.some.inj e
theorem mixM_set {ms : List Mem} {ls : List (List Int)} (h : ls.length = ms.length) {k : Nat} (hk : k < ms.length) : (mixM ms ls k).set k ((ms[k]'hk).with (ls[k]'(by omega))) = mixM ms ls (k + 1) := by
  have hz : k < (List.zipWith Mem.with ms ls).length := by rw [List.length_zipWith]; omega
  unfold mixM
  rw [List.drop_eq_getElem_cons hk]
  have hl : ((List.zipWith Mem.with ms ls).take k).length = k := by rw [List.length_take]; omega
  have := set_mid ((List.zipWith Mem.with ms ls).take k) (ms.drop (k + 1)) (ms[k]'hk) ((ms[k]'hk).with (ls[k]'(by omega)))
  rw [hl] at this
  rw [this, List.take_succ_eq_append_getElem hz, List.append_assoc]
  simp
/-- The next generation: all parts are assigned anew (P6.2). -/
def Grp.anew (g : Grp) (p : Int) : Grp := { g with gn := g.gn + 1, ms := List.zipWith Mem.with g.ms (asg (g.ms.map Mem.nm) p) }
theorem anew_len (g : Grp) (p : Int) : (g.anew p).ms.length = g.ms.length := by
  unfold Grp.anew
  rw [List.length_zipWith, asg_len, List.length_map, Nat.min_self]

structure An (w : World) (b z B B5 : Nat) (g : Grp) (vm vo : Value) (us : Nat → Value) (va : Value) (ls : List (List Int)) (ua : Nat → Value) (k : Nat) (W : World) : Prop where
  gr : w.grownBy W vm.ownBlock
  bb : GB W b { g with gn := g.gn + 1 } vm vo
  zz : GB W z Grp.zero (.slice none 0 0) (.slice none 0 0)
  own : FreshG B W { g with ms := mixM g.ms ls k } vm vo (fun m => if m < k then ua m else us m)
  asd : OwnW listE 53 B5 W va ls ua
  old : FreshG B w g vm vo us
  len : ls.length = g.ms.length
  wb : w.heap.size ≤ b
  wz : w.heap.size ≤ z
  b5 : b < B5
  z5 : z < B5
theorem An.start {w W : World} {b z B B5 : Nat} {g : Grp} {vm vo : Value} {us : Nat → Value} {va : Value} {ls : List (List Int)} {ua : Nat → Value} (h : FreshG B w g vm vo us) (hB : Below w.heap.size w W) (hb : GB W b { g with gn := g.gn + 1 } vm vo) (hz : GB W z Grp.zero (.slice none 0 0) (.slice none 0 0)) (ha : OwnW listE 53 B5 W va ls ua) (hl : ls.length = g.ms.length) (wb : w.heap.size ≤ b) (wz : w.heap.size ≤ z) (b5 : b < B5) (z5 : z < B5) :
    An w b z B B5 g vm vo us va ls ua 0 W := by
  refine ⟨grown_below hB _, hb, hz, ?_, ha, h, hl, wb, wz, b5, z5⟩
  have := h.below (Nat.le_refl _) hB
  refine ⟨?_, this.o, this.a, ?_⟩
  · show OwnW _ _ _ _ _ (mixM g.ms ls 0) _
    rw [mixM_zero]
    exact this.m.congr (fun i hi => by simp)
  · show ∀ i, i < (mixM g.ms ls 0).length → _
    rw [mixM_zero]
    intro i hi b' e
    simpa using this.d i hi b' e
theorem An.step {w W : World} {b z B B5 : Nat} {g : Grp} {gr n cap : Nat} {vo : Value} {us : Nat → Value} {va : Value} {ls : List (List Int)} {ua : Nat → Value} {k : Nat} (h : An w b z B B5 g (.slice (some ⟨gr, 0, none⟩) n cap) vo us va ls ua k W) (hk : k < g.ms.length) :
    An w b z B B5 g (.slice (some ⟨gr, 0, none⟩) n cap) vo us va ls ua (k + 1) (W.setCell ⟨gr, k * 3 + 2, none⟩ (ua k)) := by
  have hlk : k < ls.length := by rw [h.len]; exact hk
  have hgr := h.old.m.o.blk gr rfl
  have hB5 : w.heap.size < B5 := by have := h.b5; have := h.wb; omega
  have hu : ∀ i, i < ls.length → ∀ c, (ua i).ownBlock = some c → B5 ≤ c := fun i hi c e => ((h.asd.i i hi).blk c e).1
  have hml := mixM_len g.ms ls h.len k (by omega)
  have hmk : k < (mixM g.ms ls k).length := by rw [hml]; exact hk
  have hel := mixM_at h.len (Nat.le_refl k) hk hmk
  have hcs : (memE.cs ((mixM g.ms ls k)[k]'hmk) ((fun m => if m < k then ua m else us m) k)).set 2 (ua k) = memE.cs ((g.ms[k]'hk).with (ls[k]'hlk)) (ua k) := by
    rw [hel]
    rfl
  have hm := OwnW.setIn h.own.m k 2 hmk (by decide) ((g.ms[k]'hk).with (ls[k]'hlk)) (ua k) hcs ((h.asd.i k hlk).mono (by have := h.old.m.o.2; omega)) (fun e => by have := hu k hlk gr e; omega) (fun i hi hne c e e2 => by
    rw [hml] at hi
    have h1 := hu k hlk c e2
    by_cases h2 : i < k
    · simp only [if_pos h2] at e
      exact h.asd.d i k (by rw [h.len]; exact hi) hlk hne c e e2
    · simp only [if_neg h2] at e
      have := ((h.old.m.i i hi).blk c e).2
      omega)
  have hne1 : b ≠ gr := by have := h.wb; omega
  have hne2 : z ≠ gr := by have := h.wz; omega
  refine ⟨grown_set h.gr _ _, h.bb.far hne1 _ _, h.zz.far hne2 _ _, ⟨?_, h.own.o.far (fun e => h.own.a gr e rfl) (fun i _ => nil_off i gr) _ _, h.own.a, ?_⟩, h.asd.far (fun e => by have := (h.asd.o.blk gr e).1; omega) (fun i hi e => by have := hu i hi gr e; omega) _ _, h.old, h.len, h.wb, h.wz, h.b5, h.z5⟩
  · show OwnW memE _ _ _ _ (mixM g.ms ls (k + 1)) _
    rw [← mixM_set h.len hk]
    refine hm.congr (fun i hi => ?_)
    by_cases h1 : i = k
    · subst h1
      simp
    · by_cases h2 : i < k
      · simp [h1, h2, show i < k + 1 by omega]
      · simp [h1, h2, show ¬ i < k + 1 by omega]
  · show ∀ i, i < (mixM g.ms ls (k + 1)).length → _
    rw [mixM_len g.ms ls h.len (k + 1) (by omega)]
    intro i hi c e e2
    have hc := (h.old.o.o.blk c e).2
    by_cases h2 : i < k + 1
    · simp only [if_pos h2] at e2
      have := hu i (by rw [h.len]; exact hi) c e2
      omega
    · simp only [if_neg h2] at e2
      exact h.old.d i hi c e e2
theorem An.below {w W W' : World} {b z B B5 : Nat} {g : Grp} {vm vo : Value} {us : Nat → Value} {va : Value} {ls : List (List Int)} {ua : Nat → Value} {k : Nat} (h : An w b z B B5 g vm vo us va ls ua k W) (hb : Below W.heap.size W W') : An w b z B B5 g vm vo us va ls ua k W' :=
  ⟨grown_trans h.gr (grown_below hb _), h.bb.below h.bb.1 hb, h.zz.below h.zz.1 hb, h.own.below (Nat.le_refl _) hb, h.asd.below (Nat.le_refl _) hb, h.old, h.len, h.wb, h.wz, h.b5, h.z5⟩
theorem An.cells {w W : World} {b z B B5 : Nat} {g : Grp} {gr n cap : Nat} {vo : Value} {us : Nat → Value} {va : Value} {ls : List (List Int)} {ua : Nat → Value} {k : Nat} (h : An w b z B B5 g (.slice (some ⟨gr, 0, none⟩) n cap) vo us va ls ua k W) (hk : k < g.ms.length) :
    (∃ y, W.cell? ⟨gr, k * 3 + 2, none⟩ = some y) ∧ W.frozen? ⟨gr, k * 3 + 2, none⟩ = false ∧ gr < w.heap.size ∧ ∃ ga off ca, va = .slice (some ⟨ga, off, none⟩) ls.length ca ∧ W.cell? ⟨ga, off + k, none⟩ = some (ua k) ∧ ga ≠ gr := by
  have hml := mixM_len g.ms ls h.len k (by omega)
  have hmk : k < (mixM g.ms ls k).length := by rw [hml]; exact hk
  obtain ⟨q, hfz, hb1, hb2⟩ := h.own.memCells k hmk
  have hgr := (h.old.m.o.blk gr rfl).2
  have hlk : k < ls.length := by rw [h.len]; exact hk
  obtain ⟨ga, ca, e, h1, -, -, -, -, hc⟩ := h.asd.o.form (by omega)
  refine ⟨⟨_, q.2.2⟩, hfz _, hgr, ga, 0, ca, e, ?_, ?_⟩
  · rw [Nat.zero_add, hc k (by show k < ls.length * 1; omega)]
    have := row_at listE ua ls 0 k 0 hlk (by decide)
    rw [show k * listE.z + 0 = k by show k * 1 + 0 = k; omega, Nat.zero_add] at this
    rw [this]
    rfl
  · have := h.b5
    have := h.wb
    omega
/-- What is left where it is returned. -/
theorem An.done {w W : World} {b z B B5 : Nat} {g : Grp} {vm vo : Value} {us : Nat → Value} {va : Value} {ua : Nat → Value} {p : Int} (h : An w b z B B5 g vm vo us va (asg (g.ms.map Mem.nm) p) ua g.ms.length W) :
    FreshG B (put5 W z (g.anew p) vm vo) (g.anew p) vm vo ua ∧ w.grownBy (put5 W z (g.anew p) vm vo) vm.ownBlock ∧ ∀ i, i < g.ms.length → ∀ c, (ua i).ownBlock = some c → w.heap.size ≤ c := by
  have hB5 : w.heap.size < B5 := by have := h.b5; have := h.wb; omega
  have hu : ∀ i, i < g.ms.length → ∀ c, (ua i).ownBlock = some c → B5 ≤ c := fun i hi c e => ((h.asd.i i (by rw [h.len]; exact hi)).blk c e).1
  have hf : FreshG B W (g.anew p) vm vo ua := by
    refine ⟨?_, h.own.o, h.own.a, fun i hi c e e2 => ?_⟩
    · have := h.own.m
      rw [mixM_all _ _ h.len] at this
      exact this.congr (fun i hi => by rw [show (List.zipWith Mem.with g.ms (asg (g.ms.map Mem.nm) p)).length = g.ms.length by rw [List.length_zipWith, h.len, Nat.min_self]] at hi; rw [if_pos hi])
    · rw [anew_len] at hi
      have h1 := hu i hi c e2
      have h2 := (h.old.o.o.blk c e).2
      omega
  have hoz : Off (g.anew p) vm vo ua z := by
    refine ⟨fun e => ?_, fun e => ?_, fun i hi e => ?_⟩
    · have h1 := (h.old.m.o.blk z e).2
      have := h.wz
      omega
    · have h1 := (h.old.o.o.blk z e).2
      have := h.wz
      omega
    · rw [anew_len] at hi
      have h1 := hu i hi z e
      have := h.z5
      omega
  refine ⟨hf.put hoz _ _ _, ?_, fun i hi c e => by have := hu i hi c e; omega⟩
  unfold put5
  exact grown_far (grown_far (grown_far (grown_far (grown_far h.gr h.wz _ _) h.wz _ _) h.wz _ _) h.wz _ _) h.wz _ _

set_option maxRecDepth 100000 in
set_option maxHeartbeats 4000000 in
theorem assignAnew_any (g : Grp) (p : Int) (vm vo : Value) (us : Nat → Value) (w : World) (B : Nat) (h : FreshG B w g vm vo us) (hs : g.ms.length * 48 ≤ 140737488355328) (hn : g.ms.length < 20) (hp0 : -1000 ≤ p) (hp1 : p ≤ 1000) (hg0 : 0 ≤ g.gn) (hg1 : g.gn ≤ 1073741824) :
    Calls Try.prog 63 #[.agg #[.int .i64 g.ck, .int .i64 g.wt, .int .i64 g.gn, vm, vo], .int .i64 p] w fun e w' => ∃ us', e = .returned (.agg #[.int .i64 ((g.anew p)).ck, .int .i64 ((g.anew p)).wt, .int .i64 ((g.anew p)).gn, vm, vo]) ∧ FreshG B w' (g.anew p) vm vo us' ∧ w.grownBy w' vm.ownBlock ∧ ∀ i, i < g.ms.length → ∀ c, (us' i).ownBlock = some c → w.heap.size ≤ c := by
  obtain ⟨av, cv, rfl⟩ : ∃ av cv, vm = .slice av g.ms.length cv := h.m.o.shape
  obtain ⟨ao, co, rfl⟩ : ∃ ao co, vo = .slice ao g.os.length co := h.o.o.shape
  have H : Hid _ := h
  have HR : Hid (∀ W, Below w.heap.size w W → RdG W g (.slice av g.ms.length cv) (.slice ao g.os.length co) us) := fun W hW => h.rd.below (Nat.le_refl _) hW
  have HSZ : Hid (g.ms.length * 48 ≤ 140737488355328) := hs
  have hll : (g.ms.length : Int) ≤ 9223372036854775807 := by omega
  have H0 : Hid _ := two_new w g (.slice av g.ms.length cv) (.slice ao g.os.length co)
  have HNL : Hid ((g.ms.map Mem.nm).length = g.ms.length) := show _ = _ from List.length_map ..
  have HLM : Hid (g.ms.length < 20) := hn
  clear h hs hn
  go_enter Try.func63, Try.ntmps63
  go_upto_region 1 with fail
  generalize (w.alloc (.cells #[.int .i64 g.ck, .int .i64 g.wt, .int .i64 g.gn, .slice av g.ms.length cv, .slice ao g.os.length co] 25)).alloc (.cells #[.int .i64 0, .int .i64 0, .int .i64 0, .slice none 0 0, .slice none 0 0] 25) = W0 at *
  have HB0 : Hid (Below w.heap.size w W0) := H0.out.1
  have HC0 : Hid (GB W0 w.heap.size g _ _) := H0.out.2.1
  have HZ0 : Hid (GB W0 (w.heap.size + 1) Grp.zero (.slice none 0 0) (.slice none 0 0)) := H0.out.2.2
  clear H0
  obtain ⟨s1, ⟨a0, a1, a2, a3, a4⟩, f1⟩ := HC0.out
  obtain ⟨z1, ⟨e0, e1, e2, e3, e4⟩, g1⟩ := HZ0.out
  have HB1 : Hid (Below w.heap.size w (W0.setCell ⟨w.heap.size, 2, none⟩ (.int .i64 (g.gn + 1)))) := HB0.out.setCell (p := ⟨w.heap.size, 2, none⟩) (Nat.le_refl _) _
  have HC1 : Hid (GB (W0.setCell ⟨w.heap.size, 2, none⟩ (.int .i64 (g.gn + 1))) w.heap.size { g with gn := g.gn + 1 } _ _) := gb_set2 HC0.out _
  have HZ1 : Hid (GB (W0.setCell ⟨w.heap.size, 2, none⟩ (.int .i64 (g.gn + 1))) (w.heap.size + 1) Grp.zero _ _) := HZ0.out.far (by omega) _ _
  go_upto_region 2 with fail
  generalize W0.setCell ⟨w.heap.size, 2, none⟩ (.int .i64 (g.gn + 1)) = W1 at *
  clear a0 a1 a2 a3 a4 f1 s1 z1 e0 e1 e2 e3 e4 g1 HB0 HC0 HZ0
  obtain ⟨s1, ⟨a0, a1, a2, a3, a4⟩, f1⟩ := HC1.out
  go_wp2
  clear a0 a1 a2 a3 a4 f1 s1
  go_loopw [5, 17] (fun out i W => ∃ k : Nat, k ≤ g.ms.length ∧ i = .int .i64 k ∧ Hid (OwnV W1.heap.size 9 1 out k ((strs (g.ms.map Mem.nm)).take k) W) ∧ Hid (Below W1.heap.size W1 W)) (fun _ i _ => g.ms.length - (intOf i).toNat)
  case atStart => exact ⟨0, by omega, rfl, ownV_nil _ _ _ _ (Nat.le_refl _), Below.refl _ _⟩
  case round =>
    obtain ⟨k, hk, rfl, HO, HBk⟩ := hrel
    rename World => wo
    obtain ⟨a5, c5, rfl⟩ := HO.out.shape
    have HB : Hid (Below w.heap.size w wo) := bstep HB1.out HBk.out
    have HC : Hid (GB wo w.heap.size { g with gn := g.gn + 1 } _ _) := HC1.out.below HC1.out.1 HBk.out
    have HZ : Hid (GB wo (w.heap.size + 1) Grp.zero _ _) := HZ1.out.below HZ1.out.1 HBk.out
    obtain ⟨s1, ⟨a0, a1, a2, a3, a4⟩, f1⟩ := HC.out
    by_cases hlt : k < g.ms.length
    · have hkv : (k : Int) < g.ms.length := by omega
      obtain ⟨gg, off, m, au, cu, rfl, HAT, -, -, -, -, q0, q1, q2⟩ := (HR.out wo HB.out).memAt k hlt
      have HTK : Hid ((strs (g.ms.map Mem.nm)).take (k + 1) = (strs (g.ms.map Mem.nm)).take k ++ [.string m.nm]) := show _ = _ by
        have hl : k < (strs (g.ms.map Mem.nm)).length := by rw [strs_len, HNL.out]; exact hlt
        have e : (strs (g.ms.map Mem.nm))[k]'hl = .string (g.ms[k]'hlt).nm := by simp [strs]
        rw [List.take_succ_eq_append_getElem hl, e, ← at_mem_g hlt, HAT.out]
      have HL6 : Hid ((k + 1) * 16 ≤ 140737488355328) := show (k + 1) * 16 ≤ 140737488355328 by have := HSZ.out; omega
      have HO5 : Hid (OwnV W1.heap.size 9 1 (.slice a5 k c5) k ((strs (g.ms.map Mem.nm)).take k) (wo.alloc (.cells #[.string m.nm, .int .i64 m.hd, .slice au m.ps.length cu] 55))) := HO.out.below (Nat.le_refl _) (bbox _ _)
      have HBk5 : Hid (Below W1.heap.size W1 (wo.alloc (.cells #[.string m.nm, .int .i64 m.hd, .slice au m.ps.length cu] 55))) := bstep HBk.out (bbox _ _)
      obtain ⟨x0, x1, x2⟩ := mbox_new wo m (.slice au m.ps.length cu) wo.heap.size rfl
      go_upto_region 6 with fail
      generalize wo.alloc (.cells #[.string m.nm, .int .i64 m.hd, .slice au m.ps.length cu] 55) = W5 at *
      generalize wo.heap.size = b5 at *
      clear q0 q1 q2 a0 a1 a2 a3 a4 f1 s1
      go_wp2_with (at_builtin; refine wp_rowS rfl _ _ rfl W1.heap.size _ k _ rfl (HO5.out.below (Nat.le_refl _) (bbox _ _)) W5.heap.size rfl m.nm (by simp) HL6.out _ rfl ?_)
      intro g' cap' w6 ho' hg hat hlt'
      have HO' : Hid (OwnV W1.heap.size 9 1 (.slice (some ⟨g', 0, none⟩) (k + 1) cap') (k + 1) ((strs (g.ms.map Mem.nm)).take (k + 1)) w6) := show OwnV _ _ _ _ _ _ _ by rw [HTK.out]; exact ho'
      have HB' : Hid (Below W1.heap.size W1 w6) := below_grown (bstep HBk5.out (bbox W5 (.cells #[.string m.nm] 9))) hg (Nat.le_trans HBk5.out.size (bbox _ _).size) (fun j e => (HO5.out.blk j e).1)
      clear ho' hg hat hlt' x0 x1 x2
      go_wp2
      go_roundw
      case rel => exact ⟨k + 1, by omega, by go_num, HO', HB'⟩
      case measure => simp [intOf]; omega
    · have hkv : ¬ (k : Int) < g.ms.length := by omega
      have HKE : Hid (k = g.ms.length) := show k = g.ms.length by omega
      have HV : Hid (RdV wo (.slice a5 k c5) (strs (g.ms.map Mem.nm))) := show RdV _ _ _ by
        have := HO.out.rdv
        rwa [List.take_of_length_le (by rw [strs_len, HNL.out, HKE.out]; exact Nat.le_refl _)] at this
      have HLA : Hid ((asg (g.ms.map Mem.nm) p).length = g.ms.length) := show _ = _ by rw [asg_len, HNL.out]
      have hbz0 : w.heap.size < wo.heap.size := HC.out.1
      have hbz1 : w.heap.size + 1 < wo.heap.size := HZ.out.1
      clear HO HBk hk
      go_wp2_with fail
      refine (assign_small (g.ms.map Mem.nm) p _ _ HV.out (by rw [HNL.out]; exact HLM.out) hp0 hp1).mono ?_
      rintro e w5 ⟨va, ua, rfl, ha, hb5⟩
      obtain ⟨aa, ca, rfl⟩ : ∃ aa ca, va = .slice aa g.ms.length ca := by
        obtain ⟨aa, ca, e⟩ := ha.o.shape
        rw [HLA.out] at e
        exact ⟨aa, ca, e⟩
      have HAN : Hid (An w w.heap.size (w.heap.size + 1) B wo.heap.size g (.slice av g.ms.length cv) (.slice ao g.os.length co) us (.slice aa g.ms.length ca) (asg (g.ms.map Mem.nm) p) ua 0 w5) := An.start H.out (bstep HB.out hb5) (HC.out.below HC.out.1 hb5) (HZ.out.below HZ.out.1 hb5) ha HLA.out (Nat.le_refl _) (by omega) hbz0 hbz1
      clear ha hb5 a0 a1 a2 a3 a4 f1 s1
      obtain ⟨s1, ⟨a0, a1, a2, a3, a4⟩, f1⟩ := HAN.out.bb
      go_wp2
      clear a0 a1 a2 a3 a4 f1 s1
      go_loopw [31] (fun i W => ∃ k : Nat, k ≤ g.ms.length ∧ i = .int .i64 k ∧ Hid (An w w.heap.size (w.heap.size + 1) B wo.heap.size g (.slice av g.ms.length cv) (.slice ao g.os.length co) us (.slice aa g.ms.length ca) (asg (g.ms.map Mem.nm) p) ua k W)) (fun i _ => g.ms.length - (intOf i).toNat)
      case atStart => exact ⟨0, by omega, rfl, HAN⟩
      case round =>
        obtain ⟨k, hk, rfl, HA⟩ := hrel
        by_cases hlt2 : k < g.ms.length
        · have hkv2 : (k : Int) < g.ms.length := by omega
          obtain ⟨gr, cr', e, -⟩ := H.out.m.o.form (by omega)
          simp only [Value.slice.injEq] at e
          obtain ⟨rfl, -, rfl⟩ := e
          obtain ⟨⟨y, hy⟩, hfz, hgr, ga, off, ca2, e, hck, hgg⟩ := HA.out.cells hlt2
          simp only [Value.slice.injEq] at e
          obtain ⟨rfl, -, -⟩ := e
          obtain ⟨au, cu, hua⟩ : ∃ au cu, ua k = .slice au ((asg (g.ms.map Mem.nm) p)[k]'(by rw [HLA.out]; exact hlt2)).length cu := (HA.out.asd.i k (by rw [HLA.out]; exact hlt2)).shape
          have hgl := cell_lt hck
          have HST := HA.out.step hlt2
          rw [hua] at HST hck
          have HSTH : Hid _ := HST
          have hbg : w.heap.size ≠ gr := by omega
          have hzg : w.heap.size + 1 ≠ gr := by omega
          obtain ⟨s1, ⟨a0, a1, a2, a3, a4⟩, f1⟩ := HA.out.bb
          generalize ((asg (g.ms.map Mem.nm) p)[k]'(by rw [HLA.out]; exact hlt2)).length = nl at *
          clear HST hua
          go_wp2
          go_roundw
          case rel => exact ⟨k + 1, by omega, by go_num, HSTH⟩
          case measure => simp [intOf]; omega
        · have hkv2 : ¬ (k : Int) < g.ms.length := by omega
          have HKE2 : Hid (k = g.ms.length) := show k = g.ms.length by omega
          have HD : Hid _ := (show An w w.heap.size (w.heap.size + 1) B wo.heap.size g (.slice av g.ms.length cv) (.slice ao g.os.length co) us (.slice aa g.ms.length ca) (asg (g.ms.map Mem.nm) p) ua g.ms.length wr by have := HA.out; rwa [HKE2.out] at this).done
          obtain ⟨s1, ⟨a0, a1, a2, a3, a4⟩, f1⟩ := HA.out.bb
          obtain ⟨z1, ⟨e0, e1, e2, e3, e4⟩, g1⟩ := HA.out.zz
          have hbz : w.heap.size ≠ w.heap.size + 1 := by omega
          unfold put5 at HD
          clear hk
          go_wp2
          exact bodyPost_ret (v := .agg #[.int .i64 g.ck, .int .i64 g.wt, .int .i64 (g.gn + 1), .slice av g.ms.length cv, .slice ao g.os.length co]) (by simp [results, Try.results63, go_sem, a0, a1, a2, a3, a4, e0, e1, e2, e3, e4, hbz]) rfl ⟨by first | rfl | simp only [Grp.anew], ua, HD.out.1, HD.out.2.1, HD.out.2.2⟩

set_option maxRecDepth 100000 in
set_option maxHeartbeats 4000000 in
theorem anew_any (g : Grp) (p : Int) (vm vo : Value) (us : Nat → Value) (w : World) (B : Nat) (h : FreshG B w g vm vo us) (hs : g.ms.length * 48 ≤ 140737488355328) (hn : g.ms.length ≤ 8796093022208) (hp0 : -1000 ≤ p) (hp1 : p ≤ 1000) (hg0 : 0 ≤ g.gn) (hg1 : g.gn ≤ 1073741824) :
    Calls Try.prog 67 #[.agg #[.int .i64 g.ck, .int .i64 g.wt, .int .i64 g.gn, vm, vo], .int .i64 p] w fun e w' => ∃ us', e = .returned (.agg #[.int .i64 ((g.anew p)).ck, .int .i64 ((g.anew p)).wt, .int .i64 ((g.anew p)).gn, vm, vo]) ∧ FreshG B w' (g.anew p) vm vo us' ∧ w.grownBy w' vm.ownBlock ∧ ∀ i, i < g.ms.length → ∀ c, (us' i).ownBlock = some c → w.heap.size ≤ c := by
  obtain ⟨av, cv, rfl⟩ : ∃ av cv, vm = .slice av g.ms.length cv := h.m.o.shape
  obtain ⟨ao, co, rfl⟩ : ∃ ao co, vo = .slice ao g.os.length co := h.o.o.shape
  have H : Hid _ := h
  have HR : Hid (∀ W, Below w.heap.size w W → RdG W g (.slice av g.ms.length cv) (.slice ao g.os.length co) us) := fun W hW => h.rd.below (Nat.le_refl _) hW
  have HSZ : Hid (g.ms.length * 48 ≤ 140737488355328) := hs
  have hll : (g.ms.length : Int) ≤ 9223372036854775807 := by omega
  have H0 : Hid _ := two_new w g (.slice av g.ms.length cv) (.slice ao g.os.length co)
  have HNL : Hid ((g.ms.map Mem.nm).length = g.ms.length) := show _ = _ from List.length_map ..
  have HLM : Hid (g.ms.length ≤ 8796093022208) := hn
  clear h hs hn
  go_enter Try.func67, Try.ntmps67
  go_upto_region 1 with fail
  generalize (w.alloc (.cells #[.int .i64 g.ck, .int .i64 g.wt, .int .i64 g.gn, .slice av g.ms.length cv, .slice ao g.os.length co] 25)).alloc (.cells #[.int .i64 0, .int .i64 0, .int .i64 0, .slice none 0 0, .slice none 0 0] 25) = W0 at *
  have HB0 : Hid (Below w.heap.size w W0) := H0.out.1
  have HC0 : Hid (GB W0 w.heap.size g _ _) := H0.out.2.1
  have HZ0 : Hid (GB W0 (w.heap.size + 1) Grp.zero (.slice none 0 0) (.slice none 0 0)) := H0.out.2.2
  clear H0
  obtain ⟨s1, ⟨a0, a1, a2, a3, a4⟩, f1⟩ := HC0.out
  obtain ⟨z1, ⟨e0, e1, e2, e3, e4⟩, g1⟩ := HZ0.out
  have HB1 : Hid (Below w.heap.size w (W0.setCell ⟨w.heap.size, 2, none⟩ (.int .i64 (g.gn + 1)))) := HB0.out.setCell (p := ⟨w.heap.size, 2, none⟩) (Nat.le_refl _) _
  have HC1 : Hid (GB (W0.setCell ⟨w.heap.size, 2, none⟩ (.int .i64 (g.gn + 1))) w.heap.size { g with gn := g.gn + 1 } _ _) := gb_set2 HC0.out _
  have HZ1 : Hid (GB (W0.setCell ⟨w.heap.size, 2, none⟩ (.int .i64 (g.gn + 1))) (w.heap.size + 1) Grp.zero _ _) := HZ0.out.far (by omega) _ _
  go_upto_region 2 with fail
  generalize W0.setCell ⟨w.heap.size, 2, none⟩ (.int .i64 (g.gn + 1)) = W1 at *
  clear a0 a1 a2 a3 a4 f1 s1 z1 e0 e1 e2 e3 e4 g1 HB0 HC0 HZ0
  obtain ⟨s1, ⟨a0, a1, a2, a3, a4⟩, f1⟩ := HC1.out
  go_wp2
  clear a0 a1 a2 a3 a4 f1 s1
  go_loopw [5, 6] (fun out i W => ∃ k : Nat, k ≤ g.ms.length ∧ i = .int .i64 k ∧ Hid (OwnV W1.heap.size 9 1 out k ((strs (g.ms.map Mem.nm)).take k) W) ∧ Hid (Below W1.heap.size W1 W)) (fun _ i _ => g.ms.length - (intOf i).toNat)
  case atStart => exact ⟨0, by omega, rfl, ownV_nil _ _ _ _ (Nat.le_refl _), Below.refl _ _⟩
  case round =>
    obtain ⟨k, hk, rfl, HO, HBk⟩ := hrel
    rename World => wo
    obtain ⟨a5, c5, rfl⟩ := HO.out.shape
    have HB : Hid (Below w.heap.size w wo) := bstep HB1.out HBk.out
    have HC : Hid (GB wo w.heap.size { g with gn := g.gn + 1 } _ _) := HC1.out.below HC1.out.1 HBk.out
    have HZ : Hid (GB wo (w.heap.size + 1) Grp.zero _ _) := HZ1.out.below HZ1.out.1 HBk.out
    obtain ⟨s1, ⟨a0, a1, a2, a3, a4⟩, f1⟩ := HC.out
    by_cases hlt : k < g.ms.length
    · have hkv : (k : Int) < g.ms.length := by omega
      obtain ⟨gg, off, m, au, cu, rfl, HAT, -, -, -, -, q0, q1, q2⟩ := (HR.out wo HB.out).memAt k hlt
      have HTK : Hid ((strs (g.ms.map Mem.nm)).take (k + 1) = (strs (g.ms.map Mem.nm)).take k ++ [.string m.nm]) := show _ = _ by
        have hl : k < (strs (g.ms.map Mem.nm)).length := by rw [strs_len, HNL.out]; exact hlt
        have e : (strs (g.ms.map Mem.nm))[k]'hl = .string (g.ms[k]'hlt).nm := by simp [strs]
        rw [List.take_succ_eq_append_getElem hl, e, ← at_mem_g hlt, HAT.out]
      have HL6 : Hid ((k + 1) * 16 ≤ 140737488355328) := show (k + 1) * 16 ≤ 140737488355328 by have := HSZ.out; omega
      go_wp2_with (at_builtin; refine wp_rowS rfl _ _ rfl W1.heap.size _ k _ rfl (HO.out.below (Nat.le_refl _) (bbox _ _)) wo.heap.size rfl m.nm (by simp) HL6.out _ rfl ?_)
      intro g' cap' w6 ho' hg hat hlt'
      have HO' : Hid (OwnV W1.heap.size 9 1 (.slice (some ⟨g', 0, none⟩) (k + 1) cap') (k + 1) ((strs (g.ms.map Mem.nm)).take (k + 1)) w6) := show OwnV _ _ _ _ _ _ _ by rw [HTK.out]; exact ho'
      have HB' : Hid (Below W1.heap.size W1 w6) := below_grown (bstep HBk.out (bbox wo (.cells #[.string m.nm] 9))) hg (Nat.le_trans HBk.out.size (bbox _ _).size) (fun j e => (HO.out.blk j e).1)
      clear ho' hg hat hlt' q0 q1 q2 a0 a1 a2 a3 a4 f1 s1
      go_wp2
      go_roundw
      case rel => exact ⟨k + 1, by omega, by go_num, HO', HB'⟩
      case measure => simp [intOf]; omega
    · have hkv : ¬ (k : Int) < g.ms.length := by omega
      have HKE : Hid (k = g.ms.length) := show k = g.ms.length by omega
      have HV : Hid (RdV wo (.slice a5 k c5) (strs (g.ms.map Mem.nm))) := show RdV _ _ _ by
        have := HO.out.rdv
        rwa [List.take_of_length_le (by rw [strs_len, HNL.out, HKE.out]; exact Nat.le_refl _)] at this
      have HLA : Hid ((asg (g.ms.map Mem.nm) p).length = g.ms.length) := show _ = _ by rw [asg_len, HNL.out]
      have hbz0 : w.heap.size < wo.heap.size := HC.out.1
      have hbz1 : w.heap.size + 1 < wo.heap.size := HZ.out.1
      clear HO HBk hk
      go_wp2_with fail
      refine (assignedOf_any (g.ms.map Mem.nm) p _ _ HV.out (by rw [HNL.out]; exact HLM.out) hp0 hp1).mono ?_
      rintro e w5 ⟨va, ua, rfl, ha, hb5⟩
      obtain ⟨aa, ca, rfl⟩ : ∃ aa ca, va = .slice aa g.ms.length ca := by
        obtain ⟨aa, ca, e⟩ := ha.o.shape
        rw [HLA.out] at e
        exact ⟨aa, ca, e⟩
      have HAN : Hid (An w w.heap.size (w.heap.size + 1) B wo.heap.size g (.slice av g.ms.length cv) (.slice ao g.os.length co) us (.slice aa g.ms.length ca) (asg (g.ms.map Mem.nm) p) ua 0 w5) := An.start H.out (bstep HB.out hb5) (HC.out.below HC.out.1 hb5) (HZ.out.below HZ.out.1 hb5) ha HLA.out (Nat.le_refl _) (by omega) hbz0 hbz1
      clear ha hb5 a0 a1 a2 a3 a4 f1 s1
      obtain ⟨s1, ⟨a0, a1, a2, a3, a4⟩, f1⟩ := HAN.out.bb
      go_wp2
      clear a0 a1 a2 a3 a4 f1 s1
      go_loopw [8] (fun i W => ∃ k : Nat, k ≤ g.ms.length ∧ i = .int .i64 k ∧ Hid (An w w.heap.size (w.heap.size + 1) B wo.heap.size g (.slice av g.ms.length cv) (.slice ao g.os.length co) us (.slice aa g.ms.length ca) (asg (g.ms.map Mem.nm) p) ua k W)) (fun i _ => g.ms.length - (intOf i).toNat)
      case atStart => exact ⟨0, by omega, rfl, HAN⟩
      case round =>
        obtain ⟨k, hk, rfl, HA⟩ := hrel
        by_cases hlt2 : k < g.ms.length
        · have hkv2 : (k : Int) < g.ms.length := by omega
          obtain ⟨gr, cr', e, -⟩ := H.out.m.o.form (by omega)
          simp only [Value.slice.injEq] at e
          obtain ⟨rfl, -, rfl⟩ := e
          obtain ⟨⟨y, hy⟩, hfz, hgr, ga, off, ca2, e, hck, hgg⟩ := HA.out.cells hlt2
          simp only [Value.slice.injEq] at e
          obtain ⟨rfl, -, -⟩ := e
          obtain ⟨au, cu, hua⟩ : ∃ au cu, ua k = .slice au ((asg (g.ms.map Mem.nm) p)[k]'(by rw [HLA.out]; exact hlt2)).length cu := (HA.out.asd.i k (by rw [HLA.out]; exact hlt2)).shape
          have hgl := cell_lt hck
          have HST := HA.out.step hlt2
          rw [hua] at HST hck
          have HSTH : Hid _ := HST
          have hbg : w.heap.size ≠ gr := by omega
          have hzg : w.heap.size + 1 ≠ gr := by omega
          obtain ⟨s1, ⟨a0, a1, a2, a3, a4⟩, f1⟩ := HA.out.bb
          generalize ((asg (g.ms.map Mem.nm) p)[k]'(by rw [HLA.out]; exact hlt2)).length = nl at *
          clear HST hua
          go_wp2
          go_region_with (fail)
          all_goals
            go_wp2
            go_roundw
            case rel => first | exact ⟨k + 1, by omega, by go_num, HSTH⟩ | exact ⟨k + 1, by omega, by go_num, An.below HSTH.out (Below.drew (Below.refl _ _))⟩
            case measure => simp [intOf]; omega
        · have hkv2 : ¬ (k : Int) < g.ms.length := by omega
          have HKE2 : Hid (k = g.ms.length) := show k = g.ms.length by omega
          have HD : Hid _ := (show An w w.heap.size (w.heap.size + 1) B wo.heap.size g (.slice av g.ms.length cv) (.slice ao g.os.length co) us (.slice aa g.ms.length ca) (asg (g.ms.map Mem.nm) p) ua g.ms.length wr by have := HA.out; rwa [HKE2.out] at this).done
          obtain ⟨s1, ⟨a0, a1, a2, a3, a4⟩, f1⟩ := HA.out.bb
          obtain ⟨z1, ⟨e0, e1, e2, e3, e4⟩, g1⟩ := HA.out.zz
          have hbz : w.heap.size ≠ w.heap.size + 1 := by omega
          unfold put5 at HD
          clear hk
          go_wp2
          exact bodyPost_ret (v := .agg #[.int .i64 g.ck, .int .i64 g.wt, .int .i64 (g.gn + 1), .slice av g.ms.length cv, .slice ao g.os.length co]) (by simp [results, Try.results67, go_sem, a0, a1, a2, a3, a4, e0, e1, e2, e3, e4, hbz]) rfl ⟨by first | rfl | simp only [Grp.anew], ua, HD.out.1, HD.out.2.1, HD.out.2.2⟩

end Go.Proofs.Ytmkbbhdmfpjfdaa
