/-
  New memory: slices.Clone of producers, coord.Copy, the document's intsCopy and CoordCopy.
-/
import Derived.Test.YtjhpfnogdjpbmaaCcheck2
namespace Go.Proofs.Ytjhpfnogdjpbmaa
open Go.RowKit
set_option linter.unusedVariables false
set_option linter.unusedSimpArgs false

section
variable {α : Type} {w : World} {ops : Array Oper} {rest : List Oper} {o : Oper} {a : Act} {Q : Exit → Act → World → Prop}
/-- append(s, x...) of such rows. -/
theorem wp_appW (E : El α) (T Ts : TypeId) (zv : Value) (nb : Nat) (hi : (Try.prog.info? T).map (fun i => (i.zero, i.size, i.bytes)) = some (some zv, E.z, nb)) (hu : Try.prog.underlying Ts = some (.slice T)) (hz : 0 < E.z) (hzv : zv.cells.size = E.z) (hgd : o.guard = none) (s x : Operand)
    (ho : o.op = .call { callee := .builtin .append, args := #[s, x], argTypes := #[Ts, Ts] })
    (B : Nat) (v : Value) (n : Nat) (xs : List Value) (hs : a.eval s = v) (hown : OwnV B T E.z v n xs w) (ad : Addr) (m cap : Nat) (ys : List α) (us : Nat → Value) (hx : a.eval x = .slice (some ad) m cap) (hr : RdW E w (.slice (some ad) m cap) ys us) (hlen : (n + m) * nb ≤ 140737488355328) (hlm : n + m ≤ maxLen)
    (h : ∀ v' w', OwnV B T E.z v' (n + m) (xs ++ E.row us ys 0) w' → Below B w w' → wpList Try.prog ops Q rest (a.put o.dst v') w') : wpList Try.prog ops Q (o :: rest) a w := by
  obtain ⟨i, hi, hz0, hz1, hz2⟩ := info_parts hi
  obtain ⟨ao, c', e, h1, h2, h4, h3⟩ := hr
  simp only [Value.slice.injEq] at e
  obtain ⟨rfl, rfl, rfl⟩ := e
  refine wpList_append_own w hgd s x _ ho B _ i zv E.z nb hu hi hz0 hz1 hz2 hzv hz v _ _ hs hown.1 ad _ cap (E.row us ys 0) hx (row_len E us ys 0) ?_ ?_ hlm hlen hown.2 ?_
  · intro j u hj
    have hj' : j < ys.length * E.z := by
      have := (List.getElem?_eq_some_iff.1 hj).1
      rwa [row_len] at this
    have h0 : 0 < ys.length := by
      rcases Nat.eq_zero_or_pos ys.length with h | h
      · rw [h, Nat.zero_mul] at hj'; omega
      · exact h
    obtain ⟨g, off, e, hc⟩ := h3 h0
    obtain rfl := Option.some.inj e
    have hq : j / E.z < ys.length := Nat.div_lt_of_lt_mul (by rwa [Nat.mul_comm] at hj')
    have hm : j % E.z < E.z := Nat.mod_lt _ hz
    have hjj : j = j / E.z * E.z + j % E.z := by rw [Nat.mul_comm]; exact (Nat.div_add_mod j E.z).symm
    rw [Addr.add_lit]
    rw [hjj] at hj ⊢
    rw [row_at E us ys 0 _ _ hq hm, Nat.zero_add] at hj
    rw [← Nat.add_assoc]
    exact (hc (j / E.z) hq).2 (j % E.z) u hj
  · exact row_one E (fun i hi => by
      obtain ⟨g, off, e, hc⟩ := h3 (by omega)
      rw [Nat.zero_add]
      exact rdv_one (hc i hi).1)
  · intro v' w' ho' hg _
    exact h v' w' ⟨ho', Nat.le_trans hown.2 hg.size⟩ ((Below.refl B w).grown hg hown.2 (fun k hk => (hown.1.lt k hk).1))
end

def zeroTV : Value := .agg #[.string ⟨#[]⟩, .int .i64 0, .int .i64 0, .int .i64 0, .slice none 0 0, .int .i64 0, .int .i64 0]
theorem infoTxn : (Try.prog.info? 62).map (fun i => (i.zero, i.size, i.bytes)) = some (some zeroTV, 7, 80) := by kernel_rfl
/-- Within Go's bounds. -/
structure Crd.fits (c : Crd) : Prop where
  t : c.ts.length * 80 ≤ 140737488355328
  p : ∀ t ∈ c.ts, t.ps.length * 8 ≤ 140737488355328
  n : c.small
def FreshC (B : Nat) (w : World) (c : Crd) (vt : Value) (us : Nat → Value) : Prop := OwnW txnE 62 B w vt c.ts us

set_option maxRecDepth 100000 in
set_option maxHeartbeats 1000000 in
theorem cloneT_none (w : World) : Calls Try.prog 49 #[.slice none 0 0] w fun e w' => ∃ v, e = .returned v ∧ OwnV w.heap.size 62 7 v 0 [] w' ∧ Below w.heap.size w w' := by
  have e0 := Lib.run_eql_slice_nil_nil (P := Try.prog) w (t := 22) 0 0 Try.underlying22
  go_enter Try.func49, Try.ntmps49
  go_wp2
  go_ret
  exact ⟨_, rfl, ownV_nil _ _ _ _ (Nat.le_refl _), Below.refl _ _⟩

set_option maxRecDepth 100000 in
set_option maxHeartbeats 1000000 in
theorem cloneT_some (ts : List Txn) (us : Nat → Value) (ad : Addr) (m cap : Nat) (w : World) (hl : m * 80 ≤ 140737488355328) (h : RdW txnE w (.slice (some ad) m cap) ts us) : Calls Try.prog 49 #[.slice (some ad) m cap] w fun e w' => ∃ v, e = .returned v ∧ OwnV w.heap.size 62 7 v m (txnE.row us ts 0) w' ∧ Below w.heap.size w w' := by
  have e0 := Lib.run_eql_slice_some_nil (P := Try.prog) w (t := 22) ad m cap Try.underlying22
  have H : Hid (RdW txnE w (.slice (some ad) m cap) ts us) := h
  have o0 := ownV_none w 62 7
  clear h
  go_enter Try.func49, Try.ntmps49
  go_wp2_with (at_builtin; refine wp_appW txnE 62 22 zeroTV 80 infoTxn Try.underlying22 (by decide) rfl rfl _ _ rfl _ _ _ _ rfl o0 _ _ _ ts us rfl (RdW.below (E := txnE) (by decide) H.out (Nat.le_refl _) (bbox _ _)) (by omega) (by unfold maxLen; omega) ?_)
  intro v' w' hown hb
  clear o0 H
  go_wp2
  go_ret
  exact ⟨_, rfl, hown, (bbox _ _).trans hb⟩

theorem cloneT_any (ts : List Txn) (us : Nat → Value) (v : Value) (w : World) (hl : ts.length * 80 ≤ 140737488355328) (h : RdW txnE w v ts us) : Calls Try.prog 49 #[v] w fun e w' => ∃ v', e = .returned v' ∧ OwnV w.heap.size 62 7 v' ts.length (txnE.row us ts 0) w' ∧ Below w.heap.size w w' := by
  have H := h
  obtain ⟨ao, cap, rfl, h1, h2, h4, h3⟩ := h
  cases ao with
  | none =>
    obtain rfl := h4 rfl
    have hb : ts = [] := List.eq_nil_of_length_eq_zero (by omega)
    subst hb
    exact cloneT_none w
  | some ad => exact cloneT_some ts us ad _ cap w hl H

theorem cb_set (w : World) (b : Nat) (c : Crd) (vt vt' : Value) (h : CB w b c vt) : CB (w.setCell ⟨b, 3, none⟩ vt') b c vt' := by
  obtain ⟨s, ⟨a0, a1, a2, a3⟩, f⟩ := h
  refine ⟨by simpa using s, ⟨?_, ?_, ?_, ?_⟩, frozen_set f _ _ _ f⟩
  all_goals simp [go_sem, a0, a1, a2, a3]
theorem CB.far {w : World} {b : Nat} {c : Crd} {vt : Value} (h : CB w b c vt) {g : Nat} (hg : b ≠ g) (o : Nat) (x : Value) : CB (w.setCell ⟨g, o, none⟩ x) b c vt := by
  obtain ⟨s, ⟨a0, a1, a2, a3⟩, f⟩ := h
  exact ⟨by simpa using s, ⟨(cell_far hg _ _ _).trans a0, (cell_far hg _ _ _).trans a1, (cell_far hg _ _ _).trans a2, (cell_far hg _ _ _).trans a3⟩, fun o' => (frozen_far hg _ _ _).trans (f o')⟩
/-- A whole box stored. -/
def put4 (w : World) (b : Nat) (c : Crd) (vt : Value) : World := (((w.setCell ⟨b, 0, none⟩ (.int .i64 c.ck)).setCell ⟨b, 1, none⟩ (.int .i64 c.nx)).setCell ⟨b, 2, none⟩ (.int .i64 c.wt)).setCell ⟨b, 3, none⟩ vt
theorem put4_size (w : World) (b : Nat) (c : Crd) (vt : Value) : (put4 w b c vt).heap.size = w.heap.size := by simp [put4]
theorem CB.put {w : World} {b : Nat} {d : Crd} {vd : Value} (h : CB w b d vd) (c : Crd) (vt : Value) : CB (put4 w b c vt) b c vt := by
  obtain ⟨s, ⟨a0, a1, a2, a3⟩, f⟩ := h
  unfold put4
  have f0 := frozen_set f b 0 (.int .i64 c.ck) f
  have f1 := frozen_set f0 b 1 (.int .i64 c.nx) f0
  have f2 := frozen_set f1 b 2 (.int .i64 c.wt) f1
  refine ⟨by simpa using s, ⟨?_, ?_, ?_, ?_⟩, frozen_set f2 b 3 vt f2⟩
  all_goals simp [go_sem, a0, a1, a2, a3]
theorem below_put4 {w0 w : World} (h : Below w0.heap.size w0 w) {b : Nat} (hb : w0.heap.size ≤ b) (c : Crd) (vt : Value) : Below w0.heap.size w0 (put4 w b c vt) := by
  unfold put4
  exact (((h.setCell (p := ⟨b, 0, none⟩) hb _).setCell (p := ⟨b, 1, none⟩) hb _).setCell (p := ⟨b, 2, none⟩) hb _).setCell (p := ⟨b, 3, none⟩) hb _
theorem FreshC.box {B : Nat} {w : World} {c : Crd} {vt : Value} {us : Nat → Value} (h : FreshC B w c vt us) {b : Nat} (hb : b < B) (o : Nat) (x : Value) : FreshC B (w.setCell ⟨b, o, none⟩ x) c vt us := OwnW.box h hb o x
theorem FreshC.put4 {B : Nat} {w : World} {c : Crd} {vt : Value} {us : Nat → Value} (h : FreshC B w c vt us) {b : Nat} (hb : b < B) (d : Crd) (x : Value) : FreshC B (put4 w b d x) c vt us := by
  unfold Go.Proofs.Ytjhpfnogdjpbmaa.put4
  exact (((h.box hb _ _).box hb _ _).box hb _ _).box hb _ _
theorem FreshC.rd {B : Nat} {w : World} {c : Crd} {vt : Value} {us : Nat → Value} (h : FreshC B w c vt us) : RdC w c vt us := OwnW.rd h

/-- In the midst of Copy: the box at b, the result's box behind it. -/
structure CopyC (B : Nat) (w : World) (b : Nat) (c : Crd) (vt : Value) (us new : Nat → Value) (k : Nat) (wr : World) : Prop where
  bel : Below w.heap.size w wr
  bs : w.heap.size ≤ b
  pb : CB wr b c vt
  pz : CB wr (b + 1) Crd.zero (.slice none 0 0)
  bB : b + 1 < B
  m : MidW txnE 62 B wr vt c.ts us new k
theorem CopyC.step {B : Nat} {w : World} {b : Nat} {c : Crd} {us new : Nat → Value} {k : Nat} {wr W : World} {g n cap : Nat} {u : Value} (h : CopyC B w b c (.slice (some ⟨g, 0, none⟩) n cap) us new k wr) (hk : k < c.ts.length) (hb : Below wr.heap.size wr W) (ho : OwnV wr.heap.size 3 1 u (c.ts[k]'hk).ps.length (ints (c.ts[k]'hk).ps) W) :
    CopyC B w b c (.slice (some ⟨g, 0, none⟩) n cap) us (fun j => if j = k then u else new j) (k + 1) (W.setCell ⟨g, k * 7 + 4, none⟩ u) := by
  have hg := h.m.o.blk g rfl
  have hB := h.bB
  have hbs := h.bs
  exact ⟨(bstep h.bel hb).setCell (p := ⟨g, _, none⟩) (by show _ ≤ g; omega) _, h.bs, (h.pb.below h.pb.1 hb).far (by omega) _ _, (h.pz.below h.pz.1 hb).far (by omega) _ _, h.bB, h.m.step hk hb u ho 4 (by decide) rfl⟩

set_option maxRecDepth 100000 in
set_option maxHeartbeats 2000000 in
theorem ccopy_any (c : Crd) (vt : Value) (us : Nat → Value) (w : World) (h : RdC w c vt us) (hf : c.fits) :
    Calls Try.prog 22 #[.agg #[.int .i64 c.ck, .int .i64 c.nx, .int .i64 c.wt, vt]] w fun e w' => ∃ vt' us', e = .returned (.agg #[.int .i64 c.ck, .int .i64 c.nx, .int .i64 c.wt, vt']) ∧ FreshC w.heap.size w' c vt' us' ∧ Below w.heap.size w w' := by
  have HRW : Hid (RdC w c vt us) := h
  have HF : Hid c.fits := hf
  obtain ⟨av, cv, rfl, hl1, hl2⟩ := h.shape
  unfold maxLen at hl2
  have l3 : (c.ts.length : Int) ≤ 9223372036854775807 := by omega
  clear h hf hl1 hl2
  go_enter Try.func22, Try.ntmps22
  go_wp2_with fail
  have B0 : Below w.heap.size w ((w.alloc (.cells #[.int .i64 c.ck, .int .i64 c.nx, .int .i64 c.wt, .slice av c.ts.length cv] 24)).alloc (.cells #[.int .i64 0, .int .i64 0, .int .i64 0, .slice none 0 0] 24)) := bstep (bbox _ _) (bbox _ _)
  have P0 := (cb_new w c (.slice av c.ts.length cv) 24 w.heap.size rfl).below (C := w.heap.size + 1) (by omega) ((Below.refl _ _).alloc (by simp) (.cells #[.int .i64 0, .int .i64 0, .int .i64 0, .slice none 0 0] 24))
  have Z0 : CB ((w.alloc (.cells #[.int .i64 c.ck, .int .i64 c.nx, .int .i64 c.wt, .slice av c.ts.length cv] 24)).alloc (.cells #[.int .i64 0, .int .i64 0, .int .i64 0, .slice none 0 0] 24)) (w.heap.size + 1) Crd.zero (.slice none 0 0) := cb_new _ Crd.zero (.slice none 0 0) 24 (w.heap.size + 1) (by simp)
  have hsz : ((w.alloc (.cells #[.int .i64 c.ck, .int .i64 c.nx, .int .i64 c.wt, .slice av c.ts.length cv] 24)).alloc (.cells #[.int .i64 0, .int .i64 0, .int .i64 0, .slice none 0 0] 24)).heap.size = w.heap.size + 2 := by simp
  generalize (w.alloc (.cells #[.int .i64 c.ck, .int .i64 c.nx, .int .i64 c.wt, .slice av c.ts.length cv] 24)).alloc (.cells #[.int .i64 0, .int .i64 0, .int .i64 0, .slice none 0 0] 24) = W0 at *
  refine (cloneT_any c.ts us _ _ HF.out.t (HRW.out.below (Nat.le_refl _) B0)).mono ?_
  rintro e w1 ⟨v1, rfl, ho1, hb1⟩
  obtain ⟨a1, c1, rfl⟩ := ho1.shape
  have HST : Hid (CopyC (w.heap.size + 2) w w.heap.size c (.slice a1 c.ts.length c1) us us 0 (w1.setCell ⟨w.heap.size, 3, none⟩ (.slice a1 c.ts.length c1))) := by
    refine ⟨(bstep B0 hb1).setCell (p := ⟨w.heap.size, 3, none⟩) (Nat.le_refl _) _, Nat.le_refl _, cb_set _ _ _ _ _ (P0.below P0.1 hb1), (Z0.below Z0.1 hb1).far (by omega) _ _, by omega, MidW.start ?_⟩
    rw [← hsz]
    exact ho1.far (fun e => by have := (ho1.blk _ e).1; omega) _ _
  obtain ⟨s1, ⟨a0, a1', a2, a3⟩, f1⟩ := P0.below P0.1 hb1
  clear B0 P0 Z0 hb1 ho1 hsz
  go_wp2
  clear a0 a1' a2 a3 f1 s1
  go_loopw [11] (fun i wr => ∃ k : Nat, k ≤ c.ts.length ∧ i = .int .i64 k ∧ Hid (∃ new, CopyC (w.heap.size + 2) w w.heap.size c (.slice a1 c.ts.length c1) us new k wr)) (fun i _ => c.ts.length - (intOf i).toNat)
  case atStart => exact ⟨0, by omega, rfl, us, HST.out⟩
  case round =>
    obtain ⟨k, hk, rfl, HN⟩ := hrel
    obtain ⟨new, hst⟩ := HN.out
    by_cases hlt : k < c.ts.length
    · obtain ⟨gr, cr', e, _⟩ := hst.m.o.form (by omega)
      simp only [Value.slice.injEq] at e
      obtain ⟨rfl, _, rfl⟩ := e
      have hlt' : (k : Int) < c.ts.length := by omega
      have HST' : Hid _ := hst
      have hgr := hst.m.o.blk gr rfl
      have hgl : gr < wr.heap.size := hgr.2
      have hgne : w.heap.size ≠ gr := by omega
      obtain ⟨s1, ⟨a0, a1, a2, a3⟩, f1⟩ := hst.pb
      have c4 : wr.cell? ⟨gr, k * 7 + 4, none⟩ = some (us k) := by
        have h1 : k * 7 + 4 < c.ts.length * txnE.z := by show _ < _ * 7; omega
        rw [hst.m.o.1.cellAt _ h1]
        have := row_at txnE (fun j => if j < k then new j else us j) c.ts 0 k 4 hlt (by decide)
        rw [Nat.zero_add] at this
        refine this.trans ?_
        simp [txnE]
      have fz : ∀ o, wr.frozen? ⟨gr, o, none⟩ = false := fun o => hst.m.o.1.frozenAt o
      have HU : Hid (∀ W, Below wr.heap.size wr W → RdV W (us k) (ints (c.ts[k]'hlt).ps)) := fun W hW => by
        obtain ⟨_, _, _, hr, _⟩ := RdW.at HRW.out k hlt
        exact hr.below (Nat.le_refl _) (hst.bel.trans (hW.mono hst.bel.size))
      have HL : Hid ((c.ts[k]'hlt).ps.length * 8 ≤ 140737488355328) := HF.out.p _ (List.getElem_mem hlt)
      clear hst HN hgr
      go_wp2
      go_region_with (go_at_call 50; refine (cloneI_any _ _ _ HL.out (HU.out _ (by repeat (first | exact Below.refl _ _ | refine Below.drew ?_)))).mono ?_; rintro e w5 ⟨v5, rfl, ho5, hb5⟩; have hB5 : Below wr.heap.size wr w5 := bstep (by repeat (first | exact Below.refl _ _ | refine Below.drew ?_)) hb5; obtain ⟨m1, m2⟩ := bcell hB5; obtain ⟨av5, cv5, rfl⟩ := ho5.shape)
      all_goals
        have HX : Hid (∃ new, CopyC (w.heap.size + 2) w w.heap.size c (.slice (some ⟨gr, 0, none⟩) c.ts.length c1) us new (k + 1) _) := ⟨_, CopyC.step HST'.out hlt hB5 ho5⟩
        clear a0 a1 a2 a3 f1 s1 c4 fz m1 m2 hB5 ho5 hb5 HST' HU HL
        go_wp2
        go_roundw
        case rel => exact ⟨k + 1, by omega, by go_num, HX⟩
        case measure => simp [intOf]; omega
    · have hke : k = c.ts.length := by omega
      subst hke
      obtain ⟨s1, ⟨a0, a1', a2, a3⟩, f1⟩ := hst.pb
      obtain ⟨z1, ⟨e0, e1, e2, e3⟩, g1⟩ := hst.pz
      have hz1 : w.heap.size + 1 < wr.heap.size := z1
      have HF' : Hid (FreshC w.heap.size (put4 wr (w.heap.size + 1) c (.slice a1 c.ts.length c1)) c (.slice a1 c.ts.length c1) new) := (FreshC.put4 (b := w.heap.size + 1) hst.m.full hst.bB c _).mono (by omega)
      have HBz : Hid (Below w.heap.size w (put4 wr (w.heap.size + 1) c (.slice a1 c.ts.length c1))) := below_put4 hst.bel (by omega) _ _
      clear hst HN
      go_wp2
      refine bodyPost_ret (v := .agg #[.int .i64 c.ck, .int .i64 c.nx, .int .i64 c.wt, .slice a1 c.ts.length c1]) (by simp [results, Try.results22, go_sem, e0, e1, e2, e3]) rfl ⟨_, new, rfl, HF'.out, HBz.out⟩

end Go.Proofs.Ytjhpfnogdjpbmaa
