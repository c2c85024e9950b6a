/-
  group.Copy, walked; the clones that it is made of.
-/
import Derived.Test.YtmkbbhdmfpjfdaaGbase
import Derived.Test.YtmkbbhdmfpjfdaaErow2
namespace Go.Proofs.Ytmkbbhdmfpjfdaa
open Go.RowKit
set_option linter.unusedVariables false
set_option linter.unusedSimpArgs false

def zeroMV : Value := .agg #[.string ⟨#[]⟩, .int .i64 0, .slice none 0 0]
def zeroOV : Value := .agg #[.int .i64 0, .int .i64 0]
theorem infoMem : (Try.prog.info? 55).map (fun i => (i.zero, i.size, i.bytes)) = some (some zeroMV, 3, 48) := by kernel_rfl
theorem infoOfs : (Try.prog.info? 63).map (fun i => (i.zero, i.size, i.bytes)) = some (some zeroOV, 2, 16) := by kernel_rfl
theorem ofs_row (us us' : Nat → Value) (xs : List Ofs) (k : Nat) : ofsE.row us xs k = ofsE.row us' xs k := by
  induction xs generalizing k with
  | nil => rfl
  | cons x xs ih =>
    simp only [El.row]
    rw [ih (k + 1)]
    rfl
/-- A row of offsets needs no inner slices. -/
theorem ownO {B : Nat} {w : World} {v : Value} {os : List Ofs} {us : Nat → Value} {n : Nat} (hn : os.length = n) (h : OwnV B 63 2 v n (ofsE.row us os 0) w) : OwnW ofsE 63 B w v os nilS := by
  subst hn
  exact ⟨by rw [ofs_row nilS us]; exact h, fun i hi => ownV_nil _ _ _ _ h.2, (fun i hi b e => by cases e), (fun i j hi hj hne b e => by cases e)⟩

set_option maxRecDepth 100000 in
set_option maxHeartbeats 1000000 in
theorem cloneM_none (w : World) : Calls Try.prog 57 #[.slice none 0 0] w fun e w' => ∃ v, e = .returned v ∧ OwnV w.heap.size 55 3 v 0 [] w' ∧ Below w.heap.size w w' := by
  have e0 := Lib.run_eql_slice_nil_nil (P := Try.prog) w (t := 22) 0 0 Try.underlying22
  go_enter Try.func57, Try.ntmps57
  go_wp2
  go_ret
  exact ⟨_, rfl, ownV_nil _ _ _ _ (Nat.le_refl _), Below.refl _ _⟩

set_option maxRecDepth 100000 in
set_option maxHeartbeats 1000000 in
theorem cloneM_some (ms : List Mem) (us : Nat → Value) (ad : Addr) (m cap : Nat) (w : World) (hl : m * 48 ≤ 140737488355328) (h : RdW memE w (.slice (some ad) m cap) ms us) : Calls Try.prog 57 #[.slice (some ad) m cap] w fun e w' => ∃ v, e = .returned v ∧ OwnV w.heap.size 55 3 v m (memE.row us ms 0) w' ∧ Below w.heap.size w w' := by
  have e0 := Lib.run_eql_slice_some_nil (P := Try.prog) w (t := 22) ad m cap Try.underlying22
  have H : Hid (RdW memE w (.slice (some ad) m cap) ms us) := h
  have o0 := ownV_none w 55 3
  clear h
  go_enter Try.func57, Try.ntmps57
  go_wp2_with (at_builtin; refine wp_appW memE 55 22 zeroMV 48 infoMem Try.underlying22 (by decide) rfl rfl _ _ rfl _ _ _ _ rfl o0 _ _ _ ms us rfl (RdW.below (E := memE) (by decide) H.out (Nat.le_refl _) (bbox _ _)) (by omega) (by unfold maxLen; omega) ?_)
  intro v' w' hown hb
  clear o0 H
  go_wp2
  go_ret
  exact ⟨_, rfl, hown, (bbox _ _).trans hb⟩

theorem cloneM_any (ms : List Mem) (us : Nat → Value) (v : Value) (w : World) (hl : ms.length * 48 ≤ 140737488355328) (h : RdW memE w v ms us) : Calls Try.prog 57 #[v] w fun e w' => ∃ v', e = .returned v' ∧ OwnV w.heap.size 55 3 v' ms.length (memE.row us ms 0) w' ∧ Below w.heap.size w w' := by
  have H := h
  obtain ⟨ao, cap, rfl, h1, h2, h4, h3⟩ := h
  cases ao with
  | none =>
    obtain rfl := h4 rfl
    have hb : ms = [] := List.eq_nil_of_length_eq_zero (by omega)
    subst hb
    exact cloneM_none w
  | some ad => exact cloneM_some ms us ad _ cap w hl H

set_option maxRecDepth 100000 in
set_option maxHeartbeats 1000000 in
theorem cloneO_none (w : World) : Calls Try.prog 59 #[.slice none 0 0] w fun e w' => ∃ v, e = .returned v ∧ OwnV w.heap.size 63 2 v 0 [] w' ∧ Below w.heap.size w w' := by
  have e0 := Lib.run_eql_slice_nil_nil (P := Try.prog) w (t := 23) 0 0 Try.underlying23
  go_enter Try.func59, Try.ntmps59
  go_wp2
  go_ret
  exact ⟨_, rfl, ownV_nil _ _ _ _ (Nat.le_refl _), Below.refl _ _⟩

set_option maxRecDepth 100000 in
set_option maxHeartbeats 1000000 in
theorem cloneO_some (os : List Ofs) (us : Nat → Value) (ad : Addr) (m cap : Nat) (w : World) (hl : m * 16 ≤ 140737488355328) (h : RdW ofsE w (.slice (some ad) m cap) os us) : Calls Try.prog 59 #[.slice (some ad) m cap] w fun e w' => ∃ v, e = .returned v ∧ OwnV w.heap.size 63 2 v m (ofsE.row us os 0) w' ∧ Below w.heap.size w w' := by
  have e0 := Lib.run_eql_slice_some_nil (P := Try.prog) w (t := 23) ad m cap Try.underlying23
  have H : Hid (RdW ofsE w (.slice (some ad) m cap) os us) := h
  have o0 := ownV_none w 63 2
  clear h
  go_enter Try.func59, Try.ntmps59
  go_wp2_with (at_builtin; refine wp_appW ofsE 63 23 zeroOV 16 infoOfs Try.underlying23 (by decide) rfl rfl _ _ rfl _ _ _ _ rfl o0 _ _ _ os us rfl (RdW.below (E := ofsE) (by decide) H.out (Nat.le_refl _) (bbox _ _)) (by omega) (by unfold maxLen; omega) ?_)
  intro v' w' hown hb
  clear o0 H
  go_wp2
  go_ret
  exact ⟨_, rfl, hown, (bbox _ _).trans hb⟩

theorem cloneO_any (os : List Ofs) (us : Nat → Value) (v : Value) (w : World) (hl : os.length * 16 ≤ 140737488355328) (h : RdW ofsE w v os us) : Calls Try.prog 59 #[v] w fun e w' => ∃ v', e = .returned v' ∧ OwnW ofsE 63 w.heap.size w' v' os nilS ∧ Below w.heap.size w w' := by
  have H := h
  obtain ⟨ao, cap, rfl, h1, h2, h4, h3⟩ := h
  cases ao with
  | none =>
    obtain rfl := h4 rfl
    have hb : os = [] := List.eq_nil_of_length_eq_zero (by omega)
    subst hb
    exact (cloneO_none w).mono fun e w' ⟨v, h1, h2, h3⟩ => ⟨v, h1, ownO (us := us) rfl h2, h3⟩
  | some ad => exact (cloneO_some os us ad _ cap w hl H).mono fun e w' ⟨v, h1, h2, h3⟩ => ⟨v, h1, ownO (us := us) rfl h2, h3⟩

/-- In the midst of Copy: the box at b, the result's box behind it. -/
structure CopyG (B : Nat) (w : World) (b : Nat) (g : Grp) (vm vo : Value) (us new : Nat → Value) (k : Nat) (wr : World) : Prop where
  bel : Below w.heap.size w wr
  bs : w.heap.size ≤ b
  pb : GB wr b g vm vo
  pz : GB wr (b + 1) Grp.zero (.slice none 0 0) (.slice none 0 0)
  bB : b + 1 < B
  m : MidW memE 55 B wr vm g.ms us new k
theorem CopyG.step {B : Nat} {w : World} {b : Nat} {g : Grp} {us new : Nat → Value} {k : Nat} {wr W : World} {gr n cap : Nat} {u vo : Value} (h : CopyG B w b g (.slice (some ⟨gr, 0, none⟩) n cap) vo us new k wr) (hk : k < g.ms.length) (hb : Below wr.heap.size wr W) (ho : OwnV wr.heap.size 3 1 u (g.ms[k]'hk).ps.length (ints (g.ms[k]'hk).ps) W) :
    CopyG B w b g (.slice (some ⟨gr, 0, none⟩) n cap) vo us (fun j => if j = k then u else new j) (k + 1) (W.setCell ⟨gr, k * 3 + 2, none⟩ u) := by
  have hg := h.m.o.blk gr rfl
  have hB := h.bB
  have hbs := h.bs
  exact ⟨(bstep h.bel hb).setCell (p := ⟨gr, _, none⟩) (by show _ ≤ gr; omega) _, h.bs, (h.pb.below h.pb.1 hb).far (by omega) _ _, (h.pz.below h.pz.1 hb).far (by omega) _ _, h.bB, h.m.step hk hb u ho 2 (by decide) rfl⟩

set_option maxRecDepth 100000 in
set_option maxHeartbeats 2000000 in
theorem gcopy_any (g : Grp) (vm vo : Value) (us : Nat → Value) (w : World) (h : RdG w g vm vo us) (hf : g.fits) :
    Calls Try.prog 26 #[.agg #[.int .i64 g.ck, .int .i64 g.wt, .int .i64 g.gn, vm, vo]] w fun e w' => ∃ vm' vo' us', e = .returned (.agg #[.int .i64 g.ck, .int .i64 g.wt, .int .i64 g.gn, vm', vo']) ∧ FreshG w.heap.size w' g vm' vo' us' ∧ Below w.heap.size w w' := by
  have HRW : Hid (RdG w g vm vo us) := h
  have HF : Hid g.fits := hf
  obtain ⟨av, cv, rfl, hl1, hl2⟩ := h.m.shape
  obtain ⟨ao, co, rfl, ho1, ho2⟩ := h.o.shape
  unfold maxLen at hl2 ho2
  have l3 : (g.ms.length : Int) ≤ 9223372036854775807 := by omega
  have l4 : (g.os.length : Int) ≤ 9223372036854775807 := by omega
  clear h hf hl1 hl2 ho1 ho2
  go_enter Try.func26, Try.ntmps26
  go_wp2_with fail
  have B0 : Below w.heap.size w ((w.alloc (.cells #[.int .i64 g.ck, .int .i64 g.wt, .int .i64 g.gn, .slice av g.ms.length cv, .slice ao g.os.length co] 25)).alloc (.cells #[.int .i64 0, .int .i64 0, .int .i64 0, .slice none 0 0, .slice none 0 0] 25)) := bstep (bbox _ _) (bbox _ _)
  have P0 := (gb_new w g (.slice av g.ms.length cv) (.slice ao g.os.length co) w.heap.size rfl).below (C := w.heap.size + 1) (by omega) ((Below.refl _ _).alloc (by simp) (.cells #[.int .i64 0, .int .i64 0, .int .i64 0, .slice none 0 0, .slice none 0 0] 25))
  have Z0 : GB ((w.alloc (.cells #[.int .i64 g.ck, .int .i64 g.wt, .int .i64 g.gn, .slice av g.ms.length cv, .slice ao g.os.length co] 25)).alloc (.cells #[.int .i64 0, .int .i64 0, .int .i64 0, .slice none 0 0, .slice none 0 0] 25)) (w.heap.size + 1) Grp.zero (.slice none 0 0) (.slice none 0 0) := gb_new _ Grp.zero (.slice none 0 0) (.slice none 0 0) (w.heap.size + 1) (by simp)
  have hsz : ((w.alloc (.cells #[.int .i64 g.ck, .int .i64 g.wt, .int .i64 g.gn, .slice av g.ms.length cv, .slice ao g.os.length co] 25)).alloc (.cells #[.int .i64 0, .int .i64 0, .int .i64 0, .slice none 0 0, .slice none 0 0] 25)).heap.size = w.heap.size + 2 := by simp
  generalize (w.alloc (.cells #[.int .i64 g.ck, .int .i64 g.wt, .int .i64 g.gn, .slice av g.ms.length cv, .slice ao g.os.length co] 25)).alloc (.cells #[.int .i64 0, .int .i64 0, .int .i64 0, .slice none 0 0, .slice none 0 0] 25) = W0 at *
  refine (cloneM_any g.ms us _ _ HF.out.m (HRW.out.below (Nat.le_refl _) B0).m).mono ?_
  rintro e w1 ⟨v1, rfl, ho1, hb1⟩
  obtain ⟨a1, c1, rfl⟩ := ho1.shape
  have HST : Hid (CopyG (w.heap.size + 2) w w.heap.size g (.slice a1 g.ms.length c1) (.slice ao g.os.length co) us us 0 (w1.setCell ⟨w.heap.size, 3, none⟩ (.slice a1 g.ms.length c1))) := by
    refine ⟨(bstep B0 hb1).setCell (p := ⟨w.heap.size, 3, none⟩) (Nat.le_refl _) _, Nat.le_refl _, gb_set3 (P0.below P0.1 hb1) _, (Z0.below Z0.1 hb1).far (by omega) _ _, by omega, MidW.start ?_⟩
    rw [← hsz]
    exact ho1.far (fun e => by have := (ho1.blk _ e).1; omega) _ _
  obtain ⟨s1, ⟨a0, a1', a2, a3, a4⟩, f1⟩ := P0.below P0.1 hb1
  clear B0 P0 Z0 hb1 ho1 hsz
  go_wp2
  clear a0 a1' a2 a3 a4 f1 s1
  go_loopw [11] (fun i wr => ∃ k : Nat, k ≤ g.ms.length ∧ i = .int .i64 k ∧ Hid (∃ new, CopyG (w.heap.size + 2) w w.heap.size g (.slice a1 g.ms.length c1) (.slice ao g.os.length co) us new k wr)) (fun i _ => g.ms.length - (intOf i).toNat)
  case atStart => exact ⟨0, by omega, rfl, us, HST.out⟩
  case round =>
    obtain ⟨k, hk, rfl, HN⟩ := hrel
    obtain ⟨new, hst⟩ := HN.out
    by_cases hlt : k < g.ms.length
    · obtain ⟨gr, cr', e, _⟩ := hst.m.o.form (by omega)
      simp only [Value.slice.injEq] at e
      obtain ⟨rfl, _, rfl⟩ := e
      have hlt' : (k : Int) < g.ms.length := by omega
      have HST' : Hid _ := hst
      have hgr := hst.m.o.blk gr rfl
      have hgl : gr < wr.heap.size := hgr.2
      have hgne : w.heap.size ≠ gr := by omega
      obtain ⟨s1, ⟨a0, a1, a2, a3, a4⟩, f1⟩ := hst.pb
      have c4 : wr.cell? ⟨gr, k * 3 + 2, none⟩ = some (us k) := by
        have h1 : k * 3 + 2 < g.ms.length * memE.z := by show _ < _ * 3; omega
        rw [hst.m.o.1.cellAt _ h1]
        have := row_at memE (fun j => if j < k then new j else us j) g.ms 0 k 2 hlt (by decide)
        rw [Nat.zero_add] at this
        refine this.trans ?_
        simp [memE]
      have fz : ∀ o, wr.frozen? ⟨gr, o, none⟩ = false := fun o => hst.m.o.1.frozenAt o
      have HU : Hid (∀ W, Below wr.heap.size wr W → RdV W (us k) (ints (g.ms[k]'hlt).ps)) := fun W hW => by
        obtain ⟨_, _, _, hr, _⟩ := RdW.at HRW.out.m k hlt
        exact hr.below (Nat.le_refl _) (hst.bel.trans (hW.mono hst.bel.size))
      have HL : Hid ((g.ms[k]'hlt).ps.length * 8 ≤ 140737488355328) := HF.out.p _ (List.getElem_mem hlt)
      clear hst HN hgr
      go_wp2
      go_region_with (go_at_call 58; refine (cloneI_any _ _ _ HL.out (HU.out _ (by repeat (first | exact Below.refl _ _ | refine Below.drew ?_)))).mono ?_; rintro e w5 ⟨v5, rfl, ho5, hb5⟩; have hB5 : Below wr.heap.size wr w5 := bstep (by repeat (first | exact Below.refl _ _ | refine Below.drew ?_)) hb5; obtain ⟨m1, m2⟩ := bcell hB5; obtain ⟨av5, cv5, rfl⟩ := ho5.shape)
      all_goals
        have HX : Hid (∃ new, CopyG (w.heap.size + 2) w w.heap.size g (.slice (some ⟨gr, 0, none⟩) g.ms.length c1) (.slice ao g.os.length co) us new (k + 1) _) := ⟨_, CopyG.step HST'.out hlt hB5 ho5⟩
        clear a0 a1 a2 a3 a4 f1 s1 c4 fz m1 m2 hB5 ho5 hb5 HST' HU HL
        go_wp2
        go_roundw
        case rel => exact ⟨k + 1, by omega, by go_num, HX⟩
        case measure => simp [intOf]; omega
    · have hke : k = g.ms.length := by omega
      subst hke
      have HST' : Hid _ := hst
      obtain ⟨s1, ⟨a0, a1', a2, a3, a4⟩, f1⟩ := hst.pb
      clear hst HN
      go_wp2_with fail
      refine (cloneO_any g.os nilS _ _ HF.out.o (HRW.out.below (Nat.le_refl _) HST'.out.bel).o).mono ?_
      rintro e w2 ⟨v2, rfl, ho2, hb2⟩
      have HO2 : Hid (OwnW ofsE 63 wr.heap.size w2 v2 g.os nilS) := ho2
      have HB2 : Hid (Below wr.heap.size wr w2) := hb2
      obtain ⟨a5, c5, rfl⟩ := ho2.o.shape
      have HP2 : Hid (GB w2 w.heap.size g _ _) := HST'.out.pb.below HST'.out.pb.1 hb2
      have HZ2 : Hid (GB w2 (w.heap.size + 1) Grp.zero _ _) := HST'.out.pz.below HST'.out.pz.1 hb2
      have hne : w.heap.size ≠ w.heap.size + 1 := by omega
      clear a0 a1' a2 a3 a4 f1 s1 ho2 hb2
      obtain ⟨s1, ⟨a0, a1', a2, a3, a4⟩, f1⟩ := HP2.out
      obtain ⟨z1, ⟨e0, e1, e2, e3, e4⟩, g1⟩ := HZ2.out
      have HFF : Hid (FreshG w.heap.size (put5 (w2.setCell ⟨w.heap.size, 4, none⟩ (.slice a5 g.os.length c5)) (w.heap.size + 1) g (.slice a1 g.ms.length c1) (.slice a5 g.os.length c5)) g (.slice a1 g.ms.length c1) (.slice a5 g.os.length c5) new) := by
        have hB : w.heap.size + 1 < w.heap.size + 2 := by omega
        have hm := (HST'.out.m.full.below (Nat.le_refl _) HB2.out)
        have hwr : w.heap.size + 2 ≤ wr.heap.size := HST'.out.m.o.2
        have f0 : FreshG (w.heap.size + 2) w2 g (.slice a1 g.ms.length c1) (.slice a5 g.os.length c5) new := ⟨hm, HO2.out.mono hwr, fun b e e2 => by
          have h1 := (HO2.out.o.blk b e).1
          have h2 := (HST'.out.m.full.o.blk b e2).2
          omega, fun i hi b e e2 => by
          have h1 := (HO2.out.o.blk b e).1
          have h2 := ((HST'.out.m.full.i i hi).blk b e2).2
          omega⟩
        exact (FreshG.put5 (f0.box (by omega) _ _) hB g _ _).mono (by omega)
      have HBz : Hid (Below w.heap.size w (put5 (w2.setCell ⟨w.heap.size, 4, none⟩ (.slice a5 g.os.length c5)) (w.heap.size + 1) g (.slice a1 g.ms.length c1) (.slice a5 g.os.length c5))) := below_put5 ((bstep HST'.out.bel HB2.out).setCell (p := ⟨w.heap.size, 4, none⟩) (Nat.le_refl _) _) (by omega) _ _ _
      go_wp2
      refine bodyPost_ret (v := .agg #[.int .i64 g.ck, .int .i64 g.wt, .int .i64 g.gn, .slice a1 g.ms.length c1, .slice a5 g.os.length c5]) (by simp [results, Try.results26, go_sem, e0, e1, e2, e3, e4]) rfl ⟨_, _, new, rfl, HFF.out, HBz.out⟩

end Go.Proofs.Ytmkbbhdmfpjfdaa
