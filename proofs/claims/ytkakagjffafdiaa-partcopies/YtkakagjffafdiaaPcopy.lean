/-
  The walk of part.Copy: the same part, in new memory.
-/
import Derived.Test.YtkakagjffafdiaaPfresh
import Derived.Test.YtkakagjffafdiaaSops
import Derived.Deep.DeepCutAuto
import Derived.Deep.RegionWith
namespace Go.Proofs.Ytkakagjffafdiaa
open Go.RowKit
set_option linter.unusedVariables false
set_option linter.unusedSimpArgs false

abbrev nilV : Value := .slice none 0 0
/-- In the midst of the copy: the bytes of the first k replicas are new. -/
structure CopySt (B : Nat) (w : World) (b : Nat) (p : Prt) (vi vk vr : Value) (us new : Nat → Value) (k : Nat) (wr : World) : Prop where
  bel : Below w.heap.size w wr
  bs : w.heap.size ≤ b
  pb : PB wr b p vi vk vr
  pz : PB wr (b + 1) Prt.zero nilV nilV nilV
  bB : b + 1 < B
  oi : OwnV B 4 1 vi p.isr.length (p.isr.map Value.bool) wr
  ok : OwnV B 3 1 vk p.kn.length (p.kn.map (Value.int .i64)) wr
  or : OwnV B 63 4 vr p.rs.length (repCells (fun j => if j < k then new j else us j) p.rs 0) wr
  rd : ∀ i, (h : i < p.rs.length) → i < k → Rd wr (new i) (p.rs[i]'h).l
  ik : ∀ k, vi.ownBlock = some k → vk.ownBlock ≠ some k
  ir : ∀ k, vi.ownBlock = some k → vr.ownBlock ≠ some k
  kr : ∀ k, vk.ownBlock = some k → vr.ownBlock ≠ some k
  un : ∀ i, i < p.rs.length → i < k → ∀ k, (new i).ownBlock = some k → B ≤ k ∧ k < wr.heap.size ∧ vi.ownBlock ≠ some k ∧ vk.ownBlock ≠ some k ∧ vr.ownBlock ≠ some k
theorem Own.blk {B : Nat} {v : Value} {l : List Int} {w : World} (h : Own B v l w) (k : Nat) (hk : v.ownBlock = some k) : B ≤ k ∧ k < w.heap.size := h.1.lt k hk
theorem CopySt.step {B : Nat} {w : World} {b : Nat} {p : Prt} {vi vk : Value} {us new : Nat → Value} {k : Nat} {wr W : World} {gr cr : Nat} {v : Value} (h : CopySt B w b p vi vk (.slice (some ⟨gr, 0, none⟩) p.rs.length cr) us new k wr) (hk : k < p.rs.length) (hb : Below wr.heap.size wr W) (ho : Own wr.heap.size v (p.rs[k]'hk).l W) :
    CopySt B w b p vi vk (.slice (some ⟨gr, 0, none⟩) p.rs.length cr) us (fun j => if j = k then v else new j) (k + 1) (W.setCell ⟨gr, k * 4 + 1, none⟩ v) := by
  have hgr := h.or.blk gr rfl
  have hz := hb.size
  have hbb := h.bB
  have hbs := h.bs
  have hgi : vi.ownBlock ≠ some gr := fun e => h.ir gr e rfl
  have hgk : vk.ownBlock ≠ some gr := fun e => h.kr gr e rfl
  have hv : v.ownBlock ≠ some gr := fun e => by have := (ho.blk gr e).1; omega
  refine ⟨((h.bel.trans (hb.mono h.bel.size))).setCell (by show _ ≤ gr; omega) _, h.bs, (h.pb.below h.pb.1 hb).far (by omega) _ _, (h.pz.below h.pz.1 hb).far (by omega) _ _, h.bB, (h.oi.below (Nat.le_refl _) hb).far hgi _ _, (h.ok.below (Nat.le_refl _) hb).far hgk _ _, ?_, ?_, h.ik, h.ir, h.kr, ?_⟩
  · have := (h.or.below (Nat.le_refl _) hb).stored (k * 4 + 1) v
    rw [repCells_set _ _ _ _ hk] at this
    rw [repCells_congr p.rs 0 (us' := fun j => if j = 0 + k then v else if j < k then new j else us j) (fun i _ => by
      by_cases e : i = k
      · subst e; simp
      · by_cases e2 : i < k
        · simp [e, e2, show i < k + 1 by omega]
        · simp [e, e2, show ¬ i < k + 1 by omega])]
    exact this
  · intro i hi hik
    by_cases e : i = k
    · subst e
      simp only [if_true]
      exact rd_block ho.rd hv _ _
    · simp only [if_neg e]
      exact rd_block ((h.rd i hi (by omega)).below (Nat.le_refl _) hb) (fun e => (h.un i hi (by omega) gr e).2.2.2.2 rfl) _ _
  · intro i hi hik k' hk'
    have esz : (W.setCell ⟨gr, k * 4 + 1, none⟩ v).heap.size = W.heap.size := by simp
    rw [esz]
    by_cases e : i = k
    · subst e
      simp only [if_true] at hk'
      obtain ⟨y1, y2⟩ := ho.blk k' hk'
      refine ⟨by omega, y2, fun e => ?_, fun e => ?_, fun e => ?_⟩
      · have := (h.oi.blk k' e).2; omega
      · have := (h.ok.blk k' e).2; omega
      · have := (h.or.blk k' e).2; omega
    · simp only [if_neg e] at hk'
      obtain ⟨y1, y2, y3⟩ := h.un i hi (by omega) k' hk'
      exact ⟨y1, by omega, y3⟩
theorem CopySt.fresh {B : Nat} {w : World} {b : Nat} {p : Prt} {vi vk vr : Value} {us new : Nat → Value} {wr : World} (h : CopySt B w b p vi vk vr us new p.rs.length wr) : FreshP B wr p vi vk vr new :=
  ⟨h.oi, h.ok, by
    have := h.or
    rwa [repCells_congr p.rs 0 (us' := new) (fun i hi => by simp [hi])] at this, fun i hi => h.rd i hi hi, h.ik, h.ir, h.kr, fun i hi => h.un i hi hi⟩
/-- A replica's cells in the midst of the copy. -/
theorem OwnV.repAt {B : Nat} {rs : List Rep} {us : Nat → Value} {w : World} {gr n cr : Nat} (h : OwnV B 63 4 (.slice (some ⟨gr, 0, none⟩) n cr) rs.length (repCells us rs 0) w) (hn : n = rs.length) (i : Nat) (hi : i < rs.length) : w.cell? ⟨gr, i * 4, none⟩ = some (.bool (rs[i]'hi).up) ∧ w.cell? ⟨gr, i * 4 + 1, none⟩ = some (us i) ∧ w.cell? ⟨gr, i * 4 + 2, none⟩ = some (.int .i64 (rs[i]'hi).y) ∧ w.cell? ⟨gr, i * 4 + 3, none⟩ = some (.int .i64 (rs[i]'hi).h) ∧ ∀ o, w.frozen? ⟨gr, o, none⟩ = false := by
  subst hn
  obtain ⟨c0, c1, c2, c3⟩ := repCells_at us rs 0 i hi
  rw [Nat.zero_add] at c1
  refine ⟨?_, ?_, ?_, ?_, fun o => h.1.frozenAt o⟩
  · rw [h.1.cellAt _ (by omega)]; exact c0
  · rw [h.1.cellAt _ (by omega)]; exact c1
  · rw [h.1.cellAt _ (by omega)]; exact c2
  · rw [h.1.cellAt _ (by omega)]; exact c3

set_option maxRecDepth 100000 in
set_option maxHeartbeats 2000000 in
theorem copy_any (p : Prt) (vi vk vr : Value) (us : Nat → Value) (w : World) (h : RdP w p vi vk vr us) (hf : p.fits) :
    Calls Try.prog 29 #[.agg #[.int .i64 p.ep, .int .i64 p.ld, vi, vk, vr, .int .i64 p.fw, .int .i64 p.bs]] w fun e w' => ∃ vi' vk' vr' us', e = .returned (.agg #[.int .i64 p.ep, .int .i64 p.ld, vi', vk', vr', .int .i64 p.fw, .int .i64 p.bs]) ∧ FreshP w.heap.size w' p vi' vk' vr' us' ∧ Below w.heap.size w w' := by
  have HRW : Hid (RdP w p vi vk vr us) := h
  have HF : Hid p.fits := hf
  have l3 : (p.rs.length : Int) ≤ 9223372036854775807 := by obtain ⟨ai, ci, ak, ck, ar, cr, _, _, _, l1, l2, l3⟩ := h.lens; exact l3
  clear h hf
  go_enter Try.func29, Try.ntmps29
  go_wp2_with fail
  have B0 : Below w.heap.size w ((w.alloc (.cells #[.int .i64 p.ep, .int .i64 p.ld, vi, vk, vr, .int .i64 p.fw, .int .i64 p.bs] 26)).alloc (.cells #[.int .i64 0, .int .i64 0, .slice none 0 0, .slice none 0 0, .slice none 0 0, .int .i64 0, .int .i64 0] 26)) := bstep (bbox _ _) (bbox _ _)
  have P0 := (pb_new w p vi vk vr 26 w.heap.size rfl).below (C := w.heap.size + 1) (by omega) ((Below.refl _ _).alloc (by simp) (.cells #[.int .i64 0, .int .i64 0, .slice none 0 0, .slice none 0 0, .slice none 0 0, .int .i64 0, .int .i64 0] 26))
  have Z0 : PB ((w.alloc (.cells #[.int .i64 p.ep, .int .i64 p.ld, vi, vk, vr, .int .i64 p.fw, .int .i64 p.bs] 26)).alloc (.cells #[.int .i64 0, .int .i64 0, .slice none 0 0, .slice none 0 0, .slice none 0 0, .int .i64 0, .int .i64 0] 26)) (w.heap.size + 1) Prt.zero nilV nilV nilV := pb_new _ Prt.zero nilV nilV nilV 26 (w.heap.size + 1) (by simp)
  have hsz : ((w.alloc (.cells #[.int .i64 p.ep, .int .i64 p.ld, vi, vk, vr, .int .i64 p.fw, .int .i64 p.bs] 26)).alloc (.cells #[.int .i64 0, .int .i64 0, .slice none 0 0, .slice none 0 0, .slice none 0 0, .int .i64 0, .int .i64 0] 26)).heap.size = w.heap.size + 2 := by simp
  generalize (w.alloc (.cells #[.int .i64 p.ep, .int .i64 p.ld, vi, vk, vr, .int .i64 p.fw, .int .i64 p.bs] 26)).alloc (.cells #[.int .i64 0, .int .i64 0, .slice none 0 0, .slice none 0 0, .slice none 0 0, .int .i64 0, .int .i64 0] 26) = W0 at *
  refine (cloneB_any p.isr _ _ HF.out.i (HRW.out.below (Nat.le_refl _) B0).1).mono ?_
  rintro e w1 ⟨xi, rfl, hi, hb1⟩
  obtain ⟨ai, ci, rfl⟩ := hi.shape
  have B1 := bstep B0 hb1
  have P1 := P0.below P0.1 hb1
  have Z1 := Z0.below Z0.1 hb1
  have hi1 := hi.mono (C := w.heap.size + 2) (by omega)
  have HB1 : Hid _ := B1.setCell (p := ⟨w.heap.size, 2, none⟩) (Nat.le_refl _) (.slice ai p.isr.length ci)
  have HP1 : Hid _ := P1.setI (.slice ai p.isr.length ci)
  have HZ1 : Hid _ := Z1.far (g := w.heap.size) (by omega) 2 (.slice ai p.isr.length ci)
  have HI1 : Hid _ := hi1.far (b := w.heap.size) (fun e => by have := (hi1.blk _ e).1; omega) 2 (.slice ai p.isr.length ci)
  have HS1 : Hid _ := show w.heap.size + 2 ≤ (w1.setCell ⟨w.heap.size, 2, none⟩ (.slice ai p.isr.length ci)).heap.size by have := hb1.size; simp; omega
  obtain ⟨s1, ⟨a0, a1, a2, a3, a4, a5, a6⟩, f1⟩ := P1
  clear B0 P0 Z0 B1 Z1 hi hi1 hb1
  go_wp2_with fail
  clear a0 a1 a2 a3 a4 a5 a6 f1 s1
  generalize w1.setCell ⟨w.heap.size, 2, none⟩ (.slice ai p.isr.length ci) = w1' at *
  refine (cloneI_any p.kn _ _ HF.out.k (HRW.out.below (Nat.le_refl _) HB1.out).2.1).mono ?_
  rintro e w2 ⟨xk, rfl, hk, hb2⟩
  obtain ⟨ak, ck, rfl⟩ := hk.shape
  have B2 := bstep HB1.out hb2
  have P2 := PB.below HP1.out HP1.out.1 hb2
  have Z2 := PB.below HZ1.out HZ1.out.1 hb2
  have hi2 := OwnV.below HI1.out (Nat.le_refl _) hb2
  have hk2 := hk.mono (C := w.heap.size + 2) HS1.out
  have hne : ∀ k, (Value.slice ai p.isr.length ci).ownBlock = some k → (Value.slice ak p.kn.length ck).ownBlock ≠ some k := fun k e1 e2 => by
    have x1 := (OwnV.blk HI1.out k e1).2
    have x2 := (hk.blk k e2).1
    omega
  have HIK : Hid (∀ k, (Value.slice ai p.isr.length ci).ownBlock = some k → (Value.slice ak p.kn.length ck).ownBlock ≠ some k) := hne
  have HB2 : Hid _ := B2.setCell (p := ⟨w.heap.size, 3, none⟩) (Nat.le_refl _) (.slice ak p.kn.length ck)
  have HP2 : Hid _ := P2.setK (.slice ak p.kn.length ck)
  have HZ2 : Hid _ := Z2.far (g := w.heap.size) (by omega) 3 (.slice ak p.kn.length ck)
  have HI2 : Hid _ := hi2.far (b := w.heap.size) (fun e => by have := (hi2.blk _ e).1; omega) 3 (.slice ak p.kn.length ck)
  have HK2 : Hid _ := hk2.far (b := w.heap.size) (fun e => by have := (hk2.blk _ e).1; omega) 3 (.slice ak p.kn.length ck)
  have HS2 : Hid _ := show w.heap.size + 2 ≤ (w2.setCell ⟨w.heap.size, 3, none⟩ (.slice ak p.kn.length ck)).heap.size by have := hb2.size; have := HS1.out; simp; omega
  obtain ⟨s1, ⟨a0, a1, a2, a3, a4, a5, a6⟩, f1⟩ := P2
  clear B2 Z2 hi2 hk2 hb2 hk hne HB1 HP1 HZ1 HI1 HS1
  go_wp2_with fail
  clear a0 a1 a2 a3 a4 a5 a6 f1 s1
  generalize w2.setCell ⟨w.heap.size, 3, none⟩ (.slice ak p.kn.length ck) = w2' at *
  refine (cloneR_any p.rs us _ _ HF.out.r (HRW.out.below (Nat.le_refl _) HB2.out).2.2).mono ?_
  rintro e w3 ⟨xr, rfl, hr, hb3⟩
  obtain ⟨ar, cr, rfl⟩ := hr.shape
  have B3 := bstep HB2.out hb3
  have P3 := PB.below HP2.out HP2.out.1 hb3
  have Z3 := PB.below HZ2.out HZ2.out.1 hb3
  have hi3 := OwnV.below HI2.out (Nat.le_refl _) hb3
  have hk3 := OwnV.below HK2.out (Nat.le_refl _) hb3
  have hr3 := hr.mono (C := w.heap.size + 2) HS2.out
  have hir : ∀ k, (Value.slice ai p.isr.length ci).ownBlock = some k → (Value.slice ar p.rs.length cr).ownBlock ≠ some k := fun k e1 e2 => by
    have x1 := (OwnV.blk HI2.out k e1).2
    have x2 := (hr.blk k e2).1
    omega
  have hkr : ∀ k, (Value.slice ak p.kn.length ck).ownBlock = some k → (Value.slice ar p.rs.length cr).ownBlock ≠ some k := fun k e1 e2 => by
    have x1 := (OwnV.blk HK2.out k e1).2
    have x2 := (hr.blk k e2).1
    omega
  have HST : Hid (CopySt (w.heap.size + 2) w w.heap.size p (.slice ai p.isr.length ci) (.slice ak p.kn.length ck) (.slice ar p.rs.length cr) us us 0 (w3.setCell ⟨w.heap.size, 4, none⟩ (.slice ar p.rs.length cr))) :=
    ⟨B3.setCell (p := ⟨w.heap.size, 4, none⟩) (Nat.le_refl _) (.slice ar p.rs.length cr), Nat.le_refl _, P3.setR (.slice ar p.rs.length cr), Z3.far (g := w.heap.size) (by omega) 4 (.slice ar p.rs.length cr), by omega, hi3.far (b := w.heap.size) (fun e => by have := (hi3.blk _ e).1; omega) 4 (.slice ar p.rs.length cr), hk3.far (b := w.heap.size) (fun e => by have := (hk3.blk _ e).1; omega) 4 (.slice ar p.rs.length cr), by
      have := hr3.far (b := w.heap.size) (fun e => by have := (hr3.blk _ e).1; omega) 4 (.slice ar p.rs.length cr)
      simpa using this, fun i hi h0 => by omega, HIK.out, hir, hkr, fun i hi h0 => by omega⟩
  obtain ⟨s1, ⟨a0, a1, a2, a3, a4, a5, a6⟩, f1⟩ := P3
  clear B3 Z3 hi3 hk3 hr3 hb3 hr HIK hir hkr HB2 HP2 HZ2 HI2 HS2 HK2
  go_wp2_with fail
  clear a0 a1 a2 a3 a4 a5 a6 f1 s1
  generalize w3.setCell ⟨w.heap.size, 4, none⟩ (.slice ar p.rs.length cr) = w3' at *
  go_loopw [19] (fun i wr => ∃ k : Nat, k ≤ p.rs.length ∧ i = .int .i64 k ∧ Hid (∃ new, CopySt (w.heap.size + 2) w w.heap.size p (.slice ai p.isr.length ci) (.slice ak p.kn.length ck) (.slice ar p.rs.length cr) us new k wr)) (fun i _ => p.rs.length - (intOf i).toNat)
  case atStart => exact ⟨0, by omega, rfl, us, HST.out⟩
  case round =>
    obtain ⟨k, hk, rfl, HN⟩ := hrel
    obtain ⟨new, hst⟩ := HN.out
    by_cases hlt : k < p.rs.length
    · obtain ⟨gr, cr', e, _⟩ := hst.or.form (by omega)
      simp only [Value.slice.injEq] at e
      obtain ⟨rfl, _, rfl⟩ := e
      have hlt' : (k : Int) < p.rs.length := by omega
      have HST' : Hid _ := hst
      obtain ⟨s1, ⟨a0, a1, a2, a3, a4, a5, a6⟩, f1⟩ := hst.pb
      obtain ⟨c0, c1, c2, c3, fz⟩ := hst.or.repAt rfl k hlt
      simp only [Nat.lt_irrefl, if_false] at c1
      have HU : Hid (∀ W, Below wr.heap.size wr W → Rd W (us k) (p.rs[k]'hlt).l) := fun W hW => by
        obtain ⟨ao, cap, e, _, _, _, h3⟩ := HRW.out.2.2
        obtain ⟨g, off, rfl, hg⟩ := h3 (by omega)
        exact (hg k hlt).1.below (Nat.le_refl _) (hst.bel.trans (hW.mono hst.bel.size))
      have HL : Hid ((p.rs[k]'hlt).l.length ≤ 140737488355328) := HF.out.s _ (List.getElem_mem hlt)
      have hgr := hst.or.blk gr rfl
      have hgl : gr < wr.heap.size := hgr.2
      have hgne : w.heap.size ≠ gr := by omega
      clear hst HN hgr
      go_wp2
      go_region_with (go_at_call 72; refine (bclone_any _ _ _ HL.out (HU.out _ (by repeat (first | exact Below.refl _ _ | refine Below.drew ?_)))).mono ?_; rintro e w5 ⟨v5, rfl, ho5, hb5⟩; have hB5 : Below wr.heap.size wr w5 := bstep (by repeat (first | exact Below.refl _ _ | refine Below.drew ?_)) hb5; obtain ⟨m1, m2⟩ := bcell hB5; obtain ⟨av5, cv5, rfl⟩ := ho5.shape)
      all_goals
        have HX : Hid (∃ new, CopySt (w.heap.size + 2) w w.heap.size p (.slice ai p.isr.length ci) (.slice ak p.kn.length ck) (.slice (some ⟨gr, 0, none⟩) p.rs.length cr) us new (k + 1) _) := ⟨_, CopySt.step HST'.out hlt hB5 ho5⟩
        clear a0 a1 a2 a3 a4 a5 a6 f1 s1 c0 c1 c2 c3 fz m1 m2 hB5 ho5 hb5 HST' HU HL
        go_wp2
        go_roundw
        case rel => exact ⟨k + 1, by omega, by go_num, HX⟩
        case measure => simp [intOf]; omega
    · have hke : k = p.rs.length := by omega
      subst hke
      have hz := hst.pz
      obtain ⟨s1, ⟨a0, a1, a2, a3, a4, a5, a6⟩, f1⟩ := hst.pb
      obtain ⟨z1, ⟨e0, e1, e2, e3, e4, e5, e6⟩, g1⟩ := hst.pz
      have hz1 : w.heap.size + 1 < wr.heap.size := z1
      have HF' : Hid (FreshP w.heap.size (put7 wr (w.heap.size + 1) p _ _ _) p _ _ _ new) := (hst.fresh.put (b := w.heap.size + 1) hst.bB p (.slice ai p.isr.length ci) (.slice ak p.kn.length ck) (.slice ar p.rs.length cr)).mono (by omega)
      have HBz : Hid (Below w.heap.size w (put7 wr (w.heap.size + 1) p (.slice ai p.isr.length ci) (.slice ak p.kn.length ck) (.slice ar p.rs.length cr))) := below_put hst.bel (by omega) _ _ _ _
      clear hst HN hz
      go_wp2
      refine bodyPost_ret (v := .agg #[.int .i64 p.ep, .int .i64 p.ld, .slice ai p.isr.length ci, .slice ak p.kn.length ck, .slice ar p.rs.length cr, .int .i64 p.fw, .int .i64 p.bs]) (by simp [results, Try.results29, go_sem, e0, e1, e2, e3, e4, e5, e6]) rfl ⟨_, _, _, new, rfl, HF'.out, HBz.out⟩

end Go.Proofs.Ytkakagjffafdiaa
