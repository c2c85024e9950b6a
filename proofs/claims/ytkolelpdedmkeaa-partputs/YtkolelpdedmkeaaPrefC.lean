/-
  The document's PartCopy.
-/
import Derived.Test.YtkolelpdedmkeaaPgrow
import Derived.Test.YtkolelpdedmkeaaAdoc
import Derived.Deep.RegionLaw
namespace Go.Proofs.Ytkolelpdedmkeaa
open Go.RowKit
set_option linter.unusedVariables false
set_option linter.unusedSimpArgs false

/-- In the midst of the copy: what was copied so far, the box that holds it, the argument's box, the result's. -/
structure RSt (w : World) (p : Prt) (pi pk pr : Value) (bs : List Bool) (ks : List Int) (rs : List Rep) (vi vk vr : Value) (us : Nat → Value) (W : World) : Prop where
  fr : FreshP (w.heap.size + 3) W (⟨p.ep, p.ld, bs, ks, rs, p.fw, p.bs⟩ : Prt) vi vk vr us
  out : PB W (w.heap.size + 1 + 1) p vi vk vr
  zr : PB W (w.heap.size + 1) Prt.zero nilV nilV nilV
  src : PB W w.heap.size p pi pk pr
  bel : Below w.heap.size w W
theorem RSt.below {w W : World} {p : Prt} {pi pk pr : Value} {bs : List Bool} {ks : List Int} {rs : List Rep} {vi vk vr : Value} {us : Nat → Value} {W' : World} (h : RSt w p pi pk pr bs ks rs vi vk vr us W) (hb : Below W.heap.size W W') : RSt w p pi pk pr bs ks rs vi vk vr us W' :=
  ⟨h.fr.below (Nat.le_refl _) hb, h.out.below h.out.1 hb, h.zr.below h.zr.1 hb, h.src.below h.src.1 hb, h.bel.trans (hb.mono h.bel.size)⟩
theorem RSt.growI {w W : World} {p : Prt} {pi pk pr : Value} {bs : List Bool} {ks : List Int} {rs : List Rep} {vi vk vr : Value} {us : Nat → Value} {W' : World} {v' : Value} (h : RSt w p pi pk pr bs ks rs vi vk vr us W) (b : Bool) (ho : OwnV (w.heap.size + 3) 4 1 v' (bs.length + 1) (bs.map Value.bool ++ [.bool b]) W') (hg : W.grownBy W' vi.ownBlock) (hat : ∀ k, v'.ownBlock = some k → vi.ownBlock = some k ∨ k = W.heap.size) : RSt w p pi pk pr (bs ++ [b]) ks rs v' vk vr us (W'.setCell ⟨w.heap.size + 1 + 1, 2, none⟩ v') := by
  have hrow : ∀ k, vi.ownBlock = some k → w.heap.size + 3 ≤ k := fun k e => (h.fr.oi.blk k e).1
  have f := h.fr.growI b ho hg hat
  have n2 : vi.ownBlock ≠ some (w.heap.size + 1 + 1) := fun e => by have := hrow _ e; omega
  have n1 : vi.ownBlock ≠ some (w.heap.size + 1) := fun e => by have := hrow _ e; omega
  have n0 : vi.ownBlock ≠ some w.heap.size := fun e => by have := hrow _ e; omega
  exact ⟨f.box (by omega) _ _, (h.out.grown hg n2).setI v', (h.zr.grown hg n1).far (by omega) _ _, (h.src.grown hg n0).far (by omega) _ _, (h.bel.grown hg h.bel.size (fun k e => by have := hrow _ e; omega)).setCell (p := ⟨w.heap.size + 1 + 1, 2, none⟩) (by show w.heap.size ≤ w.heap.size + 1 + 1; omega) _⟩
theorem RSt.growK {w W : World} {p : Prt} {pi pk pr : Value} {bs : List Bool} {ks : List Int} {rs : List Rep} {vi vk vr : Value} {us : Nat → Value} {W' : World} {v' : Value} (h : RSt w p pi pk pr bs ks rs vi vk vr us W) (b : Int) (ho : OwnV (w.heap.size + 3) 3 1 v' (ks.length + 1) (ks.map (Value.int .i64) ++ [.int .i64 b]) W') (hg : W.grownBy W' vk.ownBlock) (hat : ∀ k, v'.ownBlock = some k → vk.ownBlock = some k ∨ k = W.heap.size) : RSt w p pi pk pr bs (ks ++ [b]) rs vi v' vr us (W'.setCell ⟨w.heap.size + 1 + 1, 3, none⟩ v') := by
  have hrow : ∀ k, vk.ownBlock = some k → w.heap.size + 3 ≤ k := fun k e => (h.fr.ok.blk k e).1
  have f := h.fr.growK b ho hg hat
  have n2 : vk.ownBlock ≠ some (w.heap.size + 1 + 1) := fun e => by have := hrow _ e; omega
  have n1 : vk.ownBlock ≠ some (w.heap.size + 1) := fun e => by have := hrow _ e; omega
  have n0 : vk.ownBlock ≠ some w.heap.size := fun e => by have := hrow _ e; omega
  exact ⟨f.box (by omega) _ _, (h.out.grown hg n2).setK v', (h.zr.grown hg n1).far (by omega) _ _, (h.src.grown hg n0).far (by omega) _ _, (h.bel.grown hg h.bel.size (fun k e => by have := hrow _ e; omega)).setCell (p := ⟨w.heap.size + 1 + 1, 3, none⟩) (by show w.heap.size ≤ w.heap.size + 1 + 1; omega) _⟩
theorem RSt.growR {w W : World} {p : Prt} {pi pk pr : Value} {bs : List Bool} {ks : List Int} {rs : List Rep} {vi vk vr : Value} {us : Nat → Value} {W' : World} {v' : Value} (h : RSt w p pi pk pr bs ks rs vi vk vr us W) (rep : Rep) (u : Value) (hu : Rd W u rep.l) (huk : ∀ k, u.ownBlock = some k → w.heap.size + 3 ≤ k ∧ k < W.heap.size ∧ vi.ownBlock ≠ some k ∧ vk.ownBlock ≠ some k ∧ vr.ownBlock ≠ some k) (ho : OwnV (w.heap.size + 3) 63 4 v' (rs.length + 1) (repCells us rs 0 ++ [.bool rep.up, u, .int .i64 rep.y, .int .i64 rep.h]) W') (hg : W.grownBy W' vr.ownBlock) (hat : ∀ k, v'.ownBlock = some k → vr.ownBlock = some k ∨ k = W.heap.size) : RSt w p pi pk pr bs ks (rs ++ [rep]) vi vk v' (fun j => if j = rs.length then u else us j) (W'.setCell ⟨w.heap.size + 1 + 1, 4, none⟩ v') := by
  have hrow : ∀ k, vr.ownBlock = some k → w.heap.size + 3 ≤ k := fun k e => (h.fr.or.blk k e).1
  have f := h.fr.growR rep u hu huk ho hg hat
  have n2 : vr.ownBlock ≠ some (w.heap.size + 1 + 1) := fun e => by have := hrow _ e; omega
  have n1 : vr.ownBlock ≠ some (w.heap.size + 1) := fun e => by have := hrow _ e; omega
  have n0 : vr.ownBlock ≠ some w.heap.size := fun e => by have := hrow _ e; omega
  exact ⟨f.box (by omega) _ _, (h.out.grown hg n2).setR v', (h.zr.grown hg n1).far (by omega) _ _, (h.src.grown hg n0).far (by omega) _ _, (h.bel.grown hg h.bel.size (fun k e => by have := hrow _ e; omega)).setCell (p := ⟨w.heap.size + 1 + 1, 4, none⟩) (by show w.heap.size ≤ w.heap.size + 1 + 1; omega) _⟩
theorem hat_all {g H n c : Nat} {v : Value} {W : World} (hat : v.ownBlock = some g ∨ g = H) (hH : W.heap.size = H) : ∀ k, (Value.slice (some ⟨g, 0, none⟩) n c).ownBlock = some k → v.ownBlock = some k ∨ k = W.heap.size := fun k e => by
  simp [Value.ownBlock] at e
  subst e
  rw [hH]
  exact hat
theorem take_snoc {α : Type} {l m : List α} {d : α} (h : l = m.take l.length) (hl : l.length < m.length) : l ++ [m.getD l.length d] = m.take (l ++ [m.getD l.length d]).length := by
  rw [List.length_append, List.length_singleton, List.take_succ_eq_append_getElem hl, ← h]
  simp [List.getD, hl]
theorem take_full {α : Type} {l m : List α} (h : l = m.take l.length) (hl : ¬ l.length < m.length) : l = m := by
  rw [h, List.take_of_length_le (by omega)]

theorem rst_start (w : World) (p : Prt) (ai ak ar : Option Addr) (ci ck cr : Nat) : RSt w p (.slice ai p.isr.length ci) (.slice ak p.kn.length ck) (.slice ar p.rs.length cr) [] [] [] nilV nilV nilV (fun _ => nilV) (((w.alloc (.cells #[.int .i64 p.ep, .int .i64 p.ld, .slice ai p.isr.length ci, .slice ak p.kn.length ck, .slice ar p.rs.length cr, .int .i64 p.fw, .int .i64 p.bs] 26)).alloc (.cells #[.int .i64 0, .int .i64 0, .slice none 0 0, .slice none 0 0, .slice none 0 0, .int .i64 0, .int .i64 0] 26)).alloc (.cells #[.int .i64 p.ep, .int .i64 p.ld, .slice none 0 0, .slice none 0 0, .slice none 0 0, .int .i64 p.fw, .int .i64 p.bs] 26)) := by
  have e1 : (w.alloc (.cells #[.int .i64 p.ep, .int .i64 p.ld, .slice ai p.isr.length ci, .slice ak p.kn.length ck, .slice ar p.rs.length cr, .int .i64 p.fw, .int .i64 p.bs] 26)).heap.size = w.heap.size + 1 := by simp
  have e2 : ((w.alloc (.cells #[.int .i64 p.ep, .int .i64 p.ld, .slice ai p.isr.length ci, .slice ak p.kn.length ck, .slice ar p.rs.length cr, .int .i64 p.fw, .int .i64 p.bs] 26)).alloc (.cells #[.int .i64 0, .int .i64 0, .slice none 0 0, .slice none 0 0, .slice none 0 0, .int .i64 0, .int .i64 0] 26)).heap.size = w.heap.size + 1 + 1 := by simp
  have e3 : (((w.alloc (.cells #[.int .i64 p.ep, .int .i64 p.ld, .slice ai p.isr.length ci, .slice ak p.kn.length ck, .slice ar p.rs.length cr, .int .i64 p.fw, .int .i64 p.bs] 26)).alloc (.cells #[.int .i64 0, .int .i64 0, .slice none 0 0, .slice none 0 0, .slice none 0 0, .int .i64 0, .int .i64 0] 26)).alloc (.cells #[.int .i64 p.ep, .int .i64 p.ld, .slice none 0 0, .slice none 0 0, .slice none 0 0, .int .i64 p.fw, .int .i64 p.bs] 26)).heap.size = w.heap.size + 3 := by simp
  have b3 := bbox ((w.alloc (.cells #[.int .i64 p.ep, .int .i64 p.ld, .slice ai p.isr.length ci, .slice ak p.kn.length ck, .slice ar p.rs.length cr, .int .i64 p.fw, .int .i64 p.bs] 26)).alloc (.cells #[.int .i64 0, .int .i64 0, .slice none 0 0, .slice none 0 0, .slice none 0 0, .int .i64 0, .int .i64 0] 26)) (.cells #[.int .i64 p.ep, .int .i64 p.ld, .slice none 0 0, .slice none 0 0, .slice none 0 0, .int .i64 p.fw, .int .i64 p.bs] 26)
  have b2 := bbox (w.alloc (.cells #[.int .i64 p.ep, .int .i64 p.ld, .slice ai p.isr.length ci, .slice ak p.kn.length ck, .slice ar p.rs.length cr, .int .i64 p.fw, .int .i64 p.bs] 26)) (.cells #[.int .i64 0, .int .i64 0, .slice none 0 0, .slice none 0 0, .slice none 0 0, .int .i64 0, .int .i64 0] 26)
  rw [e1] at b2
  rw [e2] at b3
  refine ⟨⟨ownV_nil _ _ _ _ (by omega), ownV_nil _ _ _ _ (by omega), ownV_nil _ _ _ _ (by omega), fun i h => by simp at h, fun k e => by simp [Value.ownBlock] at e, fun k e => by simp [Value.ownBlock] at e, fun k e => by simp [Value.ownBlock] at e, fun i h => by simp at h⟩, pb_new _ p nilV nilV nilV 26 _ e2.symm, (pb_new _ Prt.zero nilV nilV nilV 26 _ e1.symm).below (by omega) b3, ((pb_new w p _ _ _ 26 _ rfl).below (by omega) b2).below (by omega) b3, bstep (bstep (bbox _ _) (bbox _ _)) (bbox _ _)⟩

set_option maxRecDepth 100000 in
set_option maxHeartbeats 4000000 in
theorem partCopy_any (p : Prt) (vi vk vr : Value) (us : Nat → Value) (w : World) (h : RdP w p vi vk vr us) (hf : p.fits) :
    Calls Try.prog 30 #[.agg #[.int .i64 p.ep, .int .i64 p.ld, vi, vk, vr, .int .i64 p.fw, .int .i64 p.bs]] w fun e w' => ∃ vi' vk' vr' us', e = .returned (.agg #[.int .i64 p.ep, .int .i64 p.ld, vi', vk', vr', .int .i64 p.fw, .int .i64 p.bs]) ∧ FreshP w.heap.size w' p vi' vk' vr' us' ∧ Below w.heap.size w w' := by
  have HRW : Hid (RdP w p vi vk vr us) := h
  have HF : Hid p.fits := hf
  obtain ⟨ai, ci, ak, ck, ar, cr, rfl, rfl, rfl, l1, l2, l3⟩ := h.lens
  clear h hf
  have HS0 : Hid (RSt w p (.slice ai p.isr.length ci) (.slice ak p.kn.length ck) (.slice ar p.rs.length cr) [] [] [] nilV nilV nilV (fun _ => nilV) (((w.alloc (.cells #[.int .i64 p.ep, .int .i64 p.ld, .slice ai p.isr.length ci, .slice ak p.kn.length ck, .slice ar p.rs.length cr, .int .i64 p.fw, .int .i64 p.bs] 26)).alloc (.cells #[.int .i64 0, .int .i64 0, .slice none 0 0, .slice none 0 0, .slice none 0 0, .int .i64 0, .int .i64 0] 26)).alloc (.cells #[.int .i64 p.ep, .int .i64 p.ld, .slice none 0 0, .slice none 0 0, .slice none 0 0, .int .i64 p.fw, .int .i64 p.bs] 26))) := rst_start w p ai ak ar ci ck cr
  go_enter Try.func30, Try.ntmps30
  go_wp2
  generalize ((w.alloc (.cells #[.int .i64 p.ep, .int .i64 p.ld, .slice ai p.isr.length ci, .slice ak p.kn.length ck, .slice ar p.rs.length cr, .int .i64 p.fw, .int .i64 p.bs] 26)).alloc (.cells #[.int .i64 0, .int .i64 0, .slice none 0 0, .slice none 0 0, .slice none 0 0, .int .i64 0, .int .i64 0] 26)).alloc (.cells #[.int .i64 p.ep, .int .i64 p.ld, .slice none 0 0, .slice none 0 0, .slice none 0 0, .int .i64 p.fw, .int .i64 p.bs] 26) = W0 at *
  go_loopw [4] (fun i wr => ∃ bs : List Bool, bs.length ≤ p.isr.length ∧ i = .int .i64 bs.length ∧ Hid (bs = p.isr.take bs.length) ∧ Hid (∃ vi, RSt w p (.slice ai p.isr.length ci) (.slice ak p.kn.length ck) (.slice ar p.rs.length cr) bs [] [] vi nilV nilV (fun _ => nilV) wr)) (fun i _ => p.isr.length - (intOf i).toNat)
  case atStart => exact ⟨[], by simp, rfl, rfl, nilV, HS0.out⟩
  case round =>
    obtain ⟨bs, hk, rfl, HT, HN⟩ := hrel
    obtain ⟨vi, hst⟩ := HN.out
    obtain ⟨ao, co, rfl⟩ := hst.fr.oi.shape
    have HST : Hid _ := hst
    obtain ⟨s1, ⟨b0, b1, b2, b3, b4, b5, b6⟩, f1⟩ := hst.src
    obtain ⟨z1, ⟨e0, e1, e2, e3, e4, e5, e6⟩, g1⟩ := hst.out
    by_cases hlt : bs.length < p.isr.length
    · have hlt' : (bs.length : Int) < p.isr.length := by omega
      obtain ⟨hgi, hoi, rfl, m0⟩ := RdP.isrAt (HRW.out.below (Nat.le_refl _) hst.bel).1 bs.length hlt
      have HL : Hid (bs.length + 1 ≤ 140737488355328) := show _ ≤ _ by have := HF.out.i; omega
      have HT2 : Hid (bs ++ [p.isr.getD bs.length false] = p.isr.take (bs ++ [p.isr.getD bs.length false]).length) := take_snoc HT.out hlt
      have HNB : Hid (∀ k, k < w.heap.size + 3 → (Value.slice ao bs.length co).ownBlock ≠ some k) := fun k hk e => by have := (hst.fr.oi.blk k e).1; omega
      generalize p.isr.getD bs.length false = bb at *
      clear hst HN
      go_wp2
      go_region_law ((refine step_rowB (by rfl) _ _ (by rfl) (w.heap.size + 3) _ _ _ (by rfl) (OwnV.below HST.out.fr.oi (Nat.le_refl _) (by repeat (first | exact Below.refl _ _ | refine Below.drew ?_ | refine Below.alloc ?_ (Nat.le_refl _) _))) _ (by rfl) bb (by simp [go_sem]) HL.out (wr.heap.size + 1) (by simp) ?_; intro g' cap w' ho hg hat hlt2; have HX : Hid _ := RSt.growI (RSt.below HST.out (by repeat (first | exact Below.refl _ _ | refine Below.drew ?_ | refine Below.alloc ?_ (Nat.le_refl _) _))) bb ho hg (hat_all hat (by simp)); obtain ⟨y1, ⟨y2, y3, y4, y5, y6, y7, y8⟩, y9⟩ := PB.grown (RSt.below HST.out (by repeat (first | exact Below.refl _ _ | refine Below.drew ?_ | refine Below.alloc ?_ (Nat.le_refl _) _))).out hg (HNB.out _ (by omega)); clear ho hg))
      all_goals
        clear s1 b0 b1 b2 b3 b4 b5 b6 f1 z1 e0 e1 e2 e3 e4 e5 e6 g1 y1 y2 y3 y4 y5 y6 y7 y8 y9 m0 hat hlt2 HST HNB
        go_wp2
        go_roundw
        case rel => exact ⟨bs ++ [bb], by simp; omega, by simp, HT2, _, HX.out⟩
        case measure => simp [intOf]; omega
    · have HFULL : Hid (bs = p.isr) := take_full HT.out hlt
      have hke : bs.length = p.isr.length := by omega
      obtain rfl : bs = p.isr := HFULL.out
      clear hst HN HT hk hlt hke HFULL HS0 W0
      go_wp2
      clear s1 b0 b1 b2 b3 b4 b5 b6 f1 z1 e0 e1 e2 e3 e4 e5 e6 g1
      rename World => w4
      go_loopw [5] (fun i wr => ∃ ks : List Int, ks.length ≤ p.kn.length ∧ i = .int .i64 ks.length ∧ Hid (ks = p.kn.take ks.length) ∧ Hid (∃ vk, RSt w p (.slice ai p.isr.length ci) (.slice ak p.kn.length ck) (.slice ar p.rs.length cr) p.isr ks [] (.slice ao p.isr.length co) vk nilV (fun _ => nilV) wr)) (fun i _ => p.kn.length - (intOf i).toNat)
      case atStart => exact ⟨[], by simp, rfl, rfl, nilV, HST.out⟩
      case round =>
        obtain ⟨ks, hk, rfl, HT, HN⟩ := hrel
        obtain ⟨vk, hst⟩ := HN.out
        clear HST
        obtain ⟨ao2, co2, rfl⟩ := hst.fr.ok.shape
        have HST : Hid _ := hst
        obtain ⟨s1, ⟨b0, b1, b2, b3, b4, b5, b6⟩, f1⟩ := hst.src
        obtain ⟨z1, ⟨e0, e1, e2, e3, e4, e5, e6⟩, g1⟩ := hst.out
        by_cases hlt : ks.length < p.kn.length
        · have hlt' : (ks.length : Int) < p.kn.length := by omega
          obtain ⟨hgi, hoi, rfl, m0⟩ := RdP.knAt (HRW.out.below (Nat.le_refl _) hst.bel).2.1 ks.length hlt
          have HL : Hid ((ks.length + 1) * 8 ≤ 140737488355328) := show _ ≤ _ by have := HF.out.k; omega
          have HT2 : Hid (ks ++ [p.kn.getD ks.length 0] = p.kn.take (ks ++ [p.kn.getD ks.length 0]).length) := take_snoc HT.out hlt
          have HNB : Hid (∀ k, k < w.heap.size + 3 → (Value.slice ao2 ks.length co2).ownBlock ≠ some k) := fun k hk e => by have := (hst.fr.ok.blk k e).1; omega
          generalize p.kn.getD ks.length 0 = bb at *
          clear hst HN
          go_wp2
          go_region_law ((refine step_rowI (by rfl) _ _ (by rfl) (w.heap.size + 3) _ _ _ (by rfl) (OwnV.below HST.out.fr.ok (Nat.le_refl _) (by repeat (first | exact Below.refl _ _ | refine Below.drew ?_ | refine Below.alloc ?_ (Nat.le_refl _) _))) _ (by rfl) bb (by simp [go_sem]) HL.out (wr.heap.size + 1) (by simp) ?_; intro g' cap w' ho hg hat hlt2; have HX : Hid _ := RSt.growK (RSt.below HST.out (by repeat (first | exact Below.refl _ _ | refine Below.drew ?_ | refine Below.alloc ?_ (Nat.le_refl _) _))) bb ho hg (hat_all hat (by simp)); obtain ⟨y1, ⟨y2, y3, y4, y5, y6, y7, y8⟩, y9⟩ := PB.grown (RSt.below HST.out (by repeat (first | exact Below.refl _ _ | refine Below.drew ?_ | refine Below.alloc ?_ (Nat.le_refl _) _))).out hg (HNB.out _ (by omega)); clear ho hg))
          all_goals
            clear s1 b0 b1 b2 b3 b4 b5 b6 f1 z1 e0 e1 e2 e3 e4 e5 e6 g1 y1 y2 y3 y4 y5 y6 y7 y8 y9 m0 hat hlt2 HST HNB
            go_wp2
            go_roundw
            case rel => exact ⟨ks ++ [bb], by simp; omega, by simp, HT2, _, HX.out⟩
            case measure => simp [intOf]; omega
        · have HFULL : Hid (ks = p.kn) := take_full HT.out hlt
          have hke : ks.length = p.kn.length := by omega
          obtain rfl : ks = p.kn := HFULL.out
          clear hst HN HT hk hlt hke HFULL
          go_wp2
          clear s1 b0 b1 b2 b3 b4 b5 b6 f1 z1 e0 e1 e2 e3 e4 e5 e6 g1
          go_loopw [6] (fun i wr => ∃ rs : List Rep, rs.length ≤ p.rs.length ∧ i = .int .i64 rs.length ∧ Hid (rs = p.rs.take rs.length) ∧ Hid (∃ vr us2, RSt w p (.slice ai p.isr.length ci) (.slice ak p.kn.length ck) (.slice ar p.rs.length cr) p.isr p.kn rs (.slice ao p.isr.length co) (.slice ao2 p.kn.length co2) vr us2 wr)) (fun i _ => p.rs.length - (intOf i).toNat)
          case atStart => exact ⟨[], by simp, rfl, rfl, nilV, _, HST.out⟩
          case round =>
            obtain ⟨rs, hk, rfl, HT, HN⟩ := hrel
            obtain ⟨vr, us2, hst⟩ := HN.out
            clear HST
            obtain ⟨ao3, co3, rfl⟩ := hst.fr.or.shape
            have HST : Hid _ := hst
            obtain ⟨s1, ⟨b0, b1, b2, b3, b4, b5, b6⟩, f1⟩ := hst.src
            obtain ⟨z1, ⟨e0, e1, e2, e3, e4, e5, e6⟩, g1⟩ := hst.out
            by_cases hlt : rs.length < p.rs.length
            · have hlt' : (rs.length : Int) < p.rs.length := by omega
              obtain ⟨hgi, hoi, rfl, -, q0, q1, q2, q3, q4⟩ := (HRW.out.below (Nat.le_refl _) hst.bel).2.2.cells rs.length hlt
              have HL : Hid ((rs.length + 1) * 48 ≤ 140737488355328) := show _ ≤ _ by have := HF.out.r; omega
              have HT2 : Hid (rs ++ [p.at rs.length] = p.rs.take (rs ++ [p.at rs.length]).length) := show _ = _ by
                have := take_snoc (d := Rep.zero) HT.out hlt
                rwa [show p.rs.getD rs.length Rep.zero = p.at rs.length from rfl] at this
              have HLB : Hid ((p.at rs.length).l.length ≤ 140737488355328) := show _ ≤ _ by rw [at_rep hlt]; exact HF.out.s _ (List.getElem_mem hlt)
              have HNB : Hid (∀ k, k < w.heap.size + 3 → (Value.slice ao3 rs.length co3).ownBlock ≠ some k) := fun k hk e => by have := (hst.fr.or.blk k e).1; omega
              have HQ0 : Hid _ := q0
              obtain ⟨au, cu, eu⟩ : ∃ au cu, us rs.length = .slice au (p.at rs.length).l.length cu := by obtain ⟨_, au, cu, e, _⟩ := q0; exact ⟨au, cu, e⟩
              rw [eu] at q2 HQ0
              generalize p.at rs.length = R at *
              clear hst HN eu q0
              go_wp2_with fail
              refine (copy_one R.l (.slice au R.l.length cu) _ _ HLB.out (Rd.below HQ0.out (Nat.le_refl _) (by repeat (first | exact Below.refl _ _ | refine Below.setCell ?_ (Nat.le_refl _) _ | refine Below.drew ?_ | refine Below.alloc ?_ (by simp) _))) (by simp [go_sem])).mono ?_
              rintro e w5 ⟨v5, rfl, ho5, hb5⟩
              obtain ⟨a5, c5, rfl⟩ := ho5.shape
              have hsz : ((wr.alloc (.cells #[.bool R.up, .slice au R.l.length cu, .int .i64 R.y, .int .i64 R.h] 63)).alloc (.cells #[.slice au R.l.length cu] 59)).heap.size = wr.heap.size + 1 + 1 := by simp
              have x0 : w5.cell? ⟨wr.heap.size, 0, none⟩ = some (.bool R.up) := (hb5.cell (p := ⟨wr.heap.size, 0, none⟩) (by show wr.heap.size < _; omega)).trans (by simp [go_sem])
              have x1 : w5.cell? ⟨wr.heap.size, 1, none⟩ = some (.slice au R.l.length cu) := (hb5.cell (p := ⟨wr.heap.size, 1, none⟩) (by show wr.heap.size < _; omega)).trans (by simp [go_sem])
              have x2 : w5.cell? ⟨wr.heap.size, 2, none⟩ = some (.int .i64 R.y) := (hb5.cell (p := ⟨wr.heap.size, 2, none⟩) (by show wr.heap.size < _; omega)).trans (by simp [go_sem])
              have x3 : w5.cell? ⟨wr.heap.size, 3, none⟩ = some (.int .i64 R.h) := (hb5.cell (p := ⟨wr.heap.size, 3, none⟩) (by show wr.heap.size < _; omega)).trans (by simp [go_sem])
              have x4 : ∀ o, w5.frozen? ⟨wr.heap.size, o, none⟩ = false := fun o => (hb5.frozen (p := ⟨wr.heap.size, o, none⟩) (by show wr.heap.size < _; omega)).trans (by simp [go_sem])
              have hb6 : Below wr.heap.size wr w5 := bstep (by repeat (first | exact Below.refl _ _ | refine Below.setCell ?_ (Nat.le_refl _) _ | refine Below.drew ?_ | refine Below.alloc ?_ (by simp) _)) hb5
              have HB6 : Hid (Below wr.heap.size wr (w5.setCell ⟨wr.heap.size, 1, none⟩ (.slice a5 R.l.length c5))) := hb6.setCell (p := ⟨wr.heap.size, 1, none⟩) (Nat.le_refl _) _
              have HS6 : Hid (RSt w p _ _ _ _ _ _ _ _ _ _ (w5.setCell ⟨wr.heap.size, 1, none⟩ (.slice a5 R.l.length c5))) := RSt.below HST.out HB6.out
              have HRD : Hid (Rd (w5.setCell ⟨wr.heap.size, 1, none⟩ (.slice a5 R.l.length c5)) (.slice a5 R.l.length c5) R.l) := rd_block ho5.rd (fun e => by have := (ho5.blk _ e).1; omega) _ _
              have HUK : Hid (∀ k, (Value.slice a5 R.l.length c5).ownBlock = some k → w.heap.size + 3 ≤ k ∧ k < w5.heap.size ∧ (Value.slice ao p.isr.length co).ownBlock ≠ some k ∧ (Value.slice ao2 p.kn.length co2).ownBlock ≠ some k ∧ (Value.slice ao3 rs.length co3).ownBlock ≠ some k) := fun k e => by
                obtain ⟨y1, y2⟩ := ho5.blk k e
                have y3 := HST.out.fr.oi.2
                exact ⟨by omega, y2, fun e => by have := (HST.out.fr.oi.blk _ e).2; omega, fun e => by have := (HST.out.fr.ok.blk _ e).2; omega, fun e => by have := (HST.out.fr.or.blk _ e).2; omega⟩
              have hw5 : wr.heap.size < w5.heap.size := by have := hb5.size; omega
              obtain ⟨s5, ⟨b10, b11, b12, b13, b14, b15, b16⟩, f5⟩ := PB.below HST.out.out HST.out.out.1 hb6
              have hso : w.heap.size + 1 + 1 < wr.heap.size := HST.out.out.1
              have hne : ¬ w.heap.size + 1 + 1 = wr.heap.size := by omega
              have hne' : ¬ wr.heap.size = w.heap.size + 1 + 1 := by omega
              clear hb5 ho5 hb6 s1 b0 b1 b2 b3 b4 b5 b6 f1 z1 e0 e1 e2 e3 e4 e5 e6 g1 q1 q2 q3 q4 hsz
              go_wp2_with (at_builtin; refine wp_rowR rfl _ _ rfl (w.heap.size + 3) _ _ _ rfl (OwnV.below HS6.out.fr.or (Nat.le_refl _) (by repeat (first | exact Below.refl _ _ | refine Below.setCell ?_ (Nat.le_refl _) _ | refine Below.drew ?_ | refine Below.alloc ?_ (by simp) _))) _ rfl R.up (.slice a5 R.l.length c5) R.y R.h rfl (by simp [go_sem]) (by simp [go_sem]) (by simp [go_sem]) (by simp [go_sem]) HL.out (w5.heap.size + 1) (by simp) ?_)
              intro g' cap w' ho hg hat hlt2
              have HX : Hid _ := RSt.growR (RSt.below HS6.out (by repeat (first | exact Below.refl _ _ | refine Below.setCell ?_ (Nat.le_refl _) _ | refine Below.drew ?_ | refine Below.alloc ?_ (by simp) _))) R (.slice a5 R.l.length c5) (HRD.out.below (Nat.le_refl _) (by repeat (first | exact Below.refl _ _ | refine Below.setCell ?_ (Nat.le_refl _) _ | refine Below.drew ?_ | refine Below.alloc ?_ (by simp) _))) (fun k e => by obtain ⟨y1, y2, y3⟩ := HUK.out k e; exact ⟨y1, by simp; omega, y3⟩) ho hg (hat_all hat (by simp))
              obtain ⟨y1, ⟨y2, y3, y4, y5, y6, y7, y8⟩, y9⟩ := PB.grown (RSt.below HS6.out (by repeat (first | exact Below.refl _ _ | refine Below.setCell ?_ (Nat.le_refl _) _ | refine Below.drew ?_ | refine Below.alloc ?_ (by simp) _))).out hg (HNB.out _ (by omega))
              clear ho hg x0 x1 x2 x3 x4 s5 b10 b11 b12 b13 b14 b15 b16 f5
              go_wp2
              go_roundw
              case rel => exact ⟨rs ++ [R], by simp; omega, by simp, HT2, _, _, HX.out⟩
              case measure => simp [intOf]; omega
            · have HFULL : Hid (rs = p.rs) := take_full HT.out hlt
              obtain rfl : rs = p.rs := HFULL.out
              obtain ⟨x9, ⟨x0, x1, x2, x3, x4, x5, x6⟩, x8⟩ := hst.zr
              have HF' : Hid (FreshP w.heap.size (put7 wr (w.heap.size + 1) p _ _ _) p _ _ _ us2) := (hst.fr.put (b := w.heap.size + 1) (by omega) p (.slice ao p.isr.length co) (.slice ao2 p.kn.length co2) (.slice ao3 p.rs.length co3)).mono (by omega)
              have HBz : Hid (Below w.heap.size w (put7 wr (w.heap.size + 1) p (.slice ao p.isr.length co) (.slice ao2 p.kn.length co2) (.slice ao3 p.rs.length co3))) := below_put hst.bel (by omega) _ _ _ _
              clear hst HN HT hk hlt HFULL
              go_wp2
              exact bodyPost_ret (v := .agg #[.int .i64 p.ep, .int .i64 p.ld, .slice ao p.isr.length co, .slice ao2 p.kn.length co2, .slice ao3 p.rs.length co3, .int .i64 p.fw, .int .i64 p.bs]) (by simp [results, Try.results30, go_sem, x0, x1, x2, x3, x4, x5, x6]) rfl ⟨_, _, _, rfl, ⟨us2, HF'.out⟩, HBz.out⟩

end Go.Proofs.Ytkolelpdedmkeaa
