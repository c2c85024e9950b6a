/-
  The document's NewOf.
-/
import Derived.Test.YtkolelpdedmkeaaPopN
import Derived.Test.YtkolelpdedmkeaaPrefC
import Derived.Test.YtkolelpdedmkeaaAdoc
namespace Go.Proofs.Ytkolelpdedmkeaa
open Go.RowKit
set_option linter.unusedVariables false
set_option linter.unusedSimpArgs false

/-- In the midst: the rows so far, the box that holds them, the result's. -/
structure RN (w : World) (few : Int) (bs : List Bool) (ks : List Int) (rs : List Rep) (vi vk vr : Value) (us : Nat → Value) (W : World) : Prop where
  fr : FreshP (w.heap.size + 2) W (⟨0, -1, bs, ks, rs, few, 0⟩ : Prt) vi vk vr us
  out : PB W (w.heap.size + 1) (⟨0, -1, [], [], [], few, 0⟩ : Prt) vi vk vr
  zr : PB W w.heap.size Prt.zero nilV nilV nilV
  bel : Below w.heap.size w W
theorem RN.below {w W : World} {few : Int} {bs : List Bool} {ks : List Int} {rs : List Rep} {vi vk vr : Value} {us : Nat → Value} {W' : World} (h : RN w few bs ks rs vi vk vr us W) (hb : Below W.heap.size W W') : RN w few bs ks rs vi vk vr us W' :=
  ⟨h.fr.below (Nat.le_refl _) hb, h.out.below h.out.1 hb, h.zr.below h.zr.1 hb, h.bel.trans (hb.mono h.bel.size)⟩
theorem RN.growI {w W : World} {few : Int} {bs : List Bool} {ks : List Int} {rs : List Rep} {vi vk vr : Value} {us : Nat → Value} {W' : World} {v' : Value} (h : RN w few bs ks rs vi vk vr us W) (b : Bool) (ho : OwnV (w.heap.size + 2) 4 1 v' (bs.length + 1) (bs.map Value.bool ++ [.bool b]) W') (hg : W.grownBy W' vi.ownBlock) (hat : ∀ k, v'.ownBlock = some k → vi.ownBlock = some k ∨ k = W.heap.size) : RN w few (bs ++ [b]) ks rs v' vk vr us (W'.setCell ⟨w.heap.size + 1, 2, none⟩ v') := by
  have hrow : ∀ k, vi.ownBlock = some k → w.heap.size + 2 ≤ k := fun k e => (h.fr.oi.blk k e).1
  have f := h.fr.growI b ho hg hat
  have n1 : vi.ownBlock ≠ some (w.heap.size + 1) := fun e => by have := hrow _ e; omega
  have n0 : vi.ownBlock ≠ some w.heap.size := fun e => by have := hrow _ e; omega
  exact ⟨f.box (by omega) _ _, (h.out.grown hg n1).setI v', (h.zr.grown hg n0).far (by omega) _ _, (h.bel.grown hg h.bel.size (fun k e => by have := hrow _ e; omega)).setCell (p := ⟨w.heap.size + 1, 2, none⟩) (by show w.heap.size ≤ w.heap.size + 1; omega) _⟩
theorem RN.growK {w W : World} {few : Int} {bs : List Bool} {ks : List Int} {rs : List Rep} {vi vk vr : Value} {us : Nat → Value} {W' : World} {v' : Value} (h : RN w few bs ks rs vi vk vr us W) (b : Int) (ho : OwnV (w.heap.size + 2) 3 1 v' (ks.length + 1) (ks.map (Value.int .i64) ++ [.int .i64 b]) W') (hg : W.grownBy W' vk.ownBlock) (hat : ∀ k, v'.ownBlock = some k → vk.ownBlock = some k ∨ k = W.heap.size) : RN w few bs (ks ++ [b]) rs vi v' vr us (W'.setCell ⟨w.heap.size + 1, 3, none⟩ v') := by
  have hrow : ∀ k, vk.ownBlock = some k → w.heap.size + 2 ≤ k := fun k e => (h.fr.ok.blk k e).1
  have f := h.fr.growK b ho hg hat
  have n1 : vk.ownBlock ≠ some (w.heap.size + 1) := fun e => by have := hrow _ e; omega
  have n0 : vk.ownBlock ≠ some w.heap.size := fun e => by have := hrow _ e; omega
  exact ⟨f.box (by omega) _ _, (h.out.grown hg n1).setK v', (h.zr.grown hg n0).far (by omega) _ _, (h.bel.grown hg h.bel.size (fun k e => by have := hrow _ e; omega)).setCell (p := ⟨w.heap.size + 1, 3, none⟩) (by show w.heap.size ≤ w.heap.size + 1; omega) _⟩
theorem RN.growR {w W : World} {few : Int} {bs : List Bool} {ks : List Int} {rs : List Rep} {vi vk vr : Value} {us : Nat → Value} {W' : World} {v' : Value} (h : RN w few bs ks rs vi vk vr us W) (rep : Rep) (u : Value) (hu : Rd W u rep.l) (huk : ∀ k, u.ownBlock = some k → w.heap.size + 2 ≤ k ∧ k < W.heap.size ∧ vi.ownBlock ≠ some k ∧ vk.ownBlock ≠ some k ∧ vr.ownBlock ≠ some k) (ho : OwnV (w.heap.size + 2) 63 4 v' (rs.length + 1) (repCells us rs 0 ++ [.bool rep.up, u, .int .i64 rep.y, .int .i64 rep.h]) W') (hg : W.grownBy W' vr.ownBlock) (hat : ∀ k, v'.ownBlock = some k → vr.ownBlock = some k ∨ k = W.heap.size) : RN w few bs ks (rs ++ [rep]) vi vk v' (fun j => if j = rs.length then u else us j) (W'.setCell ⟨w.heap.size + 1, 4, none⟩ v') := by
  have hrow : ∀ k, vr.ownBlock = some k → w.heap.size + 2 ≤ k := fun k e => (h.fr.or.blk k e).1
  have f := h.fr.growR rep u hu huk ho hg hat
  have n1 : vr.ownBlock ≠ some (w.heap.size + 1) := fun e => by have := hrow _ e; omega
  have n0 : vr.ownBlock ≠ some w.heap.size := fun e => by have := hrow _ e; omega
  exact ⟨f.box (by omega) _ _, (h.out.grown hg n1).setR v', (h.zr.grown hg n0).far (by omega) _ _, (h.bel.grown hg h.bel.size (fun k e => by have := hrow _ e; omega)).setCell (p := ⟨w.heap.size + 1, 4, none⟩) (by show w.heap.size ≤ w.heap.size + 1; omega) _⟩
theorem rn_start (w : World) (few : Int) : RN w few [] [] [] nilV nilV nilV (fun _ => nilV) ((w.alloc (.cells #[.int .i64 0, .int .i64 0, .slice none 0 0, .slice none 0 0, .slice none 0 0, .int .i64 0, .int .i64 0] 26)).alloc (.cells #[.int .i64 0, .int .i64 (-1), .slice none 0 0, .slice none 0 0, .slice none 0 0, .int .i64 few, .int .i64 0] 26)) := by
  have e1 : (w.alloc (.cells #[.int .i64 0, .int .i64 0, .slice none 0 0, .slice none 0 0, .slice none 0 0, .int .i64 0, .int .i64 0] 26)).heap.size = w.heap.size + 1 := by simp
  have e2 : ((w.alloc (.cells #[.int .i64 0, .int .i64 0, .slice none 0 0, .slice none 0 0, .slice none 0 0, .int .i64 0, .int .i64 0] 26)).alloc (.cells #[.int .i64 0, .int .i64 (-1), .slice none 0 0, .slice none 0 0, .slice none 0 0, .int .i64 few, .int .i64 0] 26)).heap.size = w.heap.size + 2 := by simp
  have b2 := bbox (w.alloc (.cells #[.int .i64 0, .int .i64 0, .slice none 0 0, .slice none 0 0, .slice none 0 0, .int .i64 0, .int .i64 0] 26)) (.cells #[.int .i64 0, .int .i64 (-1), .slice none 0 0, .slice none 0 0, .slice none 0 0, .int .i64 few, .int .i64 0] 26)
  rw [e1] at b2
  refine ⟨⟨ownV_nil _ _ _ _ (by omega), ownV_nil _ _ _ _ (by omega), ownV_nil _ _ _ _ (by omega), fun i h => by simp at h, fun k e => by simp [Value.ownBlock] at e, fun k e => by simp [Value.ownBlock] at e, fun k e => by simp [Value.ownBlock] at e, fun i h => by simp at h⟩, pb_new _ (⟨0, -1, [], [], [], few, 0⟩ : Prt) nilV nilV nilV 26 _ e1.symm, (pb_new w Prt.zero nilV nilV nilV 26 _ rfl).below (by omega) b2, bstep (bbox _ _) (bbox _ _)⟩
theorem rep_snoc {α : Type} {l : List α} {a : α} (h : l = List.replicate l.length a) : l ++ [a] = List.replicate (l ++ [a]).length a := by
  rw [List.length_append, List.length_singleton, List.replicate_succ', ← h]
theorem nil_rd (W : World) : Rd W nilV ([] : List Int) := ⟨fun n hn => by simp at hn, none, 0, rfl, by simp, by simp [maxLen], fun _ => rfl, fun h => by simp at h⟩

set_option maxRecDepth 100000 in
set_option maxHeartbeats 4000000 in
theorem newOf_ok (n : Nat) (few : Int) (w : World) (h0 : (1 : Int) ≤ n) (hn : (n : Int) ≤ 5) (h1 : 1 ≤ few) (h2 : few ≤ n) :
    Calls Try.prog 25 #[.int .i64 n, .int .i64 few] w fun e w' => Res w (⟨0, -1, List.replicate n true, List.replicate n 0, List.replicate n ⟨true, [], 0, 0⟩, few, 0⟩ : Prt) [.int .i64 0] e w' := by
  have hi1 : inR n 1 5 = true := by simp [inR]; omega
  have hi2 : inR few 1 n = true := by simp [inR]; omega
  have HS0 : Hid (RN w few [] [] [] nilV nilV nilV (fun _ => nilV) ((w.alloc (.cells #[.int .i64 0, .int .i64 0, .slice none 0 0, .slice none 0 0, .slice none 0 0, .int .i64 0, .int .i64 0] 26)).alloc (.cells #[.int .i64 0, .int .i64 (-1), .slice none 0 0, .slice none 0 0, .slice none 0 0, .int .i64 few, .int .i64 0] 26))) := rn_start w few
  go_enter Try.func25, Try.ntmps25
  go_wp2_with fail
  refine (In_any _ _ _ _).mono ?_
  rintro e w' ⟨rfl, rfl⟩
  rw [hi1]
  go_wp2_with fail
  refine (In_any _ _ _ _).mono ?_
  rintro e w' ⟨rfl, rfl⟩
  rw [hi2]
  clear hi1 hi2
  go_wp2
  generalize (w.alloc (.cells #[.int .i64 0, .int .i64 0, .slice none 0 0, .slice none 0 0, .slice none 0 0, .int .i64 0, .int .i64 0] 26)).alloc (.cells #[.int .i64 0, .int .i64 (-1), .slice none 0 0, .slice none 0 0, .slice none 0 0, .int .i64 few, .int .i64 0] 26) = W0 at *
  go_loopw [7] (fun i wr => ∃ (bs : List Bool) (ks : List Int) (rs : List Rep), bs.length ≤ n ∧ i = .int .i64 bs.length ∧ Hid (ks.length = bs.length ∧ rs.length = bs.length ∧ bs = List.replicate bs.length true ∧ ks = List.replicate ks.length 0 ∧ rs = List.replicate rs.length (⟨true, [], 0, 0⟩ : Rep)) ∧ Hid (∃ vi vk vr us, RN w few bs ks rs vi vk vr us wr)) (fun i _ => n - (intOf i).toNat)
  case atStart => exact ⟨[], [], [], by simp, rfl, ⟨rfl, rfl, rfl, rfl, rfl⟩, nilV, nilV, nilV, _, HS0.out⟩
  case round =>
    obtain ⟨bs, ks, rs, hk, rfl, HL, HN⟩ := hrel
    obtain ⟨vi, vk, vr, us, hst⟩ := HN.out
    clear HS0
    obtain ⟨ai, ci, rfl⟩ := hst.fr.oi.shape
    obtain ⟨ak, ck, rfl⟩ := hst.fr.ok.shape
    obtain ⟨ar, cr, rfl⟩ := hst.fr.or.shape
    have HST : Hid _ := hst
    clear hst HN
    by_cases hlt : bs.length < n
    · have hlt' : (bs.length : Int) < n := by omega
      have hl5 : (bs.length : Int) ≤ 5 := by omega
      have HL1 : Hid (bs.length + 1 ≤ 140737488355328) := show _ ≤ _ by omega
      have HL2 : Hid ((ks.length + 1) * 8 ≤ 140737488355328) := show _ ≤ _ by have := HL.out.1; omega
      have HL3 : Hid ((rs.length + 1) * 48 ≤ 140737488355328) := show _ ≤ _ by have := HL.out.2.1; omega
      have HS1 : Hid _ := HST.out
      obtain ⟨z1, ⟨e0, e1, e2, e3, e4, e5, e6⟩, g1⟩ := HST.out.out
      go_wp2_with (at_builtin; refine wp_rowB rfl _ _ rfl (w.heap.size + 2) _ _ _ rfl (OwnV.below HST.out.fr.oi (Nat.le_refl _) (by repeat (first | exact Below.refl _ _ | refine Below.setCell ?_ (Nat.le_refl _) _ | refine Below.drew ?_ | refine Below.alloc ?_ (by simp) _))) _ rfl true (by simp [go_sem]) HL1.out (wr.heap.size + 1) (by simp) ?_)
      intro g1' cap1 w1 ho1 hg1 hat1 hlt1
      have hs1 := RN.growI (RN.below HST.out (by repeat (first | exact Below.refl _ _ | refine Below.setCell ?_ (Nat.le_refl _) _ | refine Below.drew ?_ | refine Below.alloc ?_ (by simp) _))) true ho1 hg1 (hat_all hat1 (by simp))
      have HP1 : Hid _ := PB.grown (RN.below HST.out (by repeat (first | exact Below.refl _ _ | refine Below.setCell ?_ (Nat.le_refl _) _ | refine Below.drew ?_ | refine Below.alloc ?_ (by simp) _))).out hg1 (fun e => by have := (HST.out.fr.oi.blk _ e).1; omega)
      have HS1 : Hid _ := hs1
      clear hs1 ho1 hg1 hat1 hlt1
      clear z1 e0 e1 e2 e3 e4 e5 e6 g1
      obtain ⟨z1, ⟨e0, e1, e2, e3, e4, e5, e6⟩, g1⟩ := HP1.out
      have hsz1 : (w1.setCell ⟨w.heap.size + 1, 2, none⟩ (.slice (some ⟨g1', 0, none⟩) (bs.length + 1) cap1)).heap.size = w1.heap.size := by simp
      obtain ⟨y1, ⟨y0, y2, y3, y4, y5, y6, y7⟩, y8⟩ := HS1.out.out
      go_wp2_with (at_builtin; refine wp_rowI rfl _ _ rfl (w.heap.size + 2) _ _ _ rfl (OwnV.below HS1.out.fr.ok (Nat.le_refl _) (by repeat (first | exact Below.refl _ _ | refine Below.setCell ?_ (Nat.le_refl _) _ | refine Below.drew ?_ | refine Below.alloc ?_ (by simp) _))) _ rfl 0 (by simp [go_sem]) HL2.out (w1.heap.size + 1) (by simp) ?_)
      intro g2' cap2 w2 ho2 hg2 hat2 hlt2
      have hs2 := RN.growK (RN.below HS1.out (by repeat (first | exact Below.refl _ _ | refine Below.setCell ?_ (Nat.le_refl _) _ | refine Below.drew ?_ | refine Below.alloc ?_ (by simp) _))) 0 ho2 hg2 (hat_all hat2 (by simp))
      have HP2 : Hid _ := PB.grown (RN.below HS1.out (by repeat (first | exact Below.refl _ _ | refine Below.setCell ?_ (Nat.le_refl _) _ | refine Below.drew ?_ | refine Below.alloc ?_ (by simp) _))).out hg2 (fun e => by have := (HS1.out.fr.ok.blk _ e).1; omega)
      have HS2 : Hid _ := hs2
      clear hs2 ho2 hg2 hat2 hlt2
      clear z1 e0 e1 e2 e3 e4 e5 e6 g1 y0 y1 y2 y3 y4 y5 y6 y7 y8
      obtain ⟨z1, ⟨e0, e1, e2, e3, e4, e5, e6⟩, g1⟩ := HP2.out
      obtain ⟨y1, ⟨y0, y2, y3, y4, y5, y6, y7⟩, y8⟩ := HS2.out.out
      go_wp2_with (at_builtin; refine wp_rowR rfl _ _ rfl (w.heap.size + 2) _ _ _ rfl (OwnV.below HS2.out.fr.or (Nat.le_refl _) (by repeat (first | exact Below.refl _ _ | refine Below.setCell ?_ (Nat.le_refl _) _ | refine Below.drew ?_ | refine Below.alloc ?_ (by simp) _))) _ rfl true nilV 0 0 rfl (by simp [go_sem]) (by simp [go_sem]) (by simp [go_sem]) (by simp [go_sem]) HL3.out (w2.heap.size + 1) (by simp) ?_)
      intro g3' cap3 w3 ho3 hg3 hat3 hlt3
      have hs3 := RN.growR (RN.below HS2.out (by repeat (first | exact Below.refl _ _ | refine Below.setCell ?_ (Nat.le_refl _) _ | refine Below.drew ?_ | refine Below.alloc ?_ (by simp) _))) (⟨true, [], 0, 0⟩ : Rep) nilV (nil_rd _) (fun k e => by simp [Value.ownBlock] at e) ho3 hg3 (hat_all hat3 (by simp))
      have HP3 : Hid _ := PB.grown (RN.below HS2.out (by repeat (first | exact Below.refl _ _ | refine Below.setCell ?_ (Nat.le_refl _) _ | refine Below.drew ?_ | refine Below.alloc ?_ (by simp) _))).out hg3 (fun e => by have := (HS2.out.fr.or.blk _ e).1; omega)
      have HS3 : Hid _ := hs3
      clear hs3 ho3 hg3 hat3 hlt3
      clear z1 e0 e1 e2 e3 e4 e5 e6 g1 y0 y1 y2 y3 y4 y5 y6 y7 y8
      obtain ⟨z1, ⟨e0, e1, e2, e3, e4, e5, e6⟩, g1⟩ := HP3.out
      have HL4 : Hid ((ks ++ [0]).length = (bs ++ [true]).length ∧ (rs ++ [(⟨true, [], 0, 0⟩ : Rep)]).length = (bs ++ [true]).length ∧ bs ++ [true] = List.replicate (bs ++ [true]).length true ∧ ks ++ [0] = List.replicate (ks ++ [0]).length 0 ∧ rs ++ [(⟨true, [], 0, 0⟩ : Rep)] = List.replicate (rs ++ [(⟨true, [], 0, 0⟩ : Rep)]).length (⟨true, [], 0, 0⟩ : Rep)) := ⟨by simp [HL.out.1], by simp [HL.out.2.1], rep_snoc HL.out.2.2.1, rep_snoc HL.out.2.2.2.1, rep_snoc HL.out.2.2.2.2⟩
      go_wp2
      go_roundw
      case rel => exact ⟨bs ++ [true], ks ++ [0], rs ++ [(⟨true, [], 0, 0⟩ : Rep)], by simp; omega, by simp, HL4, _, _, _, _, HS3.out⟩
      case measure => simp [intOf]; omega
    · have hke : bs.length = n := by omega
      subst hke
      have HQ : Hid ((⟨0, -1, List.replicate bs.length true, List.replicate bs.length 0, List.replicate bs.length (⟨true, [], 0, 0⟩ : Rep), few, 0⟩ : Prt) = (⟨0, -1, bs, ks, rs, few, 0⟩ : Prt)) := show _ = _ by
        obtain ⟨a1, a2, a3, a4, a5⟩ := HL.out
        rw [a1] at a4
        rw [a2] at a5
        rw [← a3, ← a4, ← a5]
      obtain ⟨z1, ⟨e0, e1, e2, e3, e4, e5, e6⟩, g1⟩ := HST.out.zr
      obtain ⟨y1, ⟨y0, y2, y3, y4, y5, y6, y7⟩, y8⟩ := HST.out.out
      have HF' : Hid _ := (HST.out.fr.put (b := w.heap.size) (by omega) (⟨0, -1, [], [], [], few, 0⟩ : Prt) (.slice ai bs.length ci) (.slice ak ks.length ck) (.slice ar rs.length cr)).rdp
      have HBz : Hid _ := below_put HST.out.bel (b := w.heap.size) (Nat.le_refl _) (⟨0, -1, [], [], [], few, 0⟩ : Prt) (.slice ai bs.length ci) (.slice ak ks.length ck) (.slice ar rs.length cr)
      go_wp2
      exact bodyPost_ret (v := .tuple #[.agg #[.int .i64 0, .int .i64 (-1), .slice ai bs.length ci, .slice ak ks.length ck, .slice ar rs.length cr, .int .i64 few, .int .i64 0], .int .i64 0]) (by simp [results, Try.results25, go_sem, e0, e1, e2, e3, e4, e5, e6]) rfl (by rw [HQ.out]; exact ⟨_, _, _, us, rfl, HF'.out, HBz.out⟩)

set_option maxRecDepth 100000 in
set_option maxHeartbeats 4000000 in
theorem newOf_bad (n few : Int) (w : World) (h : ¬ (1 ≤ n ∧ n ≤ 5 ∧ 1 ≤ few ∧ few ≤ n)) :
    Calls Try.prog 25 #[.int .i64 n, .int .i64 few] w fun e w' => e = .returned (.tuple #[.agg #[.int .i64 0, .int .i64 0, nilV, nilV, nilV, .int .i64 0, .int .i64 0], .int .i64 2]) ∧ Below w.heap.size w w' := by
  have HB : Hid (Below w.heap.size w (w.alloc (.cells #[.int .i64 0, .int .i64 0, .slice none 0 0, .slice none 0 0, .slice none 0 0, .int .i64 0, .int .i64 0] 26))) := bbox _ _
  go_enter Try.func25, Try.ntmps25
  go_wp2_with fail
  refine (In_any _ _ _ _).mono ?_
  rintro e w' ⟨rfl, rfl⟩
  cases hi1 : inR n 1 5 with
  | false =>
    clear h
    go_wp2
    exact bodyPost_ret (v := .tuple #[.agg #[.int .i64 0, .int .i64 0, nilV, nilV, nilV, .int .i64 0, .int .i64 0], .int .i64 2]) (by simp [results, Try.results25, go_sem]) rfl ⟨rfl, HB.out⟩
  | true =>
    have hi2 : inR few 1 n = false := by
      cases h2 : inR few 1 n with
      | false => rfl
      | true =>
        simp [inR] at hi1 h2
        omega
    clear h hi1
    go_wp2_with fail
    refine (In_any _ _ _ _).mono ?_
    rintro e w' ⟨rfl, rfl⟩
    rw [hi2]
    clear hi2
    go_wp2
    exact bodyPost_ret (v := .tuple #[.agg #[.int .i64 0, .int .i64 0, nilV, nilV, nilV, .int .i64 0, .int .i64 0], .int .i64 2]) (by simp [results, Try.results25, go_sem]) rfl ⟨rfl, HB.out⟩

theorem newOf_any (n few : Int) (w : World) : Calls Try.prog 25 #[.int .i64 n, .int .i64 few] w fun e w' => Res w (newP n few).1 [.int .i64 (newP n few).2] e w' := by
  by_cases h : 1 ≤ n ∧ n ≤ 5 ∧ 1 ≤ few ∧ few ≤ n
  · obtain ⟨m, rfl⟩ := Int.eq_ofNat_of_zero_le (show 0 ≤ n by omega)
    rw [newP_ok h]
    exact newOf_ok m few w h.1 h.2.1 h.2.2.1 h.2.2.2
  · rw [newP_no h]
    refine (newOf_bad n few w h).mono ?_
    rintro e w' ⟨rfl, hb⟩
    exact ⟨nilV, nilV, nilV, fun _ => nilV, rfl, nil_rdp _, hb⟩

end Go.Proofs.Ytkolelpdedmkeaa
