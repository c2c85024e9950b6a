/-
  group.Assign, walked: the places in their order, the parts of a turn.
-/
import Derived.Test.YtmkbbhdmfpjfdaaGsort
import Derived.OwnWalk
import Derived.Test.YtmkbbhdmfpjfdaaErow2
namespace Go.Proofs.Ytmkbbhdmfpjfdaa
open Go.RowKit
set_option linter.unusedVariables false
set_option linter.unusedSimpArgs false

section
variable {w : World} {ops : Array Oper} {rest : List Oper} {o : Oper} {a : Act} {Q : Exit → Act → World → Prop}
/-- make([]T, n), T of one cell. -/
theorem wp_mkRow (T Ts : TypeId) (z : Value) (nb : Nat) (hi : (Try.prog.info? T).map (fun i => (i.zero, i.size, i.bytes)) = some (some z, 1, nb)) (hu : Try.prog.underlying Ts = some (.slice T)) (hz : z.cells = #[z]) (hgd : o.guard = none) (x y : Operand) (ho : o.op = Op.makeSlice Ts x y) (kl kc : IntKind) (L C : Int) (n : Nat) (hx : a.eval x = .int kl L) (hy : a.eval y = .int kc C) (hL : L = (n : Int)) (hC : C = (n : Int)) (hn : nb * n ≤ 281474976710656) (hn2 : n ≤ maxLen)
    (h : ∀ w', OwnV w.heap.size T 1 (.slice (some ⟨w.heap.size, 0, none⟩) n n) n (List.replicate n z) w' → Below w.heap.size w w' → wpList Try.prog ops Q rest (a.put o.dst (.slice (some ⟨w.heap.size, 0, none⟩) n n)) w') : wpList Try.prog ops Q (o :: rest) a w := by
  obtain ⟨i, hi, hz0, hz1, hz2⟩ := info_parts hi
  refine wpList_make_full w hgd x y _ ho w.heap.size _ i z 1 hu hi hz0 hz1 kl kc L C n hx hy hL hC (by rw [hz2]; exact hn) hn2 (Nat.le_refl _) ?_
  intro w' ho' hg
  have e : (madeCells z.cells (n * 1)).toList = List.replicate n z := by
    rw [Nat.mul_one, hz, toList_madeCells_one]
  rw [e] at ho'
  exact h w' ⟨ho', hg.size⟩ ((Below.refl _ w).grown hg (Nat.le_refl _) (fun k hk => by cases hk))
end
theorem infoSl : (Try.prog.info? 53).map (fun i => (i.zero, i.size, i.bytes)) = some (some (.slice none 0 0), 1, 24) := by kernel_rfl

/-- What is filled so far. -/
def fillL (L : List Value) (z : Value) (i : Nat) : List Value := L.take i ++ List.replicate (L.length - i) z
theorem fill_zero (L : List Value) (z : Value) : fillL L z 0 = List.replicate L.length z := by simp [fillL]
theorem fill_all (L : List Value) (z : Value) : fillL L z L.length = L := by simp [fillL]
theorem fill_full (L : List Value) (z : Value) (n : Nat) (h : L.length = n) : fillL L z n = L := by subst h; exact fill_all L z
theorem fill_set (L : List Value) (z : Value) (i : Nat) (h : i < L.length) : (fillL L z i).set i (L[i]'h) = fillL L z (i + 1) := by
  unfold fillL
  have hl : (L.take i).length = i := by rw [List.length_take]; omega
  rw [List.set_append_right _ _ (by omega), hl, Nat.sub_self]
  obtain ⟨m, hm⟩ : ∃ m, L.length - i = m + 1 := ⟨L.length - i - 1, by omega⟩
  rw [hm, List.replicate_succ, List.set_cons_zero, show L.length - (i + 1) = m by omega, List.take_succ_eq_append_getElem h, List.append_assoc]
  rfl

set_option maxRecDepth 100000 in
set_option maxHeartbeats 2000000 in
theorem inOrder_small (ns : List ByteArray) (v : Value) (w : World) (hr : RdV w v (strs ns)) (hn : ns.length < 20) :
    Calls Try.prog 50 #[v] w fun e w' => ∃ (g : Nat) (l : List Nat), e = .returned (.slice (some ⟨g, 0, none⟩) ns.length ns.length) ∧ w.heap.size ≤ g ∧ g < w'.heap.size ∧ (∀ k, (h : k < l.length) → w'.cell? ⟨g, k, none⟩ = some (.int .i64 ((l[k]'h : Nat) : Int))) ∧ l.Perm (List.range ns.length) ∧ l.Pairwise (Bef ns) ∧ Below w.heap.size w w' := by
  obtain ⟨ao, cap, rfl⟩ := hr.shape
  rw [strs_len] at *
  have HR : Hid (∀ W, Below w.heap.size w W → RdV W (.slice ao ns.length cap) (strs ns)) := fun W hW => hr.below (Nat.le_refl _) hW
  have HB0 : Hid (Below w.heap.size w (w.alloc (.cells #[.slice ao ns.length cap] 31))) := bbox _ _
  have hbx0 : (w.alloc (.cells #[.slice ao ns.length cap] 31)).cell? ⟨w.heap.size, 0, none⟩ = some (.slice ao ns.length cap) := by simp
  have hsz0 : (w.alloc (.cells #[.slice ao ns.length cap] 31)).heap.size = w.heap.size + 1 := by simp
  clear hr
  go_enter Try.func50, Try.ntmps50
  go_upto_region 1 with fail
  generalize w.alloc (.cells #[.slice ao ns.length cap] 31) = W0 at *
  have HBX : Hid (W0.cell? ⟨w.heap.size, 0, none⟩ = some (.slice ao ns.length cap)) := hbx0
  have HS0 : Hid (W0.heap.size = w.heap.size + 1) := hsz0
  clear hsz0
  go_wp2_with (at_make; refine wp_mkRow 3 53 (.int .i64 0) 8 infoInt Try.underlying53 rfl rfl _ _ rfl .i64 .i64 _ _ ns.length rfl rfl rfl rfl (by omega) (by unfold maxLen; omega) ?_)
  intro w1 ho1 hb1
  obtain ⟨g, hg⟩ : ∃ g, W0.heap.size = g := ⟨_, rfl⟩
  rw [hg] at ho1 ⊢
  have hgw : w.heap.size < g := by have := HS0.out; omega
  have HLN : Hid ((natI (List.range ns.length)).length = ns.length) := show _ = _ by rw [natI_len, List.length_range]
  have HO1 : Hid (OwnV g 3 1 (.slice (some ⟨g, 0, none⟩) ns.length ns.length) ns.length (fillL (natI (List.range ns.length)) (.int .i64 0) 0) w1) := show OwnV _ _ _ _ _ _ _ by
    rw [fill_zero, HLN.out]; exact ho1
  have HB1 : Hid (Below W0.heap.size W0 w1) := hb1
  have hbx1 : w1.cell? ⟨w.heap.size, 0, none⟩ = some (.slice ao ns.length cap) := (hb1.cell (p := ⟨w.heap.size, 0, none⟩) (by show w.heap.size < W0.heap.size; omega)).trans hbx0
  have HSZ : Hid (W0.heap.size = g) := hg
  clear ho1 hb1 hbx0 hg
  go_wp2
  clear hbx1
  go_loopw [10] (fun iv W => ∃ k : Nat, k ≤ ns.length ∧ iv = .int .i64 k ∧ Hid (OwnV g 3 1 (.slice (some ⟨g, 0, none⟩) ns.length ns.length) ns.length (fillL (natI (List.range ns.length)) (.int .i64 0) k) W) ∧ Hid (Below W0.heap.size W0 W)) (fun iv _ => ns.length - (intOf iv).toNat)
  case atStart => exact ⟨0, by omega, rfl, HO1, HB1⟩
  case round =>
    obtain ⟨k, hk, rfl, HO, HB⟩ := hrel
    by_cases hlt : k < ns.length
    · have hkv : (k : Int) < ns.length := by omega
      obtain ⟨g2, cap2, e2, -, hgl, -, -, hfz, hc⟩ := HO.out.form (by omega)
      simp only [Value.slice.injEq, Option.some.injEq, Addr.mk.injEq, and_true] at e2
      obtain ⟨rfl, -, rfl⟩ := e2
      have ck := hc k (by omega)
      have fk := hfz k
      have HN : Hid (OwnV g 3 1 (.slice (some ⟨g, 0, none⟩) ns.length ns.length) ns.length (fillL (natI (List.range ns.length)) (.int .i64 0) (k + 1)) (wr.setCell ⟨g, k, none⟩ (.int .i64 (k : Int)))) := show OwnV _ _ _ _ _ _ _ by
        have h1 := HO.out.stored k (.int .i64 (k : Int))
        have h2 := fill_set (natI (List.range ns.length)) (.int .i64 0) k (by rw [HLN.out]; exact hlt)
        have e : (natI (List.range ns.length))[k]'(by rw [HLN.out]; exact hlt) = .int .i64 (k : Int) := by simp [natI]
        rw [e] at h2
        rwa [h2] at h1
      have HBN : Hid (Below W0.heap.size W0 (wr.setCell ⟨g, k, none⟩ (.int .i64 (k : Int)))) := HB.out.setCell (p := ⟨g, k, none⟩) (by show W0.heap.size ≤ g; rw [HSZ.out]; exact Nat.le_refl _) _
      have hck : ∃ u, wr.cell? ⟨g, k, none⟩ = some u := by
        have hl : k < (fillL (natI (List.range ns.length)) (.int .i64 0) k).length := by
          have := HO.out.1.1
          omega
        rw [ck, List.getElem?_eq_getElem hl]
        exact ⟨_, rfl⟩
      obtain ⟨u, hck⟩ := hck
      clear ck hc hfz
      go_wp2
      go_roundw
      case rel => exact ⟨k + 1, by omega, by go_num, HN, HBN⟩
      case measure => simp [intOf]; omega
    · have hke : k = ns.length := by omega
      have hkv : ¬ (k : Int) < ns.length := by omega
      have HS : Hid (Srt wr g ns.length ns.length (List.range ns.length) wr) := ⟨by
        have := HO.out
        rw [hke, fill_full _ _ _ HLN.out] at this
        exact this.mono (Nat.zero_le _), ⟨rfl, rfl, rfl, Nat.le_refl _, fun _ _ _ => rfl⟩⟩
      have HBW : Hid (Below w.heap.size w wr) := bstep HB0.out HB.out
      have hbx : wr.cell? ⟨w.heap.size, 0, none⟩ = some (.slice ao ns.length cap) := (HB.out.cell (p := ⟨w.heap.size, 0, none⟩) (by show w.heap.size < _; rw [HSZ.out]; exact hgw)).trans HBX.out
      have hbl : w.heap.size < wr.heap.size := cell_lt hbx
      have HTB : Hid (∀ W', wr.grownBy W' (some g) → Below w.heap.size w W') := fun W' hg => below_grown (v := .slice (some ⟨g, 0, none⟩) ns.length ns.length) HBW.out hg (by omega) (fun k e => by simp [Value.ownBlock] at e; omega)
      have HCM : Hid (CmpW wr g ns w.heap.size) := fun W' a b hg ha hb => cmpPlace_any ns w.heap.size _ W' a b ha hb ((hg.cell_far (a := ⟨w.heap.size, 0, none⟩) hbl (by intro e; simp at e; omega)).trans hbx) (HR.out W' (HTB.out W' hg)) (by omega)
      have HLR : Hid ((List.range ns.length).Pairwise (· < ·)) := List.pairwise_lt_range
      clear hke hbx hbl
      go_wp2_with fail
      refine (sortStable_small ns w.heap.size wr wr g ns.length ns.length (List.range ns.length) (List.length_range) HCM.out HS.out HLR.out (fun x hx => List.mem_range.1 hx) hn).mono ?_
      rintro e w5 ⟨rfl, l, hl1, hl2, hl3⟩
      have HF : Hid (w.heap.size ≤ g ∧ g < w5.heap.size ∧ (∀ k, (h : k < l.length) → w5.cell? ⟨g, k, none⟩ = some (.int .i64 ((l[k]'h : Nat) : Int))) ∧ l.Perm (List.range ns.length) ∧ l.Pairwise (Bef ns) ∧ Below w.heap.size w w5) := ⟨by omega, (hl3.own.blk g rfl).2, hl3.cell, hl1, hl2, HTB.out _ hl3.gr⟩
      clear hl1 hl2 hl3
      go_wp2
      go_ret
      exact ⟨g, l, rfl, HF.out⟩

theorem quo_nn {x : Int} {n : Nat} (hx : 0 ≤ x) : Int.tdiv x n = x / n := Int.tdiv_eq_ediv_of_nonneg hx
theorem dealt_bound {a n : Nat} {p : Int} (hn : 0 < n) (i : Nat) (h : i < (dealt a n p).length) : ((a + i * n : Nat) : Int) < p := by
  by_cases hp : p ≤ a
  · have e : dealt a n p = [] := by unfold dealt; rw [if_pos hp]
    rw [e] at h
    simp at h
  · rw [dealt_len hn (by omega)] at h
    have h1 : (i : Int) ≤ (p - 1 - a) / n := by omega
    have h2 := Int.mul_le_of_le_ediv (by omega : (0 : Int) < n) h1
    have h3 : ((a + i * n : Nat) : Int) = (a : Int) + (i : Int) * (n : Int) := by simp
    rw [h3]
    omega

set_option maxRecDepth 100000 in
set_option maxHeartbeats 2000000 in
theorem partsOfTurn_any (a n : Nat) (p : Int) (w : World) (ha : a < n) (hn : n ≤ 2199023255552) (hp0 : -1000 ≤ p) (hp1 : p ≤ 1000) :
    Calls Try.prog 51 #[.int .i64 a, .int .i64 n, .int .i64 p] w fun e w' => ∃ v, e = .returned v ∧ OwnV w.heap.size 3 1 v (dealt a n p).length (ints (dealt a n p)) w' ∧ Below w.heap.size w w' := by
  by_cases hp : p ≤ a
  · have HE : Hid (dealt a n p = []) := show _ = _ by unfold dealt; rw [if_pos hp]
    have HO : Hid (OwnV w.heap.size 3 1 (.slice none 0 0) (dealt a n p).length (ints (dealt a n p)) w) := show OwnV _ _ _ _ _ _ _ by rw [HE.out]; exact ownV_nil _ _ _ _ (Nat.le_refl _)
    go_enter Try.func51, Try.ntmps51
    go_wp2
    go_ret
    exact ⟨_, rfl, HO.out, Below.refl _ _⟩
  · have hpv : ¬ p ≤ (a : Int) := hp
    have hn0 : 0 < n := by omega
    have hd1 : (p - 1 - a) / (n : Int) ≤ p - 1 - a := Int.ediv_le_self _ (by omega)
    have hd0 : 0 ≤ (p - 1 - a) / (n : Int) := Int.ediv_nonneg (by omega) (by omega)
    have HQ : Hid (Int.tdiv (p - 1 - a) n = (p - 1 - a) / n) := quo_nn (by omega)
    have HLD := dealt_len hn0 (show (a : Int) < p by omega)
    have HDB : Hid _ := fun i h => dealt_bound (a := a) (n := n) (p := p) hn0 i h
    have HDA : Hid _ := fun i h => dealt_at (a := a) (n := n) (p := p) i h
    obtain ⟨D, hD⟩ : ∃ D, dealt a n p = D := ⟨_, rfl⟩
    rw [hD] at HLD HDB HDA ⊢
    obtain ⟨m, hm⟩ : ∃ m : Nat, (p - 1 - a) / (n : Int) + 1 = m := ⟨((p - 1 - a) / (n : Int) + 1).toNat, by omega⟩
    rw [hm, Int.toNat_natCast] at HLD
    have HL : Hid (D.length = m) := HLD
    have HM : Hid ((p - 1 - a) / (n : Int) + 1 = m) := hm
    have hm1 : m ≤ 3000 := by omega
    have hn1 : ¬ ((n : Int) = 0) := by omega
    have hwr1 : IntKind.i64.wrap (p - 1) = p - 1 := by rw [IntKind.wrap_i64]; omega
    have hwr2 : IntKind.i64.wrap (p - 1 - a) = p - 1 - a := by rw [IntKind.wrap_i64]; omega
    clear hD HLD hd1 hd0 hm
    have HWR : Hid (wrap64 ((p - 1 - a) / (n : Int) + 1) = m) := show _ = _ by rw [HM.out]; unfold wrap64; omega
    have HIL : Hid ((ints D).length = m) := show _ = _ by rw [ints_len, HL.out]
    have HFF : Hid (∀ W v, OwnV w.heap.size 3 1 v m (ints D) W → OwnV w.heap.size 3 1 v D.length (ints D) W) := fun W v h => by rw [HL.out]; exact h
    go_enter Try.func51, Try.ntmps51
    go_wp2_with (at_make; refine wp_mkRow 3 53 (.int .i64 0) 8 infoInt Try.underlying53 rfl rfl _ _ rfl .i64 .i64 _ _ m rfl rfl HWR.out HWR.out (by omega) (by unfold maxLen; omega) ?_)
    intro w1 ho1 hb1
    have HO1 : Hid (OwnV w.heap.size 3 1 (.slice (some ⟨w.heap.size, 0, none⟩) m m) m (fillL (ints D) (.int .i64 0) 0) w1) := show OwnV _ _ _ _ _ _ _ by
      rw [fill_zero, HIL.out]; exact ho1
    have HB1 : Hid (Below w.heap.size w w1) := hb1
    clear ho1 hb1
    go_wp2
    go_loopw [22] (fun iv W => ∃ k : Nat, k ≤ m ∧ iv = .int .i64 k ∧ Hid (OwnV w.heap.size 3 1 (.slice (some ⟨w.heap.size, 0, none⟩) m m) m (fillL (ints D) (.int .i64 0) k) W) ∧ Hid (Below w.heap.size w W)) (fun iv _ => m - (intOf iv).toNat)
    case atStart => exact ⟨0, by omega, rfl, HO1, HB1⟩
    case round =>
      obtain ⟨k, hk, rfl, HO, HB⟩ := hrel
      by_cases hlt : k < m
      · have hkv : (k : Int) < m := by omega
        have HKD : Hid (k < D.length) := show k < D.length by rw [HL.out]; exact hlt
        obtain ⟨t, ht⟩ : ∃ t : Nat, k * n = t := ⟨_, rfl⟩
        have hb := HDB.out k HKD.out
        have HDK : Hid (D[k]'HKD.out = (a : Int) + t) := show _ = _ by rw [HDA.out k HKD.out, ht]; simp
        rw [ht] at hb
        have htb : (t : Int) ≤ 1000 := by omega
        have hmul : (k : Int) * (n : Int) = t := by rw [← ht]; simp
        have hmul2 : (n : Int) * (k : Int) = t := by rw [Int.mul_comm]; exact hmul
        clear ht hb
        obtain ⟨g2, cap2, e2, -, hgl, -, -, hfz, hc⟩ := HO.out.form (by omega)
        simp only [Value.slice.injEq, Option.some.injEq, Addr.mk.injEq, and_true] at e2
        obtain ⟨rfl, -, rfl⟩ := e2
        have ck := hc k (by omega)
        have fk := hfz k
        have HN : Hid (OwnV w.heap.size 3 1 (.slice (some ⟨w.heap.size, 0, none⟩) m m) m (fillL (ints D) (.int .i64 0) (k + 1)) (wr.setCell ⟨w.heap.size, k, none⟩ (.int .i64 ((a : Int) + t)))) := show OwnV _ _ _ _ _ _ _ by
          have h1 := HO.out.stored k (.int .i64 ((a : Int) + t))
          have h2 := fill_set (ints D) (.int .i64 0) k (by rw [HIL.out]; exact hlt)
          rw [ints_get _ _ HKD.out, HDK.out] at h2
          rwa [h2] at h1
        have HBN : Hid (Below w.heap.size w (wr.setCell ⟨w.heap.size, k, none⟩ (.int .i64 ((a : Int) + t)))) := HB.out.setCell (p := ⟨w.heap.size, k, none⟩) (Nat.le_refl _) _
        have hck : ∃ u, wr.cell? ⟨w.heap.size, k, none⟩ = some u := by
          have hl : k < (fillL (ints D) (.int .i64 0) k).length := by
            have := HO.out.1.1
            omega
          rw [ck, List.getElem?_eq_getElem hl]
          exact ⟨_, rfl⟩
        obtain ⟨u, hck⟩ := hck
        clear ck hc hfz
        go_wp2
        go_roundw
        case rel => exact ⟨k + 1, by omega, by go_num, HN, HBN⟩
        case measure => simp [intOf]; omega
      · have hke : k = m := by omega
        have hkv : ¬ (k : Int) < m := by omega
        have HF : Hid (OwnV w.heap.size 3 1 (.slice (some ⟨w.heap.size, 0, none⟩) m m) m (ints D) wr) := show OwnV _ _ _ _ _ _ _ by
          have := HO.out
          rwa [hke, fill_full _ _ _ HIL.out] at this
        clear hke
        go_wp2
        go_ret
        exact ⟨_, rfl, HFF.out _ _ HF.out, HB.out⟩

end Go.Proofs.Ytmkbbhdmfpjfdaa
