/-
  slices.DeleteFunc of members, for whatever function.
-/
import Derived.Test.YtmkbbhdmfpjfdaaGdel
import Derived.Test.YtmkbbhdmfpjfdaaGwo
namespace Go.Proofs.Ytmkbbhdmfpjfdaa
open Go.RowKit
set_option linter.unusedVariables false
set_option linter.unusedSimpArgs false

theorem grown_belowR {w W W' : World} {r : Option Nat} (h : w.grownBy W r) (hb : Below W.heap.size W W') : w.grownBy W' r :=
  ⟨hb.os.trans h.os, hb.tape.trans h.tape, hb.output.trans h.output, Nat.le_trans h.size hb.size, fun k hk hr => (hb.block k (Nat.lt_of_lt_of_le hk h.size)).trans (h.block k hk hr)⟩
theorem grown_of_below {w W : World} {r : Option Nat} (hb : Below w.heap.size w W) : w.grownBy W r := ⟨hb.os, hb.tape, hb.output, hb.size, fun k hk _ => hb.block k hk⟩
def kept (p : Mem → Bool) (ms : List Mem) (j : Nat) : List Mem := (ms.take j).filter (fun m => !p m)
theorem kept_all (p : Mem → Bool) (ms : List Mem) : kept p ms ms.length = ms.filter (fun m => !p m) := by unfold kept; rw [List.take_length]
/-- In the midst of DeleteFunc: i are kept of the first j. -/
structure Dlf (w : World) (B g cap : Nat) (ms : List Mem) (us : Nat → Value) (p : Mem → Bool) (i j : Nat) (R : List Value) (ix : Nat → Nat) (W : World) : Prop where
  gr : w.grownBy W (some g)
  o : OwnV B 55 3 (.slice (some ⟨g, 0, none⟩) ms.length cap) ms.length R W
  len : (kept p ms j).length = i
  hd : R.take (i * 3) = memE.row (fun a => us (ix a)) (kept p ms j) 0
  tl : R.drop (j * 3) = (memE.row us ms 0).drop (j * 3)
  at_ : ∀ a, a < i → ix a < j ∧ ms[ix a]? = (kept p ms j)[a]?
  up : ∀ a b, a < b → b < i → ix a < ix b
section
variable {w W : World} {B g cap i j : Nat} {ms : List Mem} {us : Nat → Value} {p : Mem → Bool} {R : List Value} {ix : Nat → Nat}
theorem Dlf.below (h : Dlf w B g cap ms us p i j R ix W) {W' : World} (hb : Below W.heap.size W W') : Dlf w B g cap ms us p i j R ix W' :=
  ⟨grown_belowR h.gr hb, h.o.below (Nat.le_refl _) hb, h.len, h.hd, h.tl, h.at_, h.up⟩
theorem Dlf.rlen (h : Dlf w B g cap ms us p i j R ix W) : R.length = ms.length * 3 := by have := h.o.1.1; omega
theorem Dlf.cell (h : Dlf w B g cap ms us p i j R ix W) (q : Nat) (hq : q < ms.length * 3) : W.cell? ⟨g, q, none⟩ = R[q]? := by
  exact h.o.1.cellAt q hq
theorem Dlf.src (h : Dlf w B g cap ms us p i j R ix W) (hj : j < ms.length) (c : Nat) (hc : c < 3) : W.cell? ⟨g, j * 3 + c, none⟩ = (memE.cs (ms[j]'hj) (us j))[c]? := by
  rw [h.cell _ (by omega)]
  have e : R[j * 3 + c]? = (R.drop (j * 3))[c]? := by rw [List.getElem?_drop]
  rw [e, h.tl, List.getElem?_drop]
  have := row_at memE us ms 0 j c hj hc
  rw [Nat.zero_add] at this
  exact this
theorem Dlf.has (h : Dlf w B g cap ms us p i j R ix W) (q : Nat) (hq : q < ms.length * 3) : ∃ v, W.cell? ⟨g, q, none⟩ = some v := by
  rw [h.cell q hq]
  have := h.rlen
  exact ⟨R[q]'(by omega), List.getElem?_eq_getElem _⟩
theorem Dlf.skip (h : Dlf w B g cap ms us p i j R ix W) (hj : j < ms.length) (hp : p (ms[j]'hj) = true) : Dlf w B g cap ms us p i (j + 1) R ix W := by
  have e : kept p ms (j + 1) = kept p ms j := take_keep_yes hj hp
  refine ⟨h.gr, h.o, by rw [e]; exact h.len, by rw [e]; exact h.hd, ?_, fun a ha => by rw [e]; have := h.at_ a ha; exact ⟨by omega, this.2⟩, h.up⟩
  have := congrArg (List.drop 3) h.tl
  rwa [List.drop_drop, List.drop_drop, show j * 3 + 3 = (j + 1) * 3 by omega] at this
theorem Dlf.keep (h : Dlf w B g cap ms us p i j R ix W) (hij : i < j) (hj : j < ms.length) (hp : p (ms[j]'hj) = false) (W' : World) (hW : W' = W.setCells g (i * 3) (memE.cs (ms[j]'hj) (us j))) : ∃ R' ix', Dlf w B g cap ms us p (i + 1) (j + 1) R' ix' W' := by
  subst hW
  have hcl : (memE.cs (ms[j]'hj) (us j)).length = 3 := memE.len _ _
  obtain ⟨ho, hg⟩ := own_setCellsZ (memE.cs (ms[j]'hj) (us j)) (i * 3) R W h.o (by rw [hcl]; omega)
  have e : kept p ms (j + 1) = kept p ms j ++ [ms[j]'hj] := take_keep_no hj hp
  have hrl := h.rlen
  have hkl := h.len
  refine ⟨_, fun a => if a = i then j else ix a, grown_trans h.gr hg, ho, by rw [e, List.length_append, hkl]; rfl, ?_, ?_, fun a ha => ?_, fun a b hab hb => ?_⟩
  · rw [e, row_snoc, Nat.zero_add, hkl, if_pos rfl]
    rw [row_congr memE (us := fun a => us (if a = i then j else ix a)) (us' := fun a => us (ix a)) (kept p ms j) 0 (fun a ha => by simp only [Nat.zero_add]; rw [if_neg (by omega)])]
    rw [← h.hd, List.take_append_of_le_length (by rw [List.length_append, List.length_take, hcl]; omega), List.take_of_length_le (by rw [List.length_append, List.length_take, hcl]; omega)]
  · rw [hcl, List.append_assoc, List.drop_append, List.drop_eq_nil_of_le (by rw [List.length_take]; omega), List.nil_append, List.drop_append, List.drop_eq_nil_of_le (by rw [hcl, List.length_take]; omega), List.nil_append, List.drop_drop]
    have := congrArg (List.drop 3) h.tl
    rw [List.drop_drop, List.drop_drop, show j * 3 + 3 = (j + 1) * 3 by omega] at this
    rw [← this]
    congr 1
    rw [hcl, List.length_take]
    omega
  · rw [e]
    by_cases hai : a = i
    · rw [if_pos hai, hai, List.getElem?_append_right (by omega), hkl, Nat.sub_self, List.getElem?_eq_getElem hj]
      exact ⟨by omega, rfl⟩
    · rw [if_neg hai, List.getElem?_append_left (by omega)]
      have := h.at_ a (by omega)
      exact ⟨by omega, this.2⟩
  · by_cases hbi : b = i
    · rw [if_pos hbi, if_neg (by omega)]
      exact (h.at_ a (by omega)).1
    · rw [if_neg hbi, if_neg (by omega)]
      exact h.up a b hab (by omega)
end
/-- Behind IndexFunc: none is kept of one, all ahead of it are. -/
theorem dlf_start {w W : World} {B g cap k : Nat} {ms : List Mem} {us : Nat → Value} {p : Mem → Bool} (h : OwnW memE 55 B w (.slice (some ⟨g, 0, none⟩) ms.length cap) ms us) (hb : Below w.heap.size w W) (hk : k < ms.length) (hp : p (ms[k]'hk) = true) (hn : ∀ a, (ha : a < k) → p (ms[a]'(by omega)) = false) :
    Dlf w B g cap ms us p k (k + 1) (memE.row us ms 0) id W := by
  have e0 : kept p ms k = ms.take k := by
    unfold kept
    rw [List.filter_eq_self]
    intro a ha
    obtain ⟨i, hi, rfl⟩ := List.mem_iff_getElem.1 ha
    rw [List.length_take] at hi
    rw [List.getElem_take, hn i (by omega)]
    rfl
  have e : kept p ms (k + 1) = ms.take k := (take_keep_yes hk hp).trans e0
  refine ⟨grown_of_below hb, h.o.below (Nat.le_refl _) hb, by rw [e, List.length_take]; omega, by rw [e]; exact take_row memE us ms 0 k, rfl, fun a ha => ?_, fun a b hab _ => hab⟩
  rw [e, List.getElem?_take, if_pos ha]
  exact ⟨by show a < k + 1; omega, rfl⟩
/-- Behind the clearing: the row of those that are kept. -/
theorem Dlf.done {w W W' : World} {B g cap i : Nat} {ms : List Mem} {us : Nat → Value} {p : Mem → Bool} {R : List Value} {ix : Nat → Nat} (h : Dlf w B g cap ms us p i ms.length R ix W) (h0 : OwnW memE 55 B w (.slice (some ⟨g, 0, none⟩) ms.length cap) ms us) (hi : i < ms.length) (hW : W' = W.setCells g (i * 3) (Builtin.zeroCells zeroMV.cells (ms.length - i)).toList) :
    OwnW memE 55 B W' (.slice (some ⟨g, 0, none⟩) i cap) (ms.filter (fun m => !p m)) (fun a => us (ix a)) ∧ w.grownBy W' (some g) ∧ ∀ a, a < i → ix a < ms.length := by
  subst hW
  have hzl : (Builtin.zeroCells zeroMV.cells (ms.length - i)).toList.length = (ms.length - i) * 3 := by simp [Builtin.zeroCells, zeroMV, Value.cells]
  obtain ⟨ho, hg⟩ := own_setCellsZ (Builtin.zeroCells zeroMV.cells (ms.length - i)).toList (i * 3) R W h.o (by rw [hzl]; omega)
  have hrl := h.rlen
  have ho2 := own_lessZ ho i (by omega)
  rw [List.append_assoc, List.take_append_of_le_length (by rw [List.length_take]; omega), List.take_take, Nat.min_self, h.hd, kept_all] at ho2
  have hl := h.len
  rw [kept_all] at hl
  have hgg := grown_trans h.gr hg
  have hat : ∀ a, a < i → ix a < ms.length ∧ ms[ix a]? = (ms.filter (fun m => !p m))[a]? := fun a ha => by
    have := h.at_ a ha
    rw [kept_all] at this
    exact this
  refine ⟨⟨?_, fun a ha => ?_, fun a ha b e e2 => ?_, fun a b ha hb hne c e => ?_⟩, hgg, fun a ha => (hat a ha).1⟩
  · rw [hl]
    exact ho2
  · obtain ⟨h1, h2⟩ := hat a (by omega)
    rw [List.getElem?_eq_getElem h1, List.getElem?_eq_getElem ha] at h2
    rw [← Option.some.inj h2]
    exact (h0.i (ix a) h1).grown hgg (fun k e e2 => h0.a (ix a) h1 k e (by simp [Value.ownBlock]; exact Option.some.inj e2))
  · obtain ⟨h1, -⟩ := hat a (by omega)
    exact h0.a (ix a) h1 b e e2
  · obtain ⟨h1, -⟩ := hat a (by omega)
    obtain ⟨h2, -⟩ := hat b (by omega)
    refine h0.d (ix a) (ix b) h1 h2 ?_ c e
    rcases Nat.lt_or_gt_of_ne hne with h3 | h3
    · have := h.up a b h3 (by omega)
      omega
    · have := h.up b a h3 (by omega)
      omega

set_option maxRecDepth 100000 in
set_option maxHeartbeats 4000000 in
theorem deleteFunc_any (ms : List Mem) (us : Nat → Value) (B fn : Nat) (lb : Array Value) (p : Mem → Bool) (eg : ∀ args w, (callFunc fn args).run Try.prog w = .ok (.enter fn args) w) (v : Value) (w : World) (h : OwnW memE 55 B w v ms us) (hl : ms.length ≤ 1000) (hpp : PredW (fun W => w.grownBy W v.ownBlock) fn lb p) :
    Calls Try.prog 76 #[v, .func (.func fn) #[] lb] w fun e w' => ∃ ao cap us', e = .returned (.slice ao (ms.filter (fun m => !p m)).length cap) ∧ v.ownBlock = (Value.slice ao (ms.filter (fun m => !p m)).length cap).ownBlock ∧ OwnW memE 55 B w' (.slice ao (ms.filter (fun m => !p m)).length cap) (ms.filter (fun m => !p m)) us' ∧ w.grownBy w' v.ownBlock ∧ ∀ a, a < (ms.filter (fun m => !p m)).length → ∃ b, b < ms.length ∧ us' a = us b := by
  have HPM : Hid (PredM fn lb p w) := fun W x u hW => (hpp W x u (grown_of_below hW)).mono fun e w' ⟨h1, h2⟩ => ⟨h1, bstep hW h2⟩
  have HPP : Hid _ := hpp
  have HO : Hid _ := h
  obtain ⟨ao, cap, rfl⟩ := h.o.shape
  have HSC := scan_cases (P := fun i => p (ms.getD i zeroM) = true) ms.length 0
  clear h hpp
  go_enter Try.func76, Try.ntmps76
  go_wp2_with fail
  refine (indexM_any fn lb p eg ms _ us _ HO.out.rd HPM.out).mono ?_
  rintro e w1 ⟨rfl, hb1⟩
  have HB1 : Hid (Below w.heap.size w w1) := hb1
  clear hb1
  rcases HSC with hsc | ⟨k, hk0, hk, hpk, hno, hsc⟩
  · have HF : Hid (ms.filter (fun m => !p m) = ms) := show _ = _ by
      rw [List.filter_eq_self]
      intro a ha
      obtain ⟨i, hi, rfl⟩ := List.mem_iff_getElem.1 ha
      have := scan_none.1 (show scan _ _ _ < 0 by rw [hsc]; decide) i (Nat.zero_le _) (by omega)
      simp [List.getD, hi] at this
      simp [this]
    rw [hsc]
    go_wp2
    go_ret
    rw [HF.out]
    exact ⟨_, _, us, rfl, rfl, HO.out.below (Nat.le_refl _) HB1.out, grown_of_below HB1.out, fun a ha => ⟨a, ha, rfl⟩⟩
  · have hkl : k < ms.length := by omega
    rw [hsc]
    obtain ⟨g, cap', e, hB, hgl, hnc, hcm, -, -⟩ := HO.out.o.form (by omega)
    simp only [Value.slice.injEq, true_and] at e
    obtain ⟨rfl, rfl⟩ := e
    unfold maxLen at hcm
    have HD0 : Hid (Dlf w B g cap ms us p k (k + 1) (memE.row us ms 0) id w1) := dlf_start HO.out HB1.out hkl (by simpa [List.getD, hkl] using hpk) (fun a ha => by
      have := hno a (Nat.zero_le _) ha
      simpa [List.getD, show a < ms.length by omega] using this)
    have d0 : ((k : Int) == -1) = false := by simp
    clear hk0 hk hpk hno hsc
    go_wp2
    go_loopw [5, 6] (fun iv jv W => ∃ i j : Nat, i < j ∧ j ≤ ms.length ∧ iv = .int .i64 i ∧ jv = .int .i64 j ∧ Hid (∃ R ix, Dlf w B g cap ms us p i j R ix W)) (fun _ jv _ => ms.length - (intOf jv).toNat)
    case atStart => exact ⟨k, k + 1, by omega, by omega, rfl, by go_num, _, _, HD0.out⟩
    case round =>
      obtain ⟨i, j, hij, hj, rfl, rfl, HN⟩ := hrel
      obtain ⟨R, ix, hd⟩ := HN.out
      have HD : Hid _ := hd
      have f0 : ∀ o, wr.frozen? ⟨g, o, none⟩ = false := fun o => hd.o.1.frozenAt o
      have hgw : g < wr.heap.size := (hd.o.blk g rfl).2
      clear HN hd
      by_cases hlt : j < ms.length
      rotate_left
      · have hke : j = ms.length := by omega
        subst hke
        have hz3 : zeroMV.cells.size = 3 := rfl
        have hcl : ∀ ty, (Builtin.clear_ #[22] ty #[.slice (some ⟨g, i * 3, none⟩) (ms.length - i) (cap - i)]).run Try.prog wr = .ok (.tuple #[]) (wr.setCells g (i * 3) (Builtin.zeroCells zeroMV.cells (ms.length - i)).toList) := fun ty => by
          refine run_clear_rows wr 22 55 ty zeroMV Try.underlying22 zeroMem (fun v hv => by simp [zeroMV, Value.cells] at hv; rcases hv with rfl | rfl | rfl <;> rfl) g _ _ _ (by omega) (fun q hq => ?_) (fun q _ => f0 _)
          rw [hz3] at hq
          obtain ⟨x, hx⟩ := HD.out.has (i * 3 + q) (by omega)
          rw [hx]
          rfl
        obtain ⟨W2, hW2⟩ : ∃ W2, wr.setCells g (i * 3) (Builtin.zeroCells zeroMV.cells (ms.length - i)).toList = W2 := ⟨_, rfl⟩
        rw [hW2] at hcl
        have HFIN : Hid _ := HD.out.done HO.out (by omega) hW2.symm
        have HLN : Hid ((ms.filter (fun m => !p m)).length = i) := show _ = _ by
          have := HD.out.len
          rwa [kept_all] at this
        clear hW2
        go_upto_region 11 with fail
        go_wp2
        go_ret
        rw [HLN.out]
        exact ⟨_, _, _, rfl, rfl, HFIN.out.1, HFIN.out.2.1, fun a ha => ⟨_, HFIN.out.2.2 a ha, rfl⟩⟩
      have hi3 : i * 3 + 2 < ms.length * 3 := by omega
      obtain ⟨au, cu, hu⟩ : ∃ au cu, us j = .slice au (ms[j]'hlt).ps.length cu := (HO.out.i j hlt).shape
      have q0 := HD.out.src hlt 0 (by decide)
      have q1 := HD.out.src hlt 1 (by decide)
      have q2 := HD.out.src hlt 2 (by decide)
      obtain ⟨x0, t0⟩ := HD.out.has (i * 3) (by omega)
      obtain ⟨x1, t1⟩ := HD.out.has (i * 3 + 1) (by omega)
      obtain ⟨x2, t2⟩ := HD.out.has (i * 3 + 2) (by omega)
      have HU : Hid (us j = .slice au (ms[j]'hlt).ps.length cu) := hu
      rw [hu] at q0 q1 q2
      obtain ⟨m, hm⟩ : ∃ m, ms[j]'hlt = m := ⟨_, rfl⟩
      have HM : Hid (ms[j]'hlt = m) := hm
      rw [hm] at q0 q1 q2 hu
      simp only [memE, List.getElem?_cons_zero, List.getElem?_cons_succ, Nat.add_zero] at q0 q1 q2
      clear hm hu
      clear t0 t1 t2 x0 x1 x2
      go_upto_region 8 with fail
      have HD1 : Hid (Dlf w B g cap ms us p i j R ix (wr.alloc (.cells #[.string m.nm, .int .i64 m.hd, .slice au m.ps.length cu] 55))) := HD.out.below (bbox _ _)
      have y0 : (wr.alloc (.cells #[.string m.nm, .int .i64 m.hd, .slice au m.ps.length cu] 55)).cell? ⟨wr.heap.size, 0, none⟩ = some (.string m.nm) := by simp [go_sem]
      have y1 : (wr.alloc (.cells #[.string m.nm, .int .i64 m.hd, .slice au m.ps.length cu] 55)).cell? ⟨wr.heap.size, 1, none⟩ = some (.int .i64 m.hd) := by simp [go_sem]
      have y2 : (wr.alloc (.cells #[.string m.nm, .int .i64 m.hd, .slice au m.ps.length cu] 55)).cell? ⟨wr.heap.size, 2, none⟩ = some (.slice au m.ps.length cu) := by simp [go_sem]
      have yl : wr.heap.size < (wr.alloc (.cells #[.string m.nm, .int .i64 m.hd, .slice au m.ps.length cu] 55)).heap.size := by simp
      have hgb : g ≠ wr.heap.size := by omega
      have hcall := HPP.out _ m (.slice au m.ps.length cu) HD1.out.gr
      clear f0 q0 q1 q2 hgw
      generalize (wr.alloc (.cells #[.string m.nm, .int .i64 m.hd, .slice au m.ps.length cu] 55)) = W0 at *
      generalize wr.heap.size = bx at *
      cases hpm : p m with
      | true =>
        rw [hpm] at hcall
        have HP2 : Hid (p (ms[j]'hlt) = true) := show _ = _ by rw [HM.out]; exact hpm
        clear hpm
        go_wp2_with (go_at_fn fn; refine hcall.mono ?_; rintro e w5 ⟨rfl, hb5⟩)
        have HD5 : Hid _ := (HD1.out.below hb5).skip hlt HP2.out
        clear hb5 hcall y0 y1 y2 yl
        go_wp2
        go_roundw
        case rel => exact ⟨i, j + 1, by omega, by omega, rfl, by go_num, _, _, HD5.out⟩
        case measure => simp [intOf]; omega
      | false =>
        rw [hpm] at hcall
        have HP2 : Hid (p (ms[j]'hlt) = false) := show _ = _ by rw [HM.out]; exact hpm
        clear hpm
        go_wp2_with (go_at_fn fn; refine hcall.mono ?_; rintro e w5 ⟨rfl, hb5⟩; have HD5 : Hid _ := HD1.out.below hb5; have z0 : w5.cell? ⟨bx, 0, none⟩ = some (.string m.nm) := (hb5.cell (p := ⟨bx, 0, none⟩) yl).trans y0; have z1 : w5.cell? ⟨bx, 1, none⟩ = some (.int .i64 m.hd) := (hb5.cell (p := ⟨bx, 1, none⟩) yl).trans y1; have z2 : w5.cell? ⟨bx, 2, none⟩ = some (.slice au m.ps.length cu) := (hb5.cell (p := ⟨bx, 2, none⟩) yl).trans y2; have yl5 : bx < w5.heap.size := Nat.lt_of_lt_of_le yl hb5.size; have f0 : ∀ o, w5.frozen? ⟨g, o, none⟩ = false := fun o => HD5.out.o.1.frozenAt o; have hgw : g < w5.heap.size := (HD5.out.o.blk g rfl).2; obtain ⟨x0, t0⟩ := HD5.out.has (i * 3) (by omega); obtain ⟨x1, t1⟩ := HD5.out.has (i * 3 + 1) (by omega); obtain ⟨x2, t2⟩ := HD5.out.has (i * 3 + 2) (by omega))
        have HK : Hid _ := HD5.out.keep hij hlt HP2.out (((w5.setCell ⟨g, i * 3, none⟩ (.string m.nm)).setCell ⟨g, i * 3 + 1, none⟩ (.int .i64 m.hd)).setCell ⟨g, i * 3 + 2, none⟩ (.slice au m.ps.length cu)) (by rw [HU.out, HM.out]; rfl)
        clear hb5 hcall y0 y1 y2 yl
        go_wp2
        go_roundw
        case rel => exact ⟨i + 1, j + 1, by omega, by omega, by go_num, by go_num, HK.out⟩
        case measure => simp [intOf]; omega

end Go.Proofs.Ytmkbbhdmfpjfdaa
