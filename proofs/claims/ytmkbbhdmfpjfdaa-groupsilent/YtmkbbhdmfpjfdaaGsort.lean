/-
  The function that compares two places by their names; slices.insertionSortCmpFunc over places: what is sorted, of those that are the same the one ahead first.
-/
import Derived.Test.YtmkbbhdmfpjfdaaGord
import Derived.Test.YtmkbbhdmfpjfdaaGbase
import Derived.Test.YtmkbbhdmfpjfdaaShelf3
import Derived.Shelf.Abstract
import Derived.BigQuiet
import Derived.BigRegion
import Derived.Shelf.RegionOpenPlain
import Derived.Deep.QuietTactic
namespace Go.Proofs.Ytmkbbhdmfpjfdaa
open Go.RowKit
set_option linter.unusedVariables false
set_option linter.unusedSimpArgs false

def cmpN (ns : List ByteArray) (a b : Nat) : Int := Lib.compareBytes (ns.getD a ⟨#[]⟩).data.toList (ns.getD b ⟨#[]⟩).data.toList
theorem cmpN_lt {ns : List ByteArray} {a b : Nat} : cmpN ns a b < 0 ↔ naL ns a < naL ns b := by
  unfold cmpN naL
  rw [cmpB_lt, toList_data, toList_data]
theorem strCmp_any (a b : ByteArray) (w : World) : Calls Try.prog 82 #[.string a, .string b] w fun e w' => e = .returned (.int .i64 (Lib.compareBytes a.data.toList b.data.toList)) ∧ w' = w := Any.strings_Compare Try.lays106 a b w
def strs (ns : List ByteArray) : List Value := ns.map Value.string
theorem strs_len (ns : List ByteArray) : (strs ns).length = ns.length := by simp [strs]
theorem strs_at {w : World} {ao : Option Addr} {n cap : Nat} {ns : List ByteArray} (h : RdV w (.slice ao n cap) (strs ns)) (i : Nat) (hi : i < ns.length) : ∃ g off, ao = some ⟨g, off, none⟩ ∧ n = ns.length ∧ w.cell? ⟨g, off + i, none⟩ = some (.string (ns.getD i ⟨#[]⟩)) := by
  obtain ⟨g, off, e, e2, hc⟩ := h.cellAt i (by rw [strs_len]; exact hi)
  rw [strs_len] at e2
  refine ⟨g, off, e, e2, ?_⟩
  rw [hc]
  simp [strs, List.getD, hi]

set_option maxRecDepth 100000 in
set_option maxHeartbeats 2000000 in
theorem cmpPlace_any (ns : List ByteArray) (bx : Nat) (v : Value) (w : World) (a b : Nat) (ha : a < ns.length) (hb : b < ns.length) (hbx : w.cell? ⟨bx, 0, none⟩ = some v) (hr : RdV w v (strs ns)) (hl : (ns.length : Int) ≤ 9223372036854775807) :
    Calls Try.prog 81 #[.int .i64 a, .int .i64 b, .pointer (some ⟨bx, 0, none⟩)] w fun e w' => e = .returned (.int .i64 (cmpN ns a b)) ∧ ∃ q, w' = w.drewN q := by
  obtain ⟨ao, cap, rfl⟩ := hr.shape
  rw [strs_len] at *
  obtain ⟨g, off, rfl, -, c1⟩ := strs_at hr a ha
  obtain ⟨g2, off2, e2, -, c2⟩ := strs_at hr b hb
  simp only [Option.some.injEq, Addr.mk.injEq, and_true] at e2
  obtain ⟨rfl, rfl⟩ := e2
  have HE : Hid (cmpN ns a b = Lib.compareBytes (ns.getD a ⟨#[]⟩).data.toList (ns.getD b ⟨#[]⟩).data.toList) := show _ = _ from rfl
  have hav : (a : Int) < ns.length := by omega
  have hbv : (b : Int) < ns.length := by omega
  generalize ns.getD a ⟨#[]⟩ = x at *
  generalize ns.getD b ⟨#[]⟩ = y at *
  clear hr
  go_enter Try.func81, Try.ntmps81
  go_wp2
  go_quiet ((go_at_call 82; exact Calls.quiet_of_same (strCmp_any x y _)))
  go_wp2
  go_ret
  exact ⟨by rw [HE.out]; rfl, _, rfl⟩

def natI (l : List Nat) : List Value := l.map (fun x : Nat => Value.int .i64 (x : Int))
theorem natI_len (l : List Nat) : (natI l).length = l.length := by simp [natI]
/-- The row at g holds l; no other block is turned. -/
structure Srt (w : World) (g n cap : Nat) (l : List Nat) (W : World) : Prop where
  own : OwnV 0 3 1 (.slice (some ⟨g, 0, none⟩) n cap) n (natI l) W
  gr : w.grownBy W (some g)
theorem Srt.len {w : World} {g n cap : Nat} {l : List Nat} {W : World} (h : Srt w g n cap l W) : l.length = n := by
  have := h.own.1.1
  rw [natI_len] at this
  omega
theorem Srt.drew {w : World} {g n cap : Nat} {l : List Nat} {W : World} (h : Srt w g n cap l W) (q : Nat) : Srt w g n cap l (W.drewN q) :=
  ⟨h.own.below (Nat.le_refl _) (below_drewN (Below.refl _ _) q), ⟨h.gr.os, h.gr.tape, h.gr.output, h.gr.size, h.gr.block⟩⟩
theorem Srt.set {w : World} {g n cap : Nat} {l : List Nat} {W : World} (h : Srt w g n cap l W) (i x : Nat) : Srt w g n cap (l.set i x) (W.setCell ⟨g, i, none⟩ (.int .i64 (x : Int))) := by
  refine ⟨?_, grown_set h.gr _ _⟩
  have := h.own.stored i (.int .i64 (x : Int))
  have e : (natI l).set i (.int .i64 (x : Int)) = natI (l.set i x) := by unfold natI; rw [List.map_set]
  rwa [e] at this
theorem Srt.cell {w : World} {g n cap : Nat} {l : List Nat} {W : World} (h : Srt w g n cap l W) (i : Nat) (hi : i < l.length) : W.cell? ⟨g, i, none⟩ = some (.int .i64 ((l[i]'hi : Nat) : Int)) := by
  have hl := h.len
  have := h.own.1.cellAt i (by omega)
  rw [this]
  simp [natI, hi]
theorem Srt.frozen {w : World} {g n cap : Nat} {l : List Nat} {W : World} (h : Srt w g n cap l W) (i : Nat) : W.frozen? ⟨g, i, none⟩ = false := h.own.1.frozenAt i
/-- What is asked of the function that compares. -/
def CmpW (w : World) (g : Nat) (ns : List ByteArray) (bx : Nat) : Prop := ∀ W a b, w.grownBy W (some g) → a < ns.length → b < ns.length → Calls Try.prog 81 #[.int .i64 ((a : Nat) : Int), .int .i64 ((b : Nat) : Int), .pointer (some ⟨bx, 0, none⟩)] W fun e w' => e = .returned (.int .i64 (cmpN ns a b)) ∧ ∃ q, w' = W.drewN q
/-- Before the insertion of x: what is ahead, what is behind. -/
structure Ins (ns : List ByteArray) (s1 : List Nat) (x : Nat) (u1 u2 : List Nat) : Prop where
  e : u1 ++ u2 = s1
  s : s1.Pairwise (Bef ns)
  i : ∀ y ∈ s1, y < x
  b : ∀ y ∈ u2, Bef ns x y
theorem Ins.stop {ns : List ByteArray} {s1 : List Nat} {x : Nat} {u1 u2 : List Nat} (h : Ins ns s1 x u1 u2) (hs : ∀ y, u1.getLast? = some y → ¬ naL ns x < naL ns y) : (u1 ++ x :: u2).Pairwise (Bef ns) ∧ (u1 ++ x :: u2).Perm (s1 ++ [x]) := by
  have hp := h.s
  rw [← h.e, List.pairwise_append] at hp
  obtain ⟨p1, p2, p3⟩ := hp
  refine ⟨?_, ?_⟩
  · rw [List.pairwise_append, List.pairwise_cons]
    refine ⟨p1, ⟨h.b, p2⟩, fun y hy z hz => ?_⟩
    rcases List.mem_cons.1 hz with rfl | hz
    · obtain ⟨t, hl⟩ : ∃ t, u1.getLast? = some t := by
        cases e : u1.getLast? with
        | none => rw [List.getLast?_eq_none_iff] at e; subst e; simp at hy
        | some t => exact ⟨t, rfl⟩
      have ht : t ∈ u1 := List.mem_of_getLast? hl
      have h2 : Bef ns t z := by
        rcases lt_tri (naL ns t) (naL ns z) with h3 | h3 | h3
        · exact .inl h3
        · exact .inr ⟨h3, h.i t (by rw [← h.e]; exact List.mem_append_left _ ht)⟩
        · exact absurd h3 (hs t hl)
      obtain ⟨u, rfl⟩ := List.getLast?_eq_some_iff.1 hl
      rw [List.pairwise_append] at p1
      rcases List.mem_append.1 hy with hy | hy
      · exact bef_tr (p1.2.2 y hy t (by simp)) h2
      · simp at hy; subst hy; exact h2
    · exact p3 y hy z hz
  · rw [← h.e]
    have : (u1 ++ x :: u2).Perm (x :: (u1 ++ u2)) := List.perm_middle
    exact this.trans (List.perm_append_singleton x (u1 ++ u2)).symm
theorem Ins.step {ns : List ByteArray} {s1 : List Nat} {x y : Nat} {u u2 : List Nat} (h : Ins ns s1 x (u ++ [y]) u2) (hl : naL ns x < naL ns y) : Ins ns s1 x u (y :: u2) :=
  ⟨by rw [← h.e]; simp, h.s, h.i, fun z hz => by
    rcases List.mem_cons.1 hz with rfl | hz
    · exact .inl hl
    · exact h.b z hz⟩
theorem swap_list (pre post : List Nat) (x y : Nat) : ((pre ++ y :: x :: post).set (pre.length + 1) y).set pre.length x = pre ++ x :: y :: post := by
  rw [List.set_append_right _ _ (by omega), List.set_append_right _ _ (by omega)]
  simp
theorem at_pre (pre post : List Nat) (x : Nat) (h : pre.length < (pre ++ x :: post).length) : (pre ++ x :: post)[pre.length]'h = x := by simp

set_option maxRecDepth 100000 in
set_option maxHeartbeats 4000000 in
theorem insSort_any (ns : List ByteArray) (bx : Nat) (w W : World) (g n cap a b : Nat) (p s q : List Nat) (ha : p.length = a) (hb : a + s.length = b) (hcmp : CmpW w g ns bx) (h : Srt w g n cap (p ++ (s ++ q)) W) (hs : s.Pairwise (· < ·)) (hall : ∀ x ∈ s, x < ns.length) (hn : (n : Int) ≤ 4611686018427387904) :
    Calls Try.prog 98 #[.slice (some ⟨g, 0, none⟩) n cap, .int .i64 (a : Nat), .int .i64 (b : Nat), .func (.func 81) #[] #[.pointer (some ⟨bx, 0, none⟩)]] W fun e w' => e = .returned (.tuple #[]) ∧ ∃ s', s'.Perm s ∧ s'.Pairwise (Bef ns) ∧ Srt w g n cap (p ++ (s' ++ q)) w' := by
  have HC : Hid _ := hcmp
  have HS0 : Hid _ := h
  have HA : Hid _ := hall
  have HI0 : Hid _ := hs
  have HPA : Hid (p.length = a) := ha
  have HSB : Hid (a + s.length = b) := hb
  have hln := h.len
  simp only [List.length_append] at hln
  have hab : a ≤ b := by omega
  have hbn : b ≤ n := by omega
  clear hcmp h hall hs ha hb hln
  go_enter Try.func98, Try.ntmps98
  go_wp2
  go_loopw [8] (fun iv wr => ∃ (i : Nat) (s1 : List Nat), iv = .int .i64 i ∧ a < i ∧ i ≤ b + 1 ∧ Hid (s1.Perm (s.take (i - a))) ∧ Hid (s1.Pairwise (Bef ns)) ∧ Hid (Srt w g n cap (p ++ (s1 ++ (s.drop (i - a) ++ q))) wr)) (fun iv _ => b + 1 - (intOf iv).toNat)
  case atStart =>
    refine ⟨a + 1, s.take 1, by go_num, by omega, by omega, ?_, ?_, ?_⟩
    · show (s.take 1).Perm (s.take (a + 1 - a))
      rw [show a + 1 - a = 1 by omega]
    · show (s.take 1).Pairwise _
      cases s with
      | nil => simp
      | cons x s => simp
    · show Srt w g n cap (p ++ (s.take 1 ++ (s.drop (a + 1 - a) ++ q))) W
      have e : p ++ (s.take 1 ++ (s.drop (a + 1 - a) ++ q)) = p ++ (s ++ q) := by rw [show a + 1 - a = 1 by omega, ← List.append_assoc (s.take 1), List.take_append_drop]
      rw [e]
      exact HS0.out
  case round =>
    obtain ⟨i, s1, rfl, hai, hib, HP, HW, HS⟩ := hrel
    rename World => wo
    by_cases hlt : i < b
    rotate_left
    · have hkv : ¬ (i : Int) < (b : Int) := by omega
      have HF : Hid (∃ s', s'.Perm s ∧ s'.Pairwise (Bef ns) ∧ Srt w g n cap (p ++ (s' ++ q)) wo) := by
        have h1 := HP.out
        have h2 := HS.out
        have h3 := HSB.out
        rw [List.take_of_length_le (by omega)] at h1
        rw [List.drop_eq_nil_of_le (by omega), List.nil_append] at h2
        exact ⟨s1, h1, HW.out, h2⟩
      go_wp2
      exact bodyPost_end (v := .tuple #[]) (by simp [results, Try.results98, go_sem]) rfl ⟨rfl, HF.out⟩
    have hkv : (i : Int) < (b : Int) := by omega
    have HKL : Hid (i - a < s.length) := show i - a < s.length by have := HSB.out; omega
    obtain ⟨x, hx⟩ : ∃ x, s[i - a]'HKL.out = x := ⟨_, rfl⟩
    have HD : Hid (s.drop (i - a) = x :: s.drop (i + 1 - a)) := show _ = _ by
      rw [← hx, show i + 1 - a = i - a + 1 by omega]
      exact List.drop_eq_getElem_cons HKL.out
    have hxn : x < ns.length := by rw [← hx]; exact HA.out _ (List.getElem_mem HKL.out)
    have HL1 : Hid (s1.length = i - a) := show _ = _ by have := HKL.out; rw [HP.out.length_eq, List.length_take]; omega
    have HIN : Hid (Ins ns s1 x s1 []) := ⟨by simp, HW.out, fun y hy => by
      have hm := HP.out.mem_iff.1 hy
      obtain ⟨j, hj, rfl⟩ := List.mem_iff_getElem.1 hm
      rw [List.length_take] at hj
      rw [List.getElem_take, ← hx]
      exact (List.pairwise_iff_getElem.1 HI0.out) j (i - a) (by omega) HKL.out (by omega), fun y hy => by simp at hy⟩
    have HALL : Hid (∀ y ∈ s1, y < ns.length) := fun y hy => HA.out y (List.mem_of_mem_take (HP.out.mem_iff.1 hy))
    have HTK : Hid ((s1 ++ [x]).Perm (s.take (i + 1 - a))) := by
      have h1 : s.take (i + 1 - a) = s.take (i - a) ++ [x] := by rw [show i + 1 - a = i - a + 1 by omega, List.take_succ_eq_append_getElem HKL.out, hx]
      show (s1 ++ [x]).Perm _
      rw [h1]
      exact HP.out.append_right [x]
    clear hx
    go_wp2
    go_loopw [9] (fun jv W => ∃ (j : Nat) (u1 u2 : List Nat), jv = .int .i64 j ∧ a ≤ j ∧ j ≤ i ∧ Hid (j = a + u1.length) ∧ Hid (Ins ns s1 x u1 u2) ∧ Hid (Srt w g n cap (p ++ (u1 ++ (x :: (u2 ++ (s.drop (i + 1 - a) ++ q))))) W)) (fun jv _ => (intOf jv).toNat)
    case atStart =>
      refine ⟨i, s1, [], rfl, by omega, Nat.le_refl _, ?_, HIN, ?_⟩
      · show i = a + s1.length
        have := HL1.out
        omega
      · show Srt w g n cap _ _
        have := HS.out
        rw [HD.out] at this
        simpa using this
    case round =>
      obtain ⟨j, u1, u2, rfl, haj, hji, HJU, HJ, HQ⟩ := hrel
      by_cases hja0 : a < j
      rotate_left
      · have hja : ¬ (a : Int) < (j : Int) := by omega
        have hja' : decide ((j : Int) > (a : Int)) = false := decide_eq_false (by omega)
        have HX : Hid (∃ s', s'.Perm (s.take (i + 1 - a)) ∧ s'.Pairwise (Bef ns) ∧ Srt w g n cap (p ++ (s' ++ (s.drop (i + 1 - a) ++ q))) wr) := by
          have hu : u1 = [] := List.eq_nil_of_length_eq_zero (by have := HJU.out; omega)
          obtain ⟨h1, h2⟩ := HJ.out.stop (fun y hy => by rw [hu] at hy; simp at hy)
          refine ⟨_, h2.trans HTK.out, h1, ?_⟩
          have := HQ.out
          simpa using this
        go_wp2
        go_quiet (fail)
        have HXX : Hid (∃ s', s'.Perm (s.take (i + 1 - a)) ∧ s'.Pairwise (Bef ns) ∧ Srt w g n cap (p ++ (s' ++ (s.drop (i + 1 - a) ++ q))) (wr.drewN nq)) := by
          obtain ⟨s', h1, h2, h3⟩ := HX.out
          exact ⟨s', h1, h2, h3.drew _⟩
        obtain ⟨s', h1, h2, h3⟩ := HXX.out
        have H1 : Hid _ := h1
        have H2 : Hid _ := h2
        have H3 : Hid _ := h3
        clear h1 h2 h3
        go_wp2
        go_roundw
        case rel => exact ⟨i + 1, s', by go_num, by omega, by omega, H1, H2, H3⟩
        case measure => simp [intOf]; omega
      · obtain ⟨u, y, hu⟩ : ∃ u y, u1 = u ++ [y] := by
          rcases List.eq_nil_or_concat u1 with h | ⟨u, y, h⟩
          · have := HJU.out
            rw [h] at this
            simp at this
            omega
          · exact ⟨u, y, by rw [h, List.concat_eq_append]⟩
        subst hu
        have hyn : y < ns.length := HALL.out y (by rw [← HJ.out.e]; simp)
        obtain ⟨jp, rfl⟩ : ∃ jp, j = jp + 1 := ⟨j - 1, by omega⟩
        have HJP : Hid ((p ++ u).length = jp) := show _ = _ by
          have := HJU.out
          have h2 := HPA.out
          simp only [List.length_append, List.length_singleton] at this ⊢
          omega
        have HL : Hid (p ++ ((u ++ [y]) ++ (x :: (u2 ++ (s.drop (i + 1 - a) ++ q)))) = (p ++ u) ++ y :: x :: (u2 ++ (s.drop (i + 1 - a) ++ q))) := show _ = _ by simp
        have HQ2 : Hid (Srt w g n cap ((p ++ u) ++ y :: x :: (u2 ++ (s.drop (i + 1 - a) ++ q))) wr) := show Srt _ _ _ _ _ _ by rw [← HL.out]; exact HQ.out
        have hjn : jp + 1 < n := by
          have := HQ2.out.len
          have h2 := HJP.out
          simp only [List.length_append, List.length_cons] at this h2
          omega
        have HLL : Hid (jp + 1 < ((p ++ u) ++ y :: x :: (u2 ++ (s.drop (i + 1 - a) ++ q))).length) := show _ < _ by rw [HQ2.out.len]; exact hjn
        have cy : wr.cell? ⟨g, jp, none⟩ = some (.int .i64 (y : Nat)) := by
          have hl : jp < ((p ++ u) ++ y :: x :: (u2 ++ (s.drop (i + 1 - a) ++ q))).length := by have := HLL.out; omega
          rw [HQ2.out.cell jp hl]
          have e : ((p ++ u) ++ y :: x :: (u2 ++ (s.drop (i + 1 - a) ++ q)))[jp]'hl = y := by
            rw [List.getElem_append_right (by rw [HJP.out]; exact Nat.le_refl _)]
            simp [HJP.out]
          rw [e]
        have cx : wr.cell? ⟨g, jp + 1, none⟩ = some (.int .i64 (x : Nat)) := by
          rw [HQ2.out.cell (jp + 1) HLL.out]
          have e : ((p ++ u) ++ y :: x :: (u2 ++ (s.drop (i + 1 - a) ++ q)))[jp + 1]'HLL.out = x := by
            rw [List.getElem_append_right (by rw [HJP.out]; omega)]
            simp [HJP.out]
          rw [e]
        have fy : wr.frozen? ⟨g, jp, none⟩ = false := HQ2.out.frozen _
        have fx : wr.frozen? ⟨g, jp + 1, none⟩ = false := HQ2.out.frozen _
        have hc : ∀ m, Calls Try.prog 81 #[.int .i64 ((x : Nat) : Int), .int .i64 ((y : Nat) : Int), .pointer (some ⟨bx, 0, none⟩)] (wr.drewN m) fun e w' => e = .returned (.int .i64 (cmpN ns x y)) ∧ ∃ q, w' = (wr.drewN m).drewN q := fun m => HC.out _ x y (HQ2.out.drew m).gr hxn hyn
        have HCC : Hid _ := hc
        have hjn1 : (jp : Int) + 1 < n := by omega
        have hjn2 : (jp : Int) < n := by omega
        have hja : (a : Int) < (jp : Int) + 1 := by omega
        have hwp : IntKind.i64.wrap (jp : Int) = (jp : Int) := by rw [IntKind.wrap_i64]; omega
        have p0 : (0 : Int) ≤ (jp : Int) + 1 := by omega
        have e0 : ((jp : Int) + 1).toNat = jp + 1 := by omega
        clear hc HL HQ
        by_cases hlv : naL ns x < naL ns y
        · have d1 : decide (cmpN ns x y < 0) = true := by simp [cmpN_lt, hlv]
          have HST : Hid (Ins ns s1 x u (y :: u2)) := HJ.out.step hlv
          have HJV : Hid (jp = a + u.length) := show _ = _ by
            have h2 := HJP.out
            have h3 := HPA.out
            simp only [List.length_append] at h2
            omega
          have HSW : Hid (∀ W, Srt w g n cap ((p ++ u) ++ y :: x :: (u2 ++ (s.drop (i + 1 - a) ++ q))) W → Srt w g n cap (p ++ (u ++ (x :: ((y :: u2) ++ (s.drop (i + 1 - a) ++ q))))) ((W.setCell ⟨g, jp + 1, none⟩ (.int .i64 (y : Nat))).setCell ⟨g, jp, none⟩ (.int .i64 (x : Nat)))) := fun W hW => by
            have h2 := (hW.set (jp + 1) y).set jp x
            have e : ((((p ++ u) ++ y :: x :: (u2 ++ (s.drop (i + 1 - a) ++ q))).set (jp + 1) y).set jp x) = p ++ (u ++ (x :: ((y :: u2) ++ (s.drop (i + 1 - a) ++ q)))) := by
              have := swap_list (p ++ u) (u2 ++ (s.drop (i + 1 - a) ++ q)) x y
              rw [HJP.out] at this
              rw [this]
              simp
            rwa [e] at h2
          clear hlv
          go_wp2_with fail
          go_quiet ((refine Calls.quiet_of (HCC.out _)))
          have HQ3 : Hid (Srt w g n cap ((p ++ u) ++ y :: x :: (u2 ++ (s.drop (i + 1 - a) ++ q))) (wr.drewN nq)) := HQ2.out.drew _
          have cy2 : (wr.drewN nq).cell? ⟨g, jp, none⟩ = some (.int .i64 (y : Nat)) := cy
          have cx2 : (wr.drewN nq).cell? ⟨g, jp + 1, none⟩ = some (.int .i64 (x : Nat)) := cx
          have fy2 : (wr.drewN nq).frozen? ⟨g, jp, none⟩ = false := fy
          have fx2 : (wr.drewN nq).frozen? ⟨g, jp + 1, none⟩ = false := fx
          clear cy cx fy fx HCC HQ2
          generalize wr.drewN nq = w5 at *
          obtain ⟨j1, hj1⟩ : ∃ j1, j1 = jp + 1 := ⟨_, rfl⟩
          have HJ1 : Hid (j1 = jp + 1) := hj1
          rw [← hj1] at cx2 fx2 e0 HSW
          clear hj1
          go_wp2_with fail
          go_big_region
          all_goals go_wp2
          all_goals
            go_roundw
            case rel => exact ⟨jp, u, y :: u2, by first | rfl | go_num, by omega, by omega, HJV, HST, by first | exact HSW.out _ HQ3.out | exact HSW.out _ (HQ3.out.drew 1) | exact (HSW.out _ HQ3.out).drew 1⟩
            case measure => simp [intOf] <;> omega
        · have d1 : decide (cmpN ns x y < 0) = false := by simp [cmpN_lt, hlv]
          have HX : Hid (∃ s', s'.Perm (s.take (i + 1 - a)) ∧ s'.Pairwise (Bef ns) ∧ Srt w g n cap (p ++ (s' ++ (s.drop (i + 1 - a) ++ q))) wr) := by
            obtain ⟨h1, h2⟩ := HJ.out.stop (fun z hz => by
              rw [List.getLast?_append] at hz
              simp at hz
              subst hz
              exact hlv)
            refine ⟨_, h2.trans HTK.out, h1, ?_⟩
            have := HQ2.out
            simpa using this
          clear hlv
          go_wp2_with fail
          go_quiet ((refine Calls.quiet_of (HCC.out _)))
          have HXX : Hid (∃ s', s'.Perm (s.take (i + 1 - a)) ∧ s'.Pairwise (Bef ns) ∧ Srt w g n cap (p ++ (s' ++ (s.drop (i + 1 - a) ++ q))) (wr.drewN nq)) := by
            obtain ⟨s', h1, h2, h3⟩ := HX.out
            exact ⟨s', h1, h2, h3.drew _⟩
          obtain ⟨s', h1, h2, h3⟩ := HXX.out
          have H1 : Hid _ := h1
          have H2 : Hid _ := h2
          have H3 : Hid _ := h3
          clear h1 h2 h3 cy cx fy fx HCC HQ2 HX HXX
          go_wp2
          go_roundw
          case rel => exact ⟨i + 1, s', by go_num, by omega, by omega, H1, H2, H3⟩
          case measure => simp [intOf] <;> omega

set_option maxRecDepth 100000 in
set_option maxHeartbeats 2000000 in
theorem stable_small (ns : List ByteArray) (bx : Nat) (w W : World) (g n cap : Nat) (s : List Nat) (hsn : s.length = n) (hcmp : CmpW w g ns bx) (h : Srt w g n cap s W) (hs : s.Pairwise (· < ·)) (hall : ∀ x ∈ s, x < ns.length) (hn : n < 20) :
    Calls Try.prog 93 #[.slice (some ⟨g, 0, none⟩) n cap, .int .i64 n, .func (.func 81) #[] #[.pointer (some ⟨bx, 0, none⟩)]] W fun e w' => e = .returned (.tuple #[]) ∧ ∃ s', s'.Perm s ∧ s'.Pairwise (Bef ns) ∧ Srt w g n cap s' w' := by
  have HI : Hid _ := insSort_any ns bx w W g n cap 0 n [] s [] rfl (by omega) hcmp (by simpa using h) hs hall (by omega)
  have hn1 : ¬ (20 : Int) ≤ (n : Int) := by omega
  have hn2 : ¬ (20 : Int) < (n : Int) := by omega
  clear hcmp h hs hall
  go_enter Try.func93, Try.ntmps93
  go_wp2
  refine wp_loop_rounds 1 ?_
  rw [rounds_succ]
  go_wp2_with fail
  refine Calls.mono HI.out ?_
  rintro e w1 ⟨rfl, hf⟩
  have HF : Hid (∃ s', s'.Perm s ∧ s'.Pairwise (Bef ns) ∧ Srt w g n cap s' w1) := by
    obtain ⟨s', h1, h2, h3⟩ := hf
    exact ⟨s', h1, h2, by simpa using h3⟩
  clear hf
  go_wp2
  refine wp_loop_rounds 1 ?_
  rw [rounds_succ]
  go_wp2
  exact bodyPost_end (v := .tuple #[]) (by simp [results, Try.results93, go_sem]) rfl ⟨rfl, HF.out⟩

set_option maxRecDepth 100000 in
set_option maxHeartbeats 2000000 in
theorem sortStable_small (ns : List ByteArray) (bx : Nat) (w W : World) (g n cap : Nat) (s : List Nat) (hsn : s.length = n) (hcmp : CmpW w g ns bx) (h : Srt w g n cap s W) (hs : s.Pairwise (· < ·)) (hall : ∀ x ∈ s, x < ns.length) (hn : n < 20) :
    Calls Try.prog 80 #[.slice (some ⟨g, 0, none⟩) n cap, .func (.func 81) #[] #[.pointer (some ⟨bx, 0, none⟩)]] W fun e w' => e = .returned (.tuple #[]) ∧ ∃ s', s'.Perm s ∧ s'.Pairwise (Bef ns) ∧ Srt w g n cap s' w' := by
  have HI : Hid _ := stable_small ns bx w W g n cap s hsn hcmp h hs hall hn
  clear hcmp h hs hall
  go_enter Try.func80, Try.ntmps80
  go_wp2_with fail
  refine Calls.mono HI.out ?_
  rintro e w1 ⟨rfl, hf⟩
  have HF : Hid _ := hf
  clear hf
  go_wp2
  exact bodyPost_end (v := .tuple #[]) (by simp [results, Try.results80, go_sem]) rfl ⟨rfl, HF.out⟩

end Go.Proofs.Ytmkbbhdmfpjfdaa
