/-
  The walk of wire.decodeBody: what a body says, if its numbers end.
-/
import Derived.Test.YtkakagjffafdiaaDnum
namespace Go.Proofs.Ytkakagjffafdiaa
open Go.RowKit
set_option linter.unusedVariables false

theorem rd_drop {w : World} {l : List Int} {b off cap : Nat} (hb : Bytes l) (hcap : l.length ≤ cap) (hm : cap ≤ maxLen) (hc : ∀ i, i < l.length → w.cell? ⟨b, off + i, none⟩ = some (.int .u8 (l.getD i 0))) (k : Nat) (hk : k ≤ l.length) :
    Rd w (.slice (if cap = k then some ⟨b, off, none⟩ else some ⟨b, off + k, none⟩) (l.length - k) (cap - k)) (l.drop k) := by
  refine ⟨bytes_drop hb k, _, cap - k, by rw [List.length_drop], by rw [List.length_drop]; omega, by omega, ?_, fun h => ?_⟩
  · intro h
    split at h <;> simp at h
  · rw [List.length_drop] at h
    refine ⟨b, off + k, by rw [if_neg (by omega)], fun i hi => ?_⟩
    rw [List.length_drop] at hi
    have := hc (k + i) (by omega)
    rw [← Nat.add_assoc] at this
    rw [this]
    simp [List.getD]

theorem rawF_rest (f : Nat) (l : List Int) (n : Int) (r : List Int) (h : rawF f l = some (n, r)) : ∃ z, 1 ≤ z ∧ z ≤ l.length ∧ r = l.drop z ∧ l.length - r.length = z := by
  induction f generalizing l n with
  | zero => simp [rawF] at h
  | succ f ih =>
    cases l with
    | nil => simp [rawF] at h
    | cons c l =>
      simp only [rawF] at h
      split at h
      · simp only [Option.some.injEq, Prod.mk.injEq] at h
        obtain ⟨_, rfl⟩ := h
        exact ⟨1, by omega, by simp, by simp, by simp⟩
      · split at h
        · simp at h
        · rename_i n' r' hr
          simp only [Option.some.injEq, Prod.mk.injEq] at h
          obtain ⟨_, rfl⟩ := h
          obtain ⟨z, h1, h2, h3, h4⟩ := ih l n' hr
          refine ⟨z + 1, by omega, by simp; omega, by simpa using h3, ?_⟩
          have : r'.length = l.length - z := by rw [h3]; simp
          simp only [List.length_cons]
          omega

theorem cell_lt {w : World} {b o : Nat} {v : Value} (h : w.cell? ⟨b, o, none⟩ = some v) : b < w.heap.size := by
  rcases Nat.lt_or_ge b w.heap.size with hg | hg
  · exact hg
  · simp [World.cell?, Array.getElem?_eq_none hg] at h

theorem u8_clr (c : Int) (h : 0 ≤ c ∧ c ≤ 255) : bits .andNot .u8 c 16 = kAnd c := by
  rw [u8_andNot c 16 (by omega) (by omega) (by omega) (by omega)]
  have key : ∀ n : Fin 256, n.val &&& 239 = n.val - 16 * (n.val / 16 % 2) := by decide +kernel
  have := key ⟨c.toNat, by omega⟩
  have e : c.toNat &&& (255 - (16 : Int).toNat) = c.toNat &&& 239 := rfl
  simp only at this
  rw [e, this]
  unfold kAnd
  omega
theorem u8_bit (c : Int) (h : 0 ≤ c ∧ c ≤ 255) : (bits .and .u8 c 16 != 0) = tAnd c := by
  rw [u8_and c 16 (by omega) (by omega) (by omega) (by omega)]
  have key : ∀ n : Fin 256, n.val &&& 16 = 16 * (n.val / 16 % 2) := by decide +kernel
  have := key ⟨c.toNat, by omega⟩
  have e : c.toNat &&& (16 : Int).toNat = c.toNat &&& 16 := rfl
  simp only at this
  rw [e, this]
  unfold tAnd
  rw [Bool.eq_iff_iff, bne_iff_ne, decide_eq_true_iff]
  omega

def Ent.val (e : Ent) : Value := .agg #[.int .i64 e.a, .int .i64 e.b, .int .i64 e.c, .int .i64 e.d, .int .i64 e.k, .bool e.t, .string e.s]
def zeroE : Ent := ⟨0, 0, 0, 0, 0, false, ⟨#[]⟩⟩
def rawV (l : List Int) : Ent × Bool := match rawB l with
  | none => (zeroE, false)
  | some e => (e, true)
theorem rawV_none {l : List Int} (h : rawB l = none) : rawV l = (zeroE, false) := by simp [rawV, h]
theorem rawV_some {l : List Int} {e : Ent} (h : rawB l = some e) : rawV l = (e, true) := by simp [rawV, h]

set_option maxRecDepth 100000 in
set_option maxHeartbeats 2000000 in
theorem decodeBody_some (l : List Int) (b off cap : Nat) (w : World) (h0 : 0 < l.length) (hcap : l.length ≤ cap) (hm : cap ≤ maxLen) (hb : Bytes l) (hc : ∀ i, i < l.length → w.cell? ⟨b, off + i, none⟩ = some (.int .u8 (l.getD i 0))) :
    Calls Try.prog 133 #[.slice (some ⟨b, off, none⟩) l.length cap] w fun e w' => e = .returned (.tuple #[(rawV l).1.val, .bool (rawV l).2]) ∧ Below w.heap.size w w' := by
  have hr1 := rd_drop hb hcap hm hc 1 (by omega)
  unfold maxLen at hm
  have hcx := hc 0 h0
  have hx := bytes_getD hb 0
  generalize hcd : l.getD 0 0 = c at hcx hx
  have HL : Hid (l = c :: l.drop 1) := show l = c :: l.drop 1 by (have := drop_cons_getD l 0 h0; rw [hcd] at this; simpa using this)
  simp only [Nat.add_zero] at hcx
  have hz : ((l.length : Int) == 0) = false := by rw [beq_eq_false_iff_ne]; omega
  have hz' : (1 : Int) ≤ l.length := by omega
  have hblt := cell_lt hcx
  go_enter Try.func133, Try.ntmps133
  go_wp2
  go_region
  generalize (Value.slice (if cap = 1 then some { block := b, off := off } else some { block := b, off := off + 1 }) (l.length - 1) (cap - 1)) = v1 at hr1 ⊢
  generalize l.drop 1 = r1 at *
  clear hc hcd hz hz' hcap hm hb h0 hcx hblt
  go_wp2
  refine wp_loop_rounds 5 ?_
  rw [rounds_succ]
  go_wp2_with fail
  refine (decodeNumber_any r1 v1 _ ?_).mono ?_
  · exact hr1.below (Nat.le_refl _) (by repeat (first | exact Below.refl _ _ | refine Below.drew ?_ | refine Below.setCell ?_ (by simp) _ | refine Below.alloc ?_ (by simp) _))
  rintro e w' ⟨rfl, rfl⟩
  rcases hn1 : rawF 5 r1 with _ | ⟨n1, r2⟩
  · rw [numW_none hn1]
    go_wp2
    refine bodyPost_ret (v := .tuple #[zeroE.val, .bool false]) (by simp [results, Try.results133, go_sem, zeroE, Ent.val]) rfl ⟨?_, ?_⟩
    · rw [rawV_none (by rw [HL.out]; simp only [rawB, hn1])]
    · repeat (first | exact Below.refl _ _ | refine Below.drew ?_ | refine Below.setCell ?_ (by simp) _ | refine Below.alloc ?_ (by simp) _)
  obtain ⟨z1, hz1, hz2, hz3, hz4⟩ := rawF_rest 5 r1 n1 r2 hn1
  rw [numW_some hn1, hz4]
  obtain ⟨hb1, ao1, cap1, rfl, hq1, hq2, hq3, hq4⟩ := hr1
  obtain ⟨b1, off1, rfl, hq5⟩ := hq4 (by omega)
  have hr2 := rd_drop hb1 hq1 hq2 hq5 z1 hz2
  rw [← hz3] at hr2
  have hz5 : (((z1 : Nat) : Int) == 0) = false := by rw [beq_eq_false_iff_ne]; omega
  unfold maxLen at hq2
  clear hz3 hz4 hq3 hq4 hq5
  go_wp2
  go_region
  generalize (Value.slice (if cap1 = z1 then some { block := b1, off := off1 } else some { block := b1, off := off1 + z1 }) (r1.length - z1) (cap1 - z1)) = v2 at hr2 ⊢
  clear hz1 hz2 hq1 hq2 hz5 hb1
  go_wp2
  rw [rounds_succ]
  go_wp2_with fail
  refine (decodeNumber_any r2 v2 _ ?_).mono ?_
  · exact hr2.below (Nat.le_refl _) (by repeat (first | exact Below.refl _ _ | refine Below.drew ?_ | refine Below.setCell ?_ (by simp) _ | refine Below.alloc ?_ (by simp) _))
  rintro e w' ⟨rfl, rfl⟩
  rcases hn2 : rawF 5 r2 with _ | ⟨n2, r3⟩
  · rw [numW_none hn2]
    go_wp2
    refine bodyPost_ret (v := .tuple #[zeroE.val, .bool false]) (by simp [results, Try.results133, go_sem, zeroE, Ent.val]) rfl ⟨?_, ?_⟩
    · rw [rawV_none (by rw [HL.out]; simp only [rawB, hn1, hn2])]
    · repeat (first | exact Below.refl _ _ | refine Below.drew ?_ | refine Below.setCell ?_ (by simp) _ | refine Below.alloc ?_ (by simp) _)
  obtain ⟨z2, hz1, hz2, hz3, hz4⟩ := rawF_rest 5 r2 n2 r3 hn2
  rw [numW_some hn2, hz4]
  obtain ⟨hb2, ao2, cap2, rfl, hq1, hq2, hq3, hq4⟩ := hr2
  obtain ⟨b2, off2, rfl, hq5⟩ := hq4 (by omega)
  have hr3 := rd_drop hb2 hq1 hq2 hq5 z2 hz2
  rw [← hz3] at hr3
  have hz5 : (((z2 : Nat) : Int) == 0) = false := by rw [beq_eq_false_iff_ne]; omega
  unfold maxLen at hq2
  clear hz3 hz4 hq3 hq4 hq5
  go_wp2
  go_region
  generalize (Value.slice (if cap2 = z2 then some { block := b2, off := off2 } else some { block := b2, off := off2 + z2 }) (r2.length - z2) (cap2 - z2)) = v3 at hr3 ⊢
  clear hz1 hz2 hq1 hq2 hz5 hb2
  go_wp2
  rw [rounds_succ]
  go_wp2_with fail
  refine (decodeNumber_any r3 v3 _ ?_).mono ?_
  · exact hr3.below (Nat.le_refl _) (by repeat (first | exact Below.refl _ _ | refine Below.drew ?_ | refine Below.setCell ?_ (by simp) _ | refine Below.alloc ?_ (by simp) _))
  rintro e w' ⟨rfl, rfl⟩
  rcases hn3 : rawF 5 r3 with _ | ⟨n3, r4⟩
  · rw [numW_none hn3]
    go_wp2
    refine bodyPost_ret (v := .tuple #[zeroE.val, .bool false]) (by simp [results, Try.results133, go_sem, zeroE, Ent.val]) rfl ⟨?_, ?_⟩
    · rw [rawV_none (by rw [HL.out]; simp only [rawB, hn1, hn2, hn3])]
    · repeat (first | exact Below.refl _ _ | refine Below.drew ?_ | refine Below.setCell ?_ (by simp) _ | refine Below.alloc ?_ (by simp) _)
  obtain ⟨z3, hz1, hz2, hz3, hz4⟩ := rawF_rest 5 r3 n3 r4 hn3
  rw [numW_some hn3, hz4]
  obtain ⟨hb3, ao3, cap3, rfl, hq1, hq2, hq3, hq4⟩ := hr3
  obtain ⟨b3, off3, rfl, hq5⟩ := hq4 (by omega)
  have hr4 := rd_drop hb3 hq1 hq2 hq5 z3 hz2
  rw [← hz3] at hr4
  have hz5 : (((z3 : Nat) : Int) == 0) = false := by rw [beq_eq_false_iff_ne]; omega
  unfold maxLen at hq2
  clear hz3 hz4 hq3 hq4 hq5
  go_wp2
  go_region
  generalize (Value.slice (if cap3 = z3 then some { block := b3, off := off3 } else some { block := b3, off := off3 + z3 }) (r3.length - z3) (cap3 - z3)) = v4 at hr4 ⊢
  clear hz1 hz2 hq1 hq2 hz5 hb3
  go_wp2
  rw [rounds_succ]
  go_wp2_with fail
  refine (decodeNumber_any r4 v4 _ ?_).mono ?_
  · exact hr4.below (Nat.le_refl _) (by repeat (first | exact Below.refl _ _ | refine Below.drew ?_ | refine Below.setCell ?_ (by simp) _ | refine Below.alloc ?_ (by simp) _))
  rintro e w' ⟨rfl, rfl⟩
  rcases hn4 : rawF 5 r4 with _ | ⟨n4, r5⟩
  · rw [numW_none hn4]
    go_wp2
    refine bodyPost_ret (v := .tuple #[zeroE.val, .bool false]) (by simp [results, Try.results133, go_sem, zeroE, Ent.val]) rfl ⟨?_, ?_⟩
    · rw [rawV_none (by rw [HL.out]; simp only [rawB, hn1, hn2, hn3, hn4])]
    · repeat (first | exact Below.refl _ _ | refine Below.drew ?_ | refine Below.setCell ?_ (by simp) _ | refine Below.alloc ?_ (by simp) _)
  obtain ⟨z4, hz1, hz2, hz3, hz4⟩ := rawF_rest 5 r4 n4 r5 hn4
  rw [numW_some hn4, hz4]
  obtain ⟨hb4, ao4, cap4, rfl, hq1, hq2, hq3, hq4⟩ := hr4
  obtain ⟨b4, off4, rfl, hq5⟩ := hq4 (by omega)
  have hr5 := rd_drop hb4 hq1 hq2 hq5 z4 hz2
  rw [← hz3] at hr5
  have hz5 : (((z4 : Nat) : Int) == 0) = false := by rw [beq_eq_false_iff_ne]; omega
  unfold maxLen at hq2
  clear hz3 hz4 hq3 hq4 hq5
  go_wp2
  go_region
  generalize (Value.slice (if cap4 = z4 then some { block := b4, off := off4 } else some { block := b4, off := off4 + z4 }) (r4.length - z4) (cap4 - z4)) = v5 at hr5 ⊢
  clear hz1 hz2 hq1 hq2 hz5 hb4
  go_wp2
  rw [rounds_succ]
  go_wp2_with fail
  rw [conv_str (hr5.below (Nat.le_refl _) (by repeat (first | exact Below.refl _ _ | refine Below.drew ?_ | refine Below.setCell ?_ (by simp) _ | refine Below.alloc ?_ (by simp) _)))]
  have E1 := u8_clr c hx
  have E2 := u8_bit c hx
  rw [E1, E2, w64 (kAnd c) (by unfold kAnd; omega)]
  clear E1 E2
  go_wp2
  refine bodyPost_ret (v := .tuple #[(Ent.mk n1 n2 n3 n4 (kAnd c) (tAnd c) (strOfNums r5)).val, .bool true]) (by simp [results, Try.results133, go_sem, Ent.val]) rfl ⟨?_, ?_⟩
  · have hR : rawB l = some (Ent.mk n1 n2 n3 n4 (kAnd c) (tAnd c) (strOfNums r5)) := by (rw [HL.out]; simp only [rawB, hn1, hn2, hn3, hn4])
    rw [rawV_some hR]
  · repeat (first | exact Below.refl _ _ | refine Below.drew ?_ | refine Below.setCell ?_ (by simp) _ | refine Below.alloc ?_ (by simp) _)

set_option maxRecDepth 100000 in
set_option maxHeartbeats 400000 in
theorem decodeBody_none (ao : Option Addr) (cap : Nat) (w : World) :
    Calls Try.prog 133 #[.slice ao 0 cap] w fun e w' => e = .returned (.tuple #[zeroE.val, .bool false]) ∧ Below w.heap.size w w' := by
  go_enter Try.func133, Try.ntmps133
  go_wp2
  refine bodyPost_ret (v := .tuple #[zeroE.val, .bool false]) (by simp [results, Try.results133, go_sem, zeroE, Ent.val]) rfl ⟨rfl, ?_⟩
  repeat (first | exact Below.refl _ _ | refine Below.drew ?_ | refine Below.setCell ?_ (by simp) _ | refine Below.alloc ?_ (by simp) _)

theorem decodeBody_any (l : List Int) (v : Value) (w : World) (h : Rd w v l) :
    Calls Try.prog 133 #[v] w fun e w' => e = .returned (.tuple #[(rawV l).1.val, .bool (rawV l).2]) ∧ Below w.heap.size w w' := by
  obtain ⟨hb, ao, cap, rfl, h1, h2, h3, hc⟩ := h
  by_cases h0 : 0 < l.length
  · obtain ⟨b, off, rfl, hc'⟩ := hc h0
    exact decodeBody_some l b off cap w h0 h1 h2 hb hc'
  · have hl : l = [] := List.eq_nil_of_length_eq_zero (by omega)
    subst hl
    exact decodeBody_none ao cap w

end Go.Proofs.Ytkakagjffafdiaa
