/-
  The walk of the document's entryIn: what a body says, if it may be.
-/
import Derived.Test.YtkakagjffafdiaaDec
import Derived.Test.YtkakagjffafdiaaDnumat
import Derived.Deep.RegionWith
namespace Go.Proofs.Ytkakagjffafdiaa
open Go.RowKit
set_option linter.unusedVariables false
set_option linter.unusedSimpArgs false

theorem minF_rest (l : List Int) (k : Nat) (hk : k ≤ l.length) (n : Int) (r : List Int) (h : minF 5 true (l.drop k) = some (n, r)) : ∃ z, k < z ∧ z ≤ l.length ∧ r = l.drop z ∧ (l.length : Int) - r.length = (z : Nat) := by
  obtain ⟨z, h1, h2, h3, h4⟩ := rawF_rest 5 _ n r (minF_raw _ _ _ _ _ h)
  simp only [List.length_drop] at h2
  refine ⟨k + z, by omega, by omega, by rw [h3, List.drop_drop], ?_⟩
  rw [h3]
  simp only [List.length_drop]
  omega

theorem numberAt_i (l : List Int) (at_ : Nat) (n : Int) (hn : n = at_) (v : Value) (w : World) (h0 : at_ ≤ l.length) (hl : l.length ≤ 140737488355328) (h : Rd w v l) :
    Calls Try.prog 135 #[v, .int .i64 n] w fun e w' => e = .returned (.tuple #[.int .i64 (numR l at_).1, .int .i64 (numR l at_).2]) ∧ w' = w := by
  subst hn
  exact numberAt_any l at_ v w h0 hl h

theorem two_boxes {w W w' : World} {Z E : Array Value} {tz te : TypeId} (h : Below (w.heap.size + 1 + 1) ((w.alloc (.cells Z tz)).alloc (.cells E te)) W) (hb : Below W.heap.size W w') :
    (∀ o, w'.cell? ⟨w.heap.size, o, none⟩ = (w.alloc (.cells Z tz)).cell? ⟨w.heap.size, o, none⟩) ∧ (∀ o, w'.frozen? ⟨w.heap.size, o, none⟩ = false) ∧
    (∀ o, w'.cell? ⟨w.heap.size + 1, o, none⟩ = ((w.alloc (.cells Z tz)).alloc (.cells E te)).cell? ⟨w.heap.size + 1, o, none⟩) ∧ w.heap.size + 1 < w'.heap.size ∧ Below w.heap.size w w' := by
  have hs := h.size
  have hs' := hb.size
  simp only [World.size_alloc] at hs
  have h2 : Below (w.heap.size + 1 + 1) ((w.alloc (.cells Z tz)).alloc (.cells E te)) w' := h.trans (hb.mono hs)
  have h1 : Below (w.heap.size + 1) (w.alloc (.cells Z tz)) w' := ((Below.refl _ _).alloc (by simp) _).trans (h2.mono (by omega))
  refine ⟨box_cells h1, box_free h1, fun o => ?_, by omega, below_unbox h1⟩
  exact h2.cell (p := ⟨w.heap.size + 1, o, none⟩) (by show w.heap.size + 1 < _; omega)

/-- What entryIn answers: an entry, and whether it may be. -/
def InSays (l : List Int) (e : Ent) (ok : Bool) : Prop := match minB l with
  | none => ok = false
  | some e' => e = e' ∧ ok = true

set_option maxRecDepth 100000 in
set_option maxHeartbeats 2000000 in
theorem entryIn_some (l : List Int) (b off cap : Nat) (w : World) (h0 : 0 < l.length) (hl : l.length ≤ 300) (hcap : l.length ≤ cap) (hm : cap ≤ maxLen) (hb : Bytes l) (hc : ∀ i, i < l.length → w.cell? ⟨b, off + i, none⟩ = some (.int .u8 (l.getD i 0))) :
    Calls Try.prog 126 #[.slice (some ⟨b, off, none⟩) l.length cap] w fun e w' => ∃ (x : Ent) (ok : Bool), e = .returned (.tuple #[x.val, .bool ok]) ∧ InSays l x ok ∧ Below w.heap.size w w' := by
  have hrd : Rd w (.slice (some ⟨b, off, none⟩) l.length cap) l := ⟨hb, _, cap, rfl, hcap, hm, (fun h => by simp at h), fun _ => ⟨b, off, rfl, hc⟩⟩
  have HR : Hid (∀ k, k ≤ l.length → _) := fun k h => rd_drop hb hcap hm hc k h
  unfold maxLen at hm
  have hcx := hc 0 h0
  have hx := bytes_getD hb 0
  generalize hcd : l.getD 0 0 = c at hcx hx
  have HL : Hid (l = c :: l.drop 1) := show l = c :: l.drop 1 by (have := drop_cons_getD l 0 h0; rw [hcd] at this; simpa using this)
  simp only [Nat.add_zero] at hcx
  have hz' : (0 : Int) < l.length := by omega
  have hblt := cell_lt hcx
  clear hc hcd
  by_cases h32 : 32 ≤ c
  · have E : Hid (minB l = none) := show minB l = none by (rw [HL.out]; simp only [minB]; rw [if_pos h32])
    go_enter Try.func126, Try.ntmps126
    go_wp2
    go_region
    go_wp2
    refine bodyPost_ret (v := .tuple #[(Ent.mk 0 0 0 0 (c % 16) (c / 16 == 1) ⟨#[]⟩).val, .bool false]) (by simp [results, Try.results126, go_sem, Ent.val]) rfl ⟨_, false, rfl, ?_, ?_⟩
    · simp only [InSays, E.out]
    · repeat (first | exact Below.refl _ _ | refine Below.drew ?_ | refine Below.setCell ?_ (by first | (simp; done) | (simp; omega)) _ | refine Below.alloc ?_ (by first | (simp; done) | (simp; omega)) _)
  · have hmk : ∀ w, (Instr.makeSlice 23 (.int .i64 4) (.int .i64 4)).run Try.prog w = .ok (.slice (some ⟨w.heap.size, 0, none⟩) 4 4) (w.alloc (.cells #[.int .i64 0, .int .i64 0, .int .i64 0, .int .i64 0] 3)) := fun _ => by kernel_rfl
    go_enter Try.func126, Try.ntmps126
    go_wp2
    go_region
    generalize htt : (c / 16 == 1) = tt
    have HT : Hid (decide (c / 16 = 1) = tt) := show decide (c / 16 = 1) = tt by (rw [← htt]; rfl)
    clear htt
    go_wp2
    refine wp_loop_rounds 5 ?_
    rw [rounds_succ]
    go_wp2_with fail
    refine (numberAt_i l 1 1 rfl _ _ (by omega) (by omega) ?_).mono ?_
    · exact hrd.below (Nat.le_refl _) (by repeat (first | exact Below.refl _ _ | refine Below.drew ?_ | refine Below.setCell ?_ (by first | (simp; done) | (simp; omega)) _ | refine Below.alloc ?_ (by first | (simp; done) | (simp; omega)) _))
    rintro e w' ⟨rfl, rfl⟩
    rcases hn1 : minF 5 true (l.drop 1) with _ | ⟨n1, r1⟩
    · have E : Hid (minB l = none) := show minB l = none by (rw [HL.out]; simp only [minB, hn1]; split <;> rfl)
      rw [numR_none hn1]
      clear hn1
      go_wp2
      refine bodyPost_ret (v := .tuple #[(Ent.mk 0 0 0 0 (c % 16) tt ⟨#[]⟩).val, .bool false]) (by simp [results, Try.results126, go_sem, Ent.val]) rfl ⟨_, false, rfl, ?_, ?_⟩
      · simp only [InSays, E.out]
      · repeat (first | exact Below.refl _ _ | refine Below.drew ?_ | refine Below.setCell ?_ (by first | (simp; done) | (simp; omega)) _ | refine Below.alloc ?_ (by first | (simp; done) | (simp; omega)) _)
    obtain ⟨k1, hk1, hl1, hr1, hq1⟩ := minF_rest l 1 (by omega) n1 r1 hn1
    rw [numR_some hn1, hq1]
    subst hr1
    clear hq1
    go_wp2
    rw [rounds_succ]
    go_wp2_with fail
    refine (numberAt_i l k1 ((k1 : Nat) : Int) rfl _ _ (by omega) (by omega) ?_).mono ?_
    · exact hrd.below (Nat.le_refl _) (by repeat (first | exact Below.refl _ _ | refine Below.drew ?_ | refine Below.setCell ?_ (by first | (simp; done) | (simp; omega)) _ | refine Below.alloc ?_ (by first | (simp; done) | (simp; omega)) _))
    rintro e w' ⟨rfl, rfl⟩
    rcases hn2 : minF 5 true (l.drop k1) with _ | ⟨n2, r2⟩
    · have E : Hid (minB l = none) := show minB l = none by (rw [HL.out]; simp only [minB, hn1, hn2]; split <;> rfl)
      rw [numR_none hn2]
      clear hn2
      go_wp2
      refine bodyPost_ret (v := .tuple #[(Ent.mk 0 0 0 0 (c % 16) tt ⟨#[]⟩).val, .bool false]) (by simp [results, Try.results126, go_sem, Ent.val]) rfl ⟨_, false, rfl, ?_, ?_⟩
      · simp only [InSays, E.out]
      · repeat (first | exact Below.refl _ _ | refine Below.drew ?_ | refine Below.setCell ?_ (by first | (simp; done) | (simp; omega)) _ | refine Below.alloc ?_ (by first | (simp; done) | (simp; omega)) _)
    obtain ⟨k2, hk2, hl2, hr2, hq2⟩ := minF_rest l k1 (by omega) n2 r2 hn2
    rw [numR_some hn2, hq2]
    subst hr2
    clear hq2
    go_wp2
    rw [rounds_succ]
    go_wp2_with fail
    refine (numberAt_i l k2 ((k2 : Nat) : Int) rfl _ _ (by omega) (by omega) ?_).mono ?_
    · exact hrd.below (Nat.le_refl _) (by repeat (first | exact Below.refl _ _ | refine Below.drew ?_ | refine Below.setCell ?_ (by first | (simp; done) | (simp; omega)) _ | refine Below.alloc ?_ (by first | (simp; done) | (simp; omega)) _))
    rintro e w' ⟨rfl, rfl⟩
    rcases hn3 : minF 5 true (l.drop k2) with _ | ⟨n3, r3⟩
    · have E : Hid (minB l = none) := show minB l = none by (rw [HL.out]; simp only [minB, hn1, hn2, hn3]; split <;> rfl)
      rw [numR_none hn3]
      clear hn3
      go_wp2
      refine bodyPost_ret (v := .tuple #[(Ent.mk 0 0 0 0 (c % 16) tt ⟨#[]⟩).val, .bool false]) (by simp [results, Try.results126, go_sem, Ent.val]) rfl ⟨_, false, rfl, ?_, ?_⟩
      · simp only [InSays, E.out]
      · repeat (first | exact Below.refl _ _ | refine Below.drew ?_ | refine Below.setCell ?_ (by first | (simp; done) | (simp; omega)) _ | refine Below.alloc ?_ (by first | (simp; done) | (simp; omega)) _)
    obtain ⟨k3, hk3, hl3, hr3, hq3⟩ := minF_rest l k2 (by omega) n3 r3 hn3
    rw [numR_some hn3, hq3]
    subst hr3
    clear hq3
    go_wp2
    rw [rounds_succ]
    go_wp2_with fail
    refine (numberAt_i l k3 ((k3 : Nat) : Int) rfl _ _ (by omega) (by omega) ?_).mono ?_
    · exact hrd.below (Nat.le_refl _) (by repeat (first | exact Below.refl _ _ | refine Below.drew ?_ | refine Below.setCell ?_ (by first | (simp; done) | (simp; omega)) _ | refine Below.alloc ?_ (by first | (simp; done) | (simp; omega)) _))
    rintro e w' ⟨rfl, rfl⟩
    rcases hn4 : minF 5 true (l.drop k3) with _ | ⟨n4, r4⟩
    · have E : Hid (minB l = none) := show minB l = none by (rw [HL.out]; simp only [minB, hn1, hn2, hn3, hn4]; split <;> rfl)
      rw [numR_none hn4]
      clear hn4
      go_wp2
      refine bodyPost_ret (v := .tuple #[(Ent.mk 0 0 0 0 (c % 16) tt ⟨#[]⟩).val, .bool false]) (by simp [results, Try.results126, go_sem, Ent.val]) rfl ⟨_, false, rfl, ?_, ?_⟩
      · simp only [InSays, E.out]
      · repeat (first | exact Below.refl _ _ | refine Below.drew ?_ | refine Below.setCell ?_ (by first | (simp; done) | (simp; omega)) _ | refine Below.alloc ?_ (by first | (simp; done) | (simp; omega)) _)
    obtain ⟨k4, hk4, hl4, hr4, hq4⟩ := minF_rest l k3 (by omega) n4 r4 hn4
    rw [numR_some hn4, hq4]
    subst hr4
    clear hq4
    go_wp2
    rw [rounds_succ]
    have hR := HR.out k4 hl4
    have hR' : ∃ v, v = Value.slice (if cap = k4 then some ⟨b, off, none⟩ else some ⟨b, off + k4, none⟩) (l.length - k4) (cap - k4) ∧ Rd w v (l.drop k4) := ⟨_, rfl, hR⟩
    clear hR
    by_cases hck : cap = k4
    · obtain ⟨v5, hv5, hR5⟩ := hR'
      rw [if_pos hck] at hv5
      subst hv5
      subst hck
      have e0 : l.length - cap = 0 := by omega
      rw [e0, Nat.sub_self] at hR5
      go_wp2_with fail
      rw [conv_str (hR5.below (Nat.le_refl _) (by repeat (first | exact Below.refl _ _ | refine Below.drew ?_ | refine Below.setCell ?_ (by first | (simp; done) | (simp; omega)) _ | refine Below.alloc ?_ (by first | (simp; done) | (simp; omega)) _)))]
      generalize hs5 : strOfNums (l.drop cap) = s5
      have HE : Hid (∀ x, x = (Ent.mk n1 n2 n3 n4 (c % 16) tt s5).flt → InSays l ⟨n1, n2, n3, n4, c % 16, tt, s5⟩ (decide (x = 0))) := by
        intro x hx
        have hmb : minB l = if (Ent.mk n1 n2 n3 n4 (c % 16) tt s5).flt = 0 then some ⟨n1, n2, n3, n4, c % 16, tt, s5⟩ else none := by
          rw [HL.out]
          simp only [minB, hn1, hn2, hn3, hn4, HT.out, hs5]
          rw [if_neg (by omega)]
        subst hx
        unfold InSays
        rw [hmb]
        by_cases hq : (Ent.mk n1 n2 n3 n4 (c % 16) tt s5).flt = 0
        · rw [if_pos hq]
          exact ⟨rfl, by simp [hq]⟩
        · rw [if_neg hq]
          simp [hq]
      clear hs5 hn1 hn2 hn3 hn4 HR hrd hcx hblt hz' hmk hm hcap hb hx HL HT h0 hl hR5
      go_wp2
      go_region_with (go_at_call 79; refine (fault_any _ _ _ _ _ _ _ _).mono ?_; rintro e w' ⟨rfl, hb'⟩; obtain ⟨hcz, hfz, hce, hz1, hB⟩ := two_boxes (Below.drew (Below.drew (Below.alloc (Below.refl _ _) (by simp) _))) hb')
      all_goals
        go_wp2
        refine bodyPost_ret (v := .tuple #[(Ent.mk n1 n2 n3 n4 (c % 16) tt s5).val, .bool (flt n1 n2 n3 n4 (c % 16) tt s5.size == 0)]) (by simp [results, Try.results126, go_sem, Ent.val, hcz, hfz]) rfl ⟨_, _, rfl, HE.out _ rfl, ?_⟩
        exact below_stores' hB
    · obtain ⟨v5, hv5, hR5⟩ := hR'
      rw [if_neg hck] at hv5
      subst hv5
      go_wp2_with fail
      rw [conv_str (hR5.below (Nat.le_refl _) (by repeat (first | exact Below.refl _ _ | refine Below.drew ?_ | refine Below.setCell ?_ (by first | (simp; done) | (simp; omega)) _ | refine Below.alloc ?_ (by first | (simp; done) | (simp; omega)) _)))]
      generalize hs5 : strOfNums (l.drop k4) = s5
      have HE : Hid (∀ x, x = (Ent.mk n1 n2 n3 n4 (c % 16) tt s5).flt → InSays l ⟨n1, n2, n3, n4, c % 16, tt, s5⟩ (decide (x = 0))) := by
        intro x hx
        have hmb : minB l = if (Ent.mk n1 n2 n3 n4 (c % 16) tt s5).flt = 0 then some ⟨n1, n2, n3, n4, c % 16, tt, s5⟩ else none := by
          rw [HL.out]
          simp only [minB, hn1, hn2, hn3, hn4, HT.out, hs5]
          rw [if_neg (by omega)]
        subst hx
        unfold InSays
        rw [hmb]
        by_cases hq : (Ent.mk n1 n2 n3 n4 (c % 16) tt s5).flt = 0
        · rw [if_pos hq]
          exact ⟨rfl, by simp [hq]⟩
        · rw [if_neg hq]
          simp [hq]
      clear hs5 hn1 hn2 hn3 hn4 HR hrd hcx hblt hz' hmk hm hcap hb hx HL HT h0 hl hR5
      go_wp2
      go_region_with (go_at_call 79; refine (fault_any _ _ _ _ _ _ _ _).mono ?_; rintro e w' ⟨rfl, hb'⟩; obtain ⟨hcz, hfz, hce, hz1, hB⟩ := two_boxes (Below.drew (Below.drew (Below.alloc (Below.refl _ _) (by simp) _))) hb')
      all_goals
        go_wp2
        refine bodyPost_ret (v := .tuple #[(Ent.mk n1 n2 n3 n4 (c % 16) tt s5).val, .bool (flt n1 n2 n3 n4 (c % 16) tt s5.size == 0)]) (by simp [results, Try.results126, go_sem, Ent.val, hcz, hfz]) rfl ⟨_, _, rfl, HE.out _ rfl, ?_⟩
        exact below_stores' hB

end Go.Proofs.Ytkakagjffafdiaa
