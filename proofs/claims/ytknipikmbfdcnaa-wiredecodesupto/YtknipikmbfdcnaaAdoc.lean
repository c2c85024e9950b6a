/-
  The walk of the document's numberAt: a number in as few bytes as may be.
  The walk of the document's entryIn: what a body says, if it may be.
  The walk of the document's EntriesIn: the same entries and the same number of bytes as wire.Decode gives.
  The walks of the document's LogFault, EntriesOf and bytesCopy.
  The walks of the document's AppendedOf, SyncedOf, CutOf and CrashedOf.
  The walks of the document's AppendedOf and CutOf.
  The walk of the document's CutOf.
  The walks of the law's own helpers: octets (a copy), sameEntries (of one list twice).
  The walks of the law's own helpers for logs (logs: a copy; sameLog: of one log twice), and of SegChecks, SegEntries, SegSyncs.
-/
import Derived.Test.YtknipikmbfdcnaaAdec
import Derived.Deep.RegionWith
import Derived.Deep.QuietTactic
import Derived.BigQuiet
import Derived.Test.YtknipikmbfdcnaaAseg
import Derived.Deep.RegionHeld3
namespace Go.Proofs.Ytknipikmbfdcnaa

section
open Go.RowKit
set_option linter.unusedVariables false

/-- What numberAt answers. -/
def numR (l : List Int) (k : Nat) : Int × Int :=
  match minF 5 true (l.drop k) with
  | none => (0, -1)
  | some (n, r) => (n, (l.length : Int) - r.length)

def MinSt (l : List Int) (k : Nat) (acc : Int) : Prop :=
  k ≤ 5 ∧ k ≤ l.length ∧ 0 ≤ acc ∧ acc < 128 ^ k ∧ minF 5 true l = match minF (5 - k) (k == 0) (l.drop k) with
    | none => none
    | some (n, r) => some (acc + 128 ^ k * n, r)

theorem minSt_0 (l : List Int) : MinSt l 0 0 := by
  refine ⟨by omega, by omega, by omega, by simp, ?_⟩
  simp only [Nat.sub_zero, List.drop_zero, Int.pow_zero, Int.zero_add, Int.one_mul, beq_self_eq_true]
  cases minF 5 true l <;> simp
theorem minSt_end (l : List Int) (k : Nat) (acc : Int) (h : MinSt l k acc) (hk : k < 5) (hl : k < l.length) (hc : l.getD k 0 < 128) :
    minF 5 true l = if l.getD k 0 = 0 ∧ (k == 0) = false then none else some (acc + 128 ^ k * l.getD k 0, l.drop (k + 1)) := by
  obtain ⟨h1, h2, h3, h4, h5⟩ := h
  rw [h5, drop_cons_getD l k hl, show 5 - k = (4 - k) + 1 by omega]
  simp only [minF]
  rw [if_pos hc]
  by_cases hz : l.getD k 0 = 0 ∧ (k == 0) = false
  · rw [if_pos hz, if_pos hz]
  · rw [if_neg hz, if_neg hz]
theorem minSt_next (l : List Int) (k : Nat) (acc : Int) (h : MinSt l k acc) (hk : k < 5) (hl : k < l.length) (hb : Bytes l) (hc : ¬ l.getD k 0 < 128) : MinSt l (k + 1) (acc + 128 ^ k * (l.getD k 0 - 128)) := by
  obtain ⟨h1, h2, h3, h4, h5⟩ := h
  have hx := bytes_getD hb k
  have hp : (0 : Int) < 128 ^ k := Int.pow_pos (by omega)
  have e1 : (0 : Int) ≤ 128 ^ k * (l.getD k 0 - 128) := Int.mul_nonneg (by omega) (by omega)
  have e2 : (128 : Int) ^ k * (l.getD k 0 - 128) ≤ 128 ^ k * 127 := Int.mul_le_mul_of_nonneg_left (by omega) (by omega)
  refine ⟨by omega, by omega, by omega, by rw [Int.pow_succ]; omega, ?_⟩
  rw [h5, drop_cons_getD l k hl, show 5 - k = (4 - k) + 1 by omega, show 5 - (k + 1) = 4 - k by omega]
  simp only [minF]
  rw [if_neg hc, show (k + 1 == 0) = false from by simp]
  cases minF (4 - k) false (l.drop (k + 1)) with
  | none => rfl
  | some p =>
    obtain ⟨n, r⟩ := p
    simp only [Option.some.injEq, Prod.mk.injEq, and_true]
    rw [Int.pow_succ, Int.mul_add, Int.mul_assoc]
    omega
theorem minSt_none (l : List Int) (k : Nat) (acc : Int) (h : MinSt l k acc) (hk : k = 5 ∨ k = l.length) : minF 5 true l = none := by
  obtain ⟨h1, h2, h3, h4, h5⟩ := h
  rw [h5]
  rcases hk with rfl | rfl
  · simp [minF]
  · rw [List.drop_length]
    cases 5 - l.length <;> simp [minF]
theorem numR_some {l : List Int} {k : Nat} {n : Int} {r : List Int} (h : minF 5 true (l.drop k) = some (n, r)) : numR l k = (n, (l.length : Int) - r.length) := by simp [numR, h]
theorem numR_none {l : List Int} {k : Nat} (h : minF 5 true (l.drop k) = none) : numR l k = (0, -1) := by simp [numR, h]

theorem val_eq {k : IntKind} {a b : Int} (h : a = b) : Value.int k a = Value.int k b := by rw [h]
theorem min_next {l : List Int} {k : Nat} {acc c : Int} (H : MinSt l k acc) (hk : k < 5) (hl : k < l.length) (hb : Bytes l) (hc : l.getD k 0 = c) (h : ¬ c < 128) : Hid (MinSt l (k + 1) (acc + 128 ^ k * (c % 128))) := by
  have hx := bytes_getD hb k
  have e : c % 128 = l.getD k 0 - 128 := by omega
  rw [e]
  exact minSt_next l k acc H hk hl hb (by omega)

set_option maxRecDepth 100000 in
set_option maxHeartbeats 2000000 in
theorem numberAt_some (l : List Int) (at_ : Nat) (b off cap : Nat) (w : World) (h0 : at_ < l.length) (hl : l.length ≤ 140737488355328) (hb : Bytes l) (hc : ∀ i, i < l.length → w.cell? ⟨b, off + i, none⟩ = some (.int .u8 (l.getD i 0))) :
    Calls Try.prog 70 #[.slice (some ⟨b, off, none⟩) l.length cap, .int .i64 at_] w fun e w' => e = .returned (.tuple #[.int .i64 (numR l at_).1, .int .i64 (numR l at_).2]) ∧ w' = w := by
  go_enter Try.func70, Try.ntmps70
  go_wp2
  go_loop [6, 7, 8] (fun n u i => ∃ (k : Nat) (acc : Int), k ≤ 5 ∧ at_ + k ≤ l.length ∧ i = .int .i64 k ∧ n = .int .i64 acc ∧ u = .int .i64 (128 ^ k) ∧ Hid (MinSt (l.drop at_) k acc)) (fun _ _ i => 5 - (intOf i).toNat)
  case atStart => exact ⟨0, 0, Nat.zero_le _, by omega, rfl, rfl, rfl, minSt_0 _⟩
  case round =>
    obtain ⟨k, acc, hk, hk2, rfl, rfl, rfl, H⟩ := hrel
    have ha := H.out.2.2.1
    have ha2 : Hid (acc < 128 ^ k) := H.out.2.2.2.1
    have hla : Hid ((l.drop at_).length = l.length - at_) := show (l.drop at_).length = l.length - at_ by simp
    by_cases hlt : k < 5 ∧ at_ + k < l.length
    · obtain ⟨hk5, hkl⟩ := hlt
      rcases (show k = 0 ∨ k = 1 ∨ k = 2 ∨ k = 3 ∨ k = 4 from by omega) with rfl | rfl | rfl | rfl | rfl
      · have hcx := hc (at_ + 0) (by omega)
        have hx := bytes_getD hb (at_ + 0)
        generalize hcd : l.getD (at_ + 0) 0 = c at hcx hx
        have HC : Hid ((l.drop at_).getD 0 0 = c) := by (show (l.drop at_).getD 0 0 = c; rw [← hcd]; simp [List.getD])
        have hlt' : Hid (0 < (l.drop at_).length) := show 0 < (l.drop at_).length by (simp; omega)
        have ha3 : acc < 1 := by (have := ha2.out; simpa using this)
        clear hc hcd
        simp only [Nat.add_zero] at hcx
        by_cases h128 : c < 128
        · by_cases hz : c = 0
          · subst hz
            go_wp2
            go_ret2
            have e := minSt_end _ 0 acc H.out (by omega) hlt'.out (by rw [HC.out]; omega)
            rw [HC.out] at e
            rw [if_neg (by simp)] at e
            rw [numR_some e]
            exact ⟨num_ret (by simp) (by simp; omega), rfl⟩
          · have hz' : (c == 0) = false := by simp [hz]
            go_wp2
            go_ret2
            have e := minSt_end _ 0 acc H.out (by omega) hlt'.out (by rw [HC.out]; omega)
            rw [HC.out] at e
            rw [if_neg (by simp [hz])] at e
            rw [numR_some e]
            exact ⟨num_ret (by simp; omega) (by simp; omega), rfl⟩
        · go_wp2
          go_round
          case rel => exact ⟨1, acc + 128 ^ 0 * (c % 128), by omega, by omega, rfl, val_eq (by simp <;> omega), val_eq (by simp), min_next H.out (by omega) hlt'.out (bytes_drop hb _) HC.out (by omega)⟩
          case measure => simp [intOf]
      · have hcx := hc (at_ + 1) (by omega)
        have hx := bytes_getD hb (at_ + 1)
        generalize hcd : l.getD (at_ + 1) 0 = c at hcx hx
        have HC : Hid ((l.drop at_).getD 1 0 = c) := by (show (l.drop at_).getD 1 0 = c; rw [← hcd]; simp [List.getD])
        have hlt' : Hid (1 < (l.drop at_).length) := show 1 < (l.drop at_).length by (simp; omega)
        have ha3 : acc < 128 := by (have := ha2.out; simpa using this)
        clear hc hcd
        skip
        by_cases h128 : c < 128
        · by_cases hz : c = 0
          · subst hz
            go_wp2
            go_ret2
            have e := minSt_end _ 1 acc H.out (by omega) hlt'.out (by rw [HC.out]; omega)
            rw [HC.out] at e
            rw [if_pos (by simp)] at e
            rw [numR_none e]
            exact ⟨rfl, rfl⟩
          · have hz' : (c == 0) = false := by simp [hz]
            go_wp2
            go_ret2
            have e := minSt_end _ 1 acc H.out (by omega) hlt'.out (by rw [HC.out]; omega)
            rw [HC.out] at e
            rw [if_neg (by simp [hz])] at e
            rw [numR_some e]
            exact ⟨num_ret (by simp; omega) (by simp; omega), rfl⟩
        · go_wp2
          go_round
          case rel => exact ⟨2, acc + 128 ^ 1 * (c % 128), by omega, by omega, rfl, val_eq (by simp <;> omega), val_eq (by simp), min_next H.out (by omega) hlt'.out (bytes_drop hb _) HC.out (by omega)⟩
          case measure => simp [intOf]
      · have hcx := hc (at_ + 2) (by omega)
        have hx := bytes_getD hb (at_ + 2)
        generalize hcd : l.getD (at_ + 2) 0 = c at hcx hx
        have HC : Hid ((l.drop at_).getD 2 0 = c) := by (show (l.drop at_).getD 2 0 = c; rw [← hcd]; simp [List.getD])
        have hlt' : Hid (2 < (l.drop at_).length) := show 2 < (l.drop at_).length by (simp; omega)
        have ha3 : acc < 16384 := by (have := ha2.out; simpa using this)
        clear hc hcd
        skip
        by_cases h128 : c < 128
        · by_cases hz : c = 0
          · subst hz
            go_wp2
            go_ret2
            have e := minSt_end _ 2 acc H.out (by omega) hlt'.out (by rw [HC.out]; omega)
            rw [HC.out] at e
            rw [if_pos (by simp)] at e
            rw [numR_none e]
            exact ⟨rfl, rfl⟩
          · have hz' : (c == 0) = false := by simp [hz]
            go_wp2
            go_ret2
            have e := minSt_end _ 2 acc H.out (by omega) hlt'.out (by rw [HC.out]; omega)
            rw [HC.out] at e
            rw [if_neg (by simp [hz])] at e
            rw [numR_some e]
            exact ⟨num_ret (by simp; omega) (by simp; omega), rfl⟩
        · go_wp2
          go_round
          case rel => exact ⟨3, acc + 128 ^ 2 * (c % 128), by omega, by omega, rfl, val_eq (by simp <;> omega), val_eq (by simp), min_next H.out (by omega) hlt'.out (bytes_drop hb _) HC.out (by omega)⟩
          case measure => simp [intOf]
      · have hcx := hc (at_ + 3) (by omega)
        have hx := bytes_getD hb (at_ + 3)
        generalize hcd : l.getD (at_ + 3) 0 = c at hcx hx
        have HC : Hid ((l.drop at_).getD 3 0 = c) := by (show (l.drop at_).getD 3 0 = c; rw [← hcd]; simp [List.getD])
        have hlt' : Hid (3 < (l.drop at_).length) := show 3 < (l.drop at_).length by (simp; omega)
        have ha3 : acc < 2097152 := by (have := ha2.out; simpa using this)
        clear hc hcd
        skip
        by_cases h128 : c < 128
        · by_cases hz : c = 0
          · subst hz
            go_wp2
            go_ret2
            have e := minSt_end _ 3 acc H.out (by omega) hlt'.out (by rw [HC.out]; omega)
            rw [HC.out] at e
            rw [if_pos (by simp)] at e
            rw [numR_none e]
            exact ⟨rfl, rfl⟩
          · have hz' : (c == 0) = false := by simp [hz]
            go_wp2
            go_ret2
            have e := minSt_end _ 3 acc H.out (by omega) hlt'.out (by rw [HC.out]; omega)
            rw [HC.out] at e
            rw [if_neg (by simp [hz])] at e
            rw [numR_some e]
            exact ⟨num_ret (by simp; omega) (by simp; omega), rfl⟩
        · go_wp2
          go_round
          case rel => exact ⟨4, acc + 128 ^ 3 * (c % 128), by omega, by omega, rfl, val_eq (by simp <;> omega), val_eq (by simp), min_next H.out (by omega) hlt'.out (bytes_drop hb _) HC.out (by omega)⟩
          case measure => simp [intOf]
      · have hcx := hc (at_ + 4) (by omega)
        have hx := bytes_getD hb (at_ + 4)
        generalize hcd : l.getD (at_ + 4) 0 = c at hcx hx
        have HC : Hid ((l.drop at_).getD 4 0 = c) := by (show (l.drop at_).getD 4 0 = c; rw [← hcd]; simp [List.getD])
        have hlt' : Hid (4 < (l.drop at_).length) := show 4 < (l.drop at_).length by (simp; omega)
        have ha3 : acc < 268435456 := by (have := ha2.out; simpa using this)
        clear hc hcd
        skip
        by_cases h128 : c < 128
        · by_cases hz : c = 0
          · subst hz
            go_wp2
            go_ret2
            have e := minSt_end _ 4 acc H.out (by omega) hlt'.out (by rw [HC.out]; omega)
            rw [HC.out] at e
            rw [if_pos (by simp)] at e
            rw [numR_none e]
            exact ⟨rfl, rfl⟩
          · have hz' : (c == 0) = false := by simp [hz]
            go_wp2
            go_ret2
            have e := minSt_end _ 4 acc H.out (by omega) hlt'.out (by rw [HC.out]; omega)
            rw [HC.out] at e
            rw [if_neg (by simp [hz])] at e
            rw [numR_some e]
            exact ⟨num_ret (by simp; omega) (by simp; omega), rfl⟩
        · go_wp2
          go_round
          case rel => exact ⟨5, acc + 128 ^ 4 * (c % 128), by omega, by omega, rfl, val_eq (by simp <;> omega), val_eq (by simp), min_next H.out (by omega) hlt'.out (bytes_drop hb _) HC.out (by omega)⟩
          case measure => simp [intOf]
    · have e : Hid (numR l at_ = (0, -1)) := numR_none (minSt_none _ k acc H.out (by rw [hla.out]; omega))
      by_cases hk5 : k < 5
      all_goals
        clear hc
        go_wp2
        go_ret2
        rw [e.out]
        exact ⟨rfl, rfl⟩

set_option maxRecDepth 100000 in
set_option maxHeartbeats 400000 in
theorem numberAt_end (n : Nat) (ao : Option Addr) (cap : Nat) (w : World) (hl : n ≤ 140737488355328) :
    Calls Try.prog 70 #[.slice ao n cap, .int .i64 n] w fun e w' => e = .returned (.tuple #[.int .i64 0, .int .i64 (-1)]) ∧ w' = w := by
  go_enter Try.func70, Try.ntmps70
  go_wp2
  refine wp_loop_rounds 1 ?_
  rw [rounds_succ]
  go_wp2
  go_ret2
  exact ⟨rfl, rfl⟩

theorem numberAt_any (l : List Int) (at_ : Nat) (v : Value) (w : World) (h0 : at_ ≤ l.length) (hl : l.length ≤ 140737488355328) (h : Rd w v l) :
    Calls Try.prog 70 #[v, .int .i64 at_] w fun e w' => e = .returned (.tuple #[.int .i64 (numR l at_).1, .int .i64 (numR l at_).2]) ∧ w' = w := by
  obtain ⟨hb, ao, cap, rfl, h1, h2, h3, hc⟩ := h
  by_cases hlt : at_ < l.length
  · obtain ⟨b, off, rfl, hc'⟩ := hc (by omega)
    exact numberAt_some l at_ b off cap w hlt hl hb hc'
  · have e : at_ = l.length := by omega
    subst e
    rw [numR_none (by simp [minF])]
    exact numberAt_end l.length ao cap w hl
end

section
open Go.RowKit
set_option linter.unusedVariables false
set_option linter.unusedSimpArgs false

theorem minF_rest (l : List Int) (k : Nat) (hk : k ≤ l.length) (n : Int) (r : List Int) (h : minF 5 true (l.drop k) = some (n, r)) : ∃ z, k < z ∧ z ≤ l.length ∧ r = l.drop z ∧ (l.length : Int) - r.length = (z : Nat) := by
  obtain ⟨z, h1, h2, h3, h4⟩ := rawF_rest 5 _ n r (minF_raw _ _ _ _ _ h)
  simp only [List.length_drop] at h2
  refine ⟨k + z, by omega, by omega, by rw [h3, List.drop_drop], ?_⟩
  rw [h3]
  simp only [List.length_drop]
  omega

theorem numberAt_i (l : List Int) (at_ : Nat) (n : Int) (hn : n = at_) (v : Value) (w : World) (h0 : at_ ≤ l.length) (hl : l.length ≤ 140737488355328) (h : Rd w v l) :
    Calls Try.prog 70 #[v, .int .i64 n] w fun e w' => e = .returned (.tuple #[.int .i64 (numR l at_).1, .int .i64 (numR l at_).2]) ∧ w' = w := by
  subst hn
  exact numberAt_any l at_ v w h0 hl h

theorem two_boxes {w W w' : World} {Z E : Array Value} {tz te : TypeId} (h : Below (w.heap.size + 1 + 1) ((w.alloc (.cells Z tz)).alloc (.cells E te)) W) (hb : Below W.heap.size W w') :
    (∀ o, w'.cell? ⟨w.heap.size, o, none⟩ = (w.alloc (.cells Z tz)).cell? ⟨w.heap.size, o, none⟩) ∧ (∀ o, w'.frozen? ⟨w.heap.size, o, none⟩ = false) ∧
    (∀ o, w'.cell? ⟨w.heap.size + 1, o, none⟩ = ((w.alloc (.cells Z tz)).alloc (.cells E te)).cell? ⟨w.heap.size + 1, o, none⟩) ∧ w.heap.size + 1 < w'.heap.size ∧ Below w.heap.size w w' := by
  have hs := h.size
  have hs' := hb.size
  simp only [World.size_alloc] at hs
  have h2 : Below (w.heap.size + 1 + 1) ((w.alloc (.cells Z tz)).alloc (.cells E te)) w' := h.trans (hb.mono hs)
  have h1 : Below (w.heap.size + 1) (w.alloc (.cells Z tz)) w' := ((Below.refl _ _).alloc (by simp) _).trans (h2.mono (by omega))
  refine ⟨box_cells h1, box_free h1, fun o => ?_, by omega, below_unbox h1⟩
  exact h2.cell (p := ⟨w.heap.size + 1, o, none⟩) (by show w.heap.size + 1 < _; omega)

/-- What entryIn answers: an entry, and whether it may be. -/
def InSays (l : List Int) (e : Ent) (ok : Bool) : Prop := match minB l with
  | none => ok = false
  | some e' => e = e' ∧ ok = true

set_option maxRecDepth 100000 in
set_option maxHeartbeats 2000000 in
theorem entryIn_some (l : List Int) (b off cap : Nat) (w : World) (h0 : 0 < l.length) (hl : l.length ≤ 300) (hcap : l.length ≤ cap) (hm : cap ≤ maxLen) (hb : Bytes l) (hc : ∀ i, i < l.length → w.cell? ⟨b, off + i, none⟩ = some (.int .u8 (l.getD i 0))) :
    Calls Try.prog 60 #[.slice (some ⟨b, off, none⟩) l.length cap] w fun e w' => ∃ (x : Ent) (ok : Bool), e = .returned (.tuple #[x.val, .bool ok]) ∧ InSays l x ok ∧ Below w.heap.size w w' := by
  have hrd : Rd w (.slice (some ⟨b, off, none⟩) l.length cap) l := ⟨hb, _, cap, rfl, hcap, hm, (fun h => by simp at h), fun _ => ⟨b, off, rfl, hc⟩⟩
  have HR : Hid (∀ k, k ≤ l.length → _) := fun k h => rd_drop hb hcap hm hc k h
  unfold maxLen at hm
  have hcx := hc 0 h0
  have hx := bytes_getD hb 0
  generalize hcd : l.getD 0 0 = c at hcx hx
  have HL : Hid (l = c :: l.drop 1) := show l = c :: l.drop 1 by (have := drop_cons_getD l 0 h0; rw [hcd] at this; simpa using this)
  simp only [Nat.add_zero] at hcx
  have hz' : (0 : Int) < l.length := by omega
  have hblt := cell_lt hcx
  clear hc hcd
  by_cases h32 : 32 ≤ c
  · have E : Hid (minB l = none) := show minB l = none by (rw [HL.out]; simp only [minB]; rw [if_pos h32])
    go_enter Try.func60, Try.ntmps60
    go_wp2
    go_region
    go_wp2
    refine bodyPost_ret (v := .tuple #[(Ent.mk 0 0 0 0 (c % 16) (c / 16 == 1) ⟨#[]⟩).val, .bool false]) (by simp [results, Try.results60, go_sem, Ent.val]) rfl ⟨_, false, rfl, ?_, ?_⟩
    · simp only [InSays, E.out]
    · repeat (first | exact Below.refl _ _ | refine Below.drew ?_ | refine Below.setCell ?_ (by first | (simp; done) | (simp; omega)) _ | refine Below.alloc ?_ (by first | (simp; done) | (simp; omega)) _)
  · have hmk : ∀ w, (Instr.makeSlice 83 (.int .i64 4) (.int .i64 4)).run Try.prog w = .ok (.slice (some ⟨w.heap.size, 0, none⟩) 4 4) (w.alloc (.cells #[.int .i64 0, .int .i64 0, .int .i64 0, .int .i64 0] 3)) := fun _ => by kernel_rfl
    go_enter Try.func60, Try.ntmps60
    go_wp2
    go_region
    generalize htt : (c / 16 == 1) = tt
    have HT : Hid (decide (c / 16 = 1) = tt) := show decide (c / 16 = 1) = tt by (rw [← htt]; rfl)
    clear htt
    go_wp2
    refine wp_loop_rounds 5 ?_
    rw [rounds_succ]
    go_wp2_with fail
    refine (numberAt_i l 1 1 rfl _ _ (by omega) (by omega) ?_).mono ?_
    · exact hrd.below (Nat.le_refl _) (by repeat (first | exact Below.refl _ _ | refine Below.drew ?_ | refine Below.setCell ?_ (by first | (simp; done) | (simp; omega)) _ | refine Below.alloc ?_ (by first | (simp; done) | (simp; omega)) _))
    rintro e w' ⟨rfl, rfl⟩
    rcases hn1 : minF 5 true (l.drop 1) with _ | ⟨n1, r1⟩
    · have E : Hid (minB l = none) := show minB l = none by (rw [HL.out]; simp only [minB, hn1]; split <;> rfl)
      rw [numR_none hn1]
      clear hn1
      go_wp2
      refine bodyPost_ret (v := .tuple #[(Ent.mk 0 0 0 0 (c % 16) tt ⟨#[]⟩).val, .bool false]) (by simp [results, Try.results60, go_sem, Ent.val]) rfl ⟨_, false, rfl, ?_, ?_⟩
      · simp only [InSays, E.out]
      · repeat (first | exact Below.refl _ _ | refine Below.drew ?_ | refine Below.setCell ?_ (by first | (simp; done) | (simp; omega)) _ | refine Below.alloc ?_ (by first | (simp; done) | (simp; omega)) _)
    obtain ⟨k1, hk1, hl1, hr1, hq1⟩ := minF_rest l 1 (by omega) n1 r1 hn1
    rw [numR_some hn1, hq1]
    subst hr1
    clear hq1
    go_wp2
    rw [rounds_succ]
    go_wp2_with fail
    refine (numberAt_i l k1 ((k1 : Nat) : Int) rfl _ _ (by omega) (by omega) ?_).mono ?_
    · exact hrd.below (Nat.le_refl _) (by repeat (first | exact Below.refl _ _ | refine Below.drew ?_ | refine Below.setCell ?_ (by first | (simp; done) | (simp; omega)) _ | refine Below.alloc ?_ (by first | (simp; done) | (simp; omega)) _))
    rintro e w' ⟨rfl, rfl⟩
    rcases hn2 : minF 5 true (l.drop k1) with _ | ⟨n2, r2⟩
    · have E : Hid (minB l = none) := show minB l = none by (rw [HL.out]; simp only [minB, hn1, hn2]; split <;> rfl)
      rw [numR_none hn2]
      clear hn2
      go_wp2
      refine bodyPost_ret (v := .tuple #[(Ent.mk 0 0 0 0 (c % 16) tt ⟨#[]⟩).val, .bool false]) (by simp [results, Try.results60, go_sem, Ent.val]) rfl ⟨_, false, rfl, ?_, ?_⟩
      · simp only [InSays, E.out]
      · repeat (first | exact Below.refl _ _ | refine Below.drew ?_ | refine Below.setCell ?_ (by first | (simp; done) | (simp; omega)) _ | refine Below.alloc ?_ (by first | (simp; done) | (simp; omega)) _)
    obtain ⟨k2, hk2, hl2, hr2, hq2⟩ := minF_rest l k1 (by omega) n2 r2 hn2
    rw [numR_some hn2, hq2]
    subst hr2
    clear hq2
    go_wp2
    rw [rounds_succ]
    go_wp2_with fail
    refine (numberAt_i l k2 ((k2 : Nat) : Int) rfl _ _ (by omega) (by omega) ?_).mono ?_
    · exact hrd.below (Nat.le_refl _) (by repeat (first | exact Below.refl _ _ | refine Below.drew ?_ | refine Below.setCell ?_ (by first | (simp; done) | (simp; omega)) _ | refine Below.alloc ?_ (by first | (simp; done) | (simp; omega)) _))
    rintro e w' ⟨rfl, rfl⟩
    rcases hn3 : minF 5 true (l.drop k2) with _ | ⟨n3, r3⟩
    · have E : Hid (minB l = none) := show minB l = none by (rw [HL.out]; simp only [minB, hn1, hn2, hn3]; split <;> rfl)
      rw [numR_none hn3]
      clear hn3
      go_wp2
      refine bodyPost_ret (v := .tuple #[(Ent.mk 0 0 0 0 (c % 16) tt ⟨#[]⟩).val, .bool false]) (by simp [results, Try.results60, go_sem, Ent.val]) rfl ⟨_, false, rfl, ?_, ?_⟩
      · simp only [InSays, E.out]
      · repeat (first | exact Below.refl _ _ | refine Below.drew ?_ | refine Below.setCell ?_ (by first | (simp; done) | (simp; omega)) _ | refine Below.alloc ?_ (by first | (simp; done) | (simp; omega)) _)
    obtain ⟨k3, hk3, hl3, hr3, hq3⟩ := minF_rest l k2 (by omega) n3 r3 hn3
    rw [numR_some hn3, hq3]
    subst hr3
    clear hq3
    go_wp2
    rw [rounds_succ]
    go_wp2_with fail
    refine (numberAt_i l k3 ((k3 : Nat) : Int) rfl _ _ (by omega) (by omega) ?_).mono ?_
    · exact hrd.below (Nat.le_refl _) (by repeat (first | exact Below.refl _ _ | refine Below.drew ?_ | refine Below.setCell ?_ (by first | (simp; done) | (simp; omega)) _ | refine Below.alloc ?_ (by first | (simp; done) | (simp; omega)) _))
    rintro e w' ⟨rfl, rfl⟩
    rcases hn4 : minF 5 true (l.drop k3) with _ | ⟨n4, r4⟩
    · have E : Hid (minB l = none) := show minB l = none by (rw [HL.out]; simp only [minB, hn1, hn2, hn3, hn4]; split <;> rfl)
      rw [numR_none hn4]
      clear hn4
      go_wp2
      refine bodyPost_ret (v := .tuple #[(Ent.mk 0 0 0 0 (c % 16) tt ⟨#[]⟩).val, .bool false]) (by simp [results, Try.results60, go_sem, Ent.val]) rfl ⟨_, false, rfl, ?_, ?_⟩
      · simp only [InSays, E.out]
      · repeat (first | exact Below.refl _ _ | refine Below.drew ?_ | refine Below.setCell ?_ (by first | (simp; done) | (simp; omega)) _ | refine Below.alloc ?_ (by first | (simp; done) | (simp; omega)) _)
    obtain ⟨k4, hk4, hl4, hr4, hq4⟩ := minF_rest l k3 (by omega) n4 r4 hn4
    rw [numR_some hn4, hq4]
    subst hr4
    clear hq4
    go_wp2
    rw [rounds_succ]
    have hR := HR.out k4 hl4
    have hR' : ∃ v, v = Value.slice (if cap = k4 then some ⟨b, off, none⟩ else some ⟨b, off + k4, none⟩) (l.length - k4) (cap - k4) ∧ Rd w v (l.drop k4) := ⟨_, rfl, hR⟩
    clear hR
    by_cases hck : cap = k4
    · obtain ⟨v5, hv5, hR5⟩ := hR'
      rw [if_pos hck] at hv5
      subst hv5
      subst hck
      have e0 : l.length - cap = 0 := by omega
      rw [e0, Nat.sub_self] at hR5
      go_wp2_with fail
      rw [conv_str (hR5.below (Nat.le_refl _) (by repeat (first | exact Below.refl _ _ | refine Below.drew ?_ | refine Below.setCell ?_ (by first | (simp; done) | (simp; omega)) _ | refine Below.alloc ?_ (by first | (simp; done) | (simp; omega)) _)))]
      generalize hs5 : strOfNums (l.drop cap) = s5
      have HE : Hid (∀ x, x = (Ent.mk n1 n2 n3 n4 (c % 16) tt s5).flt → InSays l ⟨n1, n2, n3, n4, c % 16, tt, s5⟩ (decide (x = 0))) := by
        intro x hx
        have hmb : minB l = if (Ent.mk n1 n2 n3 n4 (c % 16) tt s5).flt = 0 then some ⟨n1, n2, n3, n4, c % 16, tt, s5⟩ else none := by
          rw [HL.out]
          simp only [minB, hn1, hn2, hn3, hn4, HT.out, hs5]
          rw [if_neg (by omega)]
        subst hx
        unfold InSays
        rw [hmb]
        by_cases hq : (Ent.mk n1 n2 n3 n4 (c % 16) tt s5).flt = 0
        · rw [if_pos hq]
          exact ⟨rfl, by simp [hq]⟩
        · rw [if_neg hq]
          simp [hq]
      clear hs5 hn1 hn2 hn3 hn4 HR hrd hcx hblt hz' hmk hm hcap hb hx HL HT h0 hl hR5
      go_wp2
      go_region_with (go_at_call 21; refine (fault_any _ _ _ _ _ _ _ _).mono ?_; rintro e w' ⟨rfl, hb'⟩; obtain ⟨hcz, hfz, hce, hz1, hB⟩ := two_boxes (Below.drew (Below.drew (Below.alloc (Below.refl _ _) (by simp) _))) hb')
      all_goals
        go_wp2
        refine bodyPost_ret (v := .tuple #[(Ent.mk n1 n2 n3 n4 (c % 16) tt s5).val, .bool (flt n1 n2 n3 n4 (c % 16) tt s5.size == 0)]) (by simp [results, Try.results60, go_sem, Ent.val, hcz, hfz]) rfl ⟨_, _, rfl, HE.out _ rfl, ?_⟩
        exact below_stores' hB
    · obtain ⟨v5, hv5, hR5⟩ := hR'
      rw [if_neg hck] at hv5
      subst hv5
      go_wp2_with fail
      rw [conv_str (hR5.below (Nat.le_refl _) (by repeat (first | exact Below.refl _ _ | refine Below.drew ?_ | refine Below.setCell ?_ (by first | (simp; done) | (simp; omega)) _ | refine Below.alloc ?_ (by first | (simp; done) | (simp; omega)) _)))]
      generalize hs5 : strOfNums (l.drop k4) = s5
      have HE : Hid (∀ x, x = (Ent.mk n1 n2 n3 n4 (c % 16) tt s5).flt → InSays l ⟨n1, n2, n3, n4, c % 16, tt, s5⟩ (decide (x = 0))) := by
        intro x hx
        have hmb : minB l = if (Ent.mk n1 n2 n3 n4 (c % 16) tt s5).flt = 0 then some ⟨n1, n2, n3, n4, c % 16, tt, s5⟩ else none := by
          rw [HL.out]
          simp only [minB, hn1, hn2, hn3, hn4, HT.out, hs5]
          rw [if_neg (by omega)]
        subst hx
        unfold InSays
        rw [hmb]
        by_cases hq : (Ent.mk n1 n2 n3 n4 (c % 16) tt s5).flt = 0
        · rw [if_pos hq]
          exact ⟨rfl, by simp [hq]⟩
        · rw [if_neg hq]
          simp [hq]
      clear hs5 hn1 hn2 hn3 hn4 HR hrd hcx hblt hz' hmk hm hcap hb hx HL HT h0 hl hR5
      go_wp2
      go_region_with (go_at_call 21; refine (fault_any _ _ _ _ _ _ _ _).mono ?_; rintro e w' ⟨rfl, hb'⟩; obtain ⟨hcz, hfz, hce, hz1, hB⟩ := two_boxes (Below.drew (Below.drew (Below.alloc (Below.refl _ _) (by simp) _))) hb')
      all_goals
        go_wp2
        refine bodyPost_ret (v := .tuple #[(Ent.mk n1 n2 n3 n4 (c % 16) tt s5).val, .bool (flt n1 n2 n3 n4 (c % 16) tt s5.size == 0)]) (by simp [results, Try.results60, go_sem, Ent.val, hcz, hfz]) rfl ⟨_, _, rfl, HE.out _ rfl, ?_⟩
        exact below_stores' hB
end

section
open Go.RowKit
set_option linter.unusedVariables false
set_option linter.unusedSimpArgs false

theorem entryIn_any (l : List Int) (v : Value) (w : World) (h0 : 0 < l.length) (hl : l.length ≤ 300) (h : Rd w v l) :
    Calls Try.prog 60 #[v] w fun e w' => ∃ (x : Ent) (ok : Bool), e = .returned (.tuple #[x.val, .bool ok]) ∧ InSays l x ok ∧ Below w.heap.size w w' := by
  obtain ⟨hb, ao, cap, rfl, h1, h2, h3, hc⟩ := h
  obtain ⟨b, off, rfl, hc'⟩ := hc h0
  exact entryIn_some l b off cap w h0 hl h1 h2 hb hc'

theorem first_at (l : List Int) (k m : Nat) (hk : k < l.length) (hm : l.getD k 0 = (m : Int)) :
    firstP (l.drop k) = if m < 1 ∨ l.length < k + m + 3 then none else match minB ((l.drop (k + 1)).take m) with
      | none => none
      | some e => if sumL ((l.drop (k + 1)).take m) = 256 * l.getD (k + m + 1) 0 + l.getD (k + m + 2) 0 then some (e, m + 3) else none := by
  rw [drop_cons_getD l k hk, hm]
  simp only [firstP]
  have e1 : ((m : Nat) : Int).toNat = m := by omega
  have e2 : (l.drop (k + 1)).getD m 0 = l.getD (k + m + 1) 0 := by simp [List.getD, show k + 1 + m = k + m + 1 by omega]
  have e3 : (l.drop (k + 1)).getD (m + 1) 0 = l.getD (k + m + 2) 0 := by simp [List.getD, show k + 1 + (m + 1) = k + m + 2 by omega]
  rw [e1, e2, e3]
  by_cases h : m < 1 ∨ l.length < k + m + 3
  · rw [if_pos h, if_pos (by simp; omega)]
  · rw [if_neg h, if_neg (by simp; omega)]
    cases minB ((l.drop (k + 1)).take m) <;> rfl

set_option maxRecDepth 100000 in
set_option maxHeartbeats 2000000 in
theorem entriesIn_some (l : List Int) (b off cap : Nat) (w : World) (hl : l.length ≤ 1099511627775) (hcap : l.length ≤ cap) (hm : cap ≤ maxLen) (hb : Bytes l) (hc : ∀ i, i < l.length → w.cell? ⟨b, off + i, none⟩ = some (.int .u8 (l.getD i 0))) :
    Calls Try.prog 26 #[.slice (some ⟨b, off, none⟩) l.length cap] w fun e w' => ∃ v, e = .returned (.tuple #[v, .int .i64 (decL l).2]) ∧ OwnE w.heap.size v (decL l).1 w' ∧ Below w.heap.size w w' := by
  have HR : Hid (∀ k n, k + n ≤ l.length → _) := fun k n h => rd_cut hb hcap hm hc k n h
  have HC : Hid (∀ i, i < l.length → w.cell? ⟨b, off + i, none⟩ = some (.int .u8 (l.getD i 0))) := hc
  unfold maxLen at hm
  clear hc
  go_enter Try.func26, Try.ntmps26
  go_wp2
  go_loopw [4, 5] (fun v a wr => ∃ (k : Nat) (es : List Ent), k ≤ l.length ∧ a = .int .i64 k ∧ Hid (DecSt l k es) ∧ OwnE w.heap.size v es wr ∧ Below w.heap.size w wr) (fun _ a _ => l.length - (intOf a).toNat)
  case atStart => exact ⟨0, [], by omega, rfl, decSt_0 l, ownE_nil _ _ (Nat.le_refl _), Below.refl _ _⟩
  case round =>
    obtain ⟨k, es, hk, rfl, H, hown, hbel⟩ := hrel
    have hes := H.out.2.1
    by_cases hlt : k < l.length
    · have hx := bytes_getD hb k
      obtain ⟨m, hmk⟩ := Int.eq_ofNat_of_zero_le hx.1
      have HF := first_at l k m hlt hmk
      have hblt := cell_lt (HC.out k hlt)
      have hcx : wr.cell? ⟨b, off + k, none⟩ = some (.int .u8 m) := (hbel.cell (p := ⟨b, off + k, none⟩) hblt).trans (by rw [HC.out k hlt, hmk])
      have hm255 : (m : Int) ≤ 255 := by omega
      clear hx
      by_cases hbad : m < 1 ∨ l.length < k + m + 3
      · rw [if_pos hbad] at HF
        have E : Hid (decL l = (es, k)) := decSt_stop H.out HF
        clear HF hmk
        by_cases h1 : m < 1
        all_goals
          go_wp2
          go_ret2
          rw [E.out]
          exact ⟨_, rfl, hown, hbel⟩
      · rw [if_neg hbad] at HF
        have hm1 : 1 ≤ m := by omega
        have hkm : k + m + 3 ≤ l.length := by omega
        have hR := (HR.out (k + 1) m (by omega)).below (Nat.le_refl _) hbel
        rw [if_neg (by omega)] at hR
        clear hbad hmk
        have hXl : ((l.drop (k + 1)).take m).length = m := by simp; omega
        have hy1 := bytes_getD hb (k + m + 1)
        have hy2 := bytes_getD hb (k + m + 2)
        have hcy1 := (hbel.cell (p := ⟨b, off + (k + m + 1), none⟩) hblt).trans (HC.out (k + m + 1) (by omega))
        have hcy2 := (hbel.cell (p := ⟨b, off + (k + m + 2), none⟩) hblt).trans (HC.out (k + m + 2) (by omega))
        have hSM := sumL_bd ((l.drop (k + 1)).take m)
        generalize (l.drop (k + 1)).take m = X at *
        generalize l.getD (k + m + 1) 0 = c1 at *
        generalize l.getD (k + m + 2) 0 = c2 at *
        have hkk : k + m + 1 - (k + 1) = m := by omega
        have HF' : Hid _ := HF
        clear HF HR HC
        go_wp2_with fail
        refine (entryIn_any X _ _ (by omega) (by omega) hR).mono ?_
        rintro e w1 ⟨x, ok, rfl, hsay, hb1⟩
        simp only [hkk]
        have hown1 := hown.below (Nat.le_refl _) hb1
        have hbel1 := bstep hbel hb1
        have hR1 := hR.below (Nat.le_refl _) hb1
        have hblt' := Nat.lt_of_lt_of_le hblt hbel.size
        have hcz1 : w1.cell? ⟨b, off + (k + m + 1), none⟩ = some (.int .u8 c1) := (hb1.cell (p := ⟨b, off + (k + m + 1), none⟩) hblt').trans hcy1
        have hcz2 : w1.cell? ⟨b, off + (k + m + 2), none⟩ = some (.int .u8 c2) := (hb1.cell (p := ⟨b, off + (k + m + 2), none⟩) hblt').trans hcy2
        have hblt1 := Nat.lt_of_lt_of_le hblt' hb1.size
        clear hb1 hown hbel hR hcy1 hcy2 hcx hblt hblt' hkk
        simp only [Ent.val]
        rcases hmb : minB X with _ | e'
        · obtain rfl : ok = false := by simpa [InSays, hmb] using hsay
          have E : Hid (decL l = (es, k)) := decSt_stop H.out (by rw [HF'.out, hmb])
          clear hsay hmb H HF'
          go_wp2
          go_quiet (fail)
          go_wp2
          go_ret2
          rw [E.out]
          exact ⟨_, rfl, (hown1.alloc _).drewN _, below_drewN (hbel1.alloc hown1.2 _) _⟩
        · obtain ⟨rfl, rfl⟩ : x = e' ∧ ok = true := by simpa [InSays, hmb] using hsay
          have HF2 := HF'.out
          rw [hmb] at HF2
          simp only at HF2
          have HF3 : Hid _ := HF2
          clear HF' HF2 hsay hmb
          have h256 : 0 ≤ 256 * c1 + c2 := by omega
          have h256' : 256 * c1 + c2 ≤ 65535 := by omega
          by_cases hsm : sumL X = 256 * c1 + c2
          · have hne : (sumL X != 256 * c1 + c2) = false := by simp [hsm]
            go_wp2
            go_quiet ((go_at_call 58; exact Calls.quiet_of_same (sumOf_any X _ _ (by omega) ((hR1.below (Nat.le_refl _) (bbox _ _)).drewN _))))
            obtain ⟨hn, hz, hkz⟩ := decSt_next H.out hb (by rw [HF3.out, if_pos hsm])
            have HN : Hid _ := hn
            have HK : Hid _ := hkz
            clear hn hsm hne h256 h256' HF3 H hR1 hcz1 hcz2 hSM hkz hz hy1 hy2 hXl hm
            go_wp2_with (at_builtin; refine wp_appE rfl _ _ rfl _ _ es rfl x ((hown1.alloc _).drewN _) _ rfl (by simp) (by omega) ?_)
            intro v2 w2 hown2 hb2
            have hbel2 := (below_drewN (hbel1.alloc hown1.2 _) _).trans hb2
            clear hb2 hown1 hbel1
            have hl' : (l.length : Int) ≤ 1099511627775 := by omega
            have hkm' : (k : Int) + m + 3 ≤ l.length := by omega
            have HL : Hid (l.length ≤ 1099511627775) := hl
            clear hl hkm
            go_wp2
            go_roundw
            case rel => exact ⟨k + (m + 3), es ++ [x], HK.out, by go_num, HN, hown2, hbel2⟩
            case measure => simp [intOf]; omega
          · have hne : (sumL X != 256 * c1 + c2) = true := by simp [hsm]
            have E : Hid (decL l = (es, k)) := decSt_stop H.out (by rw [HF3.out, if_neg hsm])
            go_wp2
            go_quiet ((go_at_call 58; exact Calls.quiet_of_same (sumOf_any X _ _ (by omega) ((hR1.below (Nat.le_refl _) (bbox _ _)).drewN _))))
            go_wp2
            go_ret2
            rw [E.out]
            exact ⟨_, rfl, (hown1.alloc _).drewN _, below_drewN (hbel1.alloc hown1.2 _) _⟩
    · have hkl : k = l.length := by omega
      have E : Hid (decL l = (es, k)) := by (rw [hkl] at H ⊢; exact decSt_end H.out)
      clear hkl H
      go_wp2
      go_ret2
      rw [E.out]
      exact ⟨_, rfl, hown, hbel⟩

set_option maxRecDepth 100000 in
set_option maxHeartbeats 400000 in
theorem entriesIn_none (ao : Option Addr) (cap : Nat) (w : World) :
    Calls Try.prog 26 #[.slice ao 0 cap] w fun e w' => ∃ v, e = .returned (.tuple #[v, .int .i64 0]) ∧ OwnE w.heap.size v [] w' ∧ Below w.heap.size w w' := by
  go_enter Try.func26, Try.ntmps26
  go_wp2
  refine wp_loop_rounds 1 ?_
  rw [rounds_succ]
  go_wp2
  go_ret2
  exact ⟨_, rfl, ownE_nil _ _ (Nat.le_refl _), Below.refl _ _⟩

theorem entriesIn_any (l : List Int) (v : Value) (w : World) (hl : l.length ≤ 1099511627775) (h : Rd w v l) :
    Calls Try.prog 26 #[v] w fun e w' => ∃ v, e = .returned (.tuple #[v, .int .i64 (decL l).2]) ∧ OwnE w.heap.size v (decL l).1 w' ∧ Below w.heap.size w w' := by
  obtain ⟨hb, ao, cap, rfl, h1, h2, h3, hc⟩ := h
  by_cases h0 : 0 < l.length
  · obtain ⟨b, off, rfl, hc'⟩ := hc h0
    exact entriesIn_some l b off cap w hl h1 h2 hb hc'
  · have hl : l = [] := List.eq_nil_of_length_eq_zero (by omega)
    subst hl
    exact entriesIn_none ao cap w
end

section
open Go.RowKit
set_option linter.unusedVariables false
set_option linter.unusedSimpArgs false

set_option maxRecDepth 100000 in
set_option maxHeartbeats 2000000 in
theorem logFault_some (l : List Int) (b off cap : Nat) (y : Int) (w : World) (hl : l.length ≤ 140737488355328) (hcap : l.length ≤ cap) (hm : cap ≤ maxLen) (hb : Bytes l) (hc : ∀ i, i < l.length → w.cell? ⟨b, off + i, none⟩ = some (.int .u8 (l.getD i 0))) :
    Calls Try.prog 36 #[.agg #[.slice (some ⟨b, off, none⟩) l.length cap, .int .i64 y]] w fun e w' => e = .returned (.int .i64 (lft l y)) ∧ Below w.heap.size w w' := by
  have hR : Rd w (.slice (some ⟨b, off, none⟩) l.length cap) l := ⟨hb, _, cap, rfl, hcap, hm, (fun h => by simp at h), fun _ => ⟨b, off, rfl, hc⟩⟩
  have HR : Hid (Rd w (.slice (some ⟨b, off, none⟩) l.length cap) l) := hR
  have HCL : Hid (∀ i, i < l.length → w.cell? ⟨b, off + i, none⟩ = some (.int .u8 (l.getD i 0))) := hc
  have hlen := (decP_len l.length l hb)
  have hes : (decL l).1.length ≤ l.length := hlen.1
  have hsz : (decL l).2 ≤ l.length := hlen.2
  unfold maxLen at hm
  clear hc hlen hR
  go_enter Try.func36, Try.ntmps36
  by_cases h1 : 40000 < l.length
  · have E : Hid (lft l y = 1) := show _ = _ by unfold lft; rw [if_pos h1]
    clear HR HCL
    go_wp2
    go_ret
    rw [E.out]
    exact ⟨rfl, bbox _ _⟩
  · go_wp2_with fail
    refine (entriesIn_any l _ _ (by omega) (HR.out.below (Nat.le_refl _) (bbox _ _))).mono ?_
    rintro e w1 ⟨va, rfl, hva, hb1⟩
    have B1 := bstep (bbox _ _) hb1
    obtain ⟨l1, l2, l3, l4⟩ := (lbox_new w (.slice (some ⟨b, off, none⟩) l.length cap) y 46).below hb1
    obtain ⟨ae, ce, rfl⟩ := hva.shape
    clear hb1 HR hva
    by_cases h2 : (decL l).2 ≠ l.length ∨ 400 < (decL l).1.length
    · have E : Hid (lft l y = 4) := show _ = _ by unfold lft; rw [if_neg h1, if_pos h2]
      have h2a : ((decL l).2 : Int) < (l.length : Int) ∨ ((decL l).2 : Int) = (l.length : Int) ∧ (400 : Int) < (decL l).1.length := by omega
      clear h2 HCL
      rcases h2a with h2 | ⟨h2, h3⟩
      all_goals
        go_wp2
        go_ret
        rw [E.out]
        exact ⟨rfl, B1⟩
    · have h2b : ((decL l).1.length : Int) ≤ 400 := by omega
      have hd : (decL l).2 = l.length := by omega
      by_cases h3 : y < 0 ∨ (l.length : Int) < y
      · have E : Hid (lft l y = 2) := show _ = _ by unfold lft; rw [if_neg h1, if_neg h2, if_pos h3]
        have hin : inR y 0 l.length = false := by unfold inR; simp; omega
        clear h2 HCL h3
        rw [hd]
        go_wp2_with fail
        refine (In_any _ _ _ _).mono ?_
        rintro e w' ⟨rfl, rfl⟩
        rw [hin]
        go_wp2
        go_ret
        rw [E.out]
        exact ⟨rfl, B1⟩
      · obtain ⟨n, rfl⟩ := Int.eq_ofNat_of_zero_le (show 0 ≤ y by omega)
        have hn : n ≤ l.length := by omega
        have hin : inR n 0 l.length = true := by unfold inR; simp; omega
        have E0 : Hid ((decL (l.take n)).2 = n → lft l n = 0) := fun h => by unfold lft; rw [if_neg h1, if_neg h2, if_neg h3, if_neg (by simp [h])]
        have E1 : Hid ((decL (l.take n)).2 ≠ n → lft l n = 4) := fun h => by unfold lft; rw [if_neg h1, if_neg h2, if_neg h3, if_pos (by simpa using h)]
        have HI : Hid (∀ j, j ≤ (decL l).1.length → (∀ i, i < j → endOf (decL l).1 i < n) → n ≤ endOf (decL l).1 j → ((decL (l.take n)).2 = n ↔ endOf (decL l).1 j = n)) := fun j hj h1 h2 => end_iff l hb hd n hn j hj h1 h2
        have HB : Hid (∀ j, (h : j < (decL l).1.length) → l.getD (endOf (decL l).1 j) 0 = (((decL l).1[j]'h).body.length : Int) ∧ endOf (decL l).1 (j + 1) = endOf (decL l).1 j + (((decL l).1[j]'h).body.length + 3) ∧ ((decL l).1[j]'h).body.length ≤ 61) := fun j h => by
          have e1 := endOf_byte (decL l).1 j h
          rw [dec_all hb hd] at e1
          exact ⟨e1, by rw [endOf_succ _ _ h, enc_len], body_len' _ ((dec_back l hb).2.2 _ (List.getElem_mem h))⟩
        have HLE : Hid (∀ j, endOf (decL l).1 j ≤ l.length) := fun j => by
          have := endOf_le (decL l).1 j
          rw [dec_all hb hd] at this
          exact this
        have HALL : Hid (endOf (decL l).1 (decL l).1.length = l.length) := show _ = _ by rw [endOf_all, dec_all hb hd]
        have h3' : (n : Int) ≤ l.length := by omega
        have hl' : (l.length : Int) ≤ 40000 := by omega
        have hcap' : (l.length : Int) ≤ cap := by omega
        clear h2 h3
        rw [hd]
        generalize (decL l).1 = es at *
        go_wp2_with fail
        refine (In_any _ _ _ _).mono ?_
        rintro e w' ⟨rfl, rfl⟩
        rw [hin]
        clear hin
        go_wp2
        go_loop [5] (fun a => ∃ j : Nat, j ≤ es.length ∧ a = .int .i64 (endOf es j : Nat) ∧ Hid (∀ i, i < j → endOf es i < n)) (fun a => l.length - (intOf a).toNat)
        case atStart => exact ⟨0, Nat.zero_le _, by rw [endOf_zero]; rfl, fun i hi => by omega⟩
        case round =>
          obtain ⟨j, hj, rfl, HJ⟩ := hrel
          have hle := HLE.out j
          by_cases hlt : endOf es j < n
          · have hjl : j < es.length := by
              rcases Nat.lt_or_ge j es.length with h | h
              · exact h
              · have : j = es.length := by omega
                subst this
                have := HALL.out
                omega
            obtain ⟨hB1, hB2, hB3⟩ := HB.out j hjl
            have hcx := (B1.cell (p := ⟨b, off + endOf es j, none⟩) (cell_lt (HCL.out (endOf es j) (by omega)))).trans (HCL.out (endOf es j) (by omega))
            rw [hB1] at hcx
            have HN : Hid (∀ i, i < j + 1 → endOf es i < n) := fun i hi => by
              by_cases h : i = j
              · subst h; exact hlt
              · exact HJ.out i (by omega)
            have HB2 : Hid _ := hB2
            generalize es[j].body.length = bl at *
            generalize endOf es j = at_ at *
            have hb3' : (bl : Int) ≤ 61 := by omega
            have hle' : (at_ : Int) ≤ l.length := by omega
            have hlt' : (at_ : Int) < n := by omega
            clear hB1 hB2 hB3 HJ HB
            go_wp2
            go_round
            case rel => exact ⟨j + 1, by omega, by rw [HB2.out]; go_num, HN⟩
            case measure => simp [intOf]; omega
          · have hiff := HI.out j hj HJ.out (by omega)
            by_cases he : endOf es j = n
            · have E : Hid _ := E0.out (hiff.2 he)
              have hne : ((endOf es j : Int) != (n : Int)) = false := by simp; omega
              clear hiff he HI HJ HB HLE HALL HCL
              go_wp2
              go_ret
              rw [E.out]
              exact ⟨rfl, B1⟩
            · have E : Hid _ := E1.out (fun h => he (hiff.1 h))
              have hne : ((endOf es j : Int) != (n : Int)) = true := by simp; omega
              clear hiff he HI HJ HB HLE HALL HCL
              go_wp2
              go_ret
              rw [E.out]
              exact ⟨rfl, B1⟩

set_option maxRecDepth 100000 in
set_option maxHeartbeats 2000000 in
theorem logFault_none (ao : Option Addr) (cap : Nat) (y : Int) (w : World) (hm : cap ≤ maxLen) (hn : ao = none → cap = 0) :
    Calls Try.prog 36 #[.agg #[.slice ao 0 cap, .int .i64 y]] w fun e w' => e = .returned (.int .i64 (lft [] y)) ∧ Below w.heap.size w w' := by
  have HD : Hid (∀ W, Calls Try.prog 26 #[.slice ao 0 cap] W fun e w' => ∃ v, e = .returned (.tuple #[v, .int .i64 0]) ∧ OwnE W.heap.size v [] w' ∧ Below W.heap.size W w') := fun W => entriesIn_none ao cap W
  unfold maxLen at hm
  go_enter Try.func36, Try.ntmps36
  go_wp2_with fail
  refine (HD.out _).mono ?_
  rintro e w1 ⟨va, rfl, hva, hb1⟩
  have B1 := bstep (bbox _ _) hb1
  obtain ⟨l1, l2, l3, l4⟩ := (lbox_new w (.slice ao 0 cap) y 46).below hb1
  obtain ⟨ae, ce, rfl⟩ := hva.shape
  clear hb1 hva HD
  by_cases h3 : y < 0 ∨ 0 < y
  · have E : Hid (lft [] y = 2) := show _ = _ by rw [lft_nil, if_pos h3]
    have hin : inR y 0 0 = false := by unfold inR; simp; omega
    clear h3
    go_wp2_with fail
    refine (In_any _ _ _ _).mono ?_
    rintro e w' ⟨rfl, rfl⟩
    rw [hin]
    go_wp2
    go_ret
    rw [E.out]
    exact ⟨rfl, B1⟩
  · have : y = 0 := by omega
    subst this
    have E : Hid (lft [] 0 = 0) := show _ = _ by rw [lft_nil, if_neg (by omega)]
    have hin : inR 0 0 0 = true := by decide
    clear h3
    go_wp2_with fail
    refine (In_any _ _ _ _).mono ?_
    rintro e w' ⟨rfl, rfl⟩
    rw [hin]
    clear hin
    go_wp2
    refine wp_loop_rounds 1 ?_
    rw [rounds_succ]
    go_wp2
    go_ret
    rw [E.out]
    exact ⟨rfl, B1⟩

theorem logFault_any (l : List Int) (u : Value) (y : Int) (w : World) (hl : l.length ≤ 140737488355328) (h : Rd w u l) :
    Calls Try.prog 36 #[.agg #[u, .int .i64 y]] w fun e w' => e = .returned (.int .i64 (lft l y)) ∧ Below w.heap.size w w' := by
  obtain ⟨hb, ao, cap, rfl, h1, h2, h3, hc⟩ := h
  by_cases h0 : 0 < l.length
  · obtain ⟨b, off, rfl, hc'⟩ := hc h0
    exact logFault_some l b off cap y w hl h1 h2 hb hc'
  · have hl : l = [] := List.eq_nil_of_length_eq_zero (by omega)
    subst hl
    exact logFault_none ao cap y w h2 h3

set_option maxRecDepth 100000 in
set_option maxHeartbeats 2000000 in
theorem entriesOf_any (l : List Int) (u : Value) (y : Int) (w : World) (hl : l.length ≤ 140737488355328) (h : Rd w u l) :
    Calls Try.prog 38 #[.agg #[u, .int .i64 y]] w fun e w' => Below w.heap.size w w' ∧
      (lft l y ≠ 0 → e = .returned (.tuple #[.slice none 0 0, .int .i64 0, .int .i64 (lft l y)])) ∧
      (lft l y = 0 → ∃ v, e = .returned (.tuple #[v, .int .i64 (decL (l.take y.toNat)).1.length, .int .i64 0]) ∧ OwnE w.heap.size v (decL l).1 w') := by
  have H : Hid (Rd w u l) := h
  have HC : Hid (∀ w, Rd w u l → _) := fun w h => logFault_any l u y w hl h
  have HE : Hid (∀ w, Rd w u l → l.length ≤ 40000 → _) := fun w h hq => entriesIn_any l u w (by omega) h
  have hbs := h.1
  obtain ⟨au, cu, rfl, hcu1, hcu2, hcu3, _⟩ := h.cuts
  have HQ : Hid (∀ W, Rd W (.slice au l.length cu) l → ∀ n, n ≤ l.length → Rd W (.slice au n cu) (l.take n)) := fun W h n hn => by
    obtain ⟨au', cu', e, _, _, _, h'⟩ := h.cuts
    simp only [Value.slice.injEq] at e
    obtain ⟨rfl, _, rfl⟩ := e
    exact h' n hn
  unfold maxLen at hcu2
  clear h
  go_enter Try.func38, Try.ntmps38
  go_wp2_with fail
  have B0 : Below w.heap.size w (w.alloc (.cells #[.slice au l.length cu, .int .i64 y] 46)) := bbox _ _
  have L0 := lbox_new w (.slice au l.length cu) y 46
  refine (HC.out _ (H.out.below (Nat.le_refl _) B0)).mono ?_
  rintro e w1 ⟨rfl, hb1⟩
  have B1 := bstep B0 hb1
  have L1 := L0.below hb1
  have hl1 := H.out.below (Nat.le_refl _) B1
  clear B0 L0 hb1 HC H
  by_cases h0 : lft l y = 0
  · obtain ⟨hq1, hq2, hq3, hq4, hq5, hq6⟩ := lft_ok h0
    rw [h0]
    have E : Hid _ := h0
    obtain ⟨n, rfl⟩ := Int.eq_ofNat_of_zero_le hq4
    have hn : n ≤ l.length := by omega
    have hn' : (n : Int) ≤ l.length := by omega
    have hl' : (l.length : Int) ≤ 40000 := by omega
    have hcu1' : (l.length : Int) ≤ cu := by omega
    have HLL : Hid (l.length ≤ 40000) := hq1
    have HN : Hid (n ≤ l.length) := hn
    clear h0 hl hcu1 hq1 hq2 hq3 hq6 hn
    obtain ⟨l1, l2, l3, l4⟩ := L1
    go_wp2_with fail
    refine (HE.out _ hl1 HLL.out).mono ?_
    rintro e w2 ⟨va, rfl, hva, hb2⟩
    have B2 := bstep B1 hb2
    have L2 := LBox.below ⟨l1, l2, l3, l4⟩ hb2
    have HT := HQ.out w2 (hl1.below (Nat.le_refl _) hb2) n HN.out
    have hva' := hva.mono B1.size
    obtain ⟨ae, ce, rfl⟩ := hva.shape
    clear l1 l2 l3 l4 hb2 B1 hva hl1 HE HQ
    obtain ⟨l1, l2, l3, l4⟩ := L2
    go_wp2_with fail
    refine (entriesIn_any (l.take n) _ _ (by have := HLL.out; simp; omega) HT).mono ?_
    rintro e w3 ⟨vb, rfl, hvb, hb3⟩
    have B3 := bstep B2 hb3
    have hva3 := hva'.below (Nat.le_refl _) hb3
    obtain ⟨af, cf, rfl⟩ := hvb.shape
    clear l1 l2 l3 l4 hb3 B2 hva' hvb HT
    go_wp2
    go_ret3
    exact ⟨B3, fun h => absurd E.out h, fun _ => ⟨_, rfl, hva3⟩⟩
  · have h0' : (lft l y != 0) = true := by simp [h0]
    obtain ⟨l1, l2, l3, l4⟩ := L1
    clear hl hcu1
    go_wp2
    go_ret3
    exact ⟨B1, fun _ => rfl, fun h => absurd h h0⟩

theorem entriesOf_ok (l : List Int) (u : Value) (y : Int) (w : World) (hl : l.length ≤ 140737488355328) (h : Rd w u l) (h0 : lft l y = 0) :
    Calls Try.prog 38 #[.agg #[u, .int .i64 y]] w fun e w' => ∃ v, e = .returned (.tuple #[v, .int .i64 (decL (l.take y.toNat)).1.length, .int .i64 0]) ∧ OwnE w.heap.size v (decL l).1 w' ∧ Below w.heap.size w w' :=
  (entriesOf_any l u y w hl h).mono fun e w' ⟨hb, _, h⟩ => by
    obtain ⟨v, h1, h2⟩ := h h0
    exact ⟨v, h1, h2, hb⟩
theorem entriesOf_bad (l : List Int) (u : Value) (y : Int) (w : World) (hl : l.length ≤ 140737488355328) (h : Rd w u l) (h0 : lft l y ≠ 0) :
    Calls Try.prog 38 #[.agg #[u, .int .i64 y]] w fun e w' => e = .returned (.tuple #[.slice none 0 0, .int .i64 0, .int .i64 (lft l y)]) ∧ Below w.heap.size w w' :=
  (entriesOf_any l u y w hl h).mono fun e w' ⟨hb, h, _⟩ => ⟨h h0, hb⟩

set_option maxRecDepth 100000 in
set_option maxHeartbeats 1000000 in
theorem copy_one (l : List Int) (u : Value) (g : Nat) (w : World) (hl : l.length ≤ 140737488355328) (h1 : Rd w u l) (c0 : w.cell? ⟨g, 0, none⟩ = some u) :
    Calls Try.prog 63 #[.slice (some ⟨g, 0, none⟩) 1 1] w fun e w' => ∃ v, e = .returned v ∧ Own w.heap.size v l w' ∧ Below w.heap.size w w' := by
  have o0 := own_nil w.heap.size w (Nat.le_refl _)
  go_enter Try.func63, Try.ntmps63
  go_wp2
  refine wp_loop_rounds 2 ?_
  rw [rounds_succ]
  go_wp2_with (at_builtin; refine wp_app rfl _ _ rfl _ _ _ rfl o0 _ _ rfl h1 (by simp; omega) ?_)
  intro v2 w2 ho2 hb2
  clear o0 h1 c0
  go_wp2
  rw [rounds_succ]
  go_wp2
  go_ret
  exact ⟨_, rfl, by simpa using ho2, hb2⟩

set_option maxRecDepth 100000 in
set_option maxHeartbeats 1000000 in
theorem copy_two (l r : List Int) (u v : Value) (g : Nat) (w : World) (hl : l.length ≤ 50000) (hr : r.length ≤ 50000) (h1 : Rd w u l) (h2 : Rd w v r) (c0 : w.cell? ⟨g, 0, none⟩ = some u) (c1 : w.cell? ⟨g, 1, none⟩ = some v) :
    Calls Try.prog 63 #[.slice (some ⟨g, 0, none⟩) 2 2] w fun e w' => ∃ v, e = .returned v ∧ Own w.heap.size v (l ++ r) w' ∧ Below w.heap.size w w' := by
  have o0 := own_nil w.heap.size w (Nat.le_refl _)
  have hg0 := cell_lt c0
  have H2 : Hid (Rd w v r) := h2
  clear h2
  go_enter Try.func63, Try.ntmps63
  go_wp2
  refine wp_loop_rounds 3 ?_
  rw [rounds_succ]
  go_wp2_with (at_builtin; refine wp_app rfl _ _ rfl _ _ _ rfl o0 _ _ rfl h1 (by simp; omega) ?_)
  intro v2 w2 ho2 hb2
  have hr3 := H2.out.below (Nat.le_refl _) hb2
  have p1 := (hb2.cell (p := ⟨g, 1, none⟩) hg0).trans c1
  clear o0 h1 c0 c1 H2
  go_wp2
  rw [rounds_succ]
  go_wp2_with (at_builtin; refine wp_app rfl _ _ rfl _ _ _ rfl ho2 _ _ rfl hr3 (by omega) ?_)
  intro v3 w3 ho3 hb3
  have hB3 := hb2.trans hb3
  clear hr3 ho2 p1 hb2 hb3
  go_wp2
  rw [rounds_succ]
  go_wp2
  go_ret
  exact ⟨_, rfl, by simpa using ho3, hB3⟩
end

section
open Go.RowKit
set_option linter.unusedVariables false
set_option linter.unusedSimpArgs false

set_option maxRecDepth 100000 in
set_option maxHeartbeats 2000000 in
theorem syncedOf_any (l : List Int) (u : Value) (y : Int) (w : World) (hl : l.length ≤ 140737488355328) (h : Rd w u l) :
    Calls Try.prog 43 #[.agg #[u, .int .i64 y]] w fun e w' => Below w.heap.size w w' ∧
      (lft l y ≠ 0 → e = .returned (.tuple #[noLog, .int .i64 (lft l y)])) ∧
      (lft l y = 0 → ∃ v, e = .returned (.tuple #[.agg #[v, .int .i64 l.length], .int .i64 0]) ∧ Own w.heap.size v l w') := by
  have H : Hid (Rd w u l) := h
  have HC : Hid (∀ w, Rd w u l → _) := fun w h => logFault_any l u y w hl h
  obtain ⟨au, cu, rfl⟩ : ∃ au cu, u = .slice au l.length cu := by obtain ⟨_, au, cu, e, _⟩ := h; exact ⟨au, cu, e⟩
  clear h
  go_enter Try.func43, Try.ntmps43
  go_wp2_with fail
  have B0 : Below w.heap.size w ((w.alloc (.cells #[.slice au l.length cu, .int .i64 y] 46)).alloc (.cells #[.slice none 0 0, .int .i64 0] 46)) := bstep (bbox _ _) (bbox _ _)
  have L0 := (lbox_new w (.slice au l.length cu) y 46).alloc (.cells #[.slice none 0 0, .int .i64 0] 46)
  have R0 := lbox_new' (w.alloc (.cells #[.slice au l.length cu, .int .i64 y] 46)) (.slice none 0 0) 0 46 (w.heap.size + 1) (by simp)
  refine (HC.out _ (H.out.below (Nat.le_refl _) B0)).mono ?_
  rintro e w1 ⟨rfl, hb1⟩
  have B1 := bstep B0 hb1
  have L1 := L0.below hb1
  have R1 := R0.below hb1
  have hl1 := H.out.below (Nat.le_refl _) B1
  have HL1 : Hid (LBox w1 w.heap.size (.slice au l.length cu) y) := L1
  have HR1 : Hid (LBox w1 (w.heap.size + 1) (.slice none 0 0) 0) := R1
  obtain ⟨l1, l2, l3, l4⟩ := L1
  obtain ⟨r1, r2, r3, r4⟩ := R1
  clear B0 L0 R0 hb1 HC H
  by_cases h0 : lft l y = 0
  · rw [h0]
    have E : Hid _ := h0
    clear h0
    go_wp2
    go_region_with (go_at_call 63; refine (copy_one l _ _ _ hl (hl1.below (Nat.le_refl _) (by repeat (first | exact Below.refl _ _ | refine Below.drew ?_ | refine Below.alloc ?_ (Nat.le_refl _) _))) (by simp)).mono ?_; rintro e w5 ⟨v5, rfl, ho5, hb5⟩; have hB5 : Below w1.heap.size w1 w5 := bstep (by repeat (first | exact Below.refl _ _ | refine Below.drew ?_ | refine Below.alloc ?_ (Nat.le_refl _) _)) hb5; obtain ⟨a5, c5, rfl⟩ := ho5.shape; obtain ⟨m1, m2, m3, m4⟩ := LBox.below HL1.out hB5; obtain ⟨n1, n2, n3, n4⟩ := LBox.below HR1.out hB5)
    all_goals
      go_wp2
      refine bodyPost_ret (v := .tuple #[.agg #[.slice a5 l.length c5, .int .i64 l.length], .int .i64 0]) (by simp [results, Try.results43, go_sem, n1, n2, n3, n4]) rfl ⟨below_two (k := 1) (bstep B1 hB5), fun h => absurd E.out h, fun _ => ⟨_, rfl, ?_⟩⟩
      exact ((ho5.mono (C := w1.heap.size) (by simp)).setCell r1 _ _ |>.setCell r1 _ _).mono (by omega)
  · have h0' : (lft l y != 0) = true := by simp [h0]
    go_wp2
    refine bodyPost_ret (v := .tuple #[noLog, .int .i64 (lft l y)]) (by simp [results, Try.results43, go_sem, noLog, r1, r2, r3, r4]) rfl ⟨below_two (k := 1) B1, fun _ => rfl, fun h => absurd h h0⟩

set_option maxRecDepth 100000 in
set_option maxHeartbeats 2000000 in
theorem crashedOf_any (l : List Int) (u : Value) (y k : Int) (w : World) (hl : l.length ≤ 140737488355328) (h : Rd w u l) :
    Calls Try.prog 47 #[.agg #[u, .int .i64 y], .int .i64 k] w fun e w' => Below w.heap.size w w' ∧
      (crf l y k ≠ 0 → e = .returned (.tuple #[noLog, .int .i64 (crf l y k)])) ∧
      (crf l y k = 0 → ∃ v, e = .returned (.tuple #[.agg #[v, .int .i64 (decL (l.take (leftOf l y k))).2], .int .i64 0]) ∧ Own w.heap.size v (l.take (decL (l.take (leftOf l y k))).2) w') := by
  have H : Hid (Rd w u l) := h
  have HC : Hid (∀ w, Rd w u l → _) := fun w h => logFault_any l u y w hl h
  have hbs := h.1
  obtain ⟨au, cu, rfl, hcu1, hcu2, hcu3, _⟩ := h.cuts
  have HQ : Hid (∀ W, Rd W (.slice au l.length cu) l → ∀ n, n ≤ l.length → Rd W (.slice au n cu) (l.take n)) := fun W h n hn => by
    obtain ⟨au', cu', e, _, _, _, h'⟩ := h.cuts
    simp only [Value.slice.injEq] at e
    obtain ⟨rfl, _, rfl⟩ := e
    exact h' n hn
  unfold maxLen at hcu2
  clear h
  go_enter Try.func47, Try.ntmps47
  go_wp2_with fail
  have B0 : Below w.heap.size w ((w.alloc (.cells #[.slice au l.length cu, .int .i64 y] 46)).alloc (.cells #[.slice none 0 0, .int .i64 0] 46)) := bstep (bbox _ _) (bbox _ _)
  have L0 := (lbox_new w (.slice au l.length cu) y 46).alloc (.cells #[.slice none 0 0, .int .i64 0] 46)
  have R0 := lbox_new' (w.alloc (.cells #[.slice au l.length cu, .int .i64 y] 46)) (.slice none 0 0) 0 46 (w.heap.size + 1) (by simp)
  refine (HC.out _ (H.out.below (Nat.le_refl _) B0)).mono ?_
  rintro e w1 ⟨rfl, hb1⟩
  have B1 := bstep B0 hb1
  have L1 := L0.below hb1
  have R1 := R0.below hb1
  have hl1 := H.out.below (Nat.le_refl _) B1
  clear B0 L0 R0 hb1 HC H
  by_cases h0 : lft l y = 0
  · by_cases hk : k < 0
    · have E : Hid (crf l y k = 2) := show _ = _ by unfold crf; rw [if_neg (by simp [h0]), if_pos hk]
      obtain ⟨r1, r2, r3, r4⟩ := R1
      rw [h0]
      clear h0 hcu1 hl
      go_wp2
      refine bodyPost_ret (v := .tuple #[noLog, .int .i64 2]) (by simp [results, Try.results47, go_sem, noLog, r1, r2, r3, r4]) rfl ⟨below_two (k := 1) B1, fun _ => by rw [E.out], fun h => by rw [E.out] at h; simp at h⟩
    · obtain ⟨hq1, hq2, hq3, hq4, hq5, hq6⟩ := lft_ok h0
      have E : Hid (crf l y k = 0) := show _ = _ by unfold crf; rw [if_neg (by simp [h0]), if_neg hk]
      have hlb : leftOf l y k ≤ l.length := by unfold leftOf; split <;> omega
      have HT : Hid (Rd w1 (.slice au (leftOf l y k) cu) (l.take (leftOf l y k))) := HQ.out w1 hl1 _ hlb
      rw [h0]
      obtain ⟨l1, l2, l3, l4⟩ := L1
      have hl' : (l.length : Int) ≤ 40000 := by omega
      have hcu1' : (l.length : Int) ≤ cu := by omega
      clear h0 hl hcu1 hq2 hq3 hq6
      have HLE : Hid (leftOf l y k ≤ l.length ∧ l.length ≤ 40000) := ⟨hlb, by omega⟩
      have hz : (decL (l.take (leftOf l y k))).2 ≤ l.length := by
        have := (decP_len (l.take (leftOf l y k)).length (l.take (leftOf l y k)) (bytes_take hbs _)).2
        unfold decL
        exact Nat.le_trans this (by simp only [List.length_take]; omega)
      clear hq1
      by_cases hkl : k < (l.length : Int) - y
      · have hX : Hid ((y + k).toNat = leftOf l y k) := show _ = _ by unfold leftOf; rw [if_pos hkl]
        clear hlb
        go_wp2_with fail
        rw [hX.out]
        refine (entriesIn_any (l.take (leftOf l y k)) _ _ (by have := HLE.out; simp; omega) HT.out).mono ?_
        rintro e w2 ⟨va, rfl, hva, hb2⟩
        obtain ⟨ae, ce, rfl⟩ := hva.shape
        have B2 := bstep B1 hb2
        have L2 := LBox.below ⟨l1, l2, l3, l4⟩ hb2
        have R2 := R1.below hb2
        have HL2 : Hid (LBox w2 w.heap.size (.slice au l.length cu) y) := L2
        have HR2 : Hid (LBox w2 (w.heap.size + 1) (.slice none 0 0) 0) := R2
        have HT2 : Hid (Rd w2 (.slice au (decL (l.take (leftOf l y k))).2 cu) (l.take (decL (l.take (leftOf l y k))).2)) := HQ.out w2 (hl1.below (Nat.le_refl _) hb2) (decL (l.take (leftOf l y k))).2 hz
        clear l1 l2 l3 l4 hb2 B1 R1 hl1 HT hva HQ
        obtain ⟨l1, l2, l3, l4⟩ := L2
        obtain ⟨r1, r2, r3, r4⟩ := R2
        generalize hzz : (decL (l.take (leftOf l y k))).2 = z at *
        have HZ : Hid ((decL (l.take (leftOf l y k))).2 = z) := hzz
        have hz' : (z : Int) ≤ l.length := by omega
        clear hz hzz
        go_wp2_with fail
        refine (copy_one (l.take z) _ _ _ (by have := HLE.out; simp; omega) (HT2.out.below (Nat.le_refl _) (by repeat (first | exact Below.refl _ _ | refine Below.drew ?_ | refine Below.alloc ?_ (Nat.le_refl _) _))) (by simp)).mono ?_
        rintro e w5 ⟨v5, rfl, ho5, hb5⟩
        have hB5 : Below w2.heap.size w2 w5 := bstep (by repeat (first | exact Below.refl _ _ | refine Below.drew ?_ | refine Below.alloc ?_ (Nat.le_refl _) _)) hb5
        obtain ⟨a5, c5, rfl⟩ := ho5.shape
        obtain ⟨m1, m2, m3, m4⟩ := LBox.below HL2.out hB5
        obtain ⟨n1, n2, n3, n4⟩ := LBox.below HR2.out hB5
        go_wp2
        refine bodyPost_ret (v := .tuple #[.agg #[.slice a5 (l.take z).length c5, .int .i64 z], .int .i64 0]) (by simp [results, Try.results47, go_sem, n1, n2, n3, n4]) rfl ⟨below_two (k := 1) (bstep B2 hB5), fun h => absurd E.out h, fun _ => ?_⟩
        rw [HZ.out]
        refine ⟨_, rfl, ?_⟩
        exact ((ho5.mono (C := w2.heap.size) (by simp)).setCell r1 _ _ |>.setCell r1 _ _).mono (by omega)
      · have hX : Hid (l.length = leftOf l y k) := show _ = _ by unfold leftOf; rw [if_neg hkl]
        clear hlb
        go_wp2_with fail
        have hT' : Rd w1 (.slice au l.length cu) (l.take (leftOf l y k)) := by
          have h := HQ.out w1 hl1 l.length (Nat.le_refl _)
          have e : l.take (leftOf l y k) = l.take l.length := by rw [← hX.out]
          rw [e]
          exact h
        refine (entriesIn_any (l.take (leftOf l y k)) _ _ (by have := HLE.out; simp; omega) hT').mono ?_
        clear hT'
        rintro e w2 ⟨va, rfl, hva, hb2⟩
        obtain ⟨ae, ce, rfl⟩ := hva.shape
        have B2 := bstep B1 hb2
        have L2 := LBox.below ⟨l1, l2, l3, l4⟩ hb2
        have R2 := R1.below hb2
        have HL2 : Hid (LBox w2 w.heap.size (.slice au l.length cu) y) := L2
        have HR2 : Hid (LBox w2 (w.heap.size + 1) (.slice none 0 0) 0) := R2
        have HT2 : Hid (Rd w2 (.slice au (decL (l.take (leftOf l y k))).2 cu) (l.take (decL (l.take (leftOf l y k))).2)) := HQ.out w2 (hl1.below (Nat.le_refl _) hb2) (decL (l.take (leftOf l y k))).2 hz
        clear l1 l2 l3 l4 hb2 B1 R1 hl1 HT hva HQ
        obtain ⟨l1, l2, l3, l4⟩ := L2
        obtain ⟨r1, r2, r3, r4⟩ := R2
        generalize hzz : (decL (l.take (leftOf l y k))).2 = z at *
        have HZ : Hid ((decL (l.take (leftOf l y k))).2 = z) := hzz
        have hz' : (z : Int) ≤ l.length := by omega
        clear hz hzz
        go_wp2_with fail
        refine (copy_one (l.take z) _ _ _ (by have := HLE.out; simp; omega) (HT2.out.below (Nat.le_refl _) (by repeat (first | exact Below.refl _ _ | refine Below.drew ?_ | refine Below.alloc ?_ (Nat.le_refl _) _))) (by simp)).mono ?_
        rintro e w5 ⟨v5, rfl, ho5, hb5⟩
        have hB5 : Below w2.heap.size w2 w5 := bstep (by repeat (first | exact Below.refl _ _ | refine Below.drew ?_ | refine Below.alloc ?_ (Nat.le_refl _) _)) hb5
        obtain ⟨a5, c5, rfl⟩ := ho5.shape
        obtain ⟨m1, m2, m3, m4⟩ := LBox.below HL2.out hB5
        obtain ⟨n1, n2, n3, n4⟩ := LBox.below HR2.out hB5
        go_wp2
        refine bodyPost_ret (v := .tuple #[.agg #[.slice a5 (l.take z).length c5, .int .i64 z], .int .i64 0]) (by simp [results, Try.results47, go_sem, n1, n2, n3, n4]) rfl ⟨below_two (k := 1) (bstep B2 hB5), fun h => absurd E.out h, fun _ => ?_⟩
        rw [HZ.out]
        refine ⟨_, rfl, ?_⟩
        exact ((ho5.mono (C := w2.heap.size) (by simp)).setCell r1 _ _ |>.setCell r1 _ _).mono (by omega)
  · have h0' : (lft l y != 0) = true := by simp [h0]
    have E : Hid (crf l y k = lft l y) := show _ = _ by unfold crf; rw [if_pos h0]
    obtain ⟨r1, r2, r3, r4⟩ := R1
    clear hcu1 hl
    go_wp2
    refine bodyPost_ret (v := .tuple #[noLog, .int .i64 (lft l y)]) (by simp [results, Try.results47, go_sem, noLog, r1, r2, r3, r4]) rfl ⟨below_two (k := 1) B1, fun _ => by rw [E.out], fun h => absurd (E.out ▸ h) h0⟩
end

section
open Go.RowKit
set_option linter.unusedVariables false
set_option linter.unusedSimpArgs false

set_option maxRecDepth 100000 in
set_option maxHeartbeats 2000000 in
theorem appendedOf_any (l : List Int) (u : Value) (y : Int) (x : Ent) (w : World) (hl : l.length ≤ 140737488355328) (h : Rd w u l) :
    Calls Try.prog 40 #[.agg #[u, .int .i64 y], .agg #[.int .i64 x.a, .int .i64 x.b, .int .i64 x.c, .int .i64 x.d, .int .i64 x.k, .bool x.t, .string x.s]] w fun e w' => Below w.heap.size w w' ∧
      (apf l y x ≠ 0 → e = .returned (.tuple #[noLog, .int .i64 (apf l y x)])) ∧
      (apf l y x = 0 → ∃ v, e = .returned (.tuple #[.agg #[v, .int .i64 y], .int .i64 0]) ∧ Own w.heap.size v (l ++ x.enc) w') := by
  have H : Hid (Rd w u l) := h
  have hlen := (decP_len l.length l h.1)
  have hes : (decL l).1.length ≤ l.length := hlen.1
  have hbs := h.1
  clear h hlen
  by_cases h0 : lft l y = 0
  · have HC : Hid (∀ w, Rd w u l → _) := fun w h => entriesOf_ok l u y w hl h h0
    have HB : Hid (∀ w (r : Int), x.flt = r → (r != 0) = true → _) := fun w r hr h0 => bytes_bad x.a x.b x.c x.d x.k x.t x.s w r hr h0
    have HE : Hid (∀ w, x.flt = 0 → Calls Try.prog 23 #[.agg #[.int .i64 x.a, .int .i64 x.b, .int .i64 x.c, .int .i64 x.d, .int .i64 x.k, .bool x.t, .string x.s]] w fun e w' => ∃ v, e = .returned (.tuple #[v, .int .i64 0]) ∧ Own w.heap.size v x.enc w' ∧ Below w.heap.size w w') := fun w hr => bytes_ok x.a x.b x.c x.d x.k x.t x.s w hr
    have HA : Hid (apf l y x = if x.flt ≠ 0 then x.flt else if 400 ≤ (decL l).1.length ∨ 40000 < l.length + x.enc.length then 16 else 0) := show _ = _ by unfold apf; rw [if_neg (by simp [h0])]
    have hfl : l.length ≤ 64 * (decL l).1.length := by
      have h1 := dec_all hbs (lft_ok h0).2.1
      have h2 := flat_len (decL l).1 (dec_back l hbs).2.2
      rw [h1] at h2
      exact h2
    have HFL : Hid _ := hfl
    clear h0 hfl
    go_enter Try.func40, Try.ntmps40
    go_wp2_with fail
    have B0 : Below w.heap.size w (((w.alloc (.cells #[u, .int .i64 y] 46)).alloc (.cells #[.int .i64 x.a, .int .i64 x.b, .int .i64 x.c, .int .i64 x.d, .int .i64 x.k, .bool x.t, .string x.s] 23)).alloc (.cells #[.slice none 0 0, .int .i64 0] 46)) := bstep (bstep (bbox _ _) (bbox _ _)) (bbox _ _)
    have L0 := ((lbox_new w u y 46).alloc (.cells #[.int .i64 x.a, .int .i64 x.b, .int .i64 x.c, .int .i64 x.d, .int .i64 x.k, .bool x.t, .string x.s] 23)).alloc (.cells #[.slice none 0 0, .int .i64 0] 46)
    have X0 := (ebox_new (w.alloc (.cells #[u, .int .i64 y] 46)) x 23 (w.heap.size + 1) (by simp)).below (bbox _ (.cells #[.slice none 0 0, .int .i64 0] 46))
    have R0 := lbox_new' ((w.alloc (.cells #[u, .int .i64 y] 46)).alloc (.cells #[.int .i64 x.a, .int .i64 x.b, .int .i64 x.c, .int .i64 x.d, .int .i64 x.k, .bool x.t, .string x.s] 23)) (.slice none 0 0) 0 46 (w.heap.size + 1 + 1) (by simp)
    refine (HC.out _ (H.out.below (Nat.le_refl _) B0)).mono ?_
    rintro e w1 ⟨va, rfl, hva, hb1⟩
    have B1 := bstep B0 hb1
    have L1 := L0.below hb1
    have X1 := X0.below hb1
    have R1 := R0.below hb1
    obtain ⟨ae, ce, rfl⟩ := hva.shape
    clear B0 L0 X0 R0 hva hb1 HC
    obtain ⟨x1, xa, xb, xc, xd, xk, xt, xs⟩ := X1
    by_cases hf : x.flt = 0
    · go_wp2_with fail
      refine (HE.out _ hf).mono ?_
      rintro e w2 ⟨vb, rfl, hvb, hb2⟩
      have B2 := bstep B1 hb2
      obtain ⟨l1, l2, l3, l4⟩ := L1.below hb2
      obtain ⟨r1, r2, r3, r4⟩ := R1.below hb2
      have hl2 := H.out.below (Nat.le_refl _) B2
      have hbl := body_len' x hf
      have hel := enc_len x
      rw [if_neg (by simp [hf])] at HA
      obtain ⟨af, cf, rfl⟩ := hvb.shape
      obtain ⟨au, cu, rfl⟩ : ∃ au cu, u = .slice au l.length cu := by obtain ⟨_, au, cu, e, _⟩ := hl2; exact ⟨au, cu, e⟩
      have hxl : x.enc.length ≤ 64 := by omega
      clear HE HB xa xb xc xd xk xt xs x1 L1 R1 hb2 B1 hbl hel hf
      by_cases hfull : 400 ≤ (decL l).1.length ∨ 40000 < l.length + x.enc.length
      · rw [if_pos hfull] at HA
        have h5 : (400 : Int) ≤ ((decL l).1.length : Int) ∨ ((decL l).1.length : Int) < 400 ∧ (40000 : Int) < (l.length : Int) + x.enc.length := by omega
        have HL : Hid (l.length ≤ 140737488355328) := hl
        have hl' : (l.length : Int) ≤ 140737488355328 := by omega
        have hes' : ((decL l).1.length : Int) ≤ l.length := by omega
        have hxl' : (x.enc.length : Int) ≤ 64 := by omega
        clear hfull hl hxl hes
        rcases h5 with h4 | ⟨h4, h4'⟩
        all_goals
          go_wp2
          refine bodyPost_ret (v := .tuple #[noLog, .int .i64 16]) (by simp [results, Try.results40, go_sem, noLog, r1, r2, r3, r4]) rfl ⟨below_two (k := 1 + 1) B2, fun _ => by rw [HA.out], fun h => by rw [HA.out] at h; simp at h⟩
      · rw [if_neg hfull] at HA
        have h4 : ((decL l).1.length : Int) < 400 := by omega
        have hfl := HFL.out
        have HL : Hid (l.length ≤ 40000 ∧ x.enc.length ≤ 64) := ⟨by omega, hxl⟩
        have hl' : (l.length : Int) ≤ 25600 := by omega
        have hxl' : (x.enc.length : Int) ≤ 64 := by omega
        clear hfull hl hxl hes HFL hfl
        go_wp2
        have L2 : LBox w2 w.heap.size (.slice au l.length cu) y := ⟨l1, l2, l3, l4⟩
        have R2 : LBox w2 (w.heap.size + 1 + 1) (.slice none 0 0) 0 := ⟨r1, r2, r3, r4⟩
        have HL2 : Hid _ := L2
        have HR2 : Hid _ := R2
        clear L2 R2
        go_region_with (go_at_call 63; refine (copy_two l x.enc _ _ _ _ (by have := HL.out; omega) (by have := HL.out; omega) (hl2.below (Nat.le_refl _) (by repeat (first | exact Below.refl _ _ | refine Below.drew ?_ | refine Below.alloc ?_ (Nat.le_refl _) _))) (hvb.rd.below (Nat.le_refl _) (by repeat (first | exact Below.refl _ _ | refine Below.drew ?_ | refine Below.alloc ?_ (Nat.le_refl _) _))) (by simp) (by simp)).mono ?_; rintro e w5 ⟨v5, rfl, ho5, hb5⟩; have hB5 : Below w2.heap.size w2 w5 := bstep (by repeat (first | exact Below.refl _ _ | refine Below.drew ?_ | refine Below.alloc ?_ (Nat.le_refl _) _)) hb5; obtain ⟨a5, c5, rfl⟩ := ho5.shape; obtain ⟨m1, m2, m3, m4⟩ := LBox.below HL2.out hB5; obtain ⟨n1, n2, n3, n4⟩ := LBox.below HR2.out hB5)
        all_goals
          go_wp2
          refine bodyPost_ret (v := .tuple #[.agg #[.slice a5 (l ++ x.enc).length c5, .int .i64 y], .int .i64 0]) (by simp [results, Try.results40, go_sem, n1, n2, n3, n4]) rfl ⟨below_two (k := 1 + 1) (bstep B2 hB5), fun h => absurd HA.out h, fun _ => ⟨_, rfl, ?_⟩⟩
          have hlt : w.heap.size + 1 + 1 < w2.heap.size := r1
          exact ((ho5.mono (C := w2.heap.size) (by simp)).setCell hlt _ _ |>.setCell hlt _ _).mono (by omega)
    · have hf' : (x.flt != 0) = true := by simp [hf]
      have hf'' : (x.flt == 0) = false := by simp [hf]
      rw [if_pos hf] at HA
      go_wp2_with fail
      refine (HB.out _ _ rfl hf').mono ?_
      rintro e w2 ⟨rfl, hb2⟩
      have B2 := bstep B1 hb2
      obtain ⟨r1, r2, r3, r4⟩ := R1.below hb2
      obtain ⟨l1, l2, l3, l4⟩ := L1.below hb2
      clear HE HB xa xb xc xd xk xt xs x1 L1 R1 hb2 B1
      go_wp2
      refine bodyPost_ret (v := .tuple #[noLog, .int .i64 x.flt]) (by simp [results, Try.results40, go_sem, noLog, r1, r2, r3, r4]) rfl ⟨below_two (k := 1 + 1) B2, fun _ => by rw [HA.out], fun h => absurd (HA.out ▸ h) hf⟩
  · have HC : Hid (∀ w, Rd w u l → _) := fun w h => entriesOf_bad l u y w hl h h0
    have HA : Hid (apf l y x = lft l y) := show _ = _ by unfold apf; rw [if_pos (by simp [h0])]
    have h0' : (lft l y != 0) = true := by simp [h0]
    go_enter Try.func40, Try.ntmps40
    go_wp2_with fail
    have B0 : Below w.heap.size w (((w.alloc (.cells #[u, .int .i64 y] 46)).alloc (.cells #[.int .i64 x.a, .int .i64 x.b, .int .i64 x.c, .int .i64 x.d, .int .i64 x.k, .bool x.t, .string x.s] 23)).alloc (.cells #[.slice none 0 0, .int .i64 0] 46)) := bstep (bstep (bbox _ _) (bbox _ _)) (bbox _ _)
    have R0 := lbox_new' ((w.alloc (.cells #[u, .int .i64 y] 46)).alloc (.cells #[.int .i64 x.a, .int .i64 x.b, .int .i64 x.c, .int .i64 x.d, .int .i64 x.k, .bool x.t, .string x.s] 23)) (.slice none 0 0) 0 46 (w.heap.size + 1 + 1) (by simp)
    refine (HC.out _ (H.out.below (Nat.le_refl _) B0)).mono ?_
    rintro e w1 ⟨rfl, hb1⟩
    have B1 := bstep B0 hb1
    obtain ⟨r1, r2, r3, r4⟩ := R0.below hb1
    clear B0 R0 hb1 HC
    go_wp2
    refine bodyPost_ret (v := .tuple #[noLog, .int .i64 (lft l y)]) (by simp [results, Try.results40, go_sem, noLog, r1, r2, r3, r4]) rfl ⟨below_two (k := 1 + 1) B1, fun _ => by rw [HA.out], fun h => absurd (HA.out ▸ h) h0⟩
end

section
open Go.RowKit
set_option linter.unusedVariables false
set_option linter.unusedSimpArgs false

theorem cell_set_other {w : World} {b c : Nat} (o o' : Nat) (v : Value) (h : b ≠ c) : (w.setCell ⟨c, o, none⟩ v).cell? ⟨b, o', none⟩ = w.cell? ⟨b, o', none⟩ := by
  simp [World.cell?, Deep.blk_setCell_other _ _ _ _ (show b ≠ (Addr.mk c o none).block from h)]

/-- The world behind the region: the log that comes out is boxed at bo. -/
def After (w w' W6 : World) (bo : Nat) (V : Value) (y : Int) (L : List Int) : Prop :=
  LBox W6 bo V y ∧ LBox W6 (w.heap.size + 1) (.slice none 0 0) 0 ∧ Below w.heap.size w W6 ∧ Own w'.heap.size V L W6 ∧ (∀ x, Own w'.heap.size V L (W6.setCell ⟨bo, 1, none⟩ x)) ∧ w'.heap.size ≤ bo
theorem after_new {w w' w5 : World} {V : Value} {L : List Int} (B1 : Below w.heap.size w w') (hB5 : Below w'.heap.size w' w5) (hR : LBox w' (w.heap.size + 1) (.slice none 0 0) 0) (ho : Own w'.heap.size V L w5) (y : Int) (T : TypeId) :
    After w w' (w5.alloc (.cells #[V, .int .i64 y] T)) w5.heap.size V y L := by
  have hs := hB5.size
  refine ⟨lbox_new _ _ _ _, (hR.below hB5).alloc _, (bstep B1 hB5).trans ((Below.refl _ _).alloc (Nat.le_trans B1.size hs) _), ho.alloc _, fun x => ?_, hs⟩
  exact ho.below (Nat.le_refl _) (((Below.refl _ _).alloc (Nat.le_refl _) _).setCell (p := ⟨w5.heap.size, 1, none⟩) (Nat.le_refl _) x)
theorem after_old {w w' w5 : World} {V u0 : Value} {y0 : Int} {L : List Int} {bo C : Nat} (B1 : Below w.heap.size w w') (hB5 : Below w'.heap.size w' w5) (hR : LBox w' (w.heap.size + 1) (.slice none 0 0) 0) (ho : Own C V L w5) (hO : LBox w5 bo u0 y0) (h1 : w'.heap.size ≤ bo) (h2 : bo < C) (y : Int) :
    After w w' ((w5.setCell ⟨bo, 0, none⟩ V).setCell ⟨bo, 1, none⟩ (.int .i64 y)) bo V y L := by
  have hs := hB5.size
  have hR5 := hR.below hB5
  have hr := hR.1
  obtain ⟨o1, o2, o3, o4⟩ := hO
  obtain ⟨r1, r2, r3, r4⟩ := hR5
  have hne : w.heap.size + 1 ≠ bo := by omega
  refine ⟨⟨by simpa using o1, by simp [go_sem, o2, o3], by simp [go_sem, o2, o3], fun o => by simp [o4]⟩, ⟨by simpa using r1, ?_, ?_, fun o => by simp [r4]⟩, ?_, ?_, fun x => ?_, h1⟩
  · rw [cell_set_other _ _ _ hne, cell_set_other _ _ _ hne]; exact r2
  · rw [cell_set_other _ _ _ hne, cell_set_other _ _ _ hne]; exact r3
  · exact ((bstep B1 hB5).setCell (p := ⟨bo, 0, none⟩) (by show w.heap.size ≤ bo; omega) _).setCell (p := ⟨bo, 1, none⟩) (by show w.heap.size ≤ bo; omega) _
  · exact ((ho.setCell h2 _ _).setCell h2 _ _).mono (by omega)
  · exact (((ho.setCell h2 _ _).setCell h2 _ _).setCell h2 _ _).mono (by omega)

set_option maxRecDepth 100000 in
set_option maxHeartbeats 4000000 in
theorem cutOf_any (l : List Int) (u : Value) (y n : Int) (w : World) (hl : l.length ≤ 140737488355328) (h : Rd w u l) :
    Calls Try.prog 45 #[.agg #[u, .int .i64 y], .int .i64 n] w fun e w' => Below w.heap.size w w' ∧
      (cuf l y n ≠ 0 → e = .returned (.tuple #[noLog, .int .i64 (cuf l y n)])) ∧
      (cuf l y n = 0 → ∃ v, e = .returned (.tuple #[.agg #[v, .int .i64 (cutY l y n.toNat)], .int .i64 0]) ∧ Own w.heap.size v (((decL l).1.take n.toNat).flatMap Ent.enc) w') := by
  have H : Hid (Rd w u l) := h
  have hbs := h.1
  obtain ⟨au, cu, rfl, hcu1, hcu2, hcu3, _⟩ := h.cuts
  have HQ : Hid (∀ W, Rd W (.slice au l.length cu) l → ∀ n, n ≤ l.length → Rd W (.slice au n cu) (l.take n)) := fun W h n hn => by
    obtain ⟨au', cu', e, _, _, _, h'⟩ := h.cuts
    simp only [Value.slice.injEq] at e
    obtain ⟨rfl, _, rfl⟩ := e
    exact h' n hn
  unfold maxLen at hcu2
  clear h
  by_cases h0 : lft l y = 0
  · obtain ⟨hq1, hq2, hq3, hq4, hq5, hq6⟩ := lft_ok h0
    have HC : Hid (∀ w, Rd w (.slice au l.length cu) l → _) := fun w h => entriesOf_ok l (.slice au l.length cu) y w hl h h0
    have HA : Hid (cuf l y n = if n < 0 ∨ ((decL l).1.length : Int) < n then 2 else 0) := show _ = _ by unfold cuf; rw [if_neg (by simp [h0])]
    have hes : ((decL l).1.length : Int) ≤ 400 := by omega
    have HES : Hid ((decL l).1.length ≤ 400) := hq3
    have HLL : Hid (l.length ≤ 40000) := hq1
    have hl' : (l.length : Int) ≤ 40000 := by omega
    have hcu1' : (l.length : Int) ≤ cu := by omega
    have HB : Hid (∀ j, (h : j < (decL l).1.length) → l.getD (endOf (decL l).1 j) 0 = (((decL l).1[j]'h).body.length : Int) ∧ endOf (decL l).1 (j + 1) = endOf (decL l).1 j + (((decL l).1[j]'h).body.length + 3) ∧ ((decL l).1[j]'h).body.length ≤ 61) := fun j h => by
      have e1 := endOf_byte (decL l).1 j h
      rw [dec_all hbs hq2] at e1
      exact ⟨e1, by rw [endOf_succ _ _ h, enc_len], body_len' _ ((dec_back l hbs).2.2 _ (List.getElem_mem h))⟩
    have HLE : Hid (∀ j, endOf (decL l).1 j ≤ l.length) := fun j => by
      have := endOf_le (decL l).1 j
      rw [dec_all hbs hq2] at this
      exact this
    have HTK : Hid (∀ j, l.take (endOf (decL l).1 j) = ((decL l).1.take j).flatMap Ent.enc) := fun j => by
      have := endOf_take (decL l).1 j
      rw [dec_all hbs hq2] at this
      exact this
    clear h0 hl hq1 hq2 hq3 hq6 hcu1
    go_enter Try.func45, Try.ntmps45
    go_wp2_with fail
    have B0 : Below w.heap.size w ((w.alloc (.cells #[.slice au l.length cu, .int .i64 y] 46)).alloc (.cells #[.slice none 0 0, .int .i64 0] 46)) := bstep (bbox _ _) (bbox _ _)
    have L0 := (lbox_new w (.slice au l.length cu) y 46).alloc (.cells #[.slice none 0 0, .int .i64 0] 46)
    have R0 := lbox_new' (w.alloc (.cells #[.slice au l.length cu, .int .i64 y] 46)) (.slice none 0 0) 0 46 (w.heap.size + 1) (by simp)
    refine (HC.out _ (H.out.below (Nat.le_refl _) B0)).mono ?_
    rintro e w1 ⟨va, rfl, hva, hb1⟩
    have B1 := bstep B0 hb1
    have L1 := L0.below hb1
    have R1 := R0.below hb1
    have hl1 := H.out.below (Nat.le_refl _) B1
    clear B0 L0 R0 hb1 HC H
    obtain ⟨ae, ce, rfl⟩ := hva.shape
    clear hva
    by_cases hn : n < 0 ∨ ((decL l).1.length : Int) < n
    · rw [if_pos hn] at HA
      have hin : inR n 0 (decL l).1.length = false := by unfold inR; simp; omega
      obtain ⟨r1, r2, r3, r4⟩ := R1
      clear HES hn HB HLE HTK HQ hl1
      go_wp2_with fail
      refine (In_any _ _ _ _).mono ?_
      rintro e w' ⟨rfl, rfl⟩
      rw [hin]
      go_wp2
      refine bodyPost_ret (v := .tuple #[noLog, .int .i64 2]) (by simp [results, Try.results45, go_sem, noLog, r1, r2, r3, r4]) rfl ⟨below_two (k := 1) B1, fun _ => by rw [HA.out], fun h => by rw [HA.out] at h; simp at h⟩
    · rw [if_neg hn] at HA
      have hin : inR n 0 (decL l).1.length = true := by unfold inR; simp; omega
      obtain ⟨m, rfl⟩ := Int.eq_ofNat_of_zero_le (show 0 ≤ n by omega)
      have hm : (m : Int) ≤ (decL l).1.length := by omega
      have HM : Hid (m ≤ (decL l).1.length) := show _ ≤ _ by omega
      have HL1 : Hid (LBox w1 w.heap.size (.slice au l.length cu) y) := L1
      have HR1 : Hid (LBox w1 (w.heap.size + 1) (.slice none 0 0) 0) := R1
      obtain ⟨l1, l2, l3, l4⟩ := L1
      obtain ⟨r1, r2, r3, r4⟩ := R1
      clear hn
      go_wp2_with fail
      refine (In_any _ _ _ _).mono ?_
      rintro e w' ⟨rfl, rfl⟩
      rw [hin]
      clear hin
      have HRD : Hid (Rd w' (.slice au l.length cu) l) := hl1
      have HCY : Hid (cutY l y m = if y ≤ (endOf (decL l).1 m : Int) then y else endOf (decL l).1 m) := show _ = _ from rfl
      clear hl1
      go_wp2
      go_loop [9, 10] (fun a i => ∃ j : Nat, j ≤ m ∧ i = .int .i64 j ∧ a = .int .i64 (endOf (decL l).1 j : Nat)) (fun _ i => m - (intOf i).toNat)
      case atStart => exact ⟨0, Nat.zero_le _, rfl, by rw [endOf_zero]; rfl⟩
      case round =>
        obtain ⟨j, hj, rfl, rfl⟩ := hrel
        have hle := HLE.out j
        by_cases hlt : j < m
        · have hjl : j < (decL l).1.length := by have := HM.out; omega
          obtain ⟨hB1, hB2, hB3⟩ := HB.out j hjl
          have hle2 := HLE.out (j + 1)
          rw [hB2] at hle2
          obtain ⟨_, ao', cu', e', _, _, _, hcc⟩ := HRD.out
          simp only [Value.slice.injEq] at e'
          obtain ⟨rfl, _, rfl⟩ := e'
          obtain ⟨b, off, rfl, hc'⟩ := hcc (by omega)
          have hcx := hc' (endOf (decL l).1 j) (by omega)
          rw [hB1] at hcx
          have HB2 : Hid _ := hB2
          generalize (decL l).1[j].body.length = bl at *
          generalize endOf (decL l).1 j = at_ at *
          have hb3' : (bl : Int) ≤ 61 := by omega
          have hle' : (at_ : Int) < l.length := by omega
          have hlt' : (j : Int) < m := by omega
          clear hB1 hB2 hB3 HB hc' hcc
          go_wp2
          go_round
          case rel => exact ⟨j + 1, by omega, by go_num, by rw [HB2.out]; go_num⟩
          case measure => simp [intOf]; omega
        · have hjm : j = m := by omega
          subst hjm
          have HT : Hid (Rd w' (.slice au (endOf (decL l).1 j) cu) (l.take (endOf (decL l).1 j))) := HQ.out w' HRD.out _ hle
          have HF := HTK.out j
          generalize hee : endOf (decL l).1 j = ee at *
          have hee' : (ee : Int) ≤ l.length := by omega
          have HLL2 : Hid (ee ≤ l.length) := hle
          have hee0 : (0 : Int) ≤ (ee : Int) := by omega
          have hs2 : w'.heap.size < w'.heap.size + 1 + 1 := by omega
          have hd1 : ¬ (w.heap.size = w'.heap.size) := by omega
          have hd2 : ¬ (w.heap.size = w'.heap.size + 1) := by omega
          have hd3 : ¬ (w.heap.size + 1 = w'.heap.size) := by omega
          have heec : (ee : Int) ≤ (cu : Int) := by omega
          have hcuc : (cu : Int) ≤ 9223372036854775807 := by omega
          have HF' : Hid _ := HF
          clear HB HLE HTK HRD HQ hle HF hee
          go_wp2
          go_region_held3 (fun W => W.cell? ⟨w.heap.size, 0, none⟩ = some (.slice au l.length cu) ∧ W.cell? ⟨w.heap.size, 1, none⟩ = some (.int .i64 y)) (first | (refine ⟨?_, ?_⟩ <;> (rw [cell_set_other _ _ _ (by omega), cell_set_other _ _ _ (by omega)]; assumption)) | go_keep) (first | (go_at_call 63; refine (copy_one (l.take ee) _ _ _ (by have := HLL.out; simp; omega) (HT.out.below (Nat.le_refl _) (by repeat (first | exact Below.refl _ _ | refine Below.drew ?_ | refine Below.alloc ?_ (by simp) _))) (by simp)).mono ?_; rintro e w5 ⟨v5, rfl, ho5, hb5⟩; have hB5 : Below w'.heap.size w' w5 := bstep (by repeat (first | exact Below.refl _ _ | refine Below.drew ?_ | refine Below.alloc ?_ (by simp) _)) hb5; obtain ⟨a5, c5, rfl⟩ := ho5.shape; (simp only [List.length_take] at ho5); obtain ⟨m1, m2, m3, m4⟩ := LBox.below HL1.out hB5; obtain ⟨n1, n2, n3, n4⟩ := LBox.below HR1.out hB5; obtain ⟨hcc, hff⟩ := bcell hb5; have p0 := hcc w'.heap.size 0; have p1 := hcc w'.heap.size 1; have p2 := hff w'.heap.size; have q0 := hcc (w'.heap.size + 1) 0; have q1 := hcc (w'.heap.size + 1) 1; have q2 := hff (w'.heap.size + 1); (try simp [hs2] at p0 p1 p2); (try simp [hs2] at q0 q1 q2); have hm1 := Nat.ne_of_lt m1; have hm2 := Nat.ne_of_lt n1; clear hcc hff))
          · have hAf : After w w' (w5.alloc (.cells #[.slice a5 (min ee l.length) c5, .int .i64 y] 46)) w5.heap.size (.slice a5 (min ee l.length) c5) y (l.take ee) :=
              after_new B1 hB5 (HR1.out) (ho5.mono (by simp <;> omega)) y 46
            generalize w5.alloc (.cells #[.slice a5 (min ee l.length) c5, .int .i64 y] 46) = W6 at hAf ⊢
            have hw5 := hB5.size
            generalize w5.heap.size = bo at hAf hw5 ⊢
            clear m1 m2 m3 m4 n1 n2 n3 n4 p0 p1 p2 hm1 hm2 ho5 hb5 hB5
            obtain ⟨⟨o1, o2, o3, o4⟩, ⟨s1, s2, s3, s4⟩, bw, ow, ow2, hbo⟩ := hAf
            have hbo' : ¬ (w.heap.size + 1 = bo) := by omega
            have hbo'' : ¬ (bo = w.heap.size + 1) := by omega
            by_cases hye : (ee : Int) < y
            · have HY : Hid (cutY l y j = ee) := show _ = _ by (rw [HCY.out]; split <;> omega)
              go_wp2
              refine bodyPost_ret (v := .tuple #[.agg #[.slice a5 (min ee l.length) c5, .int .i64 ee], .int .i64 0]) (by simp [results, Try.results45, go_sem, o1, o2, o3, o4, s1, s2, s3, s4, hbo', hbo'']) rfl ⟨?_, fun h => absurd HA.out h, fun _ => ?_⟩
              · exact below_two (k := 1) (bw.setCell (p := ⟨bo, 1, none⟩) (by show w.heap.size ≤ bo; omega) _)
              · try simp only [Int.toNat_natCast]
                rw [HY.out, ← HF'.out]
                refine ⟨_, rfl, ?_⟩
                exact (((ow2 _).setCell r1 _ _).setCell r1 _ _).mono (by omega)
            · have HY : Hid (cutY l y j = y) := show _ = _ by (rw [HCY.out]; split <;> omega)
              go_wp2
              refine bodyPost_ret (v := .tuple #[.agg #[.slice a5 (min ee l.length) c5, .int .i64 y], .int .i64 0]) (by simp [results, Try.results45, go_sem, o1, o2, o3, o4, s1, s2, s3, s4, hbo', hbo'']) rfl ⟨below_two (k := 1) bw, fun h => absurd HA.out h, fun _ => ?_⟩
              try simp only [Int.toNat_natCast]
              rw [HY.out, ← HF'.out]
              refine ⟨_, rfl, ?_⟩
              exact ((ow.setCell r1 _ _).setCell r1 _ _).mono (by omega)
          · have hAf : After w w' ((w5.setCell ⟨w'.heap.size + 1, 0, none⟩ (.slice a5 (min ee l.length) c5)).setCell ⟨w'.heap.size + 1, 1, none⟩ (.int .i64 y)) (w'.heap.size + 1) (.slice a5 (min ee l.length) c5) y (l.take ee) :=
              after_old (C := w'.heap.size + 1 + 1) B1 hB5 HR1.out (ho5.mono (by simp)) ⟨cell_lt q0, q0, q1, q2⟩ (by omega) (by omega) y
            generalize (w5.setCell ⟨w'.heap.size + 1, 0, none⟩ (.slice a5 (min ee l.length) c5)).setCell ⟨w'.heap.size + 1, 1, none⟩ (.int .i64 y) = W6 at hAf ⊢
            have hw5 := hB5.size
            have hbs1 : w'.heap.size ≤ w'.heap.size + 1 := by omega
            generalize hbo0 : w'.heap.size + 1 = bo at hAf hbs1 ⊢
            clear m1 m2 m3 m4 n1 n2 n3 n4 p0 p1 p2 q0 q1 q2 hm1 hm2 ho5 hb5 hB5
            obtain ⟨⟨o1, o2, o3, o4⟩, ⟨s1, s2, s3, s4⟩, bw, ow, ow2, hbo⟩ := hAf
            have hbo' : ¬ (w.heap.size + 1 = bo) := by omega
            have hbo'' : ¬ (bo = w.heap.size + 1) := by omega
            by_cases hye : (ee : Int) < y
            · have HY : Hid (cutY l y j = ee) := show _ = _ by (rw [HCY.out]; split <;> omega)
              go_wp2
              refine bodyPost_ret (v := .tuple #[.agg #[.slice a5 (min ee l.length) c5, .int .i64 ee], .int .i64 0]) (by simp [results, Try.results45, go_sem, o1, o2, o3, o4, s1, s2, s3, s4, hbo', hbo'']) rfl ⟨?_, fun h => absurd HA.out h, fun _ => ?_⟩
              · exact below_two (k := 1) (bw.setCell (p := ⟨bo, 1, none⟩) (by show w.heap.size ≤ bo; omega) _)
              · try simp only [Int.toNat_natCast]
                rw [HY.out, ← HF'.out]
                refine ⟨_, rfl, ?_⟩
                exact (((ow2 _).setCell r1 _ _).setCell r1 _ _).mono (by omega)
            · have HY : Hid (cutY l y j = y) := show _ = _ by (rw [HCY.out]; split <;> omega)
              go_wp2
              refine bodyPost_ret (v := .tuple #[.agg #[.slice a5 (min ee l.length) c5, .int .i64 y], .int .i64 0]) (by simp [results, Try.results45, go_sem, o1, o2, o3, o4, s1, s2, s3, s4, hbo', hbo'']) rfl ⟨below_two (k := 1) bw, fun h => absurd HA.out h, fun _ => ?_⟩
              try simp only [Int.toNat_natCast]
              rw [HY.out, ← HF'.out]
              refine ⟨_, rfl, ?_⟩
              exact ((ow.setCell r1 _ _).setCell r1 _ _).mono (by omega)
          · have hAf : After w w' ((w5.setCell ⟨w'.heap.size, 0, none⟩ (.slice a5 (min ee l.length) c5)).setCell ⟨w'.heap.size, 1, none⟩ (.int .i64 y)) (w'.heap.size) (.slice a5 (min ee l.length) c5) y (l.take ee) :=
              after_old (C := w'.heap.size + 1 + 1) B1 hB5 HR1.out (ho5.mono (by simp)) ⟨cell_lt p0, p0, p1, p2⟩ (by omega) (by omega) y
            generalize (w5.setCell ⟨w'.heap.size, 0, none⟩ (.slice a5 (min ee l.length) c5)).setCell ⟨w'.heap.size, 1, none⟩ (.int .i64 y) = W6 at hAf ⊢
            have hw5 := hB5.size
            have hbs1 : w'.heap.size ≤ w'.heap.size := by omega
            generalize hbo0 : w'.heap.size = bo at hAf hbs1 ⊢
            clear m1 m2 m3 m4 n1 n2 n3 n4 p0 p1 p2 q0 q1 q2 hm1 hm2 ho5 hb5 hB5
            obtain ⟨⟨o1, o2, o3, o4⟩, ⟨s1, s2, s3, s4⟩, bw, ow, ow2, hbo⟩ := hAf
            have hbo' : ¬ (w.heap.size + 1 = bo) := by omega
            have hbo'' : ¬ (bo = w.heap.size + 1) := by omega
            by_cases hye : (ee : Int) < y
            · have HY : Hid (cutY l y j = ee) := show _ = _ by (rw [HCY.out]; split <;> omega)
              go_wp2
              refine bodyPost_ret (v := .tuple #[.agg #[.slice a5 (min ee l.length) c5, .int .i64 ee], .int .i64 0]) (by simp [results, Try.results45, go_sem, o1, o2, o3, o4, s1, s2, s3, s4, hbo', hbo'']) rfl ⟨?_, fun h => absurd HA.out h, fun _ => ?_⟩
              · exact below_two (k := 1) (bw.setCell (p := ⟨bo, 1, none⟩) (by show w.heap.size ≤ bo; omega) _)
              · try simp only [Int.toNat_natCast]
                rw [HY.out, ← HF'.out]
                refine ⟨_, rfl, ?_⟩
                exact (((ow2 _).setCell r1 _ _).setCell r1 _ _).mono (by omega)
            · have HY : Hid (cutY l y j = y) := show _ = _ by (rw [HCY.out]; split <;> omega)
              go_wp2
              refine bodyPost_ret (v := .tuple #[.agg #[.slice a5 (min ee l.length) c5, .int .i64 y], .int .i64 0]) (by simp [results, Try.results45, go_sem, o1, o2, o3, o4, s1, s2, s3, s4, hbo', hbo'']) rfl ⟨below_two (k := 1) bw, fun h => absurd HA.out h, fun _ => ?_⟩
              try simp only [Int.toNat_natCast]
              rw [HY.out, ← HF'.out]
              refine ⟨_, rfl, ?_⟩
              exact ((ow.setCell r1 _ _).setCell r1 _ _).mono (by omega)
  · have h0' : (lft l y != 0) = true := by simp [h0]
    have h0'' : (lft l y == 0) = false := by simp [h0]
    have E : Hid (cuf l y n = lft l y) := show _ = _ by unfold cuf; rw [if_pos h0]
    have HC : Hid (∀ w, Rd w (.slice au l.length cu) l → _) := fun w h => entriesOf_bad l (.slice au l.length cu) y w hl h h0
    go_enter Try.func45, Try.ntmps45
    go_wp2_with fail
    have B0 : Below w.heap.size w ((w.alloc (.cells #[.slice au l.length cu, .int .i64 y] 46)).alloc (.cells #[.slice none 0 0, .int .i64 0] 46)) := bstep (bbox _ _) (bbox _ _)
    have R0 := lbox_new' (w.alloc (.cells #[.slice au l.length cu, .int .i64 y] 46)) (.slice none 0 0) 0 46 (w.heap.size + 1) (by simp)
    refine (HC.out _ (H.out.below (Nat.le_refl _) B0)).mono ?_
    rintro e w1 ⟨rfl, hb1⟩
    have B1 := bstep B0 hb1
    obtain ⟨r1, r2, r3, r4⟩ := R0.below hb1
    clear B0 R0 hb1 HC hl hcu1
    go_wp2
    refine bodyPost_ret (v := .tuple #[noLog, .int .i64 (lft l y)]) (by simp [results, Try.results45, go_sem, noLog, r1, r2, r3, r4]) rfl ⟨below_two (k := 1) B1, fun _ => by rw [E.out], fun h => absurd (E.out ▸ h) h0⟩
end

section
open Go.RowKit
set_option linter.unusedVariables false
set_option linter.unusedSimpArgs false

set_option maxRecDepth 100000 in
set_option maxHeartbeats 400000 in
theorem octets_any (l : List Int) (v : Value) (w : World) (hl : l.length ≤ 140737488355328) (h : Rd w v l) :
    Calls Try.prog 25 #[v] w fun e w' => ∃ u, e = .returned u ∧ Own w.heap.size u l w' ∧ Below w.heap.size w w' := by
  have h0 := own_nil w.heap.size w (Nat.le_refl _)
  go_enter Try.func25, Try.ntmps25
  go_wp2_with (at_builtin; refine wp_app rfl _ _ rfl _ _ _ rfl h0 _ _ rfl h (by simp; omega) ?_)
  intro v' w' hown hb
  clear h h0
  go_wp2
  go_ret
  exact ⟨_, rfl, by simpa using hown, hb⟩

set_option maxRecDepth 100000 in
set_option maxHeartbeats 1000000 in
theorem sameEntries_some (es : List Ent) (g1 c1 g2 c2 : Nat) (w : World) (hl : (es.length : Int) ≤ 1099511627776)
    (h1 : ∀ i, (h : i < es.length) → ∀ j, j < 7 → w.cell? ⟨g1, i * 7 + j, none⟩ = (es[i]'h).cells[j]?) (h2 : ∀ i, (h : i < es.length) → ∀ j, j < 7 → w.cell? ⟨g2, i * 7 + j, none⟩ = (es[i]'h).cells[j]?) :
    Calls Try.prog 27 #[.slice (some ⟨g1, 0, none⟩) es.length c1, .slice (some ⟨g2, 0, none⟩) es.length c2] w fun e w' => e = .returned (.bool true) ∧ Below w.heap.size w w' := by
  have hne : ((es.length : Int) != es.length) = false := by simp
  go_enter Try.func27, Try.ntmps27
  go_wp2
  go_loopw [5] (fun i wr => ∃ k : Nat, k ≤ es.length ∧ i = .int .i64 k ∧ ∃ q, wr = w.drewN q) (fun i _ => es.length - (intOf i).toNat)
  case atStart => exact ⟨0, by omega, rfl, 0, rfl⟩
  case round =>
    obtain ⟨k, hk, rfl, q, rfl⟩ := hrel
    by_cases hlt : k < es.length
    · have A := seven (h1 k hlt)
      have B := seven (h2 k hlt)
      obtain ⟨a0, a1, a2, a3, a4, a5, a6⟩ := A
      obtain ⟨b0, b1, b2, b3, b4, b5, b6⟩ := B
      clear h1 h2
      generalize es[k] = e at *
      go_wp2
      go_quiet (fail)
      go_wp2
      go_roundw
      case rel => exact ⟨k + 1, by omega, by go_num, q + nq, rfl⟩
      case measure => simp [intOf]; omega
    · clear h1 h2
      go_wp2
      go_ret
      exact ⟨rfl, below_drewN (Below.refl _ _) _⟩

set_option maxRecDepth 100000 in
set_option maxHeartbeats 400000 in
theorem sameEntries_none (a1 a2 : Option Addr) (c1 c2 : Nat) (w : World) :
    Calls Try.prog 27 #[.slice a1 0 c1, .slice a2 0 c2] w fun e w' => e = .returned (.bool true) ∧ Below w.heap.size w w' := by
  go_enter Try.func27, Try.ntmps27
  go_wp2
  refine wp_loop_rounds 1 ?_
  rw [rounds_succ]
  go_wp2
  go_ret
  exact ⟨rfl, Below.refl _ _⟩

theorem sameEntries_any (es : List Ent) (v u : Value) (w : World) (hl : (es.length : Int) ≤ 1099511627776) (h1 : RdE w v es) (h2 : RdE w u es) :
    Calls Try.prog 27 #[v, u] w fun e w' => e = .returned (.bool true) ∧ Below w.heap.size w w' := by
  obtain ⟨a1, c1, rfl, _, _, h1⟩ := h1
  obtain ⟨a2, c2, rfl, _, _, h2⟩ := h2
  by_cases h0 : 0 < es.length
  · obtain ⟨g1, rfl, h1'⟩ := h1 h0
    obtain ⟨g2, rfl, h2'⟩ := h2 h0
    exact sameEntries_some es g1 c1 g2 c2 w hl h1' h2'
  · have hl : es = [] := List.eq_nil_of_length_eq_zero (by omega)
    subst hl
    exact sameEntries_none a1 a2 c1 c2 w
end

section
open Go.RowKit
set_option linter.unusedVariables false
set_option linter.unusedSimpArgs false

set_option maxRecDepth 100000 in
set_option maxHeartbeats 1000000 in
theorem logs_any (l : List Int) (u : Value) (y : Int) (w : World) (hl : l.length ≤ 140737488355328) (h : Rd w u l) :
    Calls Try.prog 35 #[.agg #[u, .int .i64 y]] w fun e w' => ∃ v, e = .returned (.agg #[v, .int .i64 y]) ∧ Own w.heap.size v l w' ∧ Below w.heap.size w w' := by
  have H : Hid (Rd w u l) := h
  obtain ⟨au, cu, rfl⟩ : ∃ au cu, u = .slice au l.length cu := by obtain ⟨_, au, cu, e, _⟩ := h; exact ⟨au, cu, e⟩
  clear h
  have B0 : Below w.heap.size w ((w.alloc (.cells #[.slice au l.length cu, .int .i64 y] 46)).alloc (.cells #[.slice none 0 0, .int .i64 0] 46)) := bstep (bbox _ _) (bbox _ _)
  have L0 := (lbox_new w (.slice au l.length cu) y 46).alloc (.cells #[.slice none 0 0, .int .i64 0] 46)
  have R0 := lbox_new' (w.alloc (.cells #[.slice au l.length cu, .int .i64 y] 46)) (.slice none 0 0) 0 46 (w.heap.size + 1) (by simp)
  have HB0 : Hid _ := B0
  have HL0 : Hid _ := L0
  have HR0 : Hid _ := R0
  clear B0 L0 R0
  go_enter Try.func35, Try.ntmps35
  go_wp2
  go_region_with (go_at_call 25; refine (octets_any l _ _ (by omega) (H.out.below (Nat.le_refl _) (by repeat (first | exact Below.refl _ _ | refine Below.drew ?_ | refine Below.alloc ?_ (by simp) _)))).mono ?_; rintro e w5 ⟨v5, rfl, ho5, hb5⟩; have hB5 : Below ((w.alloc (.cells #[.slice au l.length cu, .int .i64 y] 46)).alloc (.cells #[.slice none 0 0, .int .i64 0] 46)).heap.size ((w.alloc (.cells #[.slice au l.length cu, .int .i64 y] 46)).alloc (.cells #[.slice none 0 0, .int .i64 0] 46)) w5 := bstep (by repeat (first | exact Below.refl _ _ | refine Below.drew ?_)) hb5; obtain ⟨a5, c5, rfl⟩ := ho5.shape; obtain ⟨m1, m2, m3, m4⟩ := LBox.below HL0.out hB5; obtain ⟨n1, n2, n3, n4⟩ := LBox.below HR0.out hB5)
  all_goals
    go_wp2
    refine bodyPost_ret (v := .agg #[.slice a5 l.length c5, .int .i64 y]) (by simp [results, Try.results35, go_sem, n1, n2, n3, n4]) rfl ⟨_, rfl, ?_, below_two (k := 1) (bstep HB0.out hB5)⟩
    exact ((ho5.mono (C := w.heap.size + 1 + 1) (by simp)).setCell (by omega) _ _ |>.setCell (by omega) _ _).mono (by omega)

set_option maxRecDepth 100000 in
set_option maxHeartbeats 1000000 in
theorem sameLog_true (l : List Int) (u v : Value) (y : Int) (w : World) (h1 : Rd w u l) (h2 : Rd w v l) :
    Calls Try.prog 41 #[.agg #[u, .int .i64 y], .agg #[v, .int .i64 y]] w fun e w' => e = .returned (.bool true) ∧ Below w.heap.size w w' := by
  obtain ⟨a1, c1, rfl⟩ : ∃ au cu, u = .slice au l.length cu := by obtain ⟨_, au, cu, e, _⟩ := h1; exact ⟨au, cu, e⟩
  obtain ⟨a2, c2, rfl⟩ : ∃ au cu, v = .slice au l.length cu := by obtain ⟨_, au, cu, e, _⟩ := h2; exact ⟨au, cu, e⟩
  have k1 := conv_str ((h1.below (Nat.le_refl _) (bstep (bbox _ (.cells #[.slice a1 l.length c1, .int .i64 y] 46)) (bbox _ (.cells #[.slice a2 l.length c2, .int .i64 y] 46)))))
  have k2 := conv_str ((h2.below (Nat.le_refl _) (bstep (bbox _ (.cells #[.slice a1 l.length c1, .int .i64 y] 46)) (bbox _ (.cells #[.slice a2 l.length c2, .int .i64 y] 46)))))
  have hyy : (y == y) = true := by simp
  clear h1 h2
  go_enter Try.func41, Try.ntmps41
  go_wp2
  go_ret
  exact ⟨rfl, bstep (bbox _ _) (bbox _ _)⟩

set_option maxRecDepth 100000 in
set_option maxHeartbeats 1000000 in
theorem segChecks_core (l : List Int) (u : Value) (y : Int) (w : World) (hl : l.length ≤ 140737488355328) (h : Rd w u l) :
    Calls Try.prog 9 #[.agg #[u, .int .i64 y]] w fun e w' => e = .returned (.bool true) ∧ Below w.heap.size w w' := by
  have H : Hid (Rd w u l) := h
  obtain ⟨au, cu, rfl⟩ : ∃ au cu, u = .slice au l.length cu := by obtain ⟨_, au, cu, e, _⟩ := h; exact ⟨au, cu, e⟩
  clear h
  go_enter Try.func9, Try.ntmps9
  go_wp2_with fail
  refine (logs_any l _ y _ hl (H.out.below (Nat.le_refl _) (bbox _ _))).mono ?_
  rintro e w1 ⟨v1, rfl, ho1, hb1⟩
  have B1 := bstep (bbox _ _) hb1
  have L1 := (lbox_new w (.slice au l.length cu) y 46).below hb1
  have HL1 : Hid _ := L1
  clear hb1 L1
  go_wp2_with fail
  refine (segCheck_any l _ y _ hl ho1.rd).mono ?_
  rintro e w2 ⟨rfl, hb2⟩
  have B2 := bstep B1 hb2
  obtain ⟨l1, l2, l3, l4⟩ := LBox.below HL1.out hb2
  clear hb2 B1 HL1 ho1
  go_wp2_with fail
  refine (logFault_any l _ y _ hl (H.out.below (Nat.le_refl _) B2)).mono ?_
  rintro e w3 ⟨rfl, hb3⟩
  have B3 := bstep B2 hb3
  have heq : (lft l y == lft l y) = true := by simp
  clear hb3 B2 l1 l2 l3 l4 H
  go_wp2
  go_ret
  exact ⟨rfl, B3⟩

set_option maxRecDepth 100000 in
set_option maxHeartbeats 1000000 in
theorem segEntries_core (l : List Int) (u : Value) (y : Int) (w : World) (hl : l.length ≤ 140737488355328) (h : Rd w u l) :
    Calls Try.prog 10 #[.agg #[u, .int .i64 y]] w fun e w' => e = .returned (.bool true) ∧ Below w.heap.size w w' := by
  have H : Hid (Rd w u l) := h
  obtain ⟨au, cu, rfl⟩ : ∃ au cu, u = .slice au l.length cu := by obtain ⟨_, au, cu, e, _⟩ := h; exact ⟨au, cu, e⟩
  clear h
  go_enter Try.func10, Try.ntmps10
  go_wp2_with fail
  refine (logs_any l _ y _ hl (H.out.below (Nat.le_refl _) (bbox _ _))).mono ?_
  rintro e w1 ⟨v1, rfl, ho1, hb1⟩
  have B1 := bstep (bbox _ _) hb1
  have L1 := (lbox_new w (.slice au l.length cu) y 46).below hb1
  have HL1 : Hid _ := L1
  clear hb1 L1
  by_cases h0 : lft l y = 0
  · have HL : Hid ((decL l).1.length ≤ 400) := (lft_ok h0).2.2.1
    go_wp2_with fail
    refine (segEntries_ok l _ y _ hl ho1.rd h0).mono ?_
    rintro e w2 ⟨va, rfl, hva, hb2⟩
    have B2 := bstep B1 hb2
    obtain ⟨l1, l2, l3, l4⟩ := LBox.below HL1.out hb2
    clear hb2 B1 HL1 ho1
    go_wp2_with fail
    refine (entriesOf_ok l _ y _ hl (H.out.below (Nat.le_refl _) B2) h0).mono ?_
    rintro e w3 ⟨vb, rfl, hvb, hb3⟩
    have B3 := bstep B2 hb3
    have hva3 := hva.below (Nat.le_refl _) hb3
    have heq : (((decL (l.take y.toNat)).1.length : Int) == ((decL (l.take y.toNat)).1.length : Int)) = true := by simp
    clear hb3 B2 l1 l2 l3 l4 H h0 hva
    go_wp2_with fail
    refine (sameEntries_any (decL l).1 _ _ _ (by have := HL.out; omega) hva3.rd hvb.rd).mono ?_
    rintro e w4 ⟨rfl, hb4⟩
    have B4 := bstep B3 hb4
    clear hb4 B3 hva3 hvb
    go_wp2_with fail
    go_ret
    exact ⟨rfl, B4⟩
  · go_wp2_with fail
    refine (segEntries_bad l _ y _ hl ho1.rd h0).mono ?_
    rintro e w2 ⟨rfl, hb2⟩
    have B2 := bstep B1 hb2
    obtain ⟨l1, l2, l3, l4⟩ := LBox.below HL1.out hb2
    clear hb2 B1 HL1 ho1
    go_wp2_with fail
    refine (entriesOf_bad l _ y _ hl (H.out.below (Nat.le_refl _) B2) h0).mono ?_
    rintro e w3 ⟨rfl, hb3⟩
    have B3 := bstep B2 hb3
    have heq : (lft l y == lft l y) = true := by simp
    clear hb3 B2 l1 l2 l3 l4 H h0
    go_wp2_with fail
    refine (sameEntries_none none none 0 0 _).mono ?_
    rintro e w4 ⟨rfl, hb4⟩
    have B4 := bstep B3 hb4
    clear hb4 B3
    go_wp2_with fail
    go_ret
    exact ⟨rfl, B4⟩
end

end Go.Proofs.Ytknipikmbfdcnaa
