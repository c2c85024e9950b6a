/-
  The document's logOf and safeOf: a replica's entries, and how many are safe.
-/
import Derived.Test.YtkolelpdedmkeaaAplain
import Derived.Test.YtkolelpdedmkeaaAdoc
namespace Go.Proofs.Ytkolelpdedmkeaa
open Go.RowKit
set_option linter.unusedVariables false
set_option linter.unusedSimpArgs false

set_option maxRecDepth 100000 in
set_option maxHeartbeats 1000000 in
theorem logOf_any (p : Prt) (vi vk vr : Value) (us : Nat → Value) (i : Nat) (w : World) (h : RdP w p vi vk vr us) (hs : (p.at i).l.length ≤ 1099511627775) (hi : i < p.rs.length) (hn : (p.rs.length : Int) ≤ 9223372036854775807) :
    Calls Try.prog 68 #[.agg #[.int .i64 p.ep, .int .i64 p.ld, vi, vk, vr, .int .i64 p.fw, .int .i64 p.bs], .int .i64 i] w fun e w' => ∃ v, e = .returned v ∧ OwnE w.heap.size v (p.at i).es w' ∧ Below w.heap.size w w' := by
  obtain ⟨ao, cap, rfl⟩ := h.2.2.shape
  have h1 := RdRs.below h.2.2 (Nat.le_refl _) (bbox w (.cells #[.int .i64 p.ep, .int .i64 p.ld, vi, vk, .slice ao p.rs.length cap, .int .i64 p.fw, .int .i64 p.bs] 26))
  obtain ⟨g, off, rfl, _, r0, r1, r2, r3, r4⟩ := h1.cells i hi
  have HR0 : Hid _ := r0
  have hi' : (i : Int) < p.rs.length := by omega
  clear h h1 r0
  go_enter Try.func68, Try.ntmps68
  go_wp2_with fail
  refine (entriesIn_any _ _ _ hs HR0.out).mono ?_
  rintro e w1 ⟨v, rfl, hv, hb⟩
  have hB := bstep (bbox _ _) hb
  have hv' := hv.mono (show w.heap.size ≤ _ by simp)
  clear hv hb r1 r2 r3 r4
  go_wp2
  go_ret
  exact ⟨v, rfl, hv', hB⟩

set_option maxRecDepth 100000 in
set_option maxHeartbeats 1000000 in
theorem safeOf_any (p : Prt) (vi vk vr : Value) (us : Nat → Value) (i : Nat) (w : World) (h : RdP w p vi vk vr us) (hs : (p.at i).l.length ≤ 1099511627775) (hi : i < p.rs.length) (hn : (p.rs.length : Int) ≤ 9223372036854775807) (hy0 : 0 ≤ (p.at i).y) (hy1 : (p.at i).y ≤ (p.at i).l.length) :
    Calls Try.prog 92 #[.agg #[.int .i64 p.ep, .int .i64 p.ld, vi, vk, vr, .int .i64 p.fw, .int .i64 p.bs], .int .i64 i] w fun e w' => e = .returned (.int .i64 (p.at i).safe) ∧ Below w.heap.size w w' := by
  obtain ⟨ao, cap, rfl⟩ := h.2.2.shape
  have hB0 := bbox w (.cells #[.int .i64 p.ep, .int .i64 p.ld, vi, vk, .slice ao p.rs.length cap, .int .i64 p.fw, .int .i64 p.bs] 26)
  have h1 := RdRs.below h.2.2 (Nat.le_refl _) hB0
  obtain ⟨g, off, rfl, _, r0, r1, r2, r3, r4⟩ := h1.cells i hi
  have hi' : (i : Int) < p.rs.length := by omega
  have HE : Hid ((p.at i).safe = (decL ((p.at i).l.take (p.at i).y.toNat)).1.length) := show _ = _ from rfl
  clear h h1
  generalize p.at i = R at *
  obtain ⟨y, hy⟩ := Int.eq_ofNat_of_zero_le hy0
  rw [hy] at r3 hy1 HE
  rw [Int.toNat_natCast] at HE
  obtain ⟨au, cu, eu, u1, u2, u3, ucut⟩ := Rd.cuts r0
  have hyl : y ≤ R.l.length := by omega
  have hB1 := hB0.trans ((bbox (w.alloc (.cells #[.int .i64 p.ep, .int .i64 p.ld, vi, vk, .slice (some ⟨g, off, none⟩) p.rs.length cap, .int .i64 p.fw, .int .i64 p.bs] 26)) (.cells #[.slice au R.l.length cu, .int .i64 y] 61)).mono hB0.size)
  have HB1 : Hid _ := hB1
  have HCUT : Hid _ := (ucut y hyl).below (Nat.le_refl _) (bbox _ (.cells #[.slice au R.l.length cu, .int .i64 y] 61))
  rw [eu] at r2
  have hyc : (y : Int) ≤ cu := by omega
  unfold maxLen at u2
  clear hy0 hB0 hy r0 hB1 ucut eu
  go_enter Try.func92, Try.ntmps92
  go_wp2_with fail
  refine (entriesIn_any (R.l.take y) _ _ (by rw [List.length_take]; omega) HCUT.out).mono ?_
  rintro e w1 ⟨v, rfl, hv, hb⟩
  have hB := bstep HB1.out hb
  obtain ⟨av, cv, rfl⟩ := hv.shape
  clear hv hb r1 r2 r3 r4 HCUT HB1
  go_wp2
  go_ret
  rw [HE.out]
  exact ⟨rfl, hB⟩

end Go.Proofs.Ytkolelpdedmkeaa
