/-
  The walk of the law PartNew.
-/
import Derived.Test.YtkolelpdedmkeaaPopN
import Derived.Test.YtkolelpdedmkeaaDopN
import Derived.Test.YtkolelpdedmkeaaPsame2
namespace Go.Proofs.Ytkolelpdedmkeaa
open Go.RowKit
set_option linter.unusedVariables false
set_option linter.unusedSimpArgs false

set_option maxRecDepth 100000 in
set_option maxHeartbeats 2000000 in
theorem partNew_core (n few : Int) (w : World) :
    Calls Try.prog 3 #[.int .i64 n, .int .i64 few] w fun e w' => e = .returned (.bool true) ∧ Below w.heap.size w w' := by
  go_enter Try.func3, Try.ntmps3
  go_wp2_with fail
  refine (new_any n few _).mono ?_
  rintro e w2 ⟨vi', vk', vr', us2, rfl, hrd2, hb2⟩
  generalize hPP : newP n few = PP at *
  have HPP : Hid (newP n few = PP) := hPP
  clear hPP
  obtain ⟨A, ee⟩ := PP
  simp only at hrd2
  have HB2 : Hid (Below w.heap.size w w2) := hb2
  have HA2 : Hid (RdP w2 A _ _ _ us2) := hrd2
  obtain ⟨ui, xi, uk, xk, ur, xr, rfl, rfl, rfl, -, -, -⟩ := hrd2.lens
  clear hb2 hrd2
  go_wp2_with fail
  have HAB : Hid (PBox (w2.alloc (.cells #[.int .i64 A.ep, .int .i64 A.ld, .slice ui A.isr.length xi, .slice uk A.kn.length xk, .slice ur A.rs.length xr, .int .i64 A.fw, .int .i64 A.bs] 26)) w2.heap.size A (.slice ui A.isr.length xi) (.slice uk A.kn.length xk) (.slice ur A.rs.length xr)) := pbox_new w2 A _ _ _ 26
  have HBC : Hid (Below w2.heap.size w2 (w2.alloc (.cells #[.int .i64 A.ep, .int .i64 A.ld, .slice ui A.isr.length xi, .slice uk A.kn.length xk, .slice ur A.rs.length xr, .int .i64 A.fw, .int .i64 A.bs] 26))) := bbox _ _
  have hsz2 : w2.heap.size < (w2.alloc (.cells #[.int .i64 A.ep, .int .i64 A.ld, .slice ui A.isr.length xi, .slice uk A.kn.length xk, .slice ur A.rs.length xr, .int .i64 A.fw, .int .i64 A.bs] 26)).heap.size := by simp
  generalize w2.alloc (.cells #[.int .i64 A.ep, .int .i64 A.ld, .slice ui A.isr.length xi, .slice uk A.kn.length xk, .slice ur A.rs.length xr, .int .i64 A.fw, .int .i64 A.bs] 26) = w2' at *
  have HB3 : Hid (Below w.heap.size w w2') := HB2.out.trans (HBC.out.mono HB2.out.size)
  refine (newOf_any n few _).mono ?_
  rintro e w3 ⟨zi, zk, zr, us3, rfl, hrd3, hb3⟩
  rw [HPP.out] at hrd3 ⊢
  simp only at hrd3 ⊢
  have HB4 : Hid (Below w.heap.size w w3) := HB3.out.trans (hb3.mono HB3.out.size)
  have HA3 : Hid (RdP w3 A _ _ _ us2) := RdP.below HA2.out (Nat.le_refl _) (bstep HBC.out hb3)
  have HD3 : Hid (RdP w3 A _ _ _ us3) := hrd3
  have hw3 : w2.heap.size < w3.heap.size := Nat.lt_of_lt_of_le hsz2 hb3.size
  obtain ⟨gi, ri, gk, rk, gr, rr, rfl, rfl, rfl, -, -, -⟩ := hrd3.lens
  obtain ⟨d0, d1, d2, d3, d4, d5, d6⟩ := PBox.below HAB.out hsz2 hb3
  clear hb3 hrd3 hsz2 HAB HBC HPP
  go_wp2_with fail
  refine (samePart_same A _ _ _ _ _ _ us2 us3 _ (RdP.below HA3.out (Nat.le_refl _) (by repeat (first | exact Below.refl _ _ | refine Below.setCell ?_ (Nat.le_refl _) _ | refine Below.drew ?_ | refine Below.alloc ?_ (Nat.le_refl _) _))) (RdP.below HD3.out (Nat.le_refl _) (by repeat (first | exact Below.refl _ _ | refine Below.setCell ?_ (Nat.le_refl _) _ | refine Below.drew ?_ | refine Below.alloc ?_ (Nat.le_refl _) _)))).mono ?_
  rintro e w4 ⟨rfl, hb4⟩
  have HB5 : Hid (Below w.heap.size w w4) := HB4.out.trans ((bstep (show Below w3.heap.size w3 _ from (by repeat (first | exact Below.refl _ _ | refine Below.setCell ?_ (Nat.le_refl _) _ | refine Below.drew ?_ | refine Below.alloc ?_ (Nat.le_refl _) _))) hb4).mono HB4.out.size)
  clear hb4 d0 d1 d2 d3 d4 d5 d6
  go_wp2
  go_ret
  exact ⟨rfl, HB5.out⟩

end Go.Proofs.Ytkolelpdedmkeaa
