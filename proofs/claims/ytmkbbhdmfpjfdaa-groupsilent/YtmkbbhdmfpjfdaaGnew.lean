/-
  group.New and what the document says of it.
-/
import Derived.Test.YtmkbbhdmfpjfdaaCleaf
namespace Go.Proofs.Ytmkbbhdmfpjfdaa
open Go.RowKit
set_option linter.unusedVariables false
set_option linter.unusedSimpArgs false

def newG (n : Int) : Int × Int := if inR n 1 1000 = true then (n, 0) else (0, 2)
def grpV (c : Int) : Value := .agg #[.int .i64 0, .int .i64 c, .int .i64 0, .slice none 0 0, .slice none 0 0]

set_option maxRecDepth 100000 in
set_option maxHeartbeats 1000000 in
theorem gnew_any (n : Int) (w : World) :
    Calls Try.prog 18 #[.int .i64 n] w fun e w' => e = .returned (.tuple #[grpV (newG n).1, .int .i64 (newG n).2]) ∧ Below w.heap.size w w' := by
  cases h : inR n 1 1000 with
  | true =>
    have H : Hid (newG n = (n, 0)) := show _ = _ by unfold newG; rw [if_pos h]
    go_enter Try.func18, Try.ntmps18
    go_wp2_with (go_at_call 47; refine (cwithin_any _ _ _ _).mono ?_; rintro e w' ⟨rfl, rfl⟩; rw [h])
    exact bodyPost_ret (v := .tuple #[.agg #[.int .i64 0, .int .i64 n, .int .i64 0, .slice none 0 0, .slice none 0 0], .int .i64 0]) (by simp [results, Try.results18, go_sem]) rfl ⟨by rw [H.out]; rfl, (Below.refl _ _).alloc (Nat.le_refl _) _⟩
  | false =>
    have H : Hid (newG n = (0, 2)) := show _ = _ by unfold newG; rw [h]; rfl
    go_enter Try.func18, Try.ntmps18
    go_wp2_with (go_at_call 47; refine (cwithin_any _ _ _ _).mono ?_; rintro e w' ⟨rfl, rfl⟩; rw [h])
    exact bodyPost_ret (v := .tuple #[.agg #[.int .i64 0, .int .i64 0, .int .i64 0, .slice none 0 0, .slice none 0 0], .int .i64 2]) (by simp [results, Try.results18, go_sem]) rfl ⟨by rw [H.out]; rfl, (Below.refl _ _).alloc (Nat.le_refl _) _⟩

set_option maxRecDepth 100000 in
set_option maxHeartbeats 1000000 in
theorem gnewRef_any (n : Int) (w : World) :
    Calls Try.prog 19 #[.int .i64 n] w fun e w' => e = .returned (.tuple #[grpV (newG n).1, .int .i64 (newG n).2]) ∧ Below w.heap.size w w' := by
  cases h : inR n 1 1000 with
  | true =>
    have H : Hid (newG n = (n, 0)) := show _ = _ by unfold newG; rw [if_pos h]
    go_enter Try.func19, Try.ntmps19
    go_wp2_with (go_at_call 48; refine (In_any _ _ _ _).mono ?_; rintro e w' ⟨rfl, rfl⟩; rw [h])
    exact bodyPost_ret (v := .tuple #[.agg #[.int .i64 0, .int .i64 n, .int .i64 0, .slice none 0 0, .slice none 0 0], .int .i64 0]) (by simp [results, Try.results19, go_sem]) rfl ⟨by rw [H.out]; rfl, (Below.refl _ _).alloc (Nat.le_refl _) _⟩
  | false =>
    have H : Hid (newG n = (0, 2)) := show _ = _ by unfold newG; rw [h]; rfl
    go_enter Try.func19, Try.ntmps19
    go_wp2_with (go_at_call 48; refine (In_any _ _ _ _).mono ?_; rintro e w' ⟨rfl, rfl⟩; rw [h])
    exact bodyPost_ret (v := .tuple #[.agg #[.int .i64 0, .int .i64 0, .int .i64 0, .slice none 0 0, .slice none 0 0], .int .i64 2]) (by simp [results, Try.results19, go_sem]) rfl ⟨by rw [H.out]; rfl, (Below.refl _ _).alloc (Nat.le_refl _) _⟩

set_option maxRecDepth 100000 in
set_option maxHeartbeats 1000000 in
theorem sameGroup_nil (c : Int) (w : World) :
    Calls Try.prog 20 #[grpV c, grpV c] w fun e w' => e = .returned (.bool true) ∧ Below w.heap.size w w' := by
  unfold grpV
  have d1 : (c != c) = false := by simp
  go_enter Try.func20, Try.ntmps20
  have hB : Below w.heap.size w ((w.alloc (.cells #[.int .i64 0, .int .i64 c, .int .i64 0, .slice none 0 0, .slice none 0 0] 25)).alloc (.cells #[.int .i64 0, .int .i64 c, .int .i64 0, .slice none 0 0, .slice none 0 0] 25)) := bstep (bbox _ _) (bbox _ _)
  have HB : Hid _ := hB
  clear hB
  go_wp2
  refine wp_loop_rounds 1 ?_
  rw [rounds_succ]
  go_wp2
  refine wp_loop_rounds 1 ?_
  rw [rounds_succ]
  go_wp2
  go_ret
  exact ⟨rfl, HB.out⟩

set_option maxRecDepth 100000 in
set_option maxHeartbeats 1000000 in
theorem groupNew_core (n : Int) (w : World) :
    Calls Try.prog 3 #[.int .i64 n] w fun e w' => e = .returned (.bool true) ∧ Below w.heap.size w w' := by
  go_enter Try.func3, Try.ntmps3
  go_wp2_with fail
  refine (gnew_any n _).mono ?_
  rintro e w1 ⟨rfl, hb1⟩
  obtain ⟨⟨c, er⟩, hc⟩ : ∃ x, newG n = x := ⟨_, rfl⟩
  rw [hc]
  have HC : Hid (newG n = (c, er)) := hc
  have HB1 : Hid (Below w.heap.size w w1) := hb1
  clear hc hb1
  unfold grpV
  go_wp2_with fail
  refine (gnewRef_any n _).mono ?_
  rintro e w2 ⟨rfl, hb2⟩
  rw [HC.out]
  unfold grpV
  have HB2 : Hid (Below w.heap.size w w2) := bstep (bstep HB1.out (bbox _ _)) hb2
  have k0 := (hb2.cell (p := ⟨w1.heap.size, 0, none⟩) (by simp)).trans (by simp [go_sem] : (w1.alloc (.cells #[.int .i64 0, .int .i64 c, .int .i64 0, .slice none 0 0, .slice none 0 0] 25)).cell? ⟨w1.heap.size, 0, none⟩ = some (.int .i64 0))
  have k1 := (hb2.cell (p := ⟨w1.heap.size, 1, none⟩) (by simp)).trans (by simp [go_sem] : (w1.alloc (.cells #[.int .i64 0, .int .i64 c, .int .i64 0, .slice none 0 0, .slice none 0 0] 25)).cell? ⟨w1.heap.size, 1, none⟩ = some (.int .i64 c))
  have k2 := (hb2.cell (p := ⟨w1.heap.size, 2, none⟩) (by simp)).trans (by simp [go_sem] : (w1.alloc (.cells #[.int .i64 0, .int .i64 c, .int .i64 0, .slice none 0 0, .slice none 0 0] 25)).cell? ⟨w1.heap.size, 2, none⟩ = some (.int .i64 0))
  have k3 := (hb2.cell (p := ⟨w1.heap.size, 3, none⟩) (by simp)).trans (by simp [go_sem] : (w1.alloc (.cells #[.int .i64 0, .int .i64 c, .int .i64 0, .slice none 0 0, .slice none 0 0] 25)).cell? ⟨w1.heap.size, 3, none⟩ = some (.slice none 0 0))
  have k4 := (hb2.cell (p := ⟨w1.heap.size, 4, none⟩) (by simp)).trans (by simp [go_sem] : (w1.alloc (.cells #[.int .i64 0, .int .i64 c, .int .i64 0, .slice none 0 0, .slice none 0 0] 25)).cell? ⟨w1.heap.size, 4, none⟩ = some (.slice none 0 0))
  have hz : w1.heap.size < w2.heap.size := by have := hb2.size; simp at this; omega
  have hee : (er == er) = true := by simp
  clear hb2
  go_wp2_with fail
  refine (sameGroup_nil c _).mono ?_
  rintro e w3 ⟨rfl, hb3⟩
  have HB3 : Hid (Below w.heap.size w w3) := bstep (bstep HB2.out (bbox _ _)) hb3
  clear hb3 k0 k1 k2 k3 k4 hz
  go_wp2
  go_ret
  exact ⟨rfl, HB3.out⟩

end Go.Proofs.Ytmkbbhdmfpjfdaa
