/-
  The walks of the two ways to write an entry's body.
-/
import Derived.Test.YtkakagjffafdiaaWnum
namespace Go.Proofs.Ytkakagjffafdiaa
open Go.RowKit
set_option linter.unusedVariables false

theorem box_cells {w wi : World} {cs : Array Value} {T : TypeId} (hb : Below (w.heap.size + 1) (w.alloc (.cells cs T)) wi) (o : Nat) : wi.cell? ⟨w.heap.size, o, none⟩ = (w.alloc (.cells cs T)).cell? ⟨w.heap.size, o, none⟩ :=
  hb.cell (p := ⟨w.heap.size, o, none⟩) (by show w.heap.size < _; omega)
theorem below_unbox {w wi : World} {o : Obj} (hb : Below (w.heap.size + 1) (w.alloc o) wi) : Below w.heap.size w wi := (bbox w o).trans (hb.mono (by omega))

def kindB (k : Int) (t : Bool) : Int := if t then k + 16 else k
/-- The bytes of an entry's body. -/
def bodyL (a b c d k : Int) (t : Bool) (s : ByteArray) : List Int := kindB k t :: (sev a ++ (sev b ++ (sev c ++ (sev d ++ strL s))))

theorem bodyL_len (a b c d k : Int) (t : Bool) (s : ByteArray) : (bodyL a b c d k t s).length ≤ 21 + s.size := by
  have h1 := sev_len a
  have h2 := sev_len b
  have h3 := sev_len c
  have h4 := sev_len d
  simp only [bodyL, List.length_cons, List.length_append, strL_len]
  omega

set_option maxRecDepth 100000 in
set_option maxHeartbeats 2000000 in
theorem bodyOf_false (a b c d k : Int) (s : ByteArray) (w : World) (ha : 0 ≤ a ∧ a ≤ 1073741824) (hb : 0 ≤ b ∧ b ≤ 1073741824) (hc : 0 ≤ c ∧ c ≤ 1073741824) (hd : 0 ≤ d ∧ d ≤ 1073741824) (hk : 1 ≤ k ∧ k ≤ 3) (hs : s.size ≤ 40) :
    Calls Try.prog 132 #[.agg #[.int .i64 a, .int .i64 b, .int .i64 c, .int .i64 d, .int .i64 k, .bool false, .string s]] w fun e w' => ∃ v, e = .returned v ∧ Own w.heap.size v (bodyL a b c d k false s) w' ∧ Below w.heap.size w w' := by
  have hown0 := own_one (w.heap.size + 1) (w.alloc (.cells #[.int .i64 a, .int .i64 b, .int .i64 c, .int .i64 d, .int .i64 k, .bool false, .string s] 36)) k (by omega) (by simp)
  have hbel0 := bbox (w.alloc (.cells #[.int .i64 a, .int .i64 b, .int .i64 c, .int .i64 d, .int .i64 k, .bool false, .string s] 36)) (.cells #[.int .u8 k] 5)
  simp only [World.size_alloc] at hown0 hbel0
  go_enter Try.func132, Try.ntmps132
  go_wp2_with fail
  refine (sevens_sev a _ (by omega) (by omega)).mono ?_
  rintro e x1 ⟨u1, rfl, hu1, hx1⟩
  have ho1 := hown0.below (Nat.le_refl _) hx1
  have hB1 := hbel0.trans (hx1.mono hown0.2.2)
  have hL1 := sev_len a
  clear hx1 hown0 hbel0
  go_wp2_with (at_builtin; refine wp_app rfl _ _ rfl _ _ _ rfl ho1 _ _ rfl hu1.rd (by simp; omega) ?_)
  intro v1 w1 hown1 hy1
  have hbel1 := hB1.trans hy1
  have hcell1 := box_cells hbel1
  clear hy1 hB1 ho1 hu1
  go_wp2_with fail
  refine (sevens_sev b _ (by omega) (by omega)).mono ?_
  rintro e x2 ⟨u2, rfl, hu2, hx2⟩
  have ho2 := hown1.below (Nat.le_refl _) hx2
  have hB2 := hbel1.trans (hx2.mono hown1.2.2)
  have hL2 := sev_len b
  clear hx2 hown1 hbel1
  go_wp2_with (at_builtin; refine wp_app rfl _ _ rfl _ _ _ rfl ho2 _ _ rfl hu2.rd (by simp; omega) ?_)
  intro v2 w2 hown2 hy2
  have hbel2 := hB2.trans hy2
  have hcell2 := box_cells hbel2
  clear hy2 hB2 ho2 hu2
  go_wp2_with fail
  refine (sevens_sev c _ (by omega) (by omega)).mono ?_
  rintro e x3 ⟨u3, rfl, hu3, hx3⟩
  have ho3 := hown2.below (Nat.le_refl _) hx3
  have hB3 := hbel2.trans (hx3.mono hown2.2.2)
  have hL3 := sev_len c
  clear hx3 hown2 hbel2
  go_wp2_with (at_builtin; refine wp_app rfl _ _ rfl _ _ _ rfl ho3 _ _ rfl hu3.rd (by simp; omega) ?_)
  intro v3 w3 hown3 hy3
  have hbel3 := hB3.trans hy3
  have hcell3 := box_cells hbel3
  clear hy3 hB3 ho3 hu3
  go_wp2_with fail
  refine (sevens_sev d _ (by omega) (by omega)).mono ?_
  rintro e x4 ⟨u4, rfl, hu4, hx4⟩
  have ho4 := hown3.below (Nat.le_refl _) hx4
  have hB4 := hbel3.trans (hx4.mono hown3.2.2)
  have hL4 := sev_len d
  clear hx4 hown3 hbel3
  go_wp2_with (at_builtin; refine wp_app rfl _ _ rfl _ _ _ rfl ho4 _ _ rfl hu4.rd (by simp; omega) ?_)
  intro v4 w4 hown4 hy4
  have hbel4 := hB4.trans hy4
  have hcell4 := box_cells hbel4
  clear hy4 hB4 ho4 hu4
  go_wp2_with (at_builtin; refine wp_app_str rfl _ _ rfl _ _ _ rfl hown4 _ rfl (by simp; omega) ?_)
  intro v5 w5 hown5 hy5
  have hbel5 := below_unbox (hbel4.trans hy5)
  have hfin : Own w.heap.size v5 (bodyL a b c d k false s) w5 := by (have := hown5.mono (C := w.heap.size) (by omega); simpa [bodyL, kindB] using this)
  clear hy5 hown4 hbel4 hown5
  go_wp2
  go_ret
  exact ⟨_, rfl, hfin, hbel5⟩

set_option maxRecDepth 100000 in
set_option maxHeartbeats 2000000 in
theorem bodyOf_true (a b c d k : Int) (s : ByteArray) (w : World) (ha : 0 ≤ a ∧ a ≤ 1073741824) (hb : 0 ≤ b ∧ b ≤ 1073741824) (hc : 0 ≤ c ∧ c ≤ 1073741824) (hd : 0 ≤ d ∧ d ≤ 1073741824) (hk : 1 ≤ k ∧ k ≤ 3) (hs : s.size ≤ 40) :
    Calls Try.prog 132 #[.agg #[.int .i64 a, .int .i64 b, .int .i64 c, .int .i64 d, .int .i64 k, .bool true, .string s]] w fun e w' => ∃ v, e = .returned v ∧ Own w.heap.size v (bodyL a b c d k true s) w' ∧ Below w.heap.size w w' := by
  have hown0 := own_one (w.heap.size + 1) (w.alloc (.cells #[.int .i64 a, .int .i64 b, .int .i64 c, .int .i64 d, .int .i64 k, .bool true, .string s] 36)) (k + 16) (by omega) (by simp)
  have hbel0 := bbox (w.alloc (.cells #[.int .i64 a, .int .i64 b, .int .i64 c, .int .i64 d, .int .i64 k, .bool true, .string s] 36)) (.cells #[.int .u8 (k + 16)] 5)
  simp only [World.size_alloc] at hown0 hbel0
  go_enter Try.func132, Try.ntmps132
  go_wp2_with fail
  refine (sevens_sev a _ (by omega) (by omega)).mono ?_
  rintro e x1 ⟨u1, rfl, hu1, hx1⟩
  have ho1 := hown0.below (Nat.le_refl _) hx1
  have hB1 := hbel0.trans (hx1.mono hown0.2.2)
  have hL1 := sev_len a
  clear hx1 hown0 hbel0
  go_wp2_with (at_builtin; refine wp_app rfl _ _ rfl _ _ _ rfl ho1 _ _ rfl hu1.rd (by simp; omega) ?_)
  intro v1 w1 hown1 hy1
  have hbel1 := hB1.trans hy1
  have hcell1 := box_cells hbel1
  clear hy1 hB1 ho1 hu1
  go_wp2_with fail
  refine (sevens_sev b _ (by omega) (by omega)).mono ?_
  rintro e x2 ⟨u2, rfl, hu2, hx2⟩
  have ho2 := hown1.below (Nat.le_refl _) hx2
  have hB2 := hbel1.trans (hx2.mono hown1.2.2)
  have hL2 := sev_len b
  clear hx2 hown1 hbel1
  go_wp2_with (at_builtin; refine wp_app rfl _ _ rfl _ _ _ rfl ho2 _ _ rfl hu2.rd (by simp; omega) ?_)
  intro v2 w2 hown2 hy2
  have hbel2 := hB2.trans hy2
  have hcell2 := box_cells hbel2
  clear hy2 hB2 ho2 hu2
  go_wp2_with fail
  refine (sevens_sev c _ (by omega) (by omega)).mono ?_
  rintro e x3 ⟨u3, rfl, hu3, hx3⟩
  have ho3 := hown2.below (Nat.le_refl _) hx3
  have hB3 := hbel2.trans (hx3.mono hown2.2.2)
  have hL3 := sev_len c
  clear hx3 hown2 hbel2
  go_wp2_with (at_builtin; refine wp_app rfl _ _ rfl _ _ _ rfl ho3 _ _ rfl hu3.rd (by simp; omega) ?_)
  intro v3 w3 hown3 hy3
  have hbel3 := hB3.trans hy3
  have hcell3 := box_cells hbel3
  clear hy3 hB3 ho3 hu3
  go_wp2_with fail
  refine (sevens_sev d _ (by omega) (by omega)).mono ?_
  rintro e x4 ⟨u4, rfl, hu4, hx4⟩
  have ho4 := hown3.below (Nat.le_refl _) hx4
  have hB4 := hbel3.trans (hx4.mono hown3.2.2)
  have hL4 := sev_len d
  clear hx4 hown3 hbel3
  go_wp2_with (at_builtin; refine wp_app rfl _ _ rfl _ _ _ rfl ho4 _ _ rfl hu4.rd (by simp; omega) ?_)
  intro v4 w4 hown4 hy4
  have hbel4 := hB4.trans hy4
  have hcell4 := box_cells hbel4
  clear hy4 hB4 ho4 hu4
  go_wp2_with (at_builtin; refine wp_app_str rfl _ _ rfl _ _ _ rfl hown4 _ rfl (by simp; omega) ?_)
  intro v5 w5 hown5 hy5
  have hbel5 := below_unbox (hbel4.trans hy5)
  have hfin : Own w.heap.size v5 (bodyL a b c d k true s) w5 := by (have := hown5.mono (C := w.heap.size) (by omega); simpa [bodyL, kindB] using this)
  clear hy5 hown4 hbel4 hown5
  go_wp2
  go_ret
  exact ⟨_, rfl, hfin, hbel5⟩

theorem bodyOf_any (a b c d k : Int) (t : Bool) (s : ByteArray) (w : World) (ha : 0 ≤ a ∧ a ≤ 1073741824) (hb : 0 ≤ b ∧ b ≤ 1073741824) (hc : 0 ≤ c ∧ c ≤ 1073741824) (hd : 0 ≤ d ∧ d ≤ 1073741824) (hk : 1 ≤ k ∧ k ≤ 3) (hs : s.size ≤ 40) :
    Calls Try.prog 132 #[.agg #[.int .i64 a, .int .i64 b, .int .i64 c, .int .i64 d, .int .i64 k, .bool t, .string s]] w fun e w' => ∃ v, e = .returned v ∧ Own w.heap.size v (bodyL a b c d k t s) w' ∧ Below w.heap.size w w' := by
  cases t
  · exact bodyOf_false a b c d k s w ha hb hc hd hk hs
  · exact bodyOf_true a b c d k s w ha hb hc hd hk hs

/-- The body as far as the first so many numbers. -/
def bodyUp (kb a b c d : Int) : Nat → List Int
  | 0 => [kb]
  | 1 => [kb] ++ sev a
  | 2 => ([kb] ++ sev a) ++ sev b
  | 3 => (([kb] ++ sev a) ++ sev b) ++ sev c
  | _ => ((([kb] ++ sev a) ++ sev b) ++ sev c) ++ sev d

set_option maxRecDepth 100000 in
set_option maxHeartbeats 2000000 in
theorem encodeBody_false (a b c d k : Int) (s : ByteArray) (w : World) (ha : 0 ≤ a ∧ a ≤ 1073741824) (hb : 0 ≤ b ∧ b ≤ 1073741824) (hc : 0 ≤ c ∧ c ≤ 1073741824) (hd : 0 ≤ d ∧ d ≤ 1073741824) (hk : 1 ≤ k ∧ k ≤ 3) (hs : s.size ≤ 40) :
    Calls Try.prog 129 #[.agg #[.int .i64 a, .int .i64 b, .int .i64 c, .int .i64 d, .int .i64 k, .bool false, .string s]] w fun e w' => ∃ v, e = .returned v ∧ Own w.heap.size v (bodyL a b c d k false s) w' ∧ Below w.heap.size w w' := by
  have hown0 := own_one (w.heap.size + 1) (w.alloc (.cells #[.int .i64 a, .int .i64 b, .int .i64 c, .int .i64 d, .int .i64 k, .bool false, .string s] 36)) k (by omega) (by simp)
  have hbel0 := bbox (w.alloc (.cells #[.int .i64 a, .int .i64 b, .int .i64 c, .int .i64 d, .int .i64 k, .bool false, .string s] 36)) (.cells #[.int .u8 k] 5)
  simp only [World.size_alloc] at hown0 hbel0
  have i0 : ∀ w, (Instr.index 130 (.agg #[.int .i64 a, .int .i64 b, .int .i64 c, .int .i64 d]) (.int .i64 0)).run Try.prog w = .ok (.int .i64 a) w := fun _ => by kernel_rfl
  have i1 : ∀ w, (Instr.index 130 (.agg #[.int .i64 a, .int .i64 b, .int .i64 c, .int .i64 d]) (.int .i64 1)).run Try.prog w = .ok (.int .i64 b) w := fun _ => by kernel_rfl
  have i2 : ∀ w, (Instr.index 130 (.agg #[.int .i64 a, .int .i64 b, .int .i64 c, .int .i64 d]) (.int .i64 2)).run Try.prog w = .ok (.int .i64 c) w := fun _ => by kernel_rfl
  have i3 : ∀ w, (Instr.index 130 (.agg #[.int .i64 a, .int .i64 b, .int .i64 c, .int .i64 d]) (.int .i64 3)).run Try.prog w = .ok (.int .i64 d) w := fun _ => by kernel_rfl
  have hLa := sev_len a
  have hLb := sev_len b
  have hLc := sev_len c
  have hLd := sev_len d
  go_enter Try.func129, Try.ntmps129
  go_wp2
  go_loopw [4, 25] (fun v i wr => ∃ n : Nat, n ≤ 4 ∧ i = .int .i64 n ∧ Own (w.heap.size + 1) v (bodyUp k a b c d n) wr ∧ Below (w.heap.size + 1) (w.alloc (.cells #[.int .i64 a, .int .i64 b, .int .i64 c, .int .i64 d, .int .i64 k, .bool false, .string s] 36)) wr) (fun _ i _ => 4 - (intOf i).toNat)
  case atStart => exact ⟨0, by omega, rfl, hown0, hbel0⟩
  case round =>
    obtain ⟨n, hn, rfl, hown, hbel⟩ := hrel
    clear hown0 hbel0
    rcases (show n = 0 ∨ n = 1 ∨ n = 2 ∨ n = 3 ∨ n = 4 from by omega) with rfl | rfl | rfl | rfl | rfl
    · have hi := i0
      clear i0 i1 i2 i3
      go_wp2_with fail
      refine (appendNumber_any (w.heap.size + 1) _ _ _ _ hown (by simp [bodyUp] <;> omega) (by omega) (by omega)).mono ?_
      rintro e x ⟨u, rfl, hu, hx⟩
      have hb2 := hbel.trans hx
      clear hx hown hbel
      go_wp2
      go_roundw
      case rel => exact ⟨1, by omega, rfl, hu, hb2⟩
      case measure => simp [intOf]
    · have hi := i1
      clear i0 i1 i2 i3
      go_wp2_with fail
      refine (appendNumber_any (w.heap.size + 1) _ _ _ _ hown (by simp [bodyUp] <;> omega) (by omega) (by omega)).mono ?_
      rintro e x ⟨u, rfl, hu, hx⟩
      have hb2 := hbel.trans hx
      clear hx hown hbel
      go_wp2
      go_roundw
      case rel => exact ⟨2, by omega, rfl, hu, hb2⟩
      case measure => simp [intOf]
    · have hi := i2
      clear i0 i1 i2 i3
      go_wp2_with fail
      refine (appendNumber_any (w.heap.size + 1) _ _ _ _ hown (by simp [bodyUp] <;> omega) (by omega) (by omega)).mono ?_
      rintro e x ⟨u, rfl, hu, hx⟩
      have hb2 := hbel.trans hx
      clear hx hown hbel
      go_wp2
      go_roundw
      case rel => exact ⟨3, by omega, rfl, hu, hb2⟩
      case measure => simp [intOf]
    · have hi := i3
      clear i0 i1 i2 i3
      go_wp2_with fail
      refine (appendNumber_any (w.heap.size + 1) _ _ _ _ hown (by simp [bodyUp] <;> omega) (by omega) (by omega)).mono ?_
      rintro e x ⟨u, rfl, hu, hx⟩
      have hb2 := hbel.trans hx
      clear hx hown hbel
      go_wp2
      go_roundw
      case rel => exact ⟨4, by omega, rfl, hu, hb2⟩
      case measure => simp [intOf]
    · have hcell := box_cells hbel
      clear i0 i1 i2 i3
      go_wp2_with (at_builtin; refine wp_app_str rfl _ _ rfl _ _ _ rfl hown _ rfl (by simp [bodyUp]; omega) ?_)
      intro v5 w5 hown5 hy5
      have hbel5 := below_unbox (hbel.trans hy5)
      have hfin : Own w.heap.size v5 (bodyL a b c d k false s) w5 := by (have := hown5.mono (C := w.heap.size) (by omega); simpa [bodyL, kindB, bodyUp] using this)
      clear hy5 hown hbel hown5
      go_wp2
      go_ret
      exact ⟨_, rfl, hfin, hbel5⟩

set_option maxRecDepth 100000 in
set_option maxHeartbeats 2000000 in
theorem encodeBody_true (a b c d k : Int) (s : ByteArray) (w : World) (ha : 0 ≤ a ∧ a ≤ 1073741824) (hb : 0 ≤ b ∧ b ≤ 1073741824) (hc : 0 ≤ c ∧ c ≤ 1073741824) (hd : 0 ≤ d ∧ d ≤ 1073741824) (hk : 1 ≤ k ∧ k ≤ 3) (hs : s.size ≤ 40) :
    Calls Try.prog 129 #[.agg #[.int .i64 a, .int .i64 b, .int .i64 c, .int .i64 d, .int .i64 k, .bool true, .string s]] w fun e w' => ∃ v, e = .returned v ∧ Own w.heap.size v (bodyL a b c d k true s) w' ∧ Below w.heap.size w w' := by
  have hown0 := own_one (w.heap.size + 1) (w.alloc (.cells #[.int .i64 a, .int .i64 b, .int .i64 c, .int .i64 d, .int .i64 k, .bool true, .string s] 36)) (k + 16) (by omega) (by simp)
  have hbel0 := bbox (w.alloc (.cells #[.int .i64 a, .int .i64 b, .int .i64 c, .int .i64 d, .int .i64 k, .bool true, .string s] 36)) (.cells #[.int .u8 (k + 16)] 5)
  simp only [World.size_alloc] at hown0 hbel0
  have i0 : ∀ w, (Instr.index 130 (.agg #[.int .i64 a, .int .i64 b, .int .i64 c, .int .i64 d]) (.int .i64 0)).run Try.prog w = .ok (.int .i64 a) w := fun _ => by kernel_rfl
  have i1 : ∀ w, (Instr.index 130 (.agg #[.int .i64 a, .int .i64 b, .int .i64 c, .int .i64 d]) (.int .i64 1)).run Try.prog w = .ok (.int .i64 b) w := fun _ => by kernel_rfl
  have i2 : ∀ w, (Instr.index 130 (.agg #[.int .i64 a, .int .i64 b, .int .i64 c, .int .i64 d]) (.int .i64 2)).run Try.prog w = .ok (.int .i64 c) w := fun _ => by kernel_rfl
  have i3 : ∀ w, (Instr.index 130 (.agg #[.int .i64 a, .int .i64 b, .int .i64 c, .int .i64 d]) (.int .i64 3)).run Try.prog w = .ok (.int .i64 d) w := fun _ => by kernel_rfl
  have hLa := sev_len a
  have hLb := sev_len b
  have hLc := sev_len c
  have hLd := sev_len d
  go_enter Try.func129, Try.ntmps129
  go_wp2
  go_loopw [4, 25] (fun v i wr => ∃ n : Nat, n ≤ 4 ∧ i = .int .i64 n ∧ Own (w.heap.size + 1) v (bodyUp (k + 16) a b c d n) wr ∧ Below (w.heap.size + 1) (w.alloc (.cells #[.int .i64 a, .int .i64 b, .int .i64 c, .int .i64 d, .int .i64 k, .bool true, .string s] 36)) wr) (fun _ i _ => 4 - (intOf i).toNat)
  case atStart => exact ⟨0, by omega, rfl, hown0, hbel0⟩
  case round =>
    obtain ⟨n, hn, rfl, hown, hbel⟩ := hrel
    clear hown0 hbel0
    rcases (show n = 0 ∨ n = 1 ∨ n = 2 ∨ n = 3 ∨ n = 4 from by omega) with rfl | rfl | rfl | rfl | rfl
    · have hi := i0
      clear i0 i1 i2 i3
      go_wp2_with fail
      refine (appendNumber_any (w.heap.size + 1) _ _ _ _ hown (by simp [bodyUp] <;> omega) (by omega) (by omega)).mono ?_
      rintro e x ⟨u, rfl, hu, hx⟩
      have hb2 := hbel.trans hx
      clear hx hown hbel
      go_wp2
      go_roundw
      case rel => exact ⟨1, by omega, rfl, hu, hb2⟩
      case measure => simp [intOf]
    · have hi := i1
      clear i0 i1 i2 i3
      go_wp2_with fail
      refine (appendNumber_any (w.heap.size + 1) _ _ _ _ hown (by simp [bodyUp] <;> omega) (by omega) (by omega)).mono ?_
      rintro e x ⟨u, rfl, hu, hx⟩
      have hb2 := hbel.trans hx
      clear hx hown hbel
      go_wp2
      go_roundw
      case rel => exact ⟨2, by omega, rfl, hu, hb2⟩
      case measure => simp [intOf]
    · have hi := i2
      clear i0 i1 i2 i3
      go_wp2_with fail
      refine (appendNumber_any (w.heap.size + 1) _ _ _ _ hown (by simp [bodyUp] <;> omega) (by omega) (by omega)).mono ?_
      rintro e x ⟨u, rfl, hu, hx⟩
      have hb2 := hbel.trans hx
      clear hx hown hbel
      go_wp2
      go_roundw
      case rel => exact ⟨3, by omega, rfl, hu, hb2⟩
      case measure => simp [intOf]
    · have hi := i3
      clear i0 i1 i2 i3
      go_wp2_with fail
      refine (appendNumber_any (w.heap.size + 1) _ _ _ _ hown (by simp [bodyUp] <;> omega) (by omega) (by omega)).mono ?_
      rintro e x ⟨u, rfl, hu, hx⟩
      have hb2 := hbel.trans hx
      clear hx hown hbel
      go_wp2
      go_roundw
      case rel => exact ⟨4, by omega, rfl, hu, hb2⟩
      case measure => simp [intOf]
    · have hcell := box_cells hbel
      clear i0 i1 i2 i3
      go_wp2_with (at_builtin; refine wp_app_str rfl _ _ rfl _ _ _ rfl hown _ rfl (by simp [bodyUp]; omega) ?_)
      intro v5 w5 hown5 hy5
      have hbel5 := below_unbox (hbel.trans hy5)
      have hfin : Own w.heap.size v5 (bodyL a b c d k true s) w5 := by (have := hown5.mono (C := w.heap.size) (by omega); simpa [bodyL, kindB, bodyUp] using this)
      clear hy5 hown hbel hown5
      go_wp2
      go_ret
      exact ⟨_, rfl, hfin, hbel5⟩

theorem encodeBody_any (a b c d k : Int) (t : Bool) (s : ByteArray) (w : World) (ha : 0 ≤ a ∧ a ≤ 1073741824) (hb : 0 ≤ b ∧ b ≤ 1073741824) (hc : 0 ≤ c ∧ c ≤ 1073741824) (hd : 0 ≤ d ∧ d ≤ 1073741824) (hk : 1 ≤ k ∧ k ≤ 3) (hs : s.size ≤ 40) :
    Calls Try.prog 129 #[.agg #[.int .i64 a, .int .i64 b, .int .i64 c, .int .i64 d, .int .i64 k, .bool t, .string s]] w fun e w' => ∃ v, e = .returned v ∧ Own w.heap.size v (bodyL a b c d k t s) w' ∧ Below w.heap.size w w' := by
  cases t
  · exact encodeBody_false a b c d k s w ha hb hc hd hk hs
  · exact encodeBody_true a b c d k s w ha hb hc hd hk hs

end Go.Proofs.Ytkakagjffafdiaa
