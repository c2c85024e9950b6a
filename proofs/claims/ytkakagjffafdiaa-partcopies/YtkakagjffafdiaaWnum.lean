/-
  The walks of the two ways to write a number.
-/
import Derived.Test.YtkakagjffafdiaaWbuf
namespace Go.Proofs.Ytkakagjffafdiaa
open Go.RowKit

set_option maxRecDepth 100000 in
set_option maxHeartbeats 400000 in
theorem sevens_small (f : Nat) (n : Int) (w : World) (h0 : 0 ≤ n) (hs : n < 128) :
    Calls Try.prog 137 #[.int .i64 n] w fun e w' => ∃ v, e = .returned v ∧ Own w.heap.size v (sevF (f + 1) n.toNat) w' ∧ Below w.heap.size w w' := by
  have e : sevF (f + 1) n.toNat = [n] := by rw [sevF_small _ _ (by omega)]; simp; omega
  rw [e]
  clear e
  go_enter Try.func137, Try.ntmps137
  go_wp2
  go_ret
  exact ⟨_, rfl, own_one _ w n (by omega) (Nat.le_refl _), bbox _ _⟩

set_option maxRecDepth 100000 in
set_option maxHeartbeats 400000 in
theorem sevens_any (f : Nat) (n : Int) (w : World) (h0 : 0 ≤ n) (h1 : n.toNat < 128 ^ (f + 1)) (hm : n ≤ 1073741824) (hf : f ≤ 10) :
    Calls Try.prog 137 #[.int .i64 n] w fun e w' => ∃ v, e = .returned v ∧ Own w.heap.size v (sevF (f + 1) n.toNat) w' ∧ Below w.heap.size w w' := by
  induction f generalizing n w with
  | zero => exact sevens_small 0 n w h0 (by omega)
  | succ f ih =>
    by_cases hs : n < 128
    · exact sevens_small (f + 1) n w h0 hs
    · have IH := fun w => ih (n / 128) w (by omega) (by rw [Nat.pow_succ] at h1; omega) (by omega) (by omega)
      have e : sevF (f + 1 + 1) n.toNat = [128 + n % 128] ++ sevF (f + 1) (n / 128).toNat := by
        rw [sevF_big _ _ (by omega)]
        have e1 : (n / 128).toNat = n.toNat / 128 := by omega
        rw [e1]
        simp
        omega
      rw [e]
      have hl := sevF_len (f + 1) (n / 128).toNat
      generalize hr : sevF (f + 1) (n / 128).toNat = r at *
      have H : Hid _ := IH
      clear IH ih e h1 hr
      go_enter Try.func137, Try.ntmps137
      go_wp2_with fail
      refine (H.out _).mono ?_
      rintro e w1 ⟨v, rfl, hown, hb⟩
      have h1 := own_one w.heap.size w (128 + n % 128) (by omega) (Nat.le_refl _)
      have h2 := h1.below (Nat.le_refl _) hb
      have hb2 := bstep (bbox w (.cells #[.int .u8 (128 + n % 128)] 5)) hb
      clear hb h1
      go_wp2_with (at_builtin; refine wp_app rfl _ _ rfl _ _ _ rfl h2 _ r rfl hown.rd (by simp; omega) ?_)
      intro v' w' hown' hb'
      have hb3 : Below w.heap.size w w' := hb2.trans hb'
      clear hb2 hb' h2 hown
      go_wp2
      go_ret
      exact ⟨_, rfl, hown', hb3⟩

theorem sev_len (n : Int) : (sev n).length ≤ 5 := sevF_len 5 n.toNat
theorem sev_bytes (n : Int) : Bytes (sev n) := sevF_bytes 5 n.toNat

theorem sevens_sev (n : Int) (w : World) (h0 : 0 ≤ n) (hm : n ≤ 1073741824) :
    Calls Try.prog 137 #[.int .i64 n] w fun e w' => ∃ v, e = .returned v ∧ Own w.heap.size v (sev n) w' ∧ Below w.heap.size w w' :=
  sevens_any 4 n w h0 (by omega) hm (by omega)

theorem num_step (f : Nat) (m : Int) (l l' X : List Int) (hM : m.toNat < 128 ^ (f + 1)) (hs : ¬ m < 128) (H : l ++ X = l' ++ sevF (f + 1) m.toNat) :
    ∃ f', f = f' + 1 ∧ (m / 128).toNat < 128 ^ (f' + 1) ∧ l ++ X = (l' ++ [m % 128 + 128]) ++ sevF (f' + 1) (m / 128).toNat := by
  cases f with
  | zero => omega
  | succ f' =>
    have e1 : (m / 128).toNat = m.toNat / 128 := by omega
    refine ⟨f', rfl, by rw [Nat.pow_succ] at hM; omega, ?_⟩
    rw [H, sevF_big _ _ (by omega), e1, List.append_assoc, List.singleton_append]
    congr 2
    omega

set_option maxRecDepth 100000 in
set_option maxHeartbeats 400000 in
theorem appendNumber_any (B : Nat) (v0 : Value) (l : List Int) (n : Int) (w : World) (hown : Own B v0 l w) (hl : l.length ≤ 1000) (h0 : 0 ≤ n) (hm : n ≤ 1073741824) :
    Calls Try.prog 136 #[v0, .int .i64 n] w fun e w' => ∃ v, e = .returned v ∧ Own B v (l ++ sev n) w' ∧ Below B w w' := by
  have hs0 : sev n = sevF 5 n.toNat := rfl
  rw [hs0]
  clear hs0
  have hN : Hid (n.toNat < 128 ^ 5) := show n.toNat < 128 ^ 5 by omega
  go_enter Try.func136, Try.ntmps136
  go_wp2
  go_loopw [0, 1] (fun v i wr => ∃ (f : Nat) (m : Int) (l' : List Int), f ≤ 4 ∧ i = .int .i64 m ∧ 0 ≤ m ∧ m ≤ 1073741824 ∧ Hid (m.toNat < 128 ^ (f + 1)) ∧ l'.length + f ≤ l.length + 4 ∧ Hid (l ++ sevF 5 n.toNat = l' ++ sevF (f + 1) m.toNat) ∧ Own B v l' wr ∧ Below B w wr) (fun _ i _ => (intOf i).toNat)
  case atStart => exact ⟨4, n, l, by omega, rfl, h0, hm, hN, by omega, rfl, hown, Below.refl _ _⟩
  case round =>
    obtain ⟨f, m, l', hf, rfl, hm0, hm2, HM, hll, H, hown', hb⟩ := hrel
    clear hN
    by_cases hs : m < 128
    · have hA := hown'.alloc (.cells #[.int .u8 m] 5)
      have hr := rd_one wr m (by omega)
      go_wp2_with (at_builtin; refine wp_app rfl _ _ rfl _ _ _ rfl hA _ _ rfl hr (by simp; omega) ?_)
      intro v' w' hown2 hb2
      have hb3 : Below B w w' := (hb.alloc hown'.2.2 _).trans hb2
      clear hb2 hA hr hown' hb
      go_wp2
      go_ret
      refine ⟨_, rfl, ?_, hb3⟩
      have e : sevF (f + 1) m.toNat = [m] := by rw [sevF_small _ _ (by omega)]; simp; omega
      rw [H.out, e]
      exact hown2
    · have hA := hown'.alloc (.cells #[.int .u8 (m % 128 + 128)] 5)
      have hr := rd_one wr (m % 128 + 128) (by omega)
      go_wp2_with (at_builtin; refine wp_app rfl _ _ rfl _ _ _ rfl hA _ _ rfl hr (by simp; omega) ?_)
      intro v' w' hown2 hb2
      have hb3 : Below B w w' := (hb.alloc hown'.2.2 _).trans hb2
      clear hb2 hA hr hown' hb
      go_wp2
      go_roundw
      case rel =>
        obtain ⟨f', rfl, hM', H'⟩ := num_step f m l l' _ HM.out (by omega) H.out
        exact ⟨f', m / 128, l' ++ [m % 128 + 128], by omega, rfl, by omega, by omega, hM', by simp; omega, H', hown2, hb3⟩
      case measure => simp [intOf]; omega

end Go.Proofs.Ytkakagjffafdiaa
