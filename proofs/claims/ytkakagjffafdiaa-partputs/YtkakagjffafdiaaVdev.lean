/-
  Package view: isMarker, find, after.
-/
import Derived.Test.YtkakagjffafdiaaVmap
import Derived.Deep.RegionHeld3
import Derived.Deep.DeepCutAuto
namespace Go.Proofs.Ytkakagjffafdiaa
open Go.RowKit Go.Maps
set_option linter.unusedVariables false
set_option linter.unusedSimpArgs false

set_option maxRecDepth 100000 in
set_option maxHeartbeats 400000 in
theorem isMarker_yes (a b c d k : Int) (t : Bool) (s : ByteArray) (w : World) (h : k = 2 ∨ k = 3) :
    Calls Try.prog 109 #[.agg #[.int .i64 a, .int .i64 b, .int .i64 c, .int .i64 d, .int .i64 k, .bool t, .string s]] w fun e w' => e = .returned (.bool true) ∧ Below w.heap.size w w' := by
  by_cases h2 : k = 2
  · have h2' : (k == 2) = true := by simp [h2]
    clear h h2
    go_enter Try.func109, Try.ntmps109
    go_wp2
    go_ret
    exact ⟨rfl, bbox _ _⟩
  · have h2' : (k == 2) = false := by simp [h2]
    have h3' : (k == 3) = true := by rcases h with h | h <;> simp [h] <;> omega
    clear h h2
    go_enter Try.func109, Try.ntmps109
    go_wp2
    go_ret
    exact ⟨rfl, bbox _ _⟩
set_option maxRecDepth 100000 in
set_option maxHeartbeats 400000 in
theorem isMarker_no (a b c d k : Int) (t : Bool) (s : ByteArray) (w : World) (h : k = 1) :
    Calls Try.prog 109 #[.agg #[.int .i64 a, .int .i64 b, .int .i64 c, .int .i64 d, .int .i64 k, .bool t, .string s]] w fun e w' => e = .returned (.bool false) ∧ Below w.heap.size w w' := by
  have h2' : (k == 2) = false := by simp [h]
  have h3' : (k == 3) = false := by simp [h]
  clear h
  go_enter Try.func109, Try.ntmps109
  go_wp2
  go_ret
  exact ⟨rfl, bbox _ _⟩

section
variable {w : World} {ops : Array Oper} {rest : List Oper} {o : Oper} {a : Act} {Q : Exit → Act → World → Prop}
theorem wp_lookP_some (hg : o.guard = none) (m x : Operand) (hop : o.op = Op.lookup 106 m x true) (b n : Nat) (M : Int → Option Prd) (hm : a.eval m = .map (some b)) (h : MapP w b n M)
    (k : Int) (hx : a.eval x = .int .i64 k) (hk : -9223372036854775808 ≤ k ∧ k ≤ 9223372036854775807) (q : Prd) (hq : M k = some q)
    (hK : wpList Try.prog ops Q rest (a.put o.dst (.tuple #[.agg #[.int .i64 q.v, .int .i64 q.n, .int .i64 q.b, .int .i64 q.m], .bool true])) w) :
    wpList Try.prog ops Q (o :: rest) a w := by
  refine wp_lookP hg m x hop b n M hm h k hx hk ?_
  rw [hq]
  exact hK
theorem wp_lookP_none (hg : o.guard = none) (m x : Operand) (hop : o.op = Op.lookup 106 m x true) (b n : Nat) (M : Int → Option Prd) (hm : a.eval m = .map (some b)) (h : MapP w b n M)
    (k : Int) (hx : a.eval x = .int .i64 k) (hk : -9223372036854775808 ≤ k ∧ k ≤ 9223372036854775807) (hq : M k = none)
    (hK : wpList Try.prog ops Q rest (a.put o.dst (.tuple #[.agg #[.int .i64 0, .int .i64 0, .int .i64 0, .int .i64 0], .bool false])) w) :
    wpList Try.prog ops Q (o :: rest) a w := by
  refine wp_lookP hg m x hop b n M hm h k hx hk ?_
  rw [hq]
  exact hK
end

set_option maxRecDepth 100000 in
set_option maxHeartbeats 400000 in
theorem find_any (b n : Nat) (M : Int → Option Prd) (x : Ent) (w : World) (h : MapP w b n M) (hx : -9223372036854775808 ≤ x.b ∧ x.b ≤ 9223372036854775807) :
    Calls Try.prog 107 #[.map (some b), .agg #[.int .i64 x.a, .int .i64 x.b, .int .i64 x.c, .int .i64 x.d, .int .i64 x.k, .bool x.t, .string x.s]] w fun e w' => e = .returned ((M x.b).getD (Prd.new x)).val ∧ Below w.heap.size w w' := by
  have H : Hid (MapP w b n M) := h
  have HX : Hid _ := hx
  clear h hx
  cases hM : M x.b with
  | some q =>
    have HM : Hid _ := hM
    clear hM
    go_enter Try.func107, Try.ntmps107
    go_wp2_with (at_lookup; refine wp_lookP_some rfl _ _ rfl b n M rfl (MapP.below H.out (Nat.le_refl _) (by repeat (first | exact Below.refl _ _ | refine Below.drew ?_ | refine Below.alloc ?_ (by simp) _))) _ rfl HX.out q HM.out ?_)
    refine bodyPost_ret (v := .agg #[.int .i64 q.v, .int .i64 q.n, .int .i64 q.b, .int .i64 q.m]) (by simp [results, Try.results107, go_sem]) rfl ⟨rfl, ?_⟩
    repeat (first | refine Below.setCell ?_ (by simp <;> omega) _ | refine Below.alloc ?_ (by simp <;> omega) _ | refine Below.drew ?_ | exact Below.refl _ _)
  | none =>
    have HM : Hid _ := hM
    clear hM
    go_enter Try.func107, Try.ntmps107
    go_wp2_with (at_lookup; refine wp_lookP_none rfl _ _ rfl b n M rfl (MapP.below H.out (Nat.le_refl _) (by repeat (first | exact Below.refl _ _ | refine Below.drew ?_ | refine Below.alloc ?_ (by simp) _))) _ rfl HX.out HM.out ?_)
    refine bodyPost_ret (v := .agg #[.int .i64 x.c, .int .i64 0, .int .i64 (-1), .int .i64 (-1)]) (by simp [results, Try.results107, go_sem]) rfl ⟨rfl, ?_⟩
    repeat (first | refine Below.setCell ?_ (by simp <;> omega) _ | refine Below.alloc ?_ (by simp <;> omega) _ | refine Below.drew ?_ | exact Below.refl _ _)

set_option maxRecDepth 100000 in
set_option maxHeartbeats 2000000 in
theorem after_raw (qv qn qb qm a b c d k i : Int) (t : Bool) (s : ByteArray) (w : World) (hk : k = 1 ∨ k = 2 ∨ k = 3) (hd0 : 0 ≤ d) (hd1 : d ≤ 1073741824) :
    Calls Try.prog 128 #[.agg #[.int .i64 qv, .int .i64 qn, .int .i64 qb, .int .i64 qm], .agg #[.int .i64 a, .int .i64 b, .int .i64 c, .int .i64 d, .int .i64 k, .bool t, .string s], .int .i64 i] w fun e w' =>
      e = .returned (.agg #[.int .i64 c, .int .i64 (if k = 1 then d + 1 else if c = qv then qn else 0), .int .i64 (if k = 1 then (if t = true ∧ qb = -1 then i else qb) else -1), .int .i64 (if k = 1 then qm else i)]) ∧ Below w.heap.size w w' := by
  by_cases hk1 : k = 1
  · have HK : Hid (k = 1) := hk1
    have hk' : (k == 1) = true := by simp [hk1]
    simp only [if_pos hk1]
    clear hk hk1
    by_cases hv : c = qv
    · have hv' : (c != qv) = false := by simp [hv]
      have HV : Hid (c = qv) := hv
      clear hv
      cases t with
      | false =>
        simp only [Bool.false_eq_true, false_and, if_false]
        go_enter Try.func128, Try.ntmps128
        go_wp2_with fail
        refine (isMarker_no _ _ _ _ _ _ _ _ HK.out).mono ?_
        rintro e w1 ⟨rfl, hb1⟩
        obtain ⟨hc, hf⟩ := bcell hb1
        have p0 : w1.cell? ⟨w.heap.size, 0, none⟩ = some (.int .i64 qv) := by rw [hc (w.heap.size) 0 (by simp <;> omega)]; simp [go_sem]
        have r0 : w1.cell? ⟨w.heap.size + 1 + 1, 0, none⟩ = some (.int .i64 0) := by rw [hc (w.heap.size + 1 + 1) 0 (by simp <;> omega)]; simp [go_sem]
        have fp0 : w1.frozen? ⟨w.heap.size, 0, none⟩ = false := by rw [hf (w.heap.size) 0 (by simp <;> omega)]; simp [go_sem]
        have fr0 : w1.frozen? ⟨w.heap.size + 1 + 1, 0, none⟩ = false := by rw [hf (w.heap.size + 1 + 1) 0 (by simp <;> omega)]; simp [go_sem]
        have p1 : w1.cell? ⟨w.heap.size, 1, none⟩ = some (.int .i64 qn) := by rw [hc (w.heap.size) 1 (by simp <;> omega)]; simp [go_sem]
        have r1 : w1.cell? ⟨w.heap.size + 1 + 1, 1, none⟩ = some (.int .i64 0) := by rw [hc (w.heap.size + 1 + 1) 1 (by simp <;> omega)]; simp [go_sem]
        have fp1 : w1.frozen? ⟨w.heap.size, 1, none⟩ = false := by rw [hf (w.heap.size) 1 (by simp <;> omega)]; simp [go_sem]
        have fr1 : w1.frozen? ⟨w.heap.size + 1 + 1, 1, none⟩ = false := by rw [hf (w.heap.size + 1 + 1) 1 (by simp <;> omega)]; simp [go_sem]
        have p2 : w1.cell? ⟨w.heap.size, 2, none⟩ = some (.int .i64 qb) := by rw [hc (w.heap.size) 2 (by simp <;> omega)]; simp [go_sem]
        have r2 : w1.cell? ⟨w.heap.size + 1 + 1, 2, none⟩ = some (.int .i64 0) := by rw [hc (w.heap.size + 1 + 1) 2 (by simp <;> omega)]; simp [go_sem]
        have fp2 : w1.frozen? ⟨w.heap.size, 2, none⟩ = false := by rw [hf (w.heap.size) 2 (by simp <;> omega)]; simp [go_sem]
        have fr2 : w1.frozen? ⟨w.heap.size + 1 + 1, 2, none⟩ = false := by rw [hf (w.heap.size + 1 + 1) 2 (by simp <;> omega)]; simp [go_sem]
        have p3 : w1.cell? ⟨w.heap.size, 3, none⟩ = some (.int .i64 qm) := by rw [hc (w.heap.size) 3 (by simp <;> omega)]; simp [go_sem]
        have r3 : w1.cell? ⟨w.heap.size + 1 + 1, 3, none⟩ = some (.int .i64 0) := by rw [hc (w.heap.size + 1 + 1) 3 (by simp <;> omega)]; simp [go_sem]
        have fp3 : w1.frozen? ⟨w.heap.size, 3, none⟩ = false := by rw [hf (w.heap.size) 3 (by simp <;> omega)]; simp [go_sem]
        have fr3 : w1.frozen? ⟨w.heap.size + 1 + 1, 3, none⟩ = false := by rw [hf (w.heap.size + 1 + 1) 3 (by simp <;> omega)]; simp [go_sem]
        have e3 : w1.cell? ⟨w.heap.size + 1, 3, none⟩ = some (.int .i64 d) := by rw [hc (w.heap.size + 1) 3 (by simp <;> omega)]; simp [go_sem]
        have e4 : w1.cell? ⟨w.heap.size + 1, 4, none⟩ = some (.int .i64 k) := by rw [hc (w.heap.size + 1) 4 (by simp <;> omega)]; simp [go_sem]
        have e5 : w1.cell? ⟨w.heap.size + 1, 5, none⟩ = some (.bool false) := by rw [hc (w.heap.size + 1) 5 (by simp <;> omega)]; simp [go_sem]
        clear hc hf
        have hz : w.heap.size + 1 + 1 + 1 ≤ w1.heap.size := by simpa using hb1.size
        have B1 : Below w.heap.size w w1 := Below.trans (by repeat (first | refine Below.setCell ?_ (by simp <;> omega) _ | refine Below.alloc ?_ (by simp <;> omega) _ | exact Below.refl _ _)) (hb1.mono (by simp <;> omega))
        clear hb1
        go_wp2
        refine bodyPost_ret (v := .agg #[.int .i64 qv, .int .i64 (d + 1), .int .i64 qb, .int .i64 qm]) (by simp [results, Try.results128, go_sem, hz, p0, p1, p2, p3, r0, r1, r2, r3]) rfl ⟨by rw [HV.out], ?_⟩
        repeat (first | refine Below.setCell ?_ (by simp <;> omega) _ | refine Below.alloc ?_ (by omega) _ | refine Below.drew ?_ | exact B1)
      | true =>
        by_cases hb : qb = -1
        · have hb' : (qb == -1) = true := by simp [hb]
          simp only [true_and, if_pos hb]
          clear hb
          go_enter Try.func128, Try.ntmps128
          go_wp2_with fail
          refine (isMarker_no _ _ _ _ _ _ _ _ HK.out).mono ?_
          rintro e w1 ⟨rfl, hb1⟩
          obtain ⟨hc, hf⟩ := bcell hb1
          have p0 : w1.cell? ⟨w.heap.size, 0, none⟩ = some (.int .i64 qv) := by rw [hc (w.heap.size) 0 (by simp <;> omega)]; simp [go_sem]
          have r0 : w1.cell? ⟨w.heap.size + 1 + 1, 0, none⟩ = some (.int .i64 0) := by rw [hc (w.heap.size + 1 + 1) 0 (by simp <;> omega)]; simp [go_sem]
          have fp0 : w1.frozen? ⟨w.heap.size, 0, none⟩ = false := by rw [hf (w.heap.size) 0 (by simp <;> omega)]; simp [go_sem]
          have fr0 : w1.frozen? ⟨w.heap.size + 1 + 1, 0, none⟩ = false := by rw [hf (w.heap.size + 1 + 1) 0 (by simp <;> omega)]; simp [go_sem]
          have p1 : w1.cell? ⟨w.heap.size, 1, none⟩ = some (.int .i64 qn) := by rw [hc (w.heap.size) 1 (by simp <;> omega)]; simp [go_sem]
          have r1 : w1.cell? ⟨w.heap.size + 1 + 1, 1, none⟩ = some (.int .i64 0) := by rw [hc (w.heap.size + 1 + 1) 1 (by simp <;> omega)]; simp [go_sem]
          have fp1 : w1.frozen? ⟨w.heap.size, 1, none⟩ = false := by rw [hf (w.heap.size) 1 (by simp <;> omega)]; simp [go_sem]
          have fr1 : w1.frozen? ⟨w.heap.size + 1 + 1, 1, none⟩ = false := by rw [hf (w.heap.size + 1 + 1) 1 (by simp <;> omega)]; simp [go_sem]
          have p2 : w1.cell? ⟨w.heap.size, 2, none⟩ = some (.int .i64 qb) := by rw [hc (w.heap.size) 2 (by simp <;> omega)]; simp [go_sem]
          have r2 : w1.cell? ⟨w.heap.size + 1 + 1, 2, none⟩ = some (.int .i64 0) := by rw [hc (w.heap.size + 1 + 1) 2 (by simp <;> omega)]; simp [go_sem]
          have fp2 : w1.frozen? ⟨w.heap.size, 2, none⟩ = false := by rw [hf (w.heap.size) 2 (by simp <;> omega)]; simp [go_sem]
          have fr2 : w1.frozen? ⟨w.heap.size + 1 + 1, 2, none⟩ = false := by rw [hf (w.heap.size + 1 + 1) 2 (by simp <;> omega)]; simp [go_sem]
          have p3 : w1.cell? ⟨w.heap.size, 3, none⟩ = some (.int .i64 qm) := by rw [hc (w.heap.size) 3 (by simp <;> omega)]; simp [go_sem]
          have r3 : w1.cell? ⟨w.heap.size + 1 + 1, 3, none⟩ = some (.int .i64 0) := by rw [hc (w.heap.size + 1 + 1) 3 (by simp <;> omega)]; simp [go_sem]
          have fp3 : w1.frozen? ⟨w.heap.size, 3, none⟩ = false := by rw [hf (w.heap.size) 3 (by simp <;> omega)]; simp [go_sem]
          have fr3 : w1.frozen? ⟨w.heap.size + 1 + 1, 3, none⟩ = false := by rw [hf (w.heap.size + 1 + 1) 3 (by simp <;> omega)]; simp [go_sem]
          have e3 : w1.cell? ⟨w.heap.size + 1, 3, none⟩ = some (.int .i64 d) := by rw [hc (w.heap.size + 1) 3 (by simp <;> omega)]; simp [go_sem]
          have e4 : w1.cell? ⟨w.heap.size + 1, 4, none⟩ = some (.int .i64 k) := by rw [hc (w.heap.size + 1) 4 (by simp <;> omega)]; simp [go_sem]
          have e5 : w1.cell? ⟨w.heap.size + 1, 5, none⟩ = some (.bool true) := by rw [hc (w.heap.size + 1) 5 (by simp <;> omega)]; simp [go_sem]
          clear hc hf
          have hz : w.heap.size + 1 + 1 + 1 ≤ w1.heap.size := by simpa using hb1.size
          have B1 : Below w.heap.size w w1 := Below.trans (by repeat (first | refine Below.setCell ?_ (by simp <;> omega) _ | refine Below.alloc ?_ (by simp <;> omega) _ | exact Below.refl _ _)) (hb1.mono (by simp <;> omega))
          clear hb1
          go_wp2
          refine bodyPost_ret (v := .agg #[.int .i64 qv, .int .i64 (d + 1), .int .i64 i, .int .i64 qm]) (by simp [results, Try.results128, go_sem, hz, p0, p1, p2, p3, r0, r1, r2, r3]) rfl ⟨by rw [HV.out], ?_⟩
          repeat (first | refine Below.setCell ?_ (by simp <;> omega) _ | refine Below.alloc ?_ (by omega) _ | refine Below.drew ?_ | exact B1)
        · have hb' : (qb == -1) = false := by simp [hb]
          simp only [true_and, if_neg hb]
          clear hb
          go_enter Try.func128, Try.ntmps128
          go_wp2_with fail
          refine (isMarker_no _ _ _ _ _ _ _ _ HK.out).mono ?_
          rintro e w1 ⟨rfl, hb1⟩
          obtain ⟨hc, hf⟩ := bcell hb1
          have p0 : w1.cell? ⟨w.heap.size, 0, none⟩ = some (.int .i64 qv) := by rw [hc (w.heap.size) 0 (by simp <;> omega)]; simp [go_sem]
          have r0 : w1.cell? ⟨w.heap.size + 1 + 1, 0, none⟩ = some (.int .i64 0) := by rw [hc (w.heap.size + 1 + 1) 0 (by simp <;> omega)]; simp [go_sem]
          have fp0 : w1.frozen? ⟨w.heap.size, 0, none⟩ = false := by rw [hf (w.heap.size) 0 (by simp <;> omega)]; simp [go_sem]
          have fr0 : w1.frozen? ⟨w.heap.size + 1 + 1, 0, none⟩ = false := by rw [hf (w.heap.size + 1 + 1) 0 (by simp <;> omega)]; simp [go_sem]
          have p1 : w1.cell? ⟨w.heap.size, 1, none⟩ = some (.int .i64 qn) := by rw [hc (w.heap.size) 1 (by simp <;> omega)]; simp [go_sem]
          have r1 : w1.cell? ⟨w.heap.size + 1 + 1, 1, none⟩ = some (.int .i64 0) := by rw [hc (w.heap.size + 1 + 1) 1 (by simp <;> omega)]; simp [go_sem]
          have fp1 : w1.frozen? ⟨w.heap.size, 1, none⟩ = false := by rw [hf (w.heap.size) 1 (by simp <;> omega)]; simp [go_sem]
          have fr1 : w1.frozen? ⟨w.heap.size + 1 + 1, 1, none⟩ = false := by rw [hf (w.heap.size + 1 + 1) 1 (by simp <;> omega)]; simp [go_sem]
          have p2 : w1.cell? ⟨w.heap.size, 2, none⟩ = some (.int .i64 qb) := by rw [hc (w.heap.size) 2 (by simp <;> omega)]; simp [go_sem]
          have r2 : w1.cell? ⟨w.heap.size + 1 + 1, 2, none⟩ = some (.int .i64 0) := by rw [hc (w.heap.size + 1 + 1) 2 (by simp <;> omega)]; simp [go_sem]
          have fp2 : w1.frozen? ⟨w.heap.size, 2, none⟩ = false := by rw [hf (w.heap.size) 2 (by simp <;> omega)]; simp [go_sem]
          have fr2 : w1.frozen? ⟨w.heap.size + 1 + 1, 2, none⟩ = false := by rw [hf (w.heap.size + 1 + 1) 2 (by simp <;> omega)]; simp [go_sem]
          have p3 : w1.cell? ⟨w.heap.size, 3, none⟩ = some (.int .i64 qm) := by rw [hc (w.heap.size) 3 (by simp <;> omega)]; simp [go_sem]
          have r3 : w1.cell? ⟨w.heap.size + 1 + 1, 3, none⟩ = some (.int .i64 0) := by rw [hc (w.heap.size + 1 + 1) 3 (by simp <;> omega)]; simp [go_sem]
          have fp3 : w1.frozen? ⟨w.heap.size, 3, none⟩ = false := by rw [hf (w.heap.size) 3 (by simp <;> omega)]; simp [go_sem]
          have fr3 : w1.frozen? ⟨w.heap.size + 1 + 1, 3, none⟩ = false := by rw [hf (w.heap.size + 1 + 1) 3 (by simp <;> omega)]; simp [go_sem]
          have e3 : w1.cell? ⟨w.heap.size + 1, 3, none⟩ = some (.int .i64 d) := by rw [hc (w.heap.size + 1) 3 (by simp <;> omega)]; simp [go_sem]
          have e4 : w1.cell? ⟨w.heap.size + 1, 4, none⟩ = some (.int .i64 k) := by rw [hc (w.heap.size + 1) 4 (by simp <;> omega)]; simp [go_sem]
          have e5 : w1.cell? ⟨w.heap.size + 1, 5, none⟩ = some (.bool true) := by rw [hc (w.heap.size + 1) 5 (by simp <;> omega)]; simp [go_sem]
          clear hc hf
          have hz : w.heap.size + 1 + 1 + 1 ≤ w1.heap.size := by simpa using hb1.size
          have B1 : Below w.heap.size w w1 := Below.trans (by repeat (first | refine Below.setCell ?_ (by simp <;> omega) _ | refine Below.alloc ?_ (by simp <;> omega) _ | exact Below.refl _ _)) (hb1.mono (by simp <;> omega))
          clear hb1
          go_wp2
          refine bodyPost_ret (v := .agg #[.int .i64 qv, .int .i64 (d + 1), .int .i64 qb, .int .i64 qm]) (by simp [results, Try.results128, go_sem, hz, p0, p1, p2, p3, r0, r1, r2, r3]) rfl ⟨by rw [HV.out], ?_⟩
          repeat (first | refine Below.setCell ?_ (by simp <;> omega) _ | refine Below.alloc ?_ (by omega) _ | refine Below.drew ?_ | exact B1)
    · have hv' : (c != qv) = true := by simp [hv]
      clear hv
      cases t with
      | false =>
        simp only [Bool.false_eq_true, false_and, if_false]
        go_enter Try.func128, Try.ntmps128
        go_wp2_with fail
        refine (isMarker_no _ _ _ _ _ _ _ _ HK.out).mono ?_
        rintro e w1 ⟨rfl, hb1⟩
        obtain ⟨hc, hf⟩ := bcell hb1
        have p0 : w1.cell? ⟨w.heap.size, 0, none⟩ = some (.int .i64 c) := by rw [hc (w.heap.size) 0 (by simp <;> omega)]; simp [go_sem]
        have r0 : w1.cell? ⟨w.heap.size + 1 + 1, 0, none⟩ = some (.int .i64 0) := by rw [hc (w.heap.size + 1 + 1) 0 (by simp <;> omega)]; simp [go_sem]
        have fp0 : w1.frozen? ⟨w.heap.size, 0, none⟩ = false := by rw [hf (w.heap.size) 0 (by simp <;> omega)]; simp [go_sem]
        have fr0 : w1.frozen? ⟨w.heap.size + 1 + 1, 0, none⟩ = false := by rw [hf (w.heap.size + 1 + 1) 0 (by simp <;> omega)]; simp [go_sem]
        have p1 : w1.cell? ⟨w.heap.size, 1, none⟩ = some (.int .i64 0) := by rw [hc (w.heap.size) 1 (by simp <;> omega)]; simp [go_sem]
        have r1 : w1.cell? ⟨w.heap.size + 1 + 1, 1, none⟩ = some (.int .i64 0) := by rw [hc (w.heap.size + 1 + 1) 1 (by simp <;> omega)]; simp [go_sem]
        have fp1 : w1.frozen? ⟨w.heap.size, 1, none⟩ = false := by rw [hf (w.heap.size) 1 (by simp <;> omega)]; simp [go_sem]
        have fr1 : w1.frozen? ⟨w.heap.size + 1 + 1, 1, none⟩ = false := by rw [hf (w.heap.size + 1 + 1) 1 (by simp <;> omega)]; simp [go_sem]
        have p2 : w1.cell? ⟨w.heap.size, 2, none⟩ = some (.int .i64 qb) := by rw [hc (w.heap.size) 2 (by simp <;> omega)]; simp [go_sem]
        have r2 : w1.cell? ⟨w.heap.size + 1 + 1, 2, none⟩ = some (.int .i64 0) := by rw [hc (w.heap.size + 1 + 1) 2 (by simp <;> omega)]; simp [go_sem]
        have fp2 : w1.frozen? ⟨w.heap.size, 2, none⟩ = false := by rw [hf (w.heap.size) 2 (by simp <;> omega)]; simp [go_sem]
        have fr2 : w1.frozen? ⟨w.heap.size + 1 + 1, 2, none⟩ = false := by rw [hf (w.heap.size + 1 + 1) 2 (by simp <;> omega)]; simp [go_sem]
        have p3 : w1.cell? ⟨w.heap.size, 3, none⟩ = some (.int .i64 qm) := by rw [hc (w.heap.size) 3 (by simp <;> omega)]; simp [go_sem]
        have r3 : w1.cell? ⟨w.heap.size + 1 + 1, 3, none⟩ = some (.int .i64 0) := by rw [hc (w.heap.size + 1 + 1) 3 (by simp <;> omega)]; simp [go_sem]
        have fp3 : w1.frozen? ⟨w.heap.size, 3, none⟩ = false := by rw [hf (w.heap.size) 3 (by simp <;> omega)]; simp [go_sem]
        have fr3 : w1.frozen? ⟨w.heap.size + 1 + 1, 3, none⟩ = false := by rw [hf (w.heap.size + 1 + 1) 3 (by simp <;> omega)]; simp [go_sem]
        have e3 : w1.cell? ⟨w.heap.size + 1, 3, none⟩ = some (.int .i64 d) := by rw [hc (w.heap.size + 1) 3 (by simp <;> omega)]; simp [go_sem]
        have e4 : w1.cell? ⟨w.heap.size + 1, 4, none⟩ = some (.int .i64 k) := by rw [hc (w.heap.size + 1) 4 (by simp <;> omega)]; simp [go_sem]
        have e5 : w1.cell? ⟨w.heap.size + 1, 5, none⟩ = some (.bool false) := by rw [hc (w.heap.size + 1) 5 (by simp <;> omega)]; simp [go_sem]
        clear hc hf
        have hz : w.heap.size + 1 + 1 + 1 ≤ w1.heap.size := by simpa using hb1.size
        have B1 : Below w.heap.size w w1 := Below.trans (by repeat (first | refine Below.setCell ?_ (by simp <;> omega) _ | refine Below.alloc ?_ (by simp <;> omega) _ | exact Below.refl _ _)) (hb1.mono (by simp <;> omega))
        clear hb1
        go_wp2
        refine bodyPost_ret (v := .agg #[.int .i64 c, .int .i64 (d + 1), .int .i64 qb, .int .i64 qm]) (by simp [results, Try.results128, go_sem, hz, p0, p1, p2, p3, r0, r1, r2, r3]) rfl ⟨rfl, ?_⟩
        repeat (first | refine Below.setCell ?_ (by simp <;> omega) _ | refine Below.alloc ?_ (by omega) _ | refine Below.drew ?_ | exact B1)
      | true =>
        by_cases hb : qb = -1
        · have hb' : (qb == -1) = true := by simp [hb]
          simp only [true_and, if_pos hb]
          clear hb
          go_enter Try.func128, Try.ntmps128
          go_wp2_with fail
          refine (isMarker_no _ _ _ _ _ _ _ _ HK.out).mono ?_
          rintro e w1 ⟨rfl, hb1⟩
          obtain ⟨hc, hf⟩ := bcell hb1
          have p0 : w1.cell? ⟨w.heap.size, 0, none⟩ = some (.int .i64 c) := by rw [hc (w.heap.size) 0 (by simp <;> omega)]; simp [go_sem]
          have r0 : w1.cell? ⟨w.heap.size + 1 + 1, 0, none⟩ = some (.int .i64 0) := by rw [hc (w.heap.size + 1 + 1) 0 (by simp <;> omega)]; simp [go_sem]
          have fp0 : w1.frozen? ⟨w.heap.size, 0, none⟩ = false := by rw [hf (w.heap.size) 0 (by simp <;> omega)]; simp [go_sem]
          have fr0 : w1.frozen? ⟨w.heap.size + 1 + 1, 0, none⟩ = false := by rw [hf (w.heap.size + 1 + 1) 0 (by simp <;> omega)]; simp [go_sem]
          have p1 : w1.cell? ⟨w.heap.size, 1, none⟩ = some (.int .i64 0) := by rw [hc (w.heap.size) 1 (by simp <;> omega)]; simp [go_sem]
          have r1 : w1.cell? ⟨w.heap.size + 1 + 1, 1, none⟩ = some (.int .i64 0) := by rw [hc (w.heap.size + 1 + 1) 1 (by simp <;> omega)]; simp [go_sem]
          have fp1 : w1.frozen? ⟨w.heap.size, 1, none⟩ = false := by rw [hf (w.heap.size) 1 (by simp <;> omega)]; simp [go_sem]
          have fr1 : w1.frozen? ⟨w.heap.size + 1 + 1, 1, none⟩ = false := by rw [hf (w.heap.size + 1 + 1) 1 (by simp <;> omega)]; simp [go_sem]
          have p2 : w1.cell? ⟨w.heap.size, 2, none⟩ = some (.int .i64 qb) := by rw [hc (w.heap.size) 2 (by simp <;> omega)]; simp [go_sem]
          have r2 : w1.cell? ⟨w.heap.size + 1 + 1, 2, none⟩ = some (.int .i64 0) := by rw [hc (w.heap.size + 1 + 1) 2 (by simp <;> omega)]; simp [go_sem]
          have fp2 : w1.frozen? ⟨w.heap.size, 2, none⟩ = false := by rw [hf (w.heap.size) 2 (by simp <;> omega)]; simp [go_sem]
          have fr2 : w1.frozen? ⟨w.heap.size + 1 + 1, 2, none⟩ = false := by rw [hf (w.heap.size + 1 + 1) 2 (by simp <;> omega)]; simp [go_sem]
          have p3 : w1.cell? ⟨w.heap.size, 3, none⟩ = some (.int .i64 qm) := by rw [hc (w.heap.size) 3 (by simp <;> omega)]; simp [go_sem]
          have r3 : w1.cell? ⟨w.heap.size + 1 + 1, 3, none⟩ = some (.int .i64 0) := by rw [hc (w.heap.size + 1 + 1) 3 (by simp <;> omega)]; simp [go_sem]
          have fp3 : w1.frozen? ⟨w.heap.size, 3, none⟩ = false := by rw [hf (w.heap.size) 3 (by simp <;> omega)]; simp [go_sem]
          have fr3 : w1.frozen? ⟨w.heap.size + 1 + 1, 3, none⟩ = false := by rw [hf (w.heap.size + 1 + 1) 3 (by simp <;> omega)]; simp [go_sem]
          have e3 : w1.cell? ⟨w.heap.size + 1, 3, none⟩ = some (.int .i64 d) := by rw [hc (w.heap.size + 1) 3 (by simp <;> omega)]; simp [go_sem]
          have e4 : w1.cell? ⟨w.heap.size + 1, 4, none⟩ = some (.int .i64 k) := by rw [hc (w.heap.size + 1) 4 (by simp <;> omega)]; simp [go_sem]
          have e5 : w1.cell? ⟨w.heap.size + 1, 5, none⟩ = some (.bool true) := by rw [hc (w.heap.size + 1) 5 (by simp <;> omega)]; simp [go_sem]
          clear hc hf
          have hz : w.heap.size + 1 + 1 + 1 ≤ w1.heap.size := by simpa using hb1.size
          have B1 : Below w.heap.size w w1 := Below.trans (by repeat (first | refine Below.setCell ?_ (by simp <;> omega) _ | refine Below.alloc ?_ (by simp <;> omega) _ | exact Below.refl _ _)) (hb1.mono (by simp <;> omega))
          clear hb1
          go_wp2
          refine bodyPost_ret (v := .agg #[.int .i64 c, .int .i64 (d + 1), .int .i64 i, .int .i64 qm]) (by simp [results, Try.results128, go_sem, hz, p0, p1, p2, p3, r0, r1, r2, r3]) rfl ⟨rfl, ?_⟩
          repeat (first | refine Below.setCell ?_ (by simp <;> omega) _ | refine Below.alloc ?_ (by omega) _ | refine Below.drew ?_ | exact B1)
        · have hb' : (qb == -1) = false := by simp [hb]
          simp only [true_and, if_neg hb]
          clear hb
          go_enter Try.func128, Try.ntmps128
          go_wp2_with fail
          refine (isMarker_no _ _ _ _ _ _ _ _ HK.out).mono ?_
          rintro e w1 ⟨rfl, hb1⟩
          obtain ⟨hc, hf⟩ := bcell hb1
          have p0 : w1.cell? ⟨w.heap.size, 0, none⟩ = some (.int .i64 c) := by rw [hc (w.heap.size) 0 (by simp <;> omega)]; simp [go_sem]
          have r0 : w1.cell? ⟨w.heap.size + 1 + 1, 0, none⟩ = some (.int .i64 0) := by rw [hc (w.heap.size + 1 + 1) 0 (by simp <;> omega)]; simp [go_sem]
          have fp0 : w1.frozen? ⟨w.heap.size, 0, none⟩ = false := by rw [hf (w.heap.size) 0 (by simp <;> omega)]; simp [go_sem]
          have fr0 : w1.frozen? ⟨w.heap.size + 1 + 1, 0, none⟩ = false := by rw [hf (w.heap.size + 1 + 1) 0 (by simp <;> omega)]; simp [go_sem]
          have p1 : w1.cell? ⟨w.heap.size, 1, none⟩ = some (.int .i64 0) := by rw [hc (w.heap.size) 1 (by simp <;> omega)]; simp [go_sem]
          have r1 : w1.cell? ⟨w.heap.size + 1 + 1, 1, none⟩ = some (.int .i64 0) := by rw [hc (w.heap.size + 1 + 1) 1 (by simp <;> omega)]; simp [go_sem]
          have fp1 : w1.frozen? ⟨w.heap.size, 1, none⟩ = false := by rw [hf (w.heap.size) 1 (by simp <;> omega)]; simp [go_sem]
          have fr1 : w1.frozen? ⟨w.heap.size + 1 + 1, 1, none⟩ = false := by rw [hf (w.heap.size + 1 + 1) 1 (by simp <;> omega)]; simp [go_sem]
          have p2 : w1.cell? ⟨w.heap.size, 2, none⟩ = some (.int .i64 qb) := by rw [hc (w.heap.size) 2 (by simp <;> omega)]; simp [go_sem]
          have r2 : w1.cell? ⟨w.heap.size + 1 + 1, 2, none⟩ = some (.int .i64 0) := by rw [hc (w.heap.size + 1 + 1) 2 (by simp <;> omega)]; simp [go_sem]
          have fp2 : w1.frozen? ⟨w.heap.size, 2, none⟩ = false := by rw [hf (w.heap.size) 2 (by simp <;> omega)]; simp [go_sem]
          have fr2 : w1.frozen? ⟨w.heap.size + 1 + 1, 2, none⟩ = false := by rw [hf (w.heap.size + 1 + 1) 2 (by simp <;> omega)]; simp [go_sem]
          have p3 : w1.cell? ⟨w.heap.size, 3, none⟩ = some (.int .i64 qm) := by rw [hc (w.heap.size) 3 (by simp <;> omega)]; simp [go_sem]
          have r3 : w1.cell? ⟨w.heap.size + 1 + 1, 3, none⟩ = some (.int .i64 0) := by rw [hc (w.heap.size + 1 + 1) 3 (by simp <;> omega)]; simp [go_sem]
          have fp3 : w1.frozen? ⟨w.heap.size, 3, none⟩ = false := by rw [hf (w.heap.size) 3 (by simp <;> omega)]; simp [go_sem]
          have fr3 : w1.frozen? ⟨w.heap.size + 1 + 1, 3, none⟩ = false := by rw [hf (w.heap.size + 1 + 1) 3 (by simp <;> omega)]; simp [go_sem]
          have e3 : w1.cell? ⟨w.heap.size + 1, 3, none⟩ = some (.int .i64 d) := by rw [hc (w.heap.size + 1) 3 (by simp <;> omega)]; simp [go_sem]
          have e4 : w1.cell? ⟨w.heap.size + 1, 4, none⟩ = some (.int .i64 k) := by rw [hc (w.heap.size + 1) 4 (by simp <;> omega)]; simp [go_sem]
          have e5 : w1.cell? ⟨w.heap.size + 1, 5, none⟩ = some (.bool true) := by rw [hc (w.heap.size + 1) 5 (by simp <;> omega)]; simp [go_sem]
          clear hc hf
          have hz : w.heap.size + 1 + 1 + 1 ≤ w1.heap.size := by simpa using hb1.size
          have B1 : Below w.heap.size w w1 := Below.trans (by repeat (first | refine Below.setCell ?_ (by simp <;> omega) _ | refine Below.alloc ?_ (by simp <;> omega) _ | exact Below.refl _ _)) (hb1.mono (by simp <;> omega))
          clear hb1
          go_wp2
          refine bodyPost_ret (v := .agg #[.int .i64 c, .int .i64 (d + 1), .int .i64 qb, .int .i64 qm]) (by simp [results, Try.results128, go_sem, hz, p0, p1, p2, p3, r0, r1, r2, r3]) rfl ⟨rfl, ?_⟩
          repeat (first | refine Below.setCell ?_ (by simp <;> omega) _ | refine Below.alloc ?_ (by omega) _ | refine Below.drew ?_ | exact B1)
  · have HK : Hid (k = 2 ∨ k = 3) := show _ ∨ _ by omega
    have hk' : (k == 1) = false := by simp [hk1]
    simp only [if_neg hk1]
    clear hk hk1
    by_cases hv : c = qv
    · have hv' : (c != qv) = false := by simp [hv]
      have HV : Hid (c = qv) := hv
      simp only [if_pos hv]
      clear hv
      go_enter Try.func128, Try.ntmps128
      go_wp2_with fail
      refine (isMarker_yes _ _ _ _ _ _ _ _ HK.out).mono ?_
      rintro e w1 ⟨rfl, hb1⟩
      obtain ⟨hc, hf⟩ := bcell hb1
      have p0 : w1.cell? ⟨w.heap.size, 0, none⟩ = some (.int .i64 qv) := by rw [hc (w.heap.size) 0 (by simp <;> omega)]; simp [go_sem]
      have r0 : w1.cell? ⟨w.heap.size + 1 + 1, 0, none⟩ = some (.int .i64 0) := by rw [hc (w.heap.size + 1 + 1) 0 (by simp <;> omega)]; simp [go_sem]
      have fp0 : w1.frozen? ⟨w.heap.size, 0, none⟩ = false := by rw [hf (w.heap.size) 0 (by simp <;> omega)]; simp [go_sem]
      have fr0 : w1.frozen? ⟨w.heap.size + 1 + 1, 0, none⟩ = false := by rw [hf (w.heap.size + 1 + 1) 0 (by simp <;> omega)]; simp [go_sem]
      have p1 : w1.cell? ⟨w.heap.size, 1, none⟩ = some (.int .i64 qn) := by rw [hc (w.heap.size) 1 (by simp <;> omega)]; simp [go_sem]
      have r1 : w1.cell? ⟨w.heap.size + 1 + 1, 1, none⟩ = some (.int .i64 0) := by rw [hc (w.heap.size + 1 + 1) 1 (by simp <;> omega)]; simp [go_sem]
      have fp1 : w1.frozen? ⟨w.heap.size, 1, none⟩ = false := by rw [hf (w.heap.size) 1 (by simp <;> omega)]; simp [go_sem]
      have fr1 : w1.frozen? ⟨w.heap.size + 1 + 1, 1, none⟩ = false := by rw [hf (w.heap.size + 1 + 1) 1 (by simp <;> omega)]; simp [go_sem]
      have p2 : w1.cell? ⟨w.heap.size, 2, none⟩ = some (.int .i64 qb) := by rw [hc (w.heap.size) 2 (by simp <;> omega)]; simp [go_sem]
      have r2 : w1.cell? ⟨w.heap.size + 1 + 1, 2, none⟩ = some (.int .i64 0) := by rw [hc (w.heap.size + 1 + 1) 2 (by simp <;> omega)]; simp [go_sem]
      have fp2 : w1.frozen? ⟨w.heap.size, 2, none⟩ = false := by rw [hf (w.heap.size) 2 (by simp <;> omega)]; simp [go_sem]
      have fr2 : w1.frozen? ⟨w.heap.size + 1 + 1, 2, none⟩ = false := by rw [hf (w.heap.size + 1 + 1) 2 (by simp <;> omega)]; simp [go_sem]
      have p3 : w1.cell? ⟨w.heap.size, 3, none⟩ = some (.int .i64 qm) := by rw [hc (w.heap.size) 3 (by simp <;> omega)]; simp [go_sem]
      have r3 : w1.cell? ⟨w.heap.size + 1 + 1, 3, none⟩ = some (.int .i64 0) := by rw [hc (w.heap.size + 1 + 1) 3 (by simp <;> omega)]; simp [go_sem]
      have fp3 : w1.frozen? ⟨w.heap.size, 3, none⟩ = false := by rw [hf (w.heap.size) 3 (by simp <;> omega)]; simp [go_sem]
      have fr3 : w1.frozen? ⟨w.heap.size + 1 + 1, 3, none⟩ = false := by rw [hf (w.heap.size + 1 + 1) 3 (by simp <;> omega)]; simp [go_sem]
      have e3 : w1.cell? ⟨w.heap.size + 1, 3, none⟩ = some (.int .i64 d) := by rw [hc (w.heap.size + 1) 3 (by simp <;> omega)]; simp [go_sem]
      have e4 : w1.cell? ⟨w.heap.size + 1, 4, none⟩ = some (.int .i64 k) := by rw [hc (w.heap.size + 1) 4 (by simp <;> omega)]; simp [go_sem]
      have e5 : w1.cell? ⟨w.heap.size + 1, 5, none⟩ = some (.bool t) := by rw [hc (w.heap.size + 1) 5 (by simp <;> omega)]; simp [go_sem]
      clear hc hf
      have hz : w.heap.size + 1 + 1 + 1 ≤ w1.heap.size := by simpa using hb1.size
      have B1 : Below w.heap.size w w1 := Below.trans (by repeat (first | refine Below.setCell ?_ (by simp <;> omega) _ | refine Below.alloc ?_ (by simp <;> omega) _ | exact Below.refl _ _)) (hb1.mono (by simp <;> omega))
      clear hb1
      go_wp2
      refine bodyPost_ret (v := .agg #[.int .i64 qv, .int .i64 qn, .int .i64 (-1), .int .i64 i]) (by simp [results, Try.results128, go_sem, hz, p0, p1, p2, p3, r0, r1, r2, r3]) rfl ⟨by rw [HV.out], ?_⟩
      repeat (first | refine Below.setCell ?_ (by simp <;> omega) _ | refine Below.alloc ?_ (by omega) _ | refine Below.drew ?_ | exact B1)
    · have hv' : (c != qv) = true := by simp [hv]
      simp only [if_neg hv]
      clear hv
      go_enter Try.func128, Try.ntmps128
      go_wp2_with fail
      refine (isMarker_yes _ _ _ _ _ _ _ _ HK.out).mono ?_
      rintro e w1 ⟨rfl, hb1⟩
      obtain ⟨hc, hf⟩ := bcell hb1
      have p0 : w1.cell? ⟨w.heap.size, 0, none⟩ = some (.int .i64 c) := by rw [hc (w.heap.size) 0 (by simp <;> omega)]; simp [go_sem]
      have r0 : w1.cell? ⟨w.heap.size + 1 + 1, 0, none⟩ = some (.int .i64 0) := by rw [hc (w.heap.size + 1 + 1) 0 (by simp <;> omega)]; simp [go_sem]
      have fp0 : w1.frozen? ⟨w.heap.size, 0, none⟩ = false := by rw [hf (w.heap.size) 0 (by simp <;> omega)]; simp [go_sem]
      have fr0 : w1.frozen? ⟨w.heap.size + 1 + 1, 0, none⟩ = false := by rw [hf (w.heap.size + 1 + 1) 0 (by simp <;> omega)]; simp [go_sem]
      have p1 : w1.cell? ⟨w.heap.size, 1, none⟩ = some (.int .i64 0) := by rw [hc (w.heap.size) 1 (by simp <;> omega)]; simp [go_sem]
      have r1 : w1.cell? ⟨w.heap.size + 1 + 1, 1, none⟩ = some (.int .i64 0) := by rw [hc (w.heap.size + 1 + 1) 1 (by simp <;> omega)]; simp [go_sem]
      have fp1 : w1.frozen? ⟨w.heap.size, 1, none⟩ = false := by rw [hf (w.heap.size) 1 (by simp <;> omega)]; simp [go_sem]
      have fr1 : w1.frozen? ⟨w.heap.size + 1 + 1, 1, none⟩ = false := by rw [hf (w.heap.size + 1 + 1) 1 (by simp <;> omega)]; simp [go_sem]
      have p2 : w1.cell? ⟨w.heap.size, 2, none⟩ = some (.int .i64 qb) := by rw [hc (w.heap.size) 2 (by simp <;> omega)]; simp [go_sem]
      have r2 : w1.cell? ⟨w.heap.size + 1 + 1, 2, none⟩ = some (.int .i64 0) := by rw [hc (w.heap.size + 1 + 1) 2 (by simp <;> omega)]; simp [go_sem]
      have fp2 : w1.frozen? ⟨w.heap.size, 2, none⟩ = false := by rw [hf (w.heap.size) 2 (by simp <;> omega)]; simp [go_sem]
      have fr2 : w1.frozen? ⟨w.heap.size + 1 + 1, 2, none⟩ = false := by rw [hf (w.heap.size + 1 + 1) 2 (by simp <;> omega)]; simp [go_sem]
      have p3 : w1.cell? ⟨w.heap.size, 3, none⟩ = some (.int .i64 qm) := by rw [hc (w.heap.size) 3 (by simp <;> omega)]; simp [go_sem]
      have r3 : w1.cell? ⟨w.heap.size + 1 + 1, 3, none⟩ = some (.int .i64 0) := by rw [hc (w.heap.size + 1 + 1) 3 (by simp <;> omega)]; simp [go_sem]
      have fp3 : w1.frozen? ⟨w.heap.size, 3, none⟩ = false := by rw [hf (w.heap.size) 3 (by simp <;> omega)]; simp [go_sem]
      have fr3 : w1.frozen? ⟨w.heap.size + 1 + 1, 3, none⟩ = false := by rw [hf (w.heap.size + 1 + 1) 3 (by simp <;> omega)]; simp [go_sem]
      have e3 : w1.cell? ⟨w.heap.size + 1, 3, none⟩ = some (.int .i64 d) := by rw [hc (w.heap.size + 1) 3 (by simp <;> omega)]; simp [go_sem]
      have e4 : w1.cell? ⟨w.heap.size + 1, 4, none⟩ = some (.int .i64 k) := by rw [hc (w.heap.size + 1) 4 (by simp <;> omega)]; simp [go_sem]
      have e5 : w1.cell? ⟨w.heap.size + 1, 5, none⟩ = some (.bool t) := by rw [hc (w.heap.size + 1) 5 (by simp <;> omega)]; simp [go_sem]
      clear hc hf
      have hz : w.heap.size + 1 + 1 + 1 ≤ w1.heap.size := by simpa using hb1.size
      have B1 : Below w.heap.size w w1 := Below.trans (by repeat (first | refine Below.setCell ?_ (by simp <;> omega) _ | refine Below.alloc ?_ (by simp <;> omega) _ | exact Below.refl _ _)) (hb1.mono (by simp <;> omega))
      clear hb1
      go_wp2
      refine bodyPost_ret (v := .agg #[.int .i64 c, .int .i64 0, .int .i64 (-1), .int .i64 i]) (by simp [results, Try.results128, go_sem, hz, p0, p1, p2, p3, r0, r1, r2, r3]) rfl ⟨rfl, ?_⟩
      repeat (first | refine Below.setCell ?_ (by simp <;> omega) _ | refine Below.alloc ?_ (by omega) _ | refine Below.drew ?_ | exact B1)

theorem after_any (q : Prd) (x : Ent) (i : Int) (w : World) (hk : x.k = 1 ∨ x.k = 2 ∨ x.k = 3) (hd : 0 ≤ x.d ∧ x.d ≤ 1073741824) :
    Calls Try.prog 128 #[q.val, .agg #[.int .i64 x.a, .int .i64 x.b, .int .i64 x.c, .int .i64 x.d, .int .i64 x.k, .bool x.t, .string x.s], .int .i64 i] w fun e w' => e = .returned (q.after x i).val ∧ Below w.heap.size w w' :=
  after_raw q.v q.n q.b q.m x.a x.b x.c x.d x.k i x.t x.s w hk hd.1 hd.2

end Go.Proofs.Ytkakagjffafdiaa
