/-
  The walk of the document's EntryFault: it returns what flt says of the entry's fields, and turns nothing that was there.
-/
import Derived.Test.YtkakagjffafdiaaWcheck
namespace Go.Proofs.Ytkakagjffafdiaa
open Go.RowKit

set_option maxRecDepth 100000 in
set_option maxHeartbeats 1000000 in
theorem fault_nokind (a b c d k : Int) (t : Bool) (s : ByteArray) (w : World) (hm : mkB k = false) (hk : (k != 1) = true) :
    Calls Try.prog 79 #[.agg #[.int .i64 a, .int .i64 b, .int .i64 c, .int .i64 d, .int .i64 k, .bool t, .string s]] w fun e w' => e = .returned (.int .i64 (flt a b c d k t s.size)) ∧ Below w.heap.size w w' := by
  have hk1 : k ≠ 1 := by simpa using hk
  have hr : flt a b c d k t s.size = 3 := by simp [flt, hm, hk1]
  rw [hr]
  have hk2 := inR13n k hm hk1
  clear hk1
  go_enter Try.func79, Try.ntmps79
  go_wp2_with (first | (go_at_call 59; refine (In_any _ _ _ _).mono ?_; rintro e w' ⟨rfl, rfl⟩; (try rw [inR0])))
  go_ret
  exact ⟨rfl, by repeat (first | exact bbox _ _ | refine bstep ?_ (by assumption))⟩

set_option maxRecDepth 100000 in
set_option maxHeartbeats 2000000 in
theorem fault_marker (a b c d k : Int) (t : Bool) (s : ByteArray) (w : World) (hm : mkB k = true) (hk : (k != 1) = true) :
    Calls Try.prog 79 #[.agg #[.int .i64 a, .int .i64 b, .int .i64 c, .int .i64 d, .int .i64 k, .bool t, .string s]] w fun e w' => e = .returned (.int .i64 (flt a b c d k t s.size)) ∧ Below w.heap.size w w' := by
  have hk1 : k ≠ 1 := by simpa using hk
  clear hk1
  have hk2 := inR13 k hm
  cases ha : inB a
  · have hr : flt a b c d k t s.size = 2 := by simp [flt, hm, ha]
    rw [hr]
    go_enter Try.func79, Try.ntmps79
    go_wp2_with (first | (go_at_call 59; refine (In_any _ _ _ _).mono ?_; rintro e w' ⟨rfl, rfl⟩; (try rw [inR0])))
    go_ret
    exact ⟨rfl, by repeat (first | exact bbox _ _ | refine bstep ?_ (by assumption))⟩
  cases hb' : inB b
  · have hr : flt a b c d k t s.size = 2 := by simp [flt, hm, hb']
    rw [hr]
    go_enter Try.func79, Try.ntmps79
    go_wp2_with (first | (go_at_call 59; refine (In_any _ _ _ _).mono ?_; rintro e w' ⟨rfl, rfl⟩; (try rw [inR0])))
    go_ret
    exact ⟨rfl, by repeat (first | exact bbox _ _ | refine bstep ?_ (by assumption))⟩
  cases hc' : inB c
  · have hr : flt a b c d k t s.size = 2 := by simp [flt, hm, hc']
    rw [hr]
    go_enter Try.func79, Try.ntmps79
    go_wp2_with (first | (go_at_call 59; refine (In_any _ _ _ _).mono ?_; rintro e w' ⟨rfl, rfl⟩; (try rw [inR0])))
    go_ret
    exact ⟨rfl, by repeat (first | exact bbox _ _ | refine bstep ?_ (by assumption))⟩
  cases hd : inB d
  · have hr : flt a b c d k t s.size = 2 := by simp [flt, hm, hd]
    rw [hr]
    go_enter Try.func79, Try.ntmps79
    go_wp2_with (first | (go_at_call 59; refine (In_any _ _ _ _).mono ?_; rintro e w' ⟨rfl, rfl⟩; (try rw [inR0])))
    go_ret
    exact ⟨rfl, by repeat (first | exact bbox _ _ | refine bstep ?_ (by assumption))⟩
  by_cases hn : 40 < s.size
  · have hr : flt a b c d k t s.size = 1 := by simp [flt, hm, ha, hb', hc', hd, hn]
    rw [hr]
    go_enter Try.func79, Try.ntmps79
    go_wp2_with (first | (go_at_call 59; refine (In_any _ _ _ _).mono ?_; rintro e w' ⟨rfl, rfl⟩; (try rw [inR0])))
    go_ret
    exact ⟨rfl, by repeat (first | exact bbox _ _ | refine bstep ?_ (by assumption))⟩
  have hn' : ¬ (40 : Int) < (s.size : Int) := by omega
  have hd0 : 0 ≤ d := by simp [inB] at hd; exact hd.1
  by_cases hb0 : b = 0
  · subst hb0
    have hfm : fmB 0 d t s.size = false := by simp [fmB]
    have hr : flt a 0 c d k t s.size = 4 := by simp [flt, hm, ha, hb', hc', hd, hn, hfm]
    rw [hr]
    go_enter Try.func79, Try.ntmps79
    go_wp2_with (first | (go_at_call 59; refine (In_any _ _ _ _).mono ?_; rintro e w' ⟨rfl, rfl⟩; (try rw [inR0])))
    go_ret
    exact ⟨rfl, by repeat (first | exact bbox _ _ | refine bstep ?_ (by assumption))⟩
  have g0 : (b == 0) = false := by simp [hb0]
  cases t
  · have hfm : fmB b d false s.size = false := by simp [fmB]
    have hr : flt a b c d k false s.size = 4 := by simp [flt, hm, ha, hb', hc', hd, hn, hfm]
    rw [hr]
    go_enter Try.func79, Try.ntmps79
    go_wp2_with (first | (go_at_call 59; refine (In_any _ _ _ _).mono ?_; rintro e w' ⟨rfl, rfl⟩; (try rw [inR0])))
    go_ret
    exact ⟨rfl, by repeat (first | exact bbox _ _ | refine bstep ?_ (by assumption))⟩
  by_cases h1 : d = 0
  · subst h1
    by_cases h2 : s.size = 0
    · have hfm : fmB b 0 true s.size = true := by simp [fmB, hb0, h2]
      have hr : flt a b c 0 k true s.size = 0 := by simp [flt, hm, ha, hb', hc', hd, hn, hfm, hb0]
      rw [hr]
      have h3 : ¬ (0 : Int) < (s.size : Int) := by omega
      clear h2
      go_enter Try.func79, Try.ntmps79
      go_wp2_with (first | (go_at_call 59; refine (In_any _ _ _ _).mono ?_; rintro e w' ⟨rfl, rfl⟩; (try rw [inR0])))
      go_ret
      exact ⟨rfl, by repeat (first | exact bbox _ _ | refine bstep ?_ (by assumption))⟩
    · have hfm : fmB b 0 true s.size = false := by simp [fmB, h2]
      have hr : flt a b c 0 k true s.size = 4 := by simp [flt, hm, ha, hb', hc', hd, hn, hfm]
      rw [hr]
      have h3 : (0 : Int) < (s.size : Int) := by omega
      clear h2
      go_enter Try.func79, Try.ntmps79
      go_wp2_with (first | (go_at_call 59; refine (In_any _ _ _ _).mono ?_; rintro e w' ⟨rfl, rfl⟩; (try rw [inR0])))
      go_ret
      exact ⟨rfl, by repeat (first | exact bbox _ _ | refine bstep ?_ (by assumption))⟩
  · have hfm : fmB b d true s.size = false := by simp [fmB, h1]
    have hr : flt a b c d k true s.size = 4 := by simp [flt, hm, ha, hb', hc', hd, hn, hfm]
    rw [hr]
    have h3 : (0 : Int) < d := by omega
    go_enter Try.func79, Try.ntmps79
    go_wp2_with (first | (go_at_call 59; refine (In_any _ _ _ _).mono ?_; rintro e w' ⟨rfl, rfl⟩; (try rw [inR0])))
    go_ret
    exact ⟨rfl, by repeat (first | exact bbox _ _ | refine bstep ?_ (by assumption))⟩

set_option maxRecDepth 100000 in
set_option maxHeartbeats 2000000 in
theorem fault_data (a b c d : Int) (t : Bool) (s : ByteArray) (w : World)  :
    Calls Try.prog 79 #[.agg #[.int .i64 a, .int .i64 b, .int .i64 c, .int .i64 d, .int .i64 1, .bool t, .string s]] w fun e w' => e = .returned (.int .i64 (flt a b c d 1 t s.size)) ∧ Below w.heap.size w w' := by
  have hm : mkB 1 = false := by decide
  have hk2 : inR 1 1 3 = true := by decide
  cases ha : inB a
  · have hr : flt a b c d 1 t s.size = 2 := by simp [flt, hm, ha]
    rw [hr]
    go_enter Try.func79, Try.ntmps79
    go_wp2_with (first | (go_at_call 59; refine (In_any _ _ _ _).mono ?_; rintro e w' ⟨rfl, rfl⟩; (try rw [inR0])))
    go_ret
    exact ⟨rfl, by repeat (first | exact bbox _ _ | refine bstep ?_ (by assumption))⟩
  cases hb' : inB b
  · have hr : flt a b c d 1 t s.size = 2 := by simp [flt, hm, hb']
    rw [hr]
    go_enter Try.func79, Try.ntmps79
    go_wp2_with (first | (go_at_call 59; refine (In_any _ _ _ _).mono ?_; rintro e w' ⟨rfl, rfl⟩; (try rw [inR0])))
    go_ret
    exact ⟨rfl, by repeat (first | exact bbox _ _ | refine bstep ?_ (by assumption))⟩
  cases hc' : inB c
  · have hr : flt a b c d 1 t s.size = 2 := by simp [flt, hm, hc']
    rw [hr]
    go_enter Try.func79, Try.ntmps79
    go_wp2_with (first | (go_at_call 59; refine (In_any _ _ _ _).mono ?_; rintro e w' ⟨rfl, rfl⟩; (try rw [inR0])))
    go_ret
    exact ⟨rfl, by repeat (first | exact bbox _ _ | refine bstep ?_ (by assumption))⟩
  cases hd : inB d
  · have hr : flt a b c d 1 t s.size = 2 := by simp [flt, hm, hd]
    rw [hr]
    go_enter Try.func79, Try.ntmps79
    go_wp2_with (first | (go_at_call 59; refine (In_any _ _ _ _).mono ?_; rintro e w' ⟨rfl, rfl⟩; (try rw [inR0])))
    go_ret
    exact ⟨rfl, by repeat (first | exact bbox _ _ | refine bstep ?_ (by assumption))⟩
  by_cases hn : 40 < s.size
  · have hr : flt a b c d 1 t s.size = 1 := by simp [flt, hm, ha, hb', hc', hd, hn]
    rw [hr]
    go_enter Try.func79, Try.ntmps79
    go_wp2_with (first | (go_at_call 59; refine (In_any _ _ _ _).mono ?_; rintro e w' ⟨rfl, rfl⟩; (try rw [inR0])))
    go_ret
    exact ⟨rfl, by repeat (first | exact bbox _ _ | refine bstep ?_ (by assumption))⟩
  have hn' : ¬ (40 : Int) < (s.size : Int) := by omega
  have hd0 : 0 ≤ d := by simp [inB] at hd; exact hd.1
  have hc0 : 0 ≤ c := by simp [inB] at hc'; exact hc'.1
  by_cases hb0 : b = 0
  · subst hb0
    cases t
    · by_cases h1 : c = 0
      · subst h1
        by_cases h2 : d = 0
        · subst h2
          have hfn : fnB 0 0 false = true := by decide
          have hr : flt a 0 0 0 1 false s.size = 0 := by simp [flt, hm, ha, hb', hn, hfn]
          rw [hr]
          go_enter Try.func79, Try.ntmps79
          go_wp2_with (first | (go_at_call 59; refine (In_any _ _ _ _).mono ?_; rintro e w' ⟨rfl, rfl⟩; (try rw [inR0])))
          go_ret
          exact ⟨rfl, by repeat (first | exact bbox _ _ | refine bstep ?_ (by assumption))⟩
        · have hfn : fnB 0 d false = false := by simp [fnB, h2]
          have hr : flt a 0 0 d 1 false s.size = 4 := by simp [flt, hm, ha, hb', hd, hn, hfn]
          rw [hr]
          have h3 : (0 : Int) < d := by omega
          go_enter Try.func79, Try.ntmps79
          go_wp2_with (first | (go_at_call 59; refine (In_any _ _ _ _).mono ?_; rintro e w' ⟨rfl, rfl⟩; (try rw [inR0])))
          go_ret
          exact ⟨rfl, by repeat (first | exact bbox _ _ | refine bstep ?_ (by assumption))⟩
      · have hfn : fnB c d false = false := by simp [fnB, h1]
        have hr : flt a 0 c d 1 false s.size = 4 := by simp [flt, hm, ha, hb', hc', hd, hn, hfn]
        rw [hr]
        have h3 : (0 : Int) < c := by omega
        go_enter Try.func79, Try.ntmps79
        go_wp2_with (first | (go_at_call 59; refine (In_any _ _ _ _).mono ?_; rintro e w' ⟨rfl, rfl⟩; (try rw [inR0])))
        go_ret
        exact ⟨rfl, by repeat (first | exact bbox _ _ | refine bstep ?_ (by assumption))⟩
    · have hfn : fnB c d true = false := by simp [fnB]
      have hr : flt a 0 c d 1 true s.size = 4 := by simp [flt, hm, ha, hb', hc', hd, hn, hfn]
      rw [hr]
      go_enter Try.func79, Try.ntmps79
      go_wp2_with (first | (go_at_call 59; refine (In_any _ _ _ _).mono ?_; rintro e w' ⟨rfl, rfl⟩; (try rw [inR0])))
      go_ret
      exact ⟨rfl, by repeat (first | exact bbox _ _ | refine bstep ?_ (by assumption))⟩
  have g0 : (b == 0) = false := by simp [hb0]
  have hr : flt a b c d 1 t s.size = 0 := by simp [flt, hm, ha, hb', hc', hd, hn, hb0]
  rw [hr]
  go_enter Try.func79, Try.ntmps79
  go_wp2_with (first | (go_at_call 59; refine (In_any _ _ _ _).mono ?_; rintro e w' ⟨rfl, rfl⟩; (try rw [inR0])))
  go_ret
  exact ⟨rfl, by repeat (first | exact bbox _ _ | refine bstep ?_ (by assumption))⟩

set_option maxRecDepth 100000 in
set_option maxHeartbeats 400000 in
theorem fault_any (a b c d k : Int) (t : Bool) (s : ByteArray) (w : World) :
    Calls Try.prog 79 #[.agg #[.int .i64 a, .int .i64 b, .int .i64 c, .int .i64 d, .int .i64 k, .bool t, .string s]] w fun e w' => e = .returned (.int .i64 (flt a b c d k t s.size)) ∧ Below w.heap.size w w' := by
  by_cases hk : k = 1
  · subst hk
    exact fault_data a b c d t s w
  · have hk' : (k != 1) = true := by simp [hk]
    cases hm : mkB k
    · exact fault_nokind a b c d k t s w hm hk'
    · exact fault_marker a b c d k t s w hm hk'

end Go.Proofs.Ytkakagjffafdiaa
