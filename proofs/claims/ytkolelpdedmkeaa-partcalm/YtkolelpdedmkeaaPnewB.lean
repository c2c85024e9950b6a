/-
  The walk of part.New.
-/
import Derived.Test.YtkolelpdedmkeaaPnewA
import Derived.Deep.RegionWith
import Derived.Deep.DeepCutAuto
namespace Go.Proofs.Ytkolelpdedmkeaa
open Go.RowKit
set_option linter.unusedVariables false
set_option linter.unusedSimpArgs false

set_option maxRecDepth 100000
theorem rep_set {α : Type} (n k : Nat) (h : k < n) (a b : α) : (List.replicate k a ++ List.replicate (n - k) b).set k a = List.replicate (k + 1) a ++ List.replicate (n - (k + 1)) b := by
  apply List.ext_getElem (by simp; omega)
  intro j h1 h2
  rw [List.getElem_set]
  by_cases e : k = j
  · subst e
    rw [if_pos rfl, List.getElem_append_left (by simp)]
    simp
  · rw [if_neg e]
    by_cases e2 : j < k
    · rw [List.getElem_append_left (by simpa using e2), List.getElem_append_left (by simp; omega)]
      simp
    · rw [List.getElem_append_right (by simp; omega), List.getElem_append_right (by simp; omega)]
      simp
theorem rep_mod (n k : Nat) (h : k < n) (a b : Rep) (f : Rep → Rep) (hf : f b = a) : (List.replicate k a ++ List.replicate (n - k) b).modify k f = List.replicate (k + 1) a ++ List.replicate (n - (k + 1)) b := by
  apply List.ext_getElem (by simp; omega)
  intro j h1 h2
  rw [List.getElem_modify]
  by_cases e : k = j
  · subst e
    rw [if_pos rfl, List.getElem_append_right (by simp), List.getElem_append_left (by simp)]
    simp [hf]
  · rw [if_neg e]
    by_cases e2 : j < k
    · rw [List.getElem_append_left (by simpa using e2), List.getElem_append_left (by simp; omega)]
      simp
    · rw [List.getElem_append_right (by simp; omega), List.getElem_append_right (by simp; omega)]
      simp

set_option maxRecDepth 100000 in
set_option maxHeartbeats 16000000 in
theorem new_ok (n : Nat) (few : Int) (w : World) (h0 : (1 : Int) ≤ n) (hn : (n : Int) ≤ 5) (h1 : 1 ≤ few) (h2 : few ≤ n) :
    Calls Try.prog 24 #[.int .i64 n, .int .i64 few] w fun e w' => Res w (⟨0, -1, List.replicate n true, List.replicate n 0, List.replicate n ⟨true, [], 0, 0⟩, few, 0⟩ : Prt) [.int .i64 0] e w' := by
  have hmB := mk_B n hn
  have hmI := mk_I n hn
  have hmR := mk_R n hn
  obtain ⟨rb, hrb⟩ : ∃ rb, rowB n = rb := ⟨_, rfl⟩
  obtain ⟨ri, hri⟩ : ∃ ri, rowI n = ri := ⟨_, rfl⟩
  obtain ⟨rr, hrr⟩ : ∃ rr, rowR n = rr := ⟨_, rfl⟩
  rw [hrb] at hmB
  rw [hri] at hmI
  rw [hrr] at hmR
  have HRB : Hid (rowB n = rb) := hrb
  have HRI : Hid (rowI n = ri) := hri
  have HRR : Hid (rowR n = rr) := hrr
  clear hrb hri hrr
  go_enter Try.func24, Try.ntmps24
  go_wp2
  go_cut [6, 25, 27, 29] (fun v vi vk vr W => ∃ b gi gk gr : Nat, v = .pointer (some ⟨b, 0, none⟩) ∧ vi = (.slice (some ⟨gi, 0, none⟩) n n) ∧ vk = (.slice (some ⟨gk, 0, none⟩) n n) ∧ vr = (.slice (some ⟨gr, 0, none⟩) n n) ∧ Made w n few b gi gk gr W)
  case first =>
    go_region
    all_goals
      go_wp2_with fail
    all_goals
      go_meet
    all_goals
      clear hmB hmI hmR
      refine ⟨_, _, _, _, rfl, rfl, rfl, rfl, ?_⟩
      obtain ⟨t0, t1, t2, t3, t4, t5, t6⟩ := stack5 w _ _ _ _ _ _ rfl
      rw [← HRB.out, ← HRI.out, ← HRR.out] at *
      exact ⟨by assumption, by assumption, by assumption, by assumption, by assumption, by assumption, by refine ⟨?_, ?_, ?_, ?_, ?_, ?_⟩ <;> omega, by refine ⟨?_, ?_, ?_, ?_⟩ <;> omega, by constructor <;> omega⟩
  case rest =>
    obtain ⟨b, gi, gk, gr, rfl, rfl, rfl, rfl, hmade⟩ := hcut
    have HT0 : Hid (Sd (w.heap.size + 1) b w.heap.size w (⟨0, -1, List.replicate 0 true ++ List.replicate (n - 0) false, List.replicate n 0, List.replicate 0 ⟨true, [], 0, 0⟩ ++ List.replicate (n - 0) Rep.zero, few, 0⟩ : Prt) gi gk gr n n n n n n (fun _ => nilV) wc) := show Sd (w.heap.size + 1) b w.heap.size w (⟨0, -1, List.replicate 0 true ++ List.replicate (n - 0) false, List.replicate n 0, List.replicate 0 ⟨true, [], 0, 0⟩ ++ List.replicate (n - 0) Rep.zero, few, 0⟩ : Prt) gi gk gr n n n n n n (fun _ => nilV) wc by
      have := hmade.sd h0 hn
      simpa using this
    clear hmade hmB hmI hmR HRB HRI HRR
    go_at_K
    go_wp2
    go_loopw [33] (fun i wr => ∃ k : Nat, k ≤ n ∧ i = .int .i64 k ∧ Hid (Sd (w.heap.size + 1) b w.heap.size w (⟨0, -1, List.replicate k true ++ List.replicate (n - k) false, List.replicate n 0, List.replicate k ⟨true, [], 0, 0⟩ ++ List.replicate (n - k) Rep.zero, few, 0⟩ : Prt) gi gk gr n n n n n n (fun _ => nilV) wr)) (fun i _ => n - (intOf i).toNat)
    case atStart => exact ⟨0, by omega, rfl, HT0⟩
    case round =>
      obtain ⟨k, hk, rfl, HT⟩ := hrel
      clear HT0
      by_cases hlt : k < n
      · have hlt' : (k : Int) < n := by omega
        have hl5 : (k : Int) ≤ 5 := by omega
        obtain ⟨o1, ⟨o0, o2, o3, o4, o5, o6, o7⟩, o8⟩ := HT.out.p
        obtain ⟨i5, i7⟩ := HT.out.isr k hlt
        obtain ⟨-, i1, i2, i3, i4, i9⟩ := HT.out.cells k hlt
        obtain ⟨k1, k2, k3, k4, k5, k6, -, -, -⟩ := HT.out.apart
        have k7 : ¬ gi = b := fun h => k1 h.symm
        have k9 : ¬ gr = b := fun h => k3 h.symm
        have t2 : gi ≠ gr := HT.out.o.2.ir
        have t3 : ¬ gr = gi := fun h => t2 h.symm
        have x1 := HT.out.o.2.si
        have x3 := HT.out.o.2.sr
        have HX : Hid (Sd (w.heap.size + 1) b w.heap.size w (⟨0, -1, List.replicate (k + 1) true ++ List.replicate (n - (k + 1)) false, List.replicate n 0, List.replicate (k + 1) ⟨true, [], 0, 0⟩ ++ List.replicate (n - (k + 1)) Rep.zero, few, 0⟩ : Prt) gi gk gr n n n n n n (fun _ => nilV) ((wr.setCell ⟨gi, k, none⟩ (.bool true)).setCell ⟨gr, k * 4, none⟩ (.bool true))) := show Sd (w.heap.size + 1) b w.heap.size w (⟨0, -1, List.replicate (k + 1) true ++ List.replicate (n - (k + 1)) false, List.replicate n 0, List.replicate (k + 1) ⟨true, [], 0, 0⟩ ++ List.replicate (n - (k + 1)) Rep.zero, few, 0⟩ : Prt) gi gk gr n n n n n n (fun _ => nilV) ((wr.setCell ⟨gi, k, none⟩ (.bool true)).setCell ⟨gr, k * 4, none⟩ (.bool true)) by
          have := (HT.out.setIsr k hlt true).setUp k hlt true
          unfold Prt.setR at this
          simp only [rep_set n k hlt, rep_mod n k hlt ⟨true, [], 0, 0⟩ Rep.zero (fun r => { r with up := true }) rfl] at this
          exact this
        go_wp2
        go_roundw
        case rel => exact ⟨k + 1, by omega, by go_num, HX⟩
        case measure => simp [intOf]; omega
      · have hke : k = n := by omega
        subst hke
        have HT9 : Hid (Sd (w.heap.size + 1) b w.heap.size w (⟨0, -1, List.replicate k true, List.replicate k 0, List.replicate k ⟨true, [], 0, 0⟩, few, 0⟩ : Prt) gi gk gr k k k k k k (fun _ => nilV) wr) := show Sd (w.heap.size + 1) b w.heap.size w (⟨0, -1, List.replicate k true, List.replicate k 0, List.replicate k ⟨true, [], 0, 0⟩, few, 0⟩ : Prt) gi gk gr k k k k k k (fun _ => nilV) wr by
          have := HT.out
          simpa using this
        clear HT
        obtain ⟨o1, ⟨o0, o2, o3, o4, o5, o6, o7⟩, o8⟩ := HT9.out.p
        obtain ⟨z1, ⟨e0, e1, e2, e3, e4, e5, e6⟩, g1⟩ := HT9.out.r
        go_wp2
        exact bodyPost_ret (v := .tuple #[.agg #[.int .i64 0, .int .i64 (-1), .slice (some ⟨gi, 0, none⟩) k k, .slice (some ⟨gk, 0, none⟩) k k, .slice (some ⟨gr, 0, none⟩) k k, .int .i64 few, .int .i64 0], .int .i64 0]) (by simp [results, Try.results24, go_sem, e0, e1, e2, e3, e4, e5, e6]) rfl (Sd.done (q := (⟨0, -1, List.replicate k true, List.replicate k 0, List.replicate k ⟨true, [], 0, 0⟩, few, 0⟩ : Prt)) HT9.out rfl)

end Go.Proofs.Ytkolelpdedmkeaa
