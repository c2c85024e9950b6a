/-
  coord.Next: the search that counts; the box of an entry.
-/
import Derived.Test.YtjhpfnogdjpbmaaCnext
import Derived.Test.YtjhpfnogdjpbmaaCadd
namespace Go.Proofs.Ytjhpfnogdjpbmaa
open Go.RowKit
set_option linter.unusedVariables false
set_option linter.unusedSimpArgs false

theorem cnt_le (c : Crd) (k : Nat) : c.cnt k ≤ k := by
  induction k with
  | zero => simp [Crd.cnt]
  | succ k ih => simp only [Crd.cnt]; split <;> omega
theorem indexNth_any (c : Crd) (n : Int) (vt : Value) (us : Nat → Value) (w0 W : World) (B C : Nat) (hr : ∀ W, Below w0.heap.size w0 W → RdC W c vt us) (h8 : c.ts.length ≤ 8) (hbel : Below w0.heap.size w0 W) (hBC : B ≠ C) (hB : B < W.heap.size) (hC : C < W.heap.size) (hC0 : w0.heap.size ≤ C) (hb : W.cell? ⟨B, 0, none⟩ = some (.int .i64 n)) (hc : W.cell? ⟨C, 0, none⟩ = some (.int .i64 (-1))) (hf : ∀ o, W.frozen? ⟨C, o, none⟩ = false) :
    Calls Try.prog 63 #[vt, .func (.func 80) #[] #[.pointer (some ⟨C, 0, none⟩), .pointer (some ⟨B, 0, none⟩)]] W fun e w' => e = .returned (.int .i64 (c.nth n)) ∧ Below w0.heap.size w0 w' := by
  have hnth : c.nth n = scan (fun i => ((c.at i).endB && ((c.cnt i : Int) == n)) = true) c.ts.length 0 := by
    unfold Crd.nth
    exact scan_congr _ _ (fun j _ _ => by simp)
  rw [hnth]
  refine (indexT _ _ (enters_of Try.func80 (by kernel_rfl) rfl) (fun i => (c.at i).endB && ((c.cnt i : Int) == n)) c.ts vt us W (fun k W' => Below w0.heap.size w0 W' ∧ B < W'.heap.size ∧ C < W'.heap.size ∧ W'.cell? ⟨B, 0, none⟩ = some (.int .i64 n) ∧ W'.cell? ⟨C, 0, none⟩ = some (.int .i64 ((c.cnt k : Int) - 1)) ∧ (∀ o, W'.frozen? ⟨C, o, none⟩ = false)) (fun _ W' => Below w0.heap.size w0 W') (by omega) ⟨hbel, hB, hC, hb, by simpa [Crd.cnt] using hc, hf⟩ (fun k W' h => hr W' h.1) ?_).mono ?_
  · intro k hk W' ⟨h1, h2, h3, h4, h5, h6⟩
    have hcl := cnt_le c k
    refine (nthFn_any B C (c.cnt k) n (c.ts[k]'hk) (us k) W' hBC h2 h3 h4 h5 h6 (by omega) (by omega)).mono ?_
    rintro e w2 ⟨rfl, g1, g2, g3, g4, g5⟩
    have hb2 := h1.trans (g1 w0.heap.size hC0 h1.size)
    rw [← at_txn hk] at g3 ⊢
    refine ⟨rfl, fun _ => hb2, fun _ => ⟨hb2, by omega, by omega, g2, ?_, g4⟩⟩
    rw [g3]
    simp only [Crd.cnt]
    cases (c.at k).endB <;> simp
  · rintro e w' ⟨h1, ⟨k, _, _, _, _, h2⟩ | ⟨_, _, h2⟩⟩
    · exact ⟨h1, h2⟩
    · exact ⟨h1, h2.1⟩
theorem nth_cases (c : Crd) (n : Int) : c.nth n = -1 ∨ ∃ k, k < c.ts.length ∧ c.nth n = (k : Int) ∧ (c.at k).endB = true := by
  unfold Crd.nth
  rcases scan_cases (P := fun i => (c.at i).endB = true ∧ (c.cnt i : Int) = n) c.ts.length 0 with h | ⟨k, _, h2, h3, _, h4⟩
  · exact .inl h
  · exact .inr ⟨k, by omega, h4, h3.1⟩
def EB (W : World) (b : Nat) (p v k : Int) (f : Bool) : Prop := b < W.heap.size ∧ (W.cell? ⟨b, 0, none⟩ = some (.int .i64 0) ∧ W.cell? ⟨b, 1, none⟩ = some (.int .i64 p) ∧ W.cell? ⟨b, 2, none⟩ = some (.int .i64 v) ∧ W.cell? ⟨b, 3, none⟩ = some (.int .i64 0) ∧ W.cell? ⟨b, 4, none⟩ = some (.int .i64 k) ∧ W.cell? ⟨b, 5, none⟩ = some (.bool f) ∧ W.cell? ⟨b, 6, none⟩ = some (.string ⟨#[]⟩)) ∧ ∀ o, W.frozen? ⟨b, o, none⟩ = false
theorem EB.below {W W' : World} {b : Nat} {p v k : Int} {f : Bool} (h : EB W b p v k f) (hb : Below W.heap.size W W') : EB W' b p v k f := by
  obtain ⟨hc, hf⟩ := bcell hb
  obtain ⟨s, ⟨a0, a1, a2, a3, a4, a5, a6⟩, f0⟩ := h
  exact ⟨Nat.lt_of_lt_of_le s hb.size, ⟨(hc _ _ s).trans a0, (hc _ _ s).trans a1, (hc _ _ s).trans a2, (hc _ _ s).trans a3, (hc _ _ s).trans a4, (hc _ _ s).trans a5, (hc _ _ s).trans a6⟩, fun o => (hf _ _ s).trans (f0 o)⟩
theorem eb_new (w : World) (p v k : Int) (f : Bool) (b : Nat) (hb : b = w.heap.size) : EB (w.alloc (.cells #[.int .i64 0, .int .i64 p, .int .i64 v, .int .i64 0, .int .i64 k, .bool f, .string ⟨#[]⟩] 41)) b p v k f := by
  subst hb
  exact ⟨by simp, ⟨by simp, by simp, by simp, by simp, by simp, by simp, by simp⟩, fun o => by simp [go_sem]⟩
def putE (w : World) (b : Nat) (p v k : Int) (f : Bool) : World := ((((((w.setCell ⟨b, 0, none⟩ (.int .i64 0)).setCell ⟨b, 1, none⟩ (.int .i64 p)).setCell ⟨b, 2, none⟩ (.int .i64 v)).setCell ⟨b, 3, none⟩ (.int .i64 0)).setCell ⟨b, 4, none⟩ (.int .i64 k)).setCell ⟨b, 5, none⟩ (.bool f)).setCell ⟨b, 6, none⟩ (.string ⟨#[]⟩)
theorem below_putE {K : Nat} {w W : World} (h : Below K w W) {b : Nat} (hb : K ≤ b) (p v k : Int) (f : Bool) : Below K w (putE W b p v k f) := by
  unfold putE
  exact ((((((h.setCell (p := ⟨b, 0, none⟩) hb _).setCell (p := ⟨b, 1, none⟩) hb _).setCell (p := ⟨b, 2, none⟩) hb _).setCell (p := ⟨b, 3, none⟩) hb _).setCell (p := ⟨b, 4, none⟩) hb _).setCell (p := ⟨b, 5, none⟩) hb _).setCell (p := ⟨b, 6, none⟩) hb _
/-- The answer as a value. -/
def nextV (x : ByteArray × Int × Int × Int × Int × Bool × Int) : Value := .tuple #[.string x.1, .int .i64 x.2.1, entV x.2.2.1 x.2.2.2.1 x.2.2.2.2.1 x.2.2.2.2.2.1, .int .i64 x.2.2.2.2.2.2]

end Go.Proofs.Ytjhpfnogdjpbmaa
