/-
  The walks of coord's checks: numbers, a producer by itself.
-/
import Derived.Test.YtjhpfnogdjpbmaaCleaf
import Derived.Shelf.Abstract
namespace Go.Proofs.Ytjhpfnogdjpbmaa
open Go.RowKit
set_option linter.unusedVariables false
set_option linter.unusedSimpArgs false

/-- A producer in seven cells; u: its parts' slice. -/
def txnE : El Txn where
  z := 7
  cs := fun t u => [.string t.nm, .int .i64 t.id, .int .i64 t.v, .int .i64 t.st, u, .int .i64 t.sn, .int .i64 t.dn]
  ns := Txn.ps
  len := fun _ _ => rfl
  one := fun t u hu c hc => by
    simp only [List.mem_cons, List.not_mem_nil, or_false] at hc
    rcases hc with rfl | rfl | rfl | rfl | rfl | rfl | rfl <;> first | rfl | exact hu
/-- Seven cells that hold a producer. -/
def TBox (w : World) (b o : Nat) (t : Txn) (u : Value) : Prop := w.cell? ⟨b, o, none⟩ = some (.string t.nm) ∧ w.cell? ⟨b, o + 1, none⟩ = some (.int .i64 t.id) ∧ w.cell? ⟨b, o + 2, none⟩ = some (.int .i64 t.v) ∧ w.cell? ⟨b, o + 3, none⟩ = some (.int .i64 t.st) ∧ w.cell? ⟨b, o + 4, none⟩ = some u ∧ w.cell? ⟨b, o + 5, none⟩ = some (.int .i64 t.sn) ∧ w.cell? ⟨b, o + 6, none⟩ = some (.int .i64 t.dn)
theorem RdW.txn {w : World} {ao : Option Addr} {n cap : Nat} {ts : List Txn} {us : Nat → Value} (h : RdW txnE w (.slice ao n cap) ts us) (i : Nat) (hi : i < ts.length) : ∃ g off, ao = some ⟨g, off, none⟩ ∧ RdV w (us i) (ints (ts[i]'hi).ps) ∧ TBox w g (off + i * 7) (ts[i]'hi) (us i) := by
  obtain ⟨g, off, rfl, hr, hc⟩ := h.at i hi
  exact ⟨g, off, rfl, hr, hc 0 _ rfl, hc 1 _ rfl, hc 2 _ rfl, hc 3 _ rfl, hc 4 _ rfl, hc 5 _ rfl, hc 6 _ rfl⟩
theorem TBox.below {w w' : World} {b o C : Nat} {t : Txn} {u : Value} (h : TBox w b o t u) (hg : b < C) (hb : Below C w w') : TBox w' b o t u := by
  obtain ⟨a0, a1, a2, a3, a4, a5, a6⟩ := h
  exact ⟨(hb.cell (p := ⟨b, o, none⟩) hg).trans a0, (hb.cell (p := ⟨b, o + 1, none⟩) hg).trans a1, (hb.cell (p := ⟨b, o + 2, none⟩) hg).trans a2, (hb.cell (p := ⟨b, o + 3, none⟩) hg).trans a3, (hb.cell (p := ⟨b, o + 4, none⟩) hg).trans a4, (hb.cell (p := ⟨b, o + 5, none⟩) hg).trans a5, (hb.cell (p := ⟨b, o + 6, none⟩) hg).trans a6⟩
theorem tbox_new (w : World) (t : Txn) (u : Value) (T : TypeId) : TBox (w.alloc (.cells #[.string t.nm, .int .i64 t.id, .int .i64 t.v, .int .i64 t.st, u, .int .i64 t.sn, .int .i64 t.dn] T)) w.heap.size 0 t u := ⟨by simp, by simp, by simp, by simp, by simp, by simp, by simp⟩
/-- Its slice of producers reads as it says. -/
def RdC (w : World) (c : Crd) (vt : Value) (us : Nat → Value) : Prop := RdW txnE w vt c.ts us
theorem RdC.below {C : Nat} {c : Crd} {vt : Value} {us : Nat → Value} {w w' : World} (h : RdC w c vt us) (hC : w.heap.size ≤ C) (hb : Below C w w') : RdC w' c vt us := RdW.below (E := txnE) (by decide) h hC hb
/-- All names are within Go's bounds. -/
def Crd.small (c : Crd) : Prop := ∀ t ∈ c.ts, t.nm.size ≤ maxLen
theorem Crd.small.at {c : Crd} (h : c.small) (i : Nat) : (c.at i).nm.size ≤ maxLen := by
  by_cases hi : i < c.ts.length
  · rw [at_txn hi]; exact h _ (List.getElem_mem hi)
  · have e : c.at i = zeroT := by unfold Crd.at; simp [List.getD, List.getElem?_eq_none (Nat.le_of_not_lt hi)]
    rw [e]; decide

set_option maxRecDepth 100000 in
set_option maxHeartbeats 1000000 in
theorem cfitsNumbers_any (c : Crd) (vt : Value) (w : World) :
    Calls Try.prog 44 #[.agg #[.int .i64 c.ck, .int .i64 c.nx, .int .i64 c.wt, vt]] w fun e w' => e = .returned (.bool c.numB) ∧ Below w.heap.size w w' := by
  have HE : Hid (c.numB = (inR c.ck 0 1073741824 && inR c.nx 1 1073741824 && inR c.wt 1 1000)) := show _ = _ from rfl
  go_enter Try.func44, Try.ntmps44
  go_wp2_with (go_at_call 41; refine (cwithin_any _ _ _ _).mono ?_; rintro e w' ⟨rfl, rfl⟩)
  all_goals
    go_ret
    exact ⟨by rw [HE.out]; simp [*], bbox _ _⟩

set_option maxRecDepth 100000 in
set_option maxHeartbeats 1000000 in
theorem hasMarkers_any (t : Txn) (u : Value) (w : World) :
    Calls Try.prog 59 #[.agg #[.string t.nm, .int .i64 t.id, .int .i64 t.v, .int .i64 t.st, u, .int .i64 t.sn, .int .i64 t.dn]] w fun e w' => e = .returned (.bool t.endB) ∧ Below w.heap.size w w' := by
  have HE : Hid (t.endB = (t.st == 3 || t.st == 4)) := show _ = _ from rfl
  go_enter Try.func59, Try.ntmps59
  go_wp2
  all_goals
    go_ret
    exact ⟨by rw [HE.out]; simp [*], bbox _ _⟩

set_option maxRecDepth 100000 in
set_option maxHeartbeats 1000000 in
theorem ending_any (t : Txn) (u : Value) (w : World) :
    Calls Try.prog 57 #[.agg #[.string t.nm, .int .i64 t.id, .int .i64 t.v, .int .i64 t.st, u, .int .i64 t.sn, .int .i64 t.dn]] w fun e w' => e = .returned (.bool t.endB) ∧ Below w.heap.size w w' := by
  have HE : Hid (t.endB = (t.st == 3 || t.st == 4)) := show _ = _ from rfl
  go_enter Try.func57, Try.ntmps57
  go_wp2
  all_goals
    go_ret
    exact ⟨by rw [HE.out]; simp [*], bbox _ _⟩

theorem em_eq (n : Nat) (s : Int) : (decide (n = 0) == decide (s = 1)) = (((n : Int) == 0) == (s == 1)) := by
  have e1 : ((n : Int) == 0) = decide (n = 0) := by rw [Bool.eq_iff_iff]; simp
  have e2 : (s == 1) = decide (s = 1) := by rw [Bool.eq_iff_iff]; simp
  rw [e1, e2]

set_option maxRecDepth 100000 in
set_option maxHeartbeats 2000000 in
theorem fitsTxn_any (c : Crd) (vt : Value) (t : Txn) (u : Value) (w : World) (hx0 : 1 ≤ c.nx) (hx1 : c.nx ≤ 1073741824) (hs : t.nm.size ≤ maxLen) (hu : RdV w u (ints t.ps)) :
    Calls Try.prog 45 #[.agg #[.int .i64 c.ck, .int .i64 c.nx, .int .i64 c.wt, vt], .agg #[.string t.nm, .int .i64 t.id, .int .i64 t.v, .int .i64 t.st, u, .int .i64 t.sn, .int .i64 t.dn]] w fun e w' => e = .returned (.bool (c.okB t)) ∧ Below w.heap.size w w' := by
  have HE : Hid (c.okB t = (nameB t.nm && inR t.id 1 (c.nx - 1) && inR t.v 0 1073741824 && inR t.st 1 4 && inR t.sn 0 c.ck && (t.dn == 0 || t.dn == 3 || t.dn == 4) && riseB t.ps && (((t.ps.length : Int) == 0) == (t.st == 1)))) := show _ = _ by rw [← em_eq]; rfl
  have HU : Hid (∀ W, Below w.heap.size w W → RdV W u (ints t.ps)) := fun W hW => hu.below (Nat.le_refl _) hW
  have HS : Hid (t.nm.size ≤ maxLen) := hs
  obtain ⟨au, cu, rfl⟩ := hu.shape
  rw [ints_len] at *
  clear hu hs
  go_enter Try.func45, Try.ntmps45
  go_wp2_with (first | (go_at_call 72; refine (isName_any _ _ HS.out).mono ?_; rintro e w' ⟨rfl, rfl⟩) | (go_at_call 41; refine (cwithin_any _ _ _ _).mono ?_; rintro e w' ⟨rfl, rfl⟩) | (go_at_call 73; refine (partsRise_any _ _ _ (HU.out _ (bstep (bbox _ _) (bbox _ _)))).mono ?_; rintro e w' ⟨rfl, rfl⟩))
  all_goals
    go_ret
    exact ⟨by rw [HE.out]; simp [*], bstep (bbox _ _) (bbox _ _)⟩

set_option maxRecDepth 100000 in
set_option maxHeartbeats 1000000 in
/-- slices.IndexFunc, for whatever function: b says what it answers at each place, I what holds ahead of each, F where it says yes. -/
theorem indexT (g : Nat) (lb : Array Value) (eg : ∀ args w, (callFunc g args).run Try.prog w = .ok (.enter g args) w) (b : Nat → Bool) (ts : List Txn) (vt : Value) (us : Nat → Value) (w : World) (I F : Nat → World → Prop) (hl : (ts.length : Int) ≤ 9223372036854775807) (h0 : I 0 w)
    (hr : ∀ k W, I k W → RdW txnE W vt ts us)
    (hs : ∀ k, (hk : k < ts.length) → ∀ W, I k W → Calls Try.prog g (#[.agg #[.string (ts[k]'hk).nm, .int .i64 (ts[k]'hk).id, .int .i64 (ts[k]'hk).v, .int .i64 (ts[k]'hk).st, us k, .int .i64 (ts[k]'hk).sn, .int .i64 (ts[k]'hk).dn]] ++ lb) W fun e W' => e = .returned (.bool (b k)) ∧ (b k = true → F k W') ∧ (b k = false → I (k + 1) W')) :
    Calls Try.prog 63 #[vt, .func (.func g) #[] lb] w fun e w' => e = .returned (.int .i64 (scan (fun i => b i = true) ts.length 0)) ∧ ((∃ k, k < ts.length ∧ b k = true ∧ (∀ j, j < k → b j = false) ∧ scan (fun i => b i = true) ts.length 0 = k ∧ F k w') ∨ ((∀ j, j < ts.length → b j = false) ∧ scan (fun i => b i = true) ts.length 0 = -1 ∧ I ts.length w')) := by
  obtain ⟨ao, cap, rfl, h1, h2⟩ := (hr 0 w h0).shape
  have HR : Hid _ := hr
  have HS : Hid _ := hs
  clear h1 h2 hr hs
  go_enter Try.func63, Try.ntmps63
  go_wp2
  go_loopw [8] (fun i wr => ∃ k : Nat, k ≤ ts.length ∧ i = .int .i64 k ∧ Hid (∀ j, j < k → b j = false) ∧ Hid (I k wr)) (fun i _ => ts.length - (intOf i).toNat)
  case atStart => exact ⟨0, by omega, rfl, (fun j hj => by omega), h0⟩
  case round =>
    obtain ⟨k, hk, rfl, HN, HI⟩ := hrel
    by_cases hlt : k < ts.length
    · obtain ⟨gg, off, rfl, -, q0, q1, q2, q3, q4, q5, q6⟩ := (HR.out k wr HI.out).txn k hlt
      cases hq : b k with
      | true =>
        have HV : Hid (scan (fun i => b i = true) ts.length 0 = k) := scan_some (by omega) (by omega) hq (fun j _ hj => by rw [HN.out j hj]; decide)
        have HQ : Hid (b k = true) := hq
        have hcall := (HS.out k hlt wr HI.out).mono (fun e W' h => (⟨h.1.trans (by rw [hq]), h.2.1 hq⟩ : e = .returned (.bool true) ∧ Hid (F k W')))
        generalize ts[k] = x at *
        clear hq
        go_wp2_with (go_at_fn g; refine hcall.mono ?_; rintro e w' ⟨rfl, HF⟩)
        go_ret
        exact ⟨by rw [HV.out]; rfl, .inl ⟨k, hlt, HQ.out, HN.out, HV.out, HF.out⟩⟩
      | false =>
        have HQ : Hid (∀ j, j < k + 1 → b j = false) := fun j hj => by
          by_cases e : j = k
          · rw [e]; exact hq
          · exact HN.out j (by omega)
        have hcall := (HS.out k hlt wr HI.out).mono (fun e W' h => (⟨h.1.trans (by rw [hq]), h.2.2 hq⟩ : e = .returned (.bool false) ∧ Hid (I (k + 1) W')))
        generalize ts[k] = x at *
        clear hq
        go_wp2_with (go_at_fn g; refine hcall.mono ?_; rintro e w' ⟨rfl, HF⟩)
        go_roundw
        case rel => exact ⟨k + 1, by omega, by go_num, HQ, HF⟩
        case measure => simp [intOf]; omega
    · have hke : k = ts.length := by omega
      have HN' : Hid (∀ j, j < ts.length → b j = false) := show ∀ j, _ by rw [← hke]; exact HN.out
      have HI' : Hid (I ts.length wr) := show I _ _ by rw [← hke]; exact HI.out
      have HV : Hid (scan (fun i => b i = true) ts.length 0 = -1) := by
        rcases scan_cases (P := fun i => b i = true) ts.length 0 with h0 | ⟨j, _, j2, j3, _⟩
        · exact h0
        · exact absurd j3 (by rw [HN'.out j (by omega)]; decide)
      clear hke
      go_wp2
      go_ret
      exact ⟨by rw [HV.out]; rfl, .inr ⟨HN'.out, HV.out, HI'.out⟩⟩

/-- The function g, with what it holds, answers p of a producer, and changes nothing that lay there. -/
def PredT (g : Nat) (lb : Array Value) (p : Txn → Bool) (w : World) : Prop :=
  ∀ (W : World) (x : Txn) (u : Value), Below w.heap.size w W → Calls Try.prog g (#[.agg #[.string x.nm, .int .i64 x.id, .int .i64 x.v, .int .i64 x.st, u, .int .i64 x.sn, .int .i64 x.dn]] ++ lb) W fun e w' => e = .returned (.bool (p x)) ∧ Below w.heap.size w w'

theorem indexT_any (g : Nat) (lb : Array Value) (p : Txn → Bool) (eg : ∀ args w, (callFunc g args).run Try.prog w = .ok (.enter g args) w) (ts : List Txn) (vt : Value) (us : Nat → Value) (w : World) (hr : RdW txnE w vt ts us) (hp : PredT g lb p w) :
    Calls Try.prog 63 #[vt, .func (.func g) #[] lb] w fun e w' => e = .returned (.int .i64 (scan (fun i => p (ts.getD i zeroT) = true) ts.length 0)) ∧ Below w.heap.size w w' := by
  have hl : (ts.length : Int) ≤ 9223372036854775807 := by
    obtain ⟨ao, cap, _, h1, h2⟩ := hr.shape
    unfold maxLen at h2
    omega
  refine (indexT g lb eg (fun i => p (ts.getD i zeroT)) ts vt us w (fun _ W => Below w.heap.size w W) (fun _ W => Below w.heap.size w W) hl (Below.refl _ _) (fun _ W hW => RdW.below (E := txnE) (by decide) hr (Nat.le_refl _) hW) (fun k hk W hW => ?_)).mono ?_
  · have e : ts.getD k zeroT = ts[k]'hk := by simp [List.getD, hk]
    rw [e]
    exact (hp W (ts[k]'hk) (us k) hW).mono fun e w' ⟨h1, h2⟩ => ⟨h1, fun _ => h2, fun _ => h2⟩
  · rintro e w' ⟨h1, ⟨k, _, _, _, _, h2⟩ | ⟨_, _, h2⟩⟩
    · exact ⟨h1, h2⟩
    · exact ⟨h1, h2⟩

set_option maxRecDepth 100000 in
set_option maxHeartbeats 400000 in
theorem containsT_any (g : Nat) (lb : Array Value) (p : Txn → Bool) (eg : ∀ args w, (callFunc g args).run Try.prog w = .ok (.enter g args) w) (ts : List Txn) (vt : Value) (us : Nat → Value) (w : World) (hr : RdW txnE w vt ts us) (hp : PredT g lb p w) :
    Calls Try.prog 46 #[vt, .func (.func g) #[] lb] w fun e w' => e = .returned (.bool (!allN (fun i => !p (ts.getD i zeroT)) ts.length)) ∧ Below w.heap.size w w' := by
  have HI := indexT_any g lb p eg ts vt us w hr hp
  have HE : Hid ((!allN (fun i => !p (ts.getD i zeroT)) ts.length) = decide (0 ≤ scan (fun i => p (ts.getD i zeroT) = true) ts.length 0)) := show _ = _ by
    cases h : allN (fun i => !p (ts.getD i zeroT)) ts.length with
    | true =>
      rw [allN_iff] at h
      have : scan (fun i => p (ts.getD i zeroT) = true) ts.length 0 < 0 := scan_none.2 fun j _ hj hp => by
        have := h j (by omega)
        rw [hp] at this
        cases this
      rw [decide_eq_false (fun h => by omega)]
      rfl
    | false =>
      have : ¬ scan (fun i => p (ts.getD i zeroT) = true) ts.length 0 < 0 := fun hc => by
        rw [scan_none] at hc
        rw [allN_iff.2 (fun j hj => by have := hc j (by omega) (by omega); simpa using this)] at h
        cases h
      rw [decide_eq_true (by omega)]
      rfl
  clear hr hp
  generalize scan (fun i => p (ts.getD i zeroT) = true) ts.length 0 = n at *
  go_enter Try.func46, Try.ntmps46
  go_wp2_with fail
  refine HI.mono ?_
  rintro e w' ⟨rfl, hb⟩
  by_cases h : 0 ≤ n
  · go_wp2
    go_ret
    exact ⟨by rw [HE.out]; simp [h], hb⟩
  · go_wp2
    go_ret
    exact ⟨by rw [HE.out]; simp [h], hb⟩

set_option maxRecDepth 100000 in
set_option maxHeartbeats 1000000 in
/-- Is it like the producer in the box? -/
theorem like_fn (B : Nat) (x : Txn) (ux : Value) (w : World) (hB : B < w.heap.size) (hx : TBox w B 0 x ux) : PredT 74 #[.pointer (some ⟨B, 0, none⟩)] (fun y => likeB y x) w := by
  intro W y u hbel
  have hx' := hx.below hB hbel
  have hBW : B < W.heap.size := Nat.lt_of_lt_of_le hB hbel.size
  have hne := Nat.ne_of_lt hBW
  obtain ⟨x0, x1, x2, x3, x4, x5, x6⟩ := hx'
  rw [Nat.zero_add] at x1
  clear x2 x3 x4 x5 x6 hx
  have HE : Hid (likeB y x = ((y.nm.toList == x.nm.toList) || y.id == x.id)) := show _ = _ from rfl
  show Calls Try.prog 74 #[.agg #[.string y.nm, .int .i64 y.id, .int .i64 y.v, .int .i64 y.st, u, .int .i64 y.sn, .int .i64 y.dn], .pointer (some ⟨B, 0, none⟩)] W fun e w' => e = .returned (.bool (likeB y x)) ∧ Below w.heap.size w w'
  go_enter Try.func74, Try.ntmps74
  go_wp2
  all_goals
    go_ret
    exact ⟨by rw [HE.out]; simp [*], hbel.alloc hbel.size _⟩

set_option maxRecDepth 100000 in
set_option maxHeartbeats 1000000 in
theorem like_any (x : Txn) (u : Value) (w : World) :
    Calls Try.prog 47 #[.agg #[.string x.nm, .int .i64 x.id, .int .i64 x.v, .int .i64 x.st, u, .int .i64 x.sn, .int .i64 x.dn]] w fun e w' => e = .returned (.func (.func 74) #[] #[.pointer (some ⟨w.heap.size, 0, none⟩)]) ∧ w.heap.size < w'.heap.size ∧ TBox w' w.heap.size 0 x u ∧ Below w.heap.size w w' := by
  have HT : Hid (TBox _ w.heap.size 0 x u) := tbox_new w x u 62
  go_enter Try.func47, Try.ntmps47
  go_wp2
  go_ret
  exact ⟨rfl, by simp, HT.out, bbox _ _⟩

set_option maxRecDepth 100000 in
set_option maxHeartbeats 1000000 in
theorem named_fn (B : Nat) (s : ByteArray) (w : World) (hB : B < w.heap.size) (hx : w.cell? ⟨B, 0, none⟩ = some (.string s)) : PredT 92 #[.pointer (some ⟨B, 0, none⟩)] (fun y => sameN y.nm s) w := by
  intro W y u hbel
  have x0 := (hbel.cell (p := ⟨B, 0, none⟩) hB).trans hx
  have hBW : B < W.heap.size := Nat.lt_of_lt_of_le hB hbel.size
  have hne := Nat.ne_of_lt hBW
  clear hx
  have HE : Hid (sameN y.nm s = (y.nm.toList == s.toList)) := show _ = _ from rfl
  show Calls Try.prog 92 #[.agg #[.string y.nm, .int .i64 y.id, .int .i64 y.v, .int .i64 y.st, u, .int .i64 y.sn, .int .i64 y.dn], .pointer (some ⟨B, 0, none⟩)] W fun e w' => e = .returned (.bool (sameN y.nm s)) ∧ Below w.heap.size w w'
  go_enter Try.func92, Try.ntmps92
  go_wp2
  all_goals
    go_ret
    exact ⟨by rw [HE.out]; simp [*], hbel.alloc hbel.size _⟩

set_option maxRecDepth 100000 in
set_option maxHeartbeats 1000000 in
theorem named_any (s : ByteArray) (w : World) :
    Calls Try.prog 75 #[.string s] w fun e w' => e = .returned (.func (.func 92) #[] #[.pointer (some ⟨w.heap.size, 0, none⟩)]) ∧ w.heap.size < w'.heap.size ∧ w'.cell? ⟨w.heap.size, 0, none⟩ = some (.string s) ∧ Below w.heap.size w w' := by
  go_enter Try.func75, Try.ntmps75
  go_wp2
  go_ret
  exact ⟨rfl, by simp, by simp, bbox _ _⟩

end Go.Proofs.Ytjhpfnogdjpbmaa
