/-
  Package view: Stable: the least beginning of an open transaction, whatever the order in which the map is gone through.
-/
import Derived.Test.YtdpiijndnefahaaAdev
import Derived.Test.YtdpiijndnefahaaAlaw
namespace Go.Proofs.Ytdpiijndnefahaa
open Go.RowKit Go.Maps
set_option linter.unusedVariables false
set_option linter.unusedSimpArgs false

section
variable {w : World} {ops : Array Oper} {rest : List Oper} {o : Oper} {a : Act} {Q : Exit → Act → World → Prop}
/-- The step of a range over producers. -/
theorem wp_nextP (hg : o.guard = none) (it : Operand) (hop : o.op = Op.next it false) (b r n : Nat) (D : DataW Unit) (left : Lit → Bool) (cnt : Nat)
    (hit : a.eval it = .pointer (some ⟨r, 0, none⟩)) (h : w.ranges Try.prog 3 prdElem b r n D left cnt)
    (hDone : cnt = 0 → (∀ kl, left kl = false) → wpList Try.prog ops Q rest (a.put o.dst (.tuple #[.bool false])) w)
    (hMore : ∀ (x : Int) (q : Prd) (w' : World) (cnt' : Nat), (Lit.int .i64 x).wf = true → left (.int .i64 x) = true → (∀ zd, D.atKey (.int .i64 x) zd = q.dat) → w'.ranges Try.prog 3 prdElem b r n D (fun z => left z && !z.sameKey (.int .i64 x)) cnt' → cnt' < cnt →
      w.grownBy w' (some r) → w'.heap.size = w.heap.size → (Instr.entry (.pointer (some ⟨r, 0, none⟩))).run Try.prog w' = .ok (.tuple #[.int .i64 x, .agg #[.int .i64 q.v, .int .i64 q.n, .int .i64 q.b, .int .i64 q.m]]) w' →
      wpList Try.prog ops Q rest (a.put o.dst (.tuple #[.bool true, .int .i64 x, .agg #[.int .i64 q.v, .int .i64 q.n, .int .i64 q.b, .int .i64 q.m]])) w') :
    wpList Try.prog ops Q (o :: rest) a w := by
  refine wpList_next_ranges w hg it hop 3 lawI prdElem (fun x : Int => .int .i64 x) (fun q : Prd => q.val) (fun key kl h => ?_) (fun v y h => ?_) b r n D left cnt hit h hDone ?_
  · obtain ⟨x, rfl, _, _⟩ := keyOf_int_inv Try.underlying3 h
    exact ⟨x, rfl⟩
  · obtain ⟨q, rfl, _⟩ := prdElem_inv h
    exact ⟨q, rfl⟩
  · intro x q kl y w' cnt' hk hl hR hat hrg hlt hgr hsz hen
    obtain ⟨x', e1, e2, hw⟩ := keyOf_int_inv Try.underlying3 hk
    injection e1 with _ e1
    subst e1
    subst e2
    rw [prdElem_mk] at hR
    cases hR
    exact hMore x q w' cnt' hw hl hat hrg hlt hgr hsz hen
end

/-- What a number holds while producers come, whichever are left. -/
def StbInv (M : Int → Option Prd) (left : Lit → Bool) (high e : Int) : Prop :=
  e ≤ high ∧ (∀ k q, M k = some q → left (.int .i64 k) = false → q.b ≠ -1 → e ≤ q.b) ∧ (e = high ∨ ∃ k q, M k = some q ∧ q.b = e ∧ q.b ≠ -1)
theorem stbInv_step {M : Int → Option Prd} {left : Lit → Bool} {high e x e' : Int} {q : Prd} (h : StbInv M left high e) (hx : M x = some q)
    (he : q.b = -1 ∧ e' = e ∨ q.b ≠ -1 ∧ (e ≤ q.b ∧ e' = e ∨ q.b ≤ e ∧ e' = q.b)) : StbInv M (fun z => left z && !z.sameKey (.int .i64 x)) high e' := by
  obtain ⟨h1, h2, h3⟩ := h
  have H3 : Hid _ := h3
  clear h3
  have hle : e' ≤ e := by omega
  refine ⟨by omega, fun k q' hk hl hb => ?_, ?_⟩
  · by_cases hkx : k = x
    · subst hkx
      rw [hx] at hk
      obtain rfl := Option.some.inj hk
      omega
    · have hne : Lit.int .i64 k ≠ Lit.int .i64 x := fun e => hkx (by injection e)
      simp only [sameKey_ne hne, Bool.not_false, Bool.and_true] at hl
      have := h2 k q' hk hl hb
      omega
  · by_cases hee : e' = e
    · subst hee
      exact H3.out
    · exact .inr ⟨x, q, hx, by omega, by omega⟩

theorem stable_of {es : List Ent} (hp : Plain es) (h : Nat) (hh : h ≤ es.length) (left : Lit → Bool) (e : Int) (hI : StbInv (prdM (es.take h) h) left h e) (hl : ∀ kl, left kl = false) : e = stb es h := by
  obtain ⟨h1, h2, h3⟩ := hI
  have hle : (es.take h).length = h := by simp; omega
  have ho : ∀ p, openN (es.take h) p h = openN es p h := fun p => by
    have := openN_take es p h hh
    rw [hle] at this
    exact this
  have hs := fun p => prd_spec (es.take h) p h
  refine stb_least hp h hh e h1 (fun p p0 hp0 => ?_) ?_
  · cases hq : prdK (es.take h) p h with
    | none =>
      obtain ⟨_, _, _, a4⟩ := (hs p).1 hq
      rw [ho] at a4
      omega
    | some q =>
      obtain ⟨_, _, _, _, a5⟩ := (hs p).2 q hq
      rw [ho] at a5
      have hm : prdM (es.take h) h p = some q := by unfold prdM; rw [if_neg p0]; exact hq
      have := h2 p q hm (hl _) (by omega)
      omega
  · rcases h3 with h3 | ⟨k, q, hk, hb, hn⟩
    · exact .inl h3
    · right
      unfold prdM at hk
      by_cases k0 : k = 0
      · rw [if_pos k0] at hk
        cases hk
      · rw [if_neg k0] at hk
        obtain ⟨_, _, _, _, a5⟩ := (hs k).2 q hk
        rw [ho] at a5
        have := openN_bd es k h
        exact ⟨k, k0, by omega, by omega⟩

theorem prdK_key {es : List Ent} (hp : Plain es) {p : Int} (k : Nat) (hk : k ≤ es.length) {q : Prd} (h : prdK es p k = some q) : -9223372036854775808 ≤ p ∧ p ≤ 9223372036854775807 := by
  induction k generalizing q with
  | zero => simp [prdK] at h
  | succ k ih =>
    simp only [prdK] at h
    by_cases e : (Ent.at es k).b = p
    · have hlt : k < es.length := by omega
      have hm := hp es[k] (List.getElem_mem hlt)
      rw [← at_get hlt] at hm
      omega
    · rw [if_neg e] at h
      exact ih (by omega) h

set_option maxRecDepth 100000 in
set_option maxHeartbeats 1000000 in
theorem stable_in (es : List Ent) (ao : Option Addr) (cap n : Nat) (w : World) (hl : (es.length : Int) ≤ 2199023255552) (hp : Plain es) (hr : RdX w (.slice ao es.length cap) es) (hn : n ≤ es.length) :
    Calls Try.prog 16 #[.slice ao es.length cap, .int .i64 n] w fun e w' => e = .returned (.tuple #[.int .i64 (stb es n), .int .i64 0]) ∧ Below w.heap.size w w' := by
  have hcn : (n : Int) ≤ cap := by
    obtain ⟨_, _, e, c1, _⟩ := hr
    cases e
    omega
  have hn' : (n : Int) ≤ es.length := by omega
  have HRT : Hid (RdX w (.slice ao n cap) (es.take n)) := hr.take n hn
  have HPT : Hid (Plain (es.take n)) := fun e he => hp e (List.mem_of_mem_take he)
  have HFIN : Hid _ := fun left e => stable_of hp n hn left e
  have HLT : Hid ((es.take n).length = n) := show _ = _ by simp; omega
  have HLL : Hid (((es.take n).length : Int) ≤ 2199023255552) := show _ ≤ _ by simp; omega
  clear hr hp
  go_enter Try.func16, Try.ntmps16
  go_wp2_with fail
  refine (producers_any (es.take n) _ _ HLL.out HPT.out HRT.out).mono ?_
  rw [HLT.out]
  rintro e w1 ⟨rfl, ⟨m, hm, hmap⟩, hb1⟩
  obtain ⟨D, hown, hD⟩ := hmap
  have HD : Hid _ := hD
  clear hD
  go_wp2_with (at_range; refine wpList_range_own _ rfl _ 55 rfl 3 53 lawI Try.underlying55 prdElem w.heap.size m D rfl hown ?_; intro w2 hrg0 hg0 hs0)
  go_frame
  have hb2 : Below w.heap.size w w2 := hb1.grown (hg0.but (some w1.heap.size)) hb1.size (fun k hk => by cases hk; exact hb1.size)
  have hr0 : w.heap.size ≤ w1.heap.size := hb1.size
  have hrs : w1.heap.size < w2.heap.size := by omega
  have hI0 : StbInv (prdM (es.take n) n) (has D) n n := by
    refine ⟨Int.le_refl _, fun k q hk hh hb => ?_, .inl rfl⟩
    exfalso
    have hkr : -9223372036854775808 ≤ k ∧ k ≤ 9223372036854775807 := by
      unfold prdM at hk
      by_cases k0 : k = 0
      · rw [if_pos k0] at hk; cases hk
      · rw [if_neg k0] at hk
        exact prdK_key HPT.out n (by rw [HLT.out]; exact Nat.le_refl _) hk
    have := (HD.out k hkr.1 hkr.2).1
    rw [hh, hk] at this
    cases this
  have HI0 : Hid _ := hI0
  clear hg0 hs0 hown hI0 hb1 hm
  generalize hr1 : w1.heap.size = r at *
  clear hr1
  go_loopw [6] (fun e wr => ∃ (left : Lit → Bool) (cnt : Nat) (x : Int), e = .int .i64 x ∧ wr.ranges Try.prog 3 prdElem w.heap.size r m D left cnt ∧ Hid (StbInv (prdM (es.take n) n) left n x) ∧ r < wr.heap.size ∧ Below w.heap.size w wr) (fun _ wr => wr.rangeLeft w.heap.size r)
  case atStart => exact ⟨_, _, n, rfl, hrg0, HI0, hrs, hb2⟩
  case round =>
    obtain ⟨left, cnt, x, rfl, hrg, HI, hrw, hb⟩ := hrel
    clear hrg0 HI0 hrs hb2
    go_wp2_with (at_next; refine wp_nextP rfl _ rfl w.heap.size r m D left cnt rfl hrg ?_ ?_)
    · intro hc0 hl0
      have HE : Hid (x = stb es n) := HFIN.out left x HI.out hl0
      clear hc0 hl0
      go_wp2
      go_ret2
      rw [HE.out]
      exact ⟨rfl, hb⟩
    · intro k q w3 cnt3 hwk hlk hat hrg3 hlt hg3 hs3 hen
      have hkr : -9223372036854775808 ≤ k ∧ k ≤ 9223372036854775807 := by simp [Lit.wf, IntKind.min, IntKind.max, IntKind.signed, IntKind.bits] at hwk; omega
      have HM : Hid (prdM (es.take n) n k = some q) := by
        obtain ⟨g1, g2⟩ := HD.out k hkr.1 hkr.2
        rw [has_true_of_atKey hat] at g1
        obtain ⟨q', hq'⟩ := Option.isSome_iff_exists.1 g1.symm
        have := g2 q' hq' (q.dat)
        rw [hat] at this
        rw [hq', dat_inj this]
        exact rfl
      have hB3 : Below w.heap.size w w3 := hb.grown hg3 hb.size (fun j hj => by cases hj; exact hr0)
      have HSTEP : Hid _ := fun e' he => stbInv_step (e' := e') HI.out HM.out he
      have hr3 : r < w3.heap.size := by omega
      clear hat hwk hlk HI HM hkr hb hg3
      by_cases hqb : q.b = -1
      · have hqb' : (q.b != -1) = false := by simp [hqb]
        have HS : Hid _ := HSTEP.out x (.inl ⟨hqb, rfl⟩)
        clear hqb HSTEP
        go_wp2
        exact ⟨⟨_, cnt3, x, rfl, hrg3.alloc _, HS, by simp; omega, hB3.alloc hB3.size _⟩, by rw [(hrg3.alloc _).left_eq, hrg.left_eq]; exact hlt⟩
      · have hqb' : (q.b != -1) = true := by simp [hqb]
        by_cases hle : x ≤ q.b
        · have HS : Hid _ := HSTEP.out x (.inr ⟨hqb, .inl ⟨hle, rfl⟩⟩)
          clear hqb HSTEP
          go_wp2
          exact ⟨⟨_, cnt3, x, rfl, hrg3.alloc _, HS, by simp; omega, hB3.alloc hB3.size _⟩, by rw [(hrg3.alloc _).left_eq, hrg.left_eq]; exact hlt⟩
        · have HS : Hid _ := HSTEP.out q.b (.inr ⟨hqb, .inr ⟨by omega, rfl⟩⟩)
          clear hqb HSTEP
          go_wp2
          exact ⟨⟨_, cnt3, q.b, by rw [if_pos (by omega)], hrg3.alloc _, HS, by simp; omega, hB3.alloc hB3.size _⟩, by rw [(hrg3.alloc _).left_eq, hrg.left_eq]; exact hlt⟩

set_option maxRecDepth 100000 in
set_option maxHeartbeats 400000 in
theorem stable_out (es : List Ent) (ao : Option Addr) (cap : Nat) (h : Int) (w : World) (hl : (es.length : Int) ≤ 2199023255552) (hh : h < 0 ∨ (es.length : Int) < h) :
    Calls Try.prog 16 #[.slice ao es.length cap, .int .i64 h] w fun e w' => e = .returned (.tuple #[.int .i64 0, .int .i64 2]) ∧ Below w.heap.size w w' := by
  rcases hh with hh | hh
  · have h1 : decide (h < 0) = true := by simp [hh]
    clear hh
    go_enter Try.func16, Try.ntmps16
    go_wp2
    go_ret2
    exact ⟨rfl, Below.refl _ _⟩
  · have h1 : decide (h < 0) = false := by simp; omega
    have h2 : decide (h > (es.length : Int)) = true := by simp; omega
    go_enter Try.func16, Try.ntmps16
    go_wp2
    go_ret2
    exact ⟨rfl, Below.refl _ _⟩

theorem stable_c : StableC := by
  intro es v h w hl hp hr
  obtain ⟨ao, cap, rfl⟩ : ∃ ao cap, v = .slice ao es.length cap := by obtain ⟨ao, cap, e, _⟩ := hr; exact ⟨ao, cap, e⟩
  by_cases hh : h < 0 ∨ (es.length : Int) < h
  · have E : stf es h = (0, 2) := by unfold stf; rw [if_pos hh]
    rw [E]
    exact stable_out es ao cap h w hl hh
  · obtain ⟨n, rfl⟩ := Int.eq_ofNat_of_zero_le (show 0 ≤ h by omega)
    have E : stf es n = ((stb es n : Int), 0) := by unfold stf; rw [if_neg hh, Int.toNat_natCast]
    rw [E]
    exact stable_in es ao cap n w hl hp hr (by omega)

end Go.Proofs.Ytdpiijndnefahaa
