/-
  The document's AssignedOf, walked.
-/
import Derived.Test.YtmkbbhdmfpjfdaaGasg2
import Derived.BigQuiet
namespace Go.Proofs.Ytmkbbhdmfpjfdaa
open Go.RowKit
set_option linter.unusedVariables false
set_option linter.unusedSimpArgs false

theorem OwnW.turnIn {α : Type} {E : El α} {T : TypeId} {B : Nat} {w w' : World} {g n cap : Nat} {xs : List α} {us : Nat → Value} (h : OwnW E T B w (.slice (some ⟨g, 0, none⟩) n cap) xs us) (i j : Nat) (hi : i < xs.length) (hj : j < E.z) (x' : α) (u : Value) (hc : (E.cs (xs[i]'hi) (us i)).set j u = E.cs x' u)
    (hu : OwnV B 3 1 u (E.ns x').length (ints (E.ns x')) w') (hg : w.grownBy w' (us i).ownBlock) (hat : ∀ b, u.ownBlock = some b → (us i).ownBlock = some b ∨ w.heap.size ≤ b) :
    OwnW E T B (w'.setCell ⟨g, i * E.z + j, none⟩ u) (.slice (some ⟨g, 0, none⟩) n cap) (xs.set i x') (fun k => if k = i then u else us k) := by
  obtain ⟨hrow, hin⟩ := h.turn i hi hg
  have hb : ∀ k, k < xs.length → (us k).ownBlock ≠ some g := fun k hk e => h.a k hk g e rfl
  have hgl := (h.o.blk g rfl).2
  have hug : u.ownBlock ≠ some g := fun e => by
    rcases hat g e with h1 | h1
    · exact hb i hi h1
    · omega
  have hud : ∀ k, k < xs.length → k ≠ i → ∀ b, (us k).ownBlock = some b → u.ownBlock ≠ some b := fun k hk hne b e e2 => by
    rcases hat b e2 with h1 | h1
    · exact h.d k i hk hi hne b e h1
    · have := ((h.i k hk).blk b e).2; omega
  have hln : n = xs.length := by
    obtain ⟨ao, c, e⟩ := h.o.shape
    simp only [Value.slice.injEq] at e
    exact e.2.1
  refine ⟨?_, fun k hk => ?_, fun k hk b hbk => ?_, fun k m hk hm hne b hbk => ?_⟩
  · subst hln
    have := hrow.stored (i * E.z + j) u
    rw [row_set E us (fun k => if k = i then u else us k) xs 0 i j hi hj x' u (by simpa using hc) (fun m _ hne => by simp [hne])] at this
    simpa using this
  · have hk' : k < xs.length := by simpa using hk
    by_cases e : k = i
    · subst e
      have := hu.far hug (k * E.z + j) u
      simp only [if_true]
      rw [List.getElem_set_self]
      exact this
    · have := (hin k hk' e).far (hb k hk') (i * E.z + j) u
      simp only [if_neg e]
      rw [List.getElem_set_ne (fun h => e h.symm)]
      exact this
  · have hk' : k < xs.length := by simpa using hk
    by_cases e : k = i
    · subst e
      simp only [if_true] at hbk
      intro e2
      exact hug (hbk.trans e2.symm)
    · simp only [if_neg e] at hbk
      exact h.a k hk' b hbk
  · have hk' : k < xs.length := by simpa using hk
    have hm' : m < xs.length := by simpa using hm
    by_cases e : k = i
    · subst e
      simp only [if_true] at hbk
      rw [if_neg (fun h => hne h.symm)]
      exact fun e2 => hud m hm' (fun h => hne h.symm) b e2 hbk
    · simp only [if_neg e] at hbk
      by_cases e2 : m = i
      · subst e2
        simp only [if_true]
        exact hud k hk' e b hbk
      · simp only [if_neg e2]
        exact h.d k m hk' hm' hne b hbk


def aheadTo (ns : List ByteArray) (i k : Nat) : Nat := (List.range k).countP (fun m => befB ns m i)
theorem aheadTo_all (ns : List ByteArray) (i : Nat) : aheadTo ns i ns.length = ahead ns i := rfl
theorem aheadTo_yes {ns : List ByteArray} {i k : Nat} (h : befB ns k i = true) : aheadTo ns i (k + 1) = aheadTo ns i k + 1 := by
  unfold aheadTo
  rw [List.range_succ, List.countP_append, List.countP_singleton, h]
  rfl
theorem aheadTo_no {ns : List ByteArray} {i k : Nat} (h : befB ns k i = false) : aheadTo ns i (k + 1) = aheadTo ns i k := by
  unfold aheadTo
  rw [List.range_succ, List.countP_append, List.countP_singleton, h]
  rfl
theorem aheadTo_le (ns : List ByteArray) (i k : Nat) : aheadTo ns i k ≤ k := by
  unfold aheadTo
  have := List.countP_le_length (p := fun m => befB ns m i) (l := List.range k)
  rwa [List.length_range] at this
theorem dealt_more {a n : Nat} {p : Int} (hn : 0 < n) (j : Nat) : j < (dealt a n p).length ↔ ((a + j * n : Nat) : Int) < p := by
  constructor
  · exact dealt_bound hn j
  · intro h
    have hap : (a : Int) < p := by
      have : (a : Int) ≤ ((a + j * n : Nat) : Int) := by omega
      omega
    rw [dealt_len hn hap]
    have h3 : ((a + j * n : Nat) : Int) = (a : Int) + (j : Int) * (n : Int) := by simp
    have h4 : (j : Int) * (n : Int) ≤ p - 1 - a := by omega
    have h5 := Int.le_ediv_of_mul_le (by omega : (0 : Int) < n) h4
    omega
theorem set_mid {α : Type} (L R : List α) (x y : α) : (L ++ x :: R).set L.length y = L ++ y :: R := by
  rw [List.set_append_right _ _ (by omega)]
  simp

set_option maxRecDepth 100000 in
set_option maxHeartbeats 4000000 in
theorem assignedOf_any (ns : List ByteArray) (p : Int) (v : Value) (w : World) (hr : RdV w v (strs ns)) (hn : ns.length ≤ 8796093022208) (hp0 : -1000 ≤ p) (hp1 : p ≤ 1000) :
    Calls Try.prog 22 #[v, .int .i64 p] w fun e w' => ∃ v' us, e = .returned v' ∧ OwnW listE 53 w.heap.size w' v' (asg ns p) us ∧ Below w.heap.size w w' := by
  obtain ⟨ao, cap, rfl⟩ := hr.shape
  rw [strs_len] at *
  have HR : Hid (∀ W, Below w.heap.size w W → RdV W (.slice ao ns.length cap) (strs ns)) := fun W hW => hr.below (Nat.le_refl _) hW
  clear hr
  go_enter Try.func22, Try.ntmps22
  go_wp2_with (at_make; refine wp_mkRow 53 32 (.slice none 0 0) 24 infoSl Try.underlying32 rfl rfl _ _ rfl .i64 .i64 _ _ ns.length rfl rfl rfl rfl (by omega) (by unfold maxLen; omega) ?_)
  intro w1 ho1 hb1
  have HO1 : Hid (OwnW listE 53 w.heap.size w1 (.slice (some ⟨w.heap.size, 0, none⟩) ns.length ns.length) (List.replicate ns.length []) nilS) := lists_new _ ho1
  have HB1 : Hid (Below w.heap.size w w1) := hb1
  clear ho1 hb1
  go_wp2
  go_loopw [6] (fun iv W => ∃ i : Nat, i ≤ ns.length ∧ iv = .int .i64 i ∧ Hid (∃ us, OwnW listE 53 w.heap.size W (.slice (some ⟨w.heap.size, 0, none⟩) ns.length ns.length) ((asg ns p).take i ++ List.replicate (ns.length - i) []) us) ∧ Hid (Below w.heap.size w W)) (fun iv _ => ns.length - (intOf iv).toNat)
  case atStart => exact ⟨0, by omega, rfl, ⟨_, by simpa using HO1.out⟩, HB1⟩
  case round =>
    obtain ⟨i, hi, rfl, HO, HB⟩ := hrel
    rename World => wo
    by_cases hlt : i < ns.length
    rotate_left
    · have hiv : ¬ (i : Int) < ns.length := by omega
      have HF : Hid (∃ us, OwnW listE 53 w.heap.size wo (.slice (some ⟨w.heap.size, 0, none⟩) ns.length ns.length) (asg ns p) us) := by
        have := HO.out
        rw [show ns.length - i = 0 by omega, List.take_of_length_le (by rw [asg_len]; omega), List.replicate_zero, List.append_nil] at this
        exact this
      go_wp2
      go_ret
      obtain ⟨us, h⟩ := HF.out
      exact ⟨_, rfl, ⟨us, h⟩, HB.out⟩
    have hiv : (i : Int) < ns.length := by omega
    have hn0 : 0 < ns.length := by omega
    go_wp2
    go_loopw [7, 8] (fun av kv W => ∃ k : Nat, k ≤ ns.length ∧ kv = .int .i64 k ∧ av = .int .i64 (aheadTo ns i k : Nat) ∧ Hid (Below wo.heap.size wo W)) (fun _ kv _ => ns.length - (intOf kv).toNat)
    case atStart => exact ⟨0, by omega, rfl, rfl, Below.refl _ _⟩
    case round =>
      obtain ⟨k, hk, rfl, rfl, HBk⟩ := hrel
      have HBW : Hid (Below w.heap.size w wr) := bstep HB.out HBk.out
      have HAL : Hid (aheadTo ns i k ≤ k) := aheadTo_le ns i k
      by_cases hkn : k < ns.length
      · have hkv : (k : Int) < ns.length := by omega
        obtain ⟨gg, off, rfl, -, ck⟩ := strs_at (HR.out wr HBW.out) k hkn
        obtain ⟨gg2, off2, e2, -, ci⟩ := strs_at (HR.out wr HBW.out) i hlt
        simp only [Option.some.injEq, Addr.mk.injEq, and_true] at e2
        obtain ⟨rfl, rfl⟩ := e2
        have HBF : Hid (befB ns k i = (decide ((ns.getD k ⟨#[]⟩).toList < (ns.getD i ⟨#[]⟩).toList) || ((ns.getD k ⟨#[]⟩).toList == (ns.getD i ⟨#[]⟩).toList && decide (k < i)))) := show _ = _ from rfl
        obtain ⟨x, hx⟩ : ∃ x, ns.getD k ⟨#[]⟩ = x := ⟨_, rfl⟩
        obtain ⟨y, hy⟩ : ∃ y, ns.getD i ⟨#[]⟩ = y := ⟨_, rfl⟩
        rw [hx] at ck
        rw [hy] at ci
        have HBX : Hid (befB ns k i = (Op.bytesLess x.toList y.toList || (x.toList == y.toList && decide (k < i)))) := show _ = _ by rw [HBF.out, hx, hy, less_eq]
        clear hx hy
        have hka : ((aheadTo ns i k : Nat) : Int) ≤ 8796093022208 := by have := HAL.out; omega
        cases hl : Op.bytesLess x.toList y.toList with
        | true =>
          have HN : Hid (aheadTo ns i (k + 1) = aheadTo ns i k + 1) := aheadTo_yes (by rw [HBX.out, hl]; rfl)
          generalize aheadTo ns i k = ak at *
          go_wp2
          go_quiet (fail)
          go_wp2
          go_roundw
          case rel => exact ⟨k + 1, by omega, by go_num, by rw [HN.out]; go_num, below_drewN HBk.out _⟩
          case measure => simp [intOf]; omega
        | false =>
          cases he : (x.toList == y.toList) with
          | false =>
            have HN : Hid (aheadTo ns i (k + 1) = aheadTo ns i k) := aheadTo_no (by rw [HBX.out, hl, he]; rfl)
            generalize aheadTo ns i k = ak at *
            go_wp2
            go_quiet (fail)
            go_wp2
            go_roundw
            case rel => exact ⟨k + 1, by omega, by go_num, by rw [HN.out], below_drewN HBk.out _⟩
            case measure => simp [intOf]; omega
          | true =>
            by_cases hki : k < i
            · have d1 : decide ((k : Int) < (i : Int)) = true := by simp; omega
              have HN : Hid (aheadTo ns i (k + 1) = aheadTo ns i k + 1) := aheadTo_yes (by rw [HBX.out, hl, he, decide_eq_true hki]; rfl)
              generalize aheadTo ns i k = ak at *
              go_wp2
              go_quiet (fail)
              go_wp2
              go_roundw
              case rel => exact ⟨k + 1, by omega, by go_num, by rw [HN.out]; go_num, below_drewN HBk.out _⟩
              case measure => simp [intOf]; omega
            · have d1 : decide ((k : Int) < (i : Int)) = false := by simp; omega
              have HN : Hid (aheadTo ns i (k + 1) = aheadTo ns i k) := aheadTo_no (by rw [HBX.out, hl, he, decide_eq_false hki]; rfl)
              generalize aheadTo ns i k = ak at *
              go_wp2
              go_quiet (fail)
              go_wp2
              go_roundw
              case rel => exact ⟨k + 1, by omega, by go_num, by rw [HN.out], below_drewN HBk.out _⟩
              case measure => simp [intOf]; omega
      · have hkv : ¬ (k : Int) < ns.length := by omega
        have hke : k = ns.length := by omega
        have HAE : Hid (aheadTo ns i k = ahead ns i) := show _ = _ by rw [hke]; rfl
        have HLT : Hid (ahead ns i < ns.length) := ahead_lt hlt
        rw [HAE.out]
        obtain ⟨a, ha⟩ : ∃ a, ahead ns i = a := ⟨_, rfl⟩
        have HAA : Hid (ahead ns i = a) := ha
        rw [ha] at HLT ⊢
        have hal : (a : Int) ≤ 8796093022208 := by have := HLT.out; omega
        obtain ⟨D, hD⟩ : ∃ D, dealt a ns.length p = D := ⟨_, rfl⟩
        have HDM : Hid (∀ j, j < D.length ↔ ((a + j * ns.length : Nat) : Int) < p) := fun j => by rw [← hD]; exact dealt_more hn0 j
        have HDA : Hid (∀ j, (h : j < D.length) → D[j]'h = ((a + j * ns.length : Nat) : Int)) := fun j h => by subst hD; exact dealt_at j h
        have HAS : Hid ((asg ns p).take (i + 1) = (asg ns p).take i ++ [D]) := show _ = _ by
          have hl : i < (asg ns p).length := by rw [asg_len]; exact hlt
          rw [List.take_succ_eq_append_getElem hl, asg_at ns p i hlt, HAA.out, hD]
        have HTL : Hid (((asg ns p).take i).length = i) := show _ = _ by rw [List.length_take, asg_len]; omega
        have HO2 : Hid (∃ us, OwnW listE 53 w.heap.size wr (.slice (some ⟨w.heap.size, 0, none⟩) ns.length ns.length) ((asg ns p).take i ++ D.take 0 :: List.replicate (ns.length - i - 1) []) us) := by
          obtain ⟨us, h⟩ := HO.out
          rw [show ns.length - i = ns.length - i - 1 + 1 by omega, List.replicate_succ] at h
          exact ⟨us, by simpa using h.below (Nat.le_refl _) HBk.out⟩
        clear ha hD hke hk
        go_wp2
        rename World => w2
        clear HO HBk HB
        go_loopw [9] (fun pv W => ∃ (j pn : Nat), j ≤ D.length ∧ pv = .int .i64 pn ∧ Hid (pn = a + j * ns.length) ∧ (pn : Int) ≤ 17592186044416 ∧ Hid (∃ us, OwnW listE 53 w.heap.size W (.slice (some ⟨w.heap.size, 0, none⟩) ns.length ns.length) ((asg ns p).take i ++ D.take j :: List.replicate (ns.length - i - 1) []) us) ∧ Hid (Below w.heap.size w W)) (fun pv _ => (p - intOf pv).toNat)
        case atStart => exact ⟨0, a, by omega, rfl, by show a = a + 0 * ns.length; omega, by omega, HO2.out, HBW⟩
        case round =>
          obtain ⟨j, pn, hj, rfl, HPN, hpn, HO, HB⟩ := hrel
          by_cases hc : (pn : Int) < p
          · have HJL : Hid (j < D.length) := (HDM.out j).2 (by rw [← HPN.out]; exact hc)
            have HDJ : Hid (D[j]'HJL.out = (pn : Int)) := show _ = _ by rw [HDA.out j HJL.out, ← HPN.out]
            have HTK : Hid (D.take (j + 1) = D.take j ++ [(pn : Int)]) := show _ = _ by rw [List.take_succ_eq_append_getElem HJL.out, HDJ.out]
            have HTJ : Hid ((D.take j).length = j) := show _ = _ by rw [List.length_take]; have := HJL.out; omega
            obtain ⟨us, ho⟩ := HO.out
            have hlen : i < ((asg ns p).take i ++ D.take j :: List.replicate (ns.length - i - 1) []).length := by
              rw [List.length_append, HTL.out, List.length_cons]; omega
            have hel : ((asg ns p).take i ++ D.take j :: List.replicate (ns.length - i - 1) [])[i]'hlen = D.take j := by
              rw [List.getElem_append_right (by rw [HTL.out]; exact Nat.le_refl _)]
              simp [HTL.out]
            obtain ⟨au, cu, hus⟩ : ∃ au cu, us i = .slice au j cu := by
              have := ho.i i hlen
              rw [hel] at this
              obtain ⟨au, cu, e⟩ := this.shape
              rw [show listE.ns (D.take j) = D.take j from rfl, HTJ.out] at e
              exact ⟨au, cu, e⟩
            have HOI : Hid (OwnV w.heap.size 3 1 (.slice au j cu) j (ints (D.take j)) wr) := show OwnV _ _ _ _ _ _ _ by
              have := ho.i i hlen
              rw [hel, hus, show listE.ns (D.take j) = D.take j from rfl, HTJ.out] at this
              exact this
            have hcell : wr.cell? ⟨w.heap.size, i, none⟩ = some (.slice au j cu) := by
              obtain ⟨g4, cap4, e4, -, -, -, -, -, hcc⟩ := ho.o.form (by omega)
              simp only [Value.slice.injEq, Option.some.injEq, Addr.mk.injEq, and_true] at e4
              obtain ⟨rfl, -, rfl⟩ := e4
              rw [hcc i (by show i < _ * 1; rw [Nat.mul_one]; exact hlen)]
              have h2 := row_at listE us ((asg ns p).take i ++ D.take j :: List.replicate (ns.length - i - 1) []) 0 i 0 hlen (by decide)
              rw [show i * listE.z + 0 = i by show i * 1 + 0 = i; omega, Nat.zero_add] at h2
              rw [h2, hus]
              rfl
            have hfz : wr.frozen? ⟨w.heap.size, i, none⟩ = false := by
              obtain ⟨g4, cap4, e4, -, -, -, -, hff, -⟩ := ho.o.form (by omega)
              simp only [Value.slice.injEq, Option.some.injEq, Addr.mk.injEq, and_true] at e4
              obtain ⟨rfl, -, rfl⟩ := e4
              exact hff i
            have HHO : Hid _ := ho
            have HUS : Hid (us i = .slice au j cu) := hus
            have hgl : w.heap.size < wr.heap.size := cell_lt hcell
            have HJ8 : Hid ((j + 1) * 8 ≤ 140737488355328) := show (j + 1) * 8 ≤ 140737488355328 by
              have h1 := HPN.out
              have h2 : j ≤ j * ns.length := Nat.le_mul_of_pos_right j hn0
              omega
            have hne : (Value.slice au j cu).ownBlock ≠ some w.heap.size := fun e => ho.a i hlen _ (by rw [hus]; exact e) rfl
            clear ho hus hlen hel
            go_wp2_with (at_builtin; refine wp_rowI rfl _ _ rfl w.heap.size _ j _ rfl (HOI.out.below (Nat.le_refl _) (bbox _ _)) wr.heap.size rfl pn (by simp) HJ8.out _ rfl ?_)
            intro g' cap' w6 ho' hg hat hlt'
            have HOW : Hid (OwnW listE 53 w.heap.size (wr.alloc (.cells #[.int .i64 (pn : Int)] 3)) (.slice (some ⟨w.heap.size, 0, none⟩) ns.length ns.length) ((asg ns p).take i ++ D.take j :: List.replicate (ns.length - i - 1) []) us) := OwnW.below HHO.out (Nat.le_refl _) (bbox _ _)
            have HN : Hid (∃ us, OwnW listE 53 w.heap.size (w6.setCell ⟨w.heap.size, i, none⟩ (.slice (some ⟨g', 0, none⟩) (j + 1) cap')) (.slice (some ⟨w.heap.size, 0, none⟩) ns.length ns.length) ((asg ns p).take i ++ D.take (j + 1) :: List.replicate (ns.length - i - 1) []) us) := by
              have hlen : i < ((asg ns p).take i ++ D.take j :: List.replicate (ns.length - i - 1) []).length := by
                rw [List.length_append, HTL.out, List.length_cons]; omega
              have hl2 : (D.take (j + 1)).length = j + 1 := by rw [List.length_take]; have := HJL.out; omega
              have hT := OwnW.turnIn HOW.out i 0 hlen (by decide) (D.take (j + 1)) (.slice (some ⟨g', 0, none⟩) (j + 1) cap') rfl (by
                show OwnV _ _ _ _ (D.take (j + 1)).length (ints (D.take (j + 1))) _
                rw [hl2, HTK.out, show ints (D.take j ++ [(pn : Int)]) = ints (D.take j) ++ [.int .i64 (pn : Int)] by simp [ints]]
                exact ho') (by rw [HUS.out]; exact hg) (fun b e => by
                rw [HUS.out]
                simp [Value.ownBlock] at e
                subst e
                rcases hat with h | h
                · exact .inl h
                · exact .inr (by rw [h]; simp))
              have hs := set_mid ((asg ns p).take i) (List.replicate (ns.length - i - 1) []) (D.take j) (D.take (j + 1))
              rw [HTL.out] at hs
              rw [hs, show i * listE.z + 0 = i by show i * 1 + 0 = i; omega] at hT
              exact ⟨_, hT⟩
            have HBN : Hid (Below w.heap.size w (w6.setCell ⟨w.heap.size, i, none⟩ (.slice (some ⟨g', 0, none⟩) (j + 1) cap'))) := (below_grown (bstep HB.out (bbox wr (.cells #[.int .i64 (pn : Int)] 3))) hg (by simp; have := HB.out.size; omega) (fun k e => (HOI.out.blk k e).1)).setCell (p := ⟨w.heap.size, i, none⟩) (Nat.le_refl _) _
            have hcell2 : w6.cell? ⟨w.heap.size, i, none⟩ = some (.slice au j cu) := (hg.cell_far (a := ⟨w.heap.size, i, none⟩) (by simp; omega) (by intro e; exact hne e.symm)).trans ((bbox wr (.cells #[.int .i64 (pn : Int)] 3)).cell (p := ⟨w.heap.size, i, none⟩) hgl |>.trans hcell)
            have hfz2 : w6.frozen? ⟨w.heap.size, i, none⟩ = false := (hg.frozen_far (a := ⟨w.heap.size, i, none⟩) (by simp; omega) (by intro e; exact hne e.symm)).trans ((bbox wr (.cells #[.int .i64 (pn : Int)] 3)).frozen (p := ⟨w.heap.size, i, none⟩) hgl |>.trans hfz)
            have HPN2 : Hid (pn + ns.length = a + (j + 1) * ns.length) := show _ = _ by rw [HPN.out, Nat.succ_mul]; omega
            have hjl : j + 1 ≤ D.length := HJL.out
            clear ho' hg hat hlt' hcell hfz HHO HOW
            go_wp2
            go_roundw
            case rel => exact ⟨j + 1, pn + ns.length, hjl, by go_num, HPN2, by omega, HN, HBN⟩
            case measure => simp [intOf] <;> omega
          · have HJE : Hid (j = D.length) := show j = D.length by
              have h1 : ¬ j < D.length := fun h => hc (by rw [HPN.out]; exact (HDM.out j).1 h)
              omega
            have HN : Hid (∃ us, OwnW listE 53 w.heap.size wr (.slice (some ⟨w.heap.size, 0, none⟩) ns.length ns.length) ((asg ns p).take (i + 1) ++ List.replicate (ns.length - (i + 1)) []) us) := by
              obtain ⟨us, h⟩ := HO.out
              rw [HJE.out, List.take_length, show ns.length - i - 1 = ns.length - (i + 1) by omega] at h
              refine ⟨us, ?_⟩
              rw [HAS.out, List.append_assoc]
              exact h
            clear hj
            go_wp2
            go_roundw
            case rel => exact ⟨i + 1, by omega, by go_num, HN, HB⟩
            case measure => simp [intOf]; omega

end Go.Proofs.Ytmkbbhdmfpjfdaa
