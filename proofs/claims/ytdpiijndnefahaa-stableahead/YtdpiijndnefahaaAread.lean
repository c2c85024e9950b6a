/-
  The walk of the document's ReadOf; a slice of texts that a call owns.
  The walk of the document's ReadOf.
  The helpers of the view laws: plain, entries (a copy), sameTexts (of one list twice).
  The document's ReadOf where it refuses; the helpers of the view laws: plain, entries, sameTexts.
-/
import Derived.Test.YtdpiijndnefahaaAview
namespace Go.Proofs.Ytdpiijndnefahaa

section
open Go.RowKit
set_option linter.unusedVariables false
set_option linter.unusedSimpArgs false

theorem infoStr : (Try.prog.info? 9).map (fun i => (i.zero, i.size, i.bytes)) = some (some (.string ⟨#[]⟩), 1, 16) := by kernel_rfl

/-- The slice v owns these texts, in a block from B on. -/
def OwnS (B : Nat) (v : Value) (ts : List ByteArray) (w : World) : Prop := w.ownsRow B 9 1 v ts.length (ts.map Value.string) ∧ B ≤ w.heap.size
theorem OwnS.alloc {B : Nat} {v : Value} {ts : List ByteArray} {w : World} (h : OwnS B v ts w) (o : Obj) : OwnS B v ts (w.alloc o) :=
  ⟨h.1.alloc o, Nat.le_trans h.2 ((Below.refl 0 w).alloc (Nat.zero_le _) o).size⟩
theorem OwnS.drewN {B : Nat} {v : Value} {ts : List ByteArray} {w : World} (h : OwnS B v ts w) (n : Nat) : OwnS B v ts (w.drewN n) := h
theorem OwnS.shape {B : Nat} {v : Value} {ts : List ByteArray} {w : World} (h : OwnS B v ts w) : ∃ ao cap, v = .slice ao ts.length cap := by
  rcases h.1.2 with ⟨h1, h2⟩ | ⟨g, cap, cur, r1, r2⟩
  · exact ⟨none, 0, by rw [h1, h2]⟩
  · exact ⟨_, cap, r1⟩
theorem OwnS.below {B C : Nat} {v : Value} {ts : List ByteArray} {w w' : World} (h : OwnS B v ts w) (hC : w.heap.size ≤ C) (hb : Below C w w') : OwnS B v ts w' := by
  obtain ⟨⟨h1, h2⟩, h4⟩ := h
  refine ⟨⟨h1, ?_⟩, Nat.le_trans h4 hb.size⟩
  rcases h2 with h2 | ⟨g, cap, cur, r1, r2, r3, r4⟩
  · exact .inl h2
  · have hg : g < w.heap.size := by
      rcases Nat.lt_or_ge g w.heap.size with hg | hg
      · exact hg
      · rw [Array.getElem?_eq_none hg] at r3; simp at r3
    exact .inr ⟨g, cap, cur, r1, r2, by rw [hb.block g (by omega)]; exact r3, r4⟩
theorem OwnS.mono {B C : Nat} {v : Value} {ts : List ByteArray} {w : World} (h : OwnS B v ts w) (hC : C ≤ B) : OwnS C v ts w := by
  obtain ⟨⟨h1, h2⟩, h4⟩ := h
  refine ⟨⟨h1, ?_⟩, by omega⟩
  rcases h2 with h2 | ⟨g, cap, cur, r1, r2, r3⟩
  · exact .inl h2
  · exact .inr ⟨g, cap, cur, r1, by omega, r3⟩
theorem ownS_nil (B : Nat) (w : World) (hB : B ≤ w.heap.size) : OwnS B (.slice none 0 0) [] w := ⟨World.ownsRow_nil w B _ 1, hB⟩

section
variable {w0 : World} {ops : Array Oper} {rest : List Oper} {o : Oper} {a : Act} {Q : Exit → Act → World → Prop}
/-- One text more. -/
theorem wp_appS (hgd : o.guard = none) (s x : Operand)
    (ho : o.op = .call { callee := .builtin .append, args := #[s, x], argTypes := #[34, 34] })
    (B : Nat) (v : Value) (ts : List ByteArray) (hs : a.eval s = v) (t : ByteArray) (hown : OwnS B v ts w0) (g : Nat) (hx : a.eval x = .slice (some ⟨g, 0, none⟩) 1 1) (hg : g = w0.heap.size) (hlen : ts.length + 1 ≤ 1099511627776)
    (h : ∀ v' w', OwnS B v' (ts ++ [t]) w' → Below B w0 w' → wpList Try.prog ops Q rest (a.put o.dst v') w') :
    wpList Try.prog ops Q (o :: rest) a (w0.alloc (.cells #[.string t] 9)) := by
  subst hg
  obtain ⟨i, hi, hz0, hz1, hz2⟩ := info_parts infoStr
  have hown' := hown.alloc (.cells #[.string t] 9)
  refine wpList_append_own _ hgd s x _ ho B _ i (.string ⟨#[]⟩) 1 16 Try.underlying34 hi hz0 hz1 hz2 rfl (by decide) v _ _ hs hown'.1 ⟨w0.heap.size, 0, none⟩ 1 1 [.string t] hx rfl ?_ ?_ (by unfold maxLen; omega) (by omega) hown'.2 ?_
  · intro j u hj
    have hj' : j < 1 := by
      have := (List.getElem?_eq_some_iff.1 hj).1
      simpa using this
    obtain rfl : j = 0 := by omega
    simp at hj
    subst hj
    simp [Addr.add]
  · intro u hu
    simp at hu
    subst hu
    rfl
  · intro v' w' ho' hg _
    refine h v' w' ⟨by simpa using ho', Nat.le_trans hown'.2 hg.size⟩ ?_
    exact ((Below.refl B w0).alloc hown.2 _).grown hg hown'.2 (fun k hk => (hown'.1.lt k hk).1)
end

/-- What P3.5 answers: texts, a place, an error. -/
def rdA (es : List Ent) (h from_ most : Int) : List ByteArray × Int × Int :=
  if (stf es h).2 ≠ 0 then ([], 0, (stf es h).2)
  else if from_ < 0 ∨ (es.length : Int) < from_ ∨ most < 1 ∨ 20 < most then ([], 0, 2)
  else ((rdF es h.toNat (stb es h.toNat) es.length from_.toNat most.toNat).1, (rdF es h.toNat (stb es h.toNat) es.length from_.toNat most.toNat).2, 0)

/-- How far one has come. -/
def RdSt (es : List Ent) (h fin i0 m0 : Nat) (k : Nat) (ts : List ByteArray) : Prop :=
  ts.length ≤ m0 ∧ ∃ f, fin ≤ k + f ∧ rdF es h fin es.length i0 m0 = (ts ++ (rdF es h fin f k (m0 - ts.length)).1, (rdF es h fin f k (m0 - ts.length)).2)
theorem rdSt_0 (es : List Ent) (h fin i0 m0 : Nat) (hf : fin ≤ es.length) : RdSt es h fin i0 m0 i0 [] := ⟨by simp, es.length, by omega, by simp⟩
theorem rdF_stop (es : List Ent) (h fin f i m : Nat) (hs : fin ≤ i ∨ m = 0) : rdF es h fin f i m = ([], i) := by
  cases f with
  | zero => rfl
  | succ f => simp only [rdF]; rw [if_pos hs]
theorem rdSt_stop {es : List Ent} {h fin i0 m0 k : Nat} {ts : List ByteArray} (H : RdSt es h fin i0 m0 k ts) (hs : fin ≤ k ∨ m0 ≤ ts.length) : rdF es h fin es.length i0 m0 = (ts, k) := by
  obtain ⟨_, f, _, e⟩ := H
  rw [e, rdF_stop es h fin f k _ (by omega)]
  simp
theorem rdSt_next {es : List Ent} {h fin i0 m0 k : Nat} {ts : List ByteArray} (H : RdSt es h fin i0 m0 k ts) (h1 : k < fin) (h2 : ts.length < m0) :
    (seen es h k = true → RdSt es h fin i0 m0 (k + 1) (ts ++ [(Ent.at es k).s])) ∧ (seen es h k = false → RdSt es h fin i0 m0 (k + 1) ts) := by
  obtain ⟨h3, f, h4, e⟩ := H
  obtain ⟨f', rfl⟩ : ∃ f', f = f' + 1 := ⟨f - 1, by omega⟩
  simp only [rdF] at e
  rw [if_neg (by omega)] at e
  refine ⟨fun hs => ?_, fun hs => ?_⟩
  · rw [if_pos hs] at e
    refine ⟨by simp; omega, f', by omega, ?_⟩
    rw [e]
    simp only [List.length_append, List.length_singleton, List.append_assoc, List.singleton_append, Nat.sub_sub]
  · rw [if_neg (by simp [hs])] at e
    exact ⟨h3, f', by omega, e⟩
end

section
open Go.RowKit
set_option linter.unusedVariables false
set_option linter.unusedSimpArgs false

theorem stb_le (es : List Ent) (h : Nat) : stb es h ≤ h := by
  unfold stb
  rcases scan_cases (P := begins es h) h 0 with e | ⟨k, _, k2, _, _, e⟩
  · rw [e, if_pos (by omega)]; exact Nat.le_refl _
  · rw [e, if_neg (by omega)]; simp; omega

set_option maxRecDepth 100000 in
set_option maxHeartbeats 4000000 in
theorem readOf_ok (es : List Ent) (ao : Option Addr) (cap : Nat) (n fr ms : Nat) (w : World) (hl : (es.length : Int) ≤ 2199023255552) (hr : RdX w (.slice ao es.length cap) es) (hn : n ≤ es.length) (hfr : fr ≤ es.length) (hms : 1 ≤ ms ∧ ms ≤ 20) :
    Calls Try.prog 19 #[.slice ao es.length cap, .int .i64 n, .int .i64 fr, .int .i64 ms] w fun e w' => ∃ v, e = .returned (.tuple #[v, .int .i64 (rdF es n (stb es n) es.length fr ms).2, .int .i64 0]) ∧ OwnS w.heap.size v (rdF es n (stb es n) es.length fr ms).1 w' ∧ Below w.heap.size w w' := by
  have hst := stb_le es n
  have HR : Hid (RdX w (.slice ao es.length cap) es) := hr
  have hsf : stf es n = ((stb es n : Int), 0) := by unfold stf; rw [if_neg (by omega)]; simp
  have i1 : inR fr 0 es.length = true := by unfold inR; simp; omega
  have i2 : inR ms 1 20 = true := by unfold inR; simp; omega
  clear hr
  go_enter Try.func19, Try.ntmps19
  go_wp2_with fail
  refine (stableOf_any es _ n _ hl HR.out).mono ?_
  rintro e w1 ⟨rfl, hb1⟩
  rw [hsf]
  have HR1 : Hid (RdX w1 (.slice ao es.length cap) es) := RdX.below HR.out (Nat.le_refl _) hb1
  clear hsf HR
  generalize hfin : stb es n = fin at *
  have hfl : (fin : Int) ≤ n := by omega
  have hnl : (n : Int) ≤ es.length := by omega
  have hfrl : (fr : Int) ≤ es.length := by omega
  have hms1 : (1 : Int) ≤ ms := by omega
  have hms2 : (ms : Int) ≤ 20 := by omega
  have HN : Hid (n ≤ es.length ∧ fr ≤ es.length ∧ fin ≤ n ∧ ms ≤ 20) := ⟨hn, hfr, hst, hms.2⟩
  have HFIN : Hid (stb es n = fin) := hfin
  clear hfin hst hn hfr hms
  go_wp2_with fail
  refine (In_any _ _ _ _).mono ?_
  rintro e w' ⟨rfl, rfl⟩
  rw [i1]
  go_wp2_with fail
  refine (In_any _ _ _ _).mono ?_
  rintro e w' ⟨rfl, rfl⟩
  rw [i2]
  clear i1 i2
  go_wp2
  go_loopw [13, 14] (fun v a wr => ∃ (k : Nat) (ts : List ByteArray), k ≤ es.length ∧ a = .int .i64 k ∧ Hid (RdSt es n fin fr ms k ts) ∧ OwnS w'.heap.size v ts wr ∧ Below w'.heap.size w' wr) (fun _ a _ => es.length - (intOf a).toNat)
  case atStart => exact ⟨fr, [], HN.out.2.1, rfl, rdSt_0 es n fin fr ms (by have := HN.out; omega), ownS_nil _ _ (Nat.le_refl _), Below.refl _ _⟩
  case round =>
    obtain ⟨k, ts, hk, rfl, H, hown, hbel⟩ := hrel
    obtain ⟨av, cv, rfl⟩ := hown.shape
    have htl := H.out.1
    by_cases hlt : k < fin
    · by_cases htm : ts.length < ms
      · have hke : k < es.length := by have := HN.out; omega
        have hke' : (k : Int) < es.length := by omega
        have hlt' : (k : Int) < fin := by omega
        have htm' : (ts.length : Int) < ms := by omega
        have hRr := RdX.below HR1.out (Nat.le_refl _) hbel
        obtain ⟨ao', cap', e0, _, _, _, h3⟩ := hRr
        simp only [Value.slice.injEq] at e0
        obtain ⟨rfl, _, rfl⟩ := e0
        obtain ⟨g, off, rfl, hc⟩ := h3 (by omega)
        obtain ⟨q0, q1, q2, q3, q4, q5, q6⟩ := RdX.cells hc k hke
        have hgl := cell_lt q0
        have HC : Hid _ := hc
        obtain ⟨hn1, hn2⟩ := rdSt_next H.out hlt htm
        have HN1 : Hid _ := hn1
        have HN2 : Hid _ := hn2
        have HSN : Hid (seen es n k = if (Ent.at es k).k ≠ 1 then false else if (Ent.at es k).t = false then true else if scan (isMark es (Ent.at es k).b) (n - (k + 1)) (k + 1) < 0 then false else (Ent.at es (scan (isMark es (Ent.at es k).b) (n - (k + 1)) (k + 1)).toNat).k == 2) := show _ = _ from rfl
        clear hc h3 hn1 hn2 H
        generalize Ent.at es k = x at HN1 HSN q0 q1 q2 q3 q4 q5 q6
        by_cases hk1 : x.k = 1
        · have hk1' : (x.k == 1) = true := by simp [hk1]
          rw [if_neg (by simp [hk1])] at HSN
          by_cases ht : x.t = false
          · rw [if_pos ht] at HSN
            have HB : Hid _ := HN1.out HSN.out
            clear hk1 HN1 HN2 HSN
            go_wp2_with (at_builtin; refine wp_appS rfl _ _ rfl _ _ ts rfl x.s (hown.alloc _) _ rfl (by simp) (by omega) ?_)
            intro v2 w2 hown2 hb2
            have hbel2 := (hbel.alloc hown.2 _).trans hb2
            clear hb2 hown hbel q0 q1 q2 q3 q4 q5 q6
            go_wp2
            go_roundw
            case rel => exact ⟨k + 1, ts ++ [x.s], by omega, by go_num, HB, hown2, hbel2⟩
            case measure => simp [intOf]; omega
          · have ht' : x.t = true := by simpa using ht
            rw [if_neg ht] at HSN
            have hkn : k + 1 ≤ n := by have := HN.out; omega
            have hkn' : (k : Int) + 1 ≤ n := by omega
            clear hk1 ht
            go_wp2
            go_loopw [16, 17] (fun sn i wi => ∃ j : Nat, k + 1 ≤ j ∧ j ≤ n ∧ sn = .bool false ∧ i = .int .i64 j ∧ Hid (∀ t, k + 1 ≤ t → t < j → ¬ isMark es x.b t) ∧ ∃ q, wi = (wr.alloc (.cells #[.int .i64 x.a, .int .i64 x.b, .int .i64 x.c, .int .i64 x.d, .int .i64 x.k, .bool true, .string x.s] 24)).drewN q) (fun _ i _ => n - (intOf i).toNat)
            case atStart => exact ⟨k + 1, Nat.le_refl _, hkn, rfl, by go_num, fun t t1 t2 => by omega, 0, rfl⟩
            case round =>
              obtain ⟨j, hj1, hj2, rfl, rfl, HJ, q, rfl⟩ := hrel
              by_cases hjn : j < n
              · have hje : j < es.length := by have := HN.out; omega
                have hje' : (j : Int) < es.length := by omega
                have hje0 : (0 : Int) ≤ (j : Int) := by omega
                obtain ⟨s0, s1, s2, s3, s4, s5, s6⟩ := RdX.cells HC.out j hje
                have HT : Hid (isMark es x.b j ↔ (Ent.at es j).b = x.b ∧ (Ent.at es j).k ≠ 1) := Iff.rfl
                have HSM : Hid (isMark es x.b j → seen es n k = ((Ent.at es j).k == 2)) := fun hmk => by
                  rw [HSN.out, scan_some hj1 (by omega) hmk HJ.out, if_neg (by omega)]
                  simp
                generalize Ent.at es j = y at HT HSM s0 s1 s2 s3 s4 s5 s6
                by_cases y1 : y.b = x.b
                · have y1' : (y.b == x.b) = true := by simp [y1]
                  by_cases y2 : y.k = 1
                  · have y2' : (y.k != 1) = false := by simp [y2]
                    have HJJ : Hid (∀ t, k + 1 ≤ t → t < j + 1 → ¬ isMark es x.b t) := fun t t1 t2 => by
                      by_cases e : t = j
                      · subst e; exact fun h => (HT.out.1 h).2 y2
                      · exact HJ.out t t1 (by omega)
                    clear y1 y2 HT HJ HSM
                    go_wp2
                    go_quiet (fail)
                    go_wp2
                    go_roundw
                    case rel => exact ⟨j + 1, by omega, by omega, rfl, by go_num, HJJ, q + nq, rfl⟩
                    case measure => simp [intOf]; omega
                  · have y2' : (y.k != 1) = true := by simp [y2]
                    have HSE : Hid _ := HSM.out (HT.out.2 ⟨y1, y2⟩)
                    by_cases y3 : y.k = 2
                    · have y3' : (y.k == 2) = true := by simp [y3]
                      have HB : Hid _ := HN1.out (by rw [HSE.out, y3'])
                      clear y1 y2 y3 HT HJ HSM HSE HN1 HN2 HSN
                      go_wp2
                      go_quiet (fail)
                      go_wp2_with (at_builtin; refine wp_appS rfl _ _ rfl _ _ ts rfl x.s (((hown.alloc _).drewN _)) _ rfl (by simp) (by omega) ?_)
                      intro v2 w2 hown2 hb2
                      have hbel2 := (below_drewN (hbel.alloc hown.2 _) _).trans hb2
                      clear hb2 hown hbel q0 q1 q2 q3 q4 q5 q6 s0 s1 s2 s3 s4 s5 s6
                      go_wp2
                      go_roundw
                      case rel => exact ⟨k + 1, ts ++ [x.s], by omega, by go_num, HB, hown2, hbel2⟩
                      case measure => simp [intOf]; omega
                    · have y3' : (y.k == 2) = false := by simp [y3]
                      have HB : Hid _ := HN2.out (by rw [HSE.out, y3'])
                      clear y1 y2 y3 HT HJ HSM HSE HN1 HN2 HSN
                      go_wp2
                      go_quiet (fail)
                      go_wp2
                      go_roundw
                      case rel => exact ⟨k + 1, ts, by omega, by go_num, HB, (hown.alloc _).drewN _, below_drewN (hbel.alloc hown.2 _) _⟩
                      case measure => simp [intOf]; omega
                · have y1' : (y.b == x.b) = false := by simp [y1]
                  have HJJ : Hid (∀ t, k + 1 ≤ t → t < j + 1 → ¬ isMark es x.b t) := fun t t1 t2 => by
                    by_cases e : t = j
                    · subst e; exact fun h => y1 (HT.out.1 h).1
                    · exact HJ.out t t1 (by omega)
                  clear y1 HT HJ HSM
                  go_wp2
                  go_quiet (fail)
                  go_wp2
                  go_roundw
                  case rel => exact ⟨j + 1, by omega, by omega, rfl, by go_num, HJJ, q + nq, rfl⟩
                  case measure => simp [intOf]; omega
              · have hjn' : j = n := by omega
                have HB : Hid _ := HN2.out (by rw [HSN.out, if_pos (scan_none.2 (fun t t1 t2 => HJ.out t t1 (by omega)))])
                have hjn'' : (n : Int) ≤ j := by omega
                clear HN1 HN2 HSN HJ hjn' hjn
                go_wp2
                go_roundw
                case rel => exact ⟨k + 1, ts, by omega, by go_num, HB, (hown.alloc _).drewN _, below_drewN (hbel.alloc hown.2 _) _⟩
                case measure => simp [intOf]; omega
        · have hk1' : (x.k == 1) = false := by simp [hk1]
          rw [if_pos hk1] at HSN
          have HB : Hid _ := HN2.out HSN.out
          clear hk1 HN1 HN2 HSN
          go_wp2
          go_roundw
          case rel => exact ⟨k + 1, ts, by omega, by go_num, HB, hown.alloc _, hbel.alloc hown.2 _⟩
          case measure => simp [intOf]; omega
      · have E : Hid _ := rdSt_stop H.out (.inr (by omega))
        have htm' : (ms : Int) ≤ ts.length := by omega
        have hlt' : (k : Int) < fin := by omega
        clear H htl
        go_wp2
        go_ret3
        rw [HFIN.out, E.out]
        exact ⟨_, rfl, hown.mono hb1.size, hb1.trans (hbel.mono hb1.size)⟩
    · have E : Hid _ := rdSt_stop H.out (.inl (by omega))
      have hlt' : (fin : Int) ≤ k := by omega
      clear H htl
      go_wp2
      go_ret3
      rw [HFIN.out, E.out]
      exact ⟨_, rfl, hown.mono hb1.size, hb1.trans (hbel.mono hb1.size)⟩
end

section
open Go.RowKit
set_option linter.unusedVariables false
set_option linter.unusedSimpArgs false

/-- A slice of texts that reads as ts. -/
def RdS (w : World) (v : Value) (ts : List ByteArray) : Prop :=
  ∃ ao cap, v = .slice ao ts.length cap ∧ (0 < ts.length → ∃ g, ao = some ⟨g, 0, none⟩ ∧ ∀ i, (h : i < ts.length) → w.cell? ⟨g, i, none⟩ = some (.string (ts[i]'h)))
theorem OwnS.rd {B : Nat} {v : Value} {ts : List ByteArray} {w : World} (h : OwnS B v ts w) : RdS w v ts := by
  obtain ⟨h1, h4⟩ := h
  rcases h1.2 with ⟨rfl, h0⟩ | ⟨g, cap, cur, rfl, r2, r3, r4, r5, r6⟩
  · exact ⟨none, 0, by rw [h0], fun h => by omega⟩
  · refine ⟨_, _, rfl, fun _ => ⟨g, rfl, fun i hi => ?_⟩⟩
    have := h1.cellAt i (by omega)
    rw [this]
    simp [hi]

set_option maxRecDepth 100000 in
set_option maxHeartbeats 1000000 in
theorem sameTexts_some (ts : List ByteArray) (g1 c1 g2 c2 : Nat) (w : World) (hl : (ts.length : Int) ≤ 1099511627776)
    (h1 : ∀ i, (h : i < ts.length) → w.cell? ⟨g1, i, none⟩ = some (.string (ts[i]'h))) (h2 : ∀ i, (h : i < ts.length) → w.cell? ⟨g2, i, none⟩ = some (.string (ts[i]'h))) :
    Calls Try.prog 20 #[.slice (some ⟨g1, 0, none⟩) ts.length c1, .slice (some ⟨g2, 0, none⟩) ts.length c2] w fun e w' => e = .returned (.bool true) ∧ Below w.heap.size w w' := by
  have hne : ((ts.length : Int) != ts.length) = false := by simp
  go_enter Try.func20, Try.ntmps20
  go_wp2
  go_loopw [5] (fun i wr => ∃ k : Nat, k ≤ ts.length ∧ i = .int .i64 k ∧ ∃ q, wr = w.drewN q) (fun i _ => ts.length - (intOf i).toNat)
  case atStart => exact ⟨0, by omega, rfl, 0, rfl⟩
  case round =>
    obtain ⟨k, hk, rfl, q, rfl⟩ := hrel
    by_cases hlt : k < ts.length
    · have A := h1 k hlt
      have B := h2 k hlt
      clear h1 h2
      generalize ts[k] = t at *
      go_wp2
      go_quiet (fail)
      go_wp2
      go_roundw
      case rel => exact ⟨k + 1, by omega, by go_num, q + nq, rfl⟩
      case measure => simp [intOf]; omega
    · clear h1 h2
      go_wp2
      go_ret
      exact ⟨rfl, below_drewN (Below.refl _ _) _⟩

set_option maxRecDepth 100000 in
set_option maxHeartbeats 400000 in
theorem sameTexts_none (a1 a2 : Option Addr) (c1 c2 : Nat) (w : World) :
    Calls Try.prog 20 #[.slice a1 0 c1, .slice a2 0 c2] w fun e w' => e = .returned (.bool true) ∧ Below w.heap.size w w' := by
  go_enter Try.func20, Try.ntmps20
  go_wp2
  refine wp_loop_rounds 1 ?_
  rw [rounds_succ]
  go_wp2
  go_ret
  exact ⟨rfl, Below.refl _ _⟩

theorem sameTexts_any (ts : List ByteArray) (v u : Value) (w : World) (hl : (ts.length : Int) ≤ 1099511627776) (h1 : RdS w v ts) (h2 : RdS w u ts) :
    Calls Try.prog 20 #[v, u] w fun e w' => e = .returned (.bool true) ∧ Below w.heap.size w w' := by
  obtain ⟨a1, c1, rfl, h1⟩ := h1
  obtain ⟨a2, c2, rfl, h2⟩ := h2
  by_cases h0 : 0 < ts.length
  · obtain ⟨g1, rfl, h1'⟩ := h1 h0
    obtain ⟨g2, rfl, h2'⟩ := h2 h0
    exact sameTexts_some ts g1 c1 g2 c2 w hl h1' h2'
  · have hl : ts = [] := List.eq_nil_of_length_eq_zero (by omega)
    subst hl
    exact sameTexts_none a1 a2 c1 c2 w

/-- Within the bounds, as the law's own test says it. -/
def plainB (e : Ent) : Bool := decide (1 ≤ e.k ∧ e.k ≤ 3 ∧ 0 ≤ e.b ∧ e.b ≤ 1073741824 ∧ 0 ≤ e.c ∧ e.c ≤ 1073741824 ∧ 0 ≤ e.d ∧ e.d ≤ 1073741824)
end

section
open Go.RowKit
set_option linter.unusedVariables false
set_option linter.unusedSimpArgs false

set_option maxRecDepth 100000 in
set_option maxHeartbeats 2000000 in
theorem readOf_high (es : List Ent) (ao : Option Addr) (cap : Nat) (h fr ms : Int) (w : World) (hl : (es.length : Int) ≤ 2199023255552) (hr : RdX w (.slice ao es.length cap) es) (hh : h < 0 ∨ (es.length : Int) < h) :
    Calls Try.prog 19 #[.slice ao es.length cap, .int .i64 h, .int .i64 fr, .int .i64 ms] w fun e w' => e = .returned (.tuple #[.slice none 0 0, .int .i64 0, .int .i64 2]) ∧ Below w.heap.size w w' := by
  have HR : Hid (RdX w (.slice ao es.length cap) es) := hr
  have hsf : stf es h = (0, 2) := by unfold stf; rw [if_pos hh]
  clear hr hh
  go_enter Try.func19, Try.ntmps19
  go_wp2_with fail
  refine (stableOf_any es _ h _ hl HR.out).mono ?_
  rintro e w1 ⟨rfl, hb1⟩
  rw [hsf]
  clear hsf HR
  go_wp2
  go_ret3
  exact ⟨rfl, hb1⟩

set_option maxRecDepth 100000 in
set_option maxHeartbeats 2000000 in
theorem readOf_range (es : List Ent) (ao : Option Addr) (cap : Nat) (h fr ms : Int) (w : World) (hl : (es.length : Int) ≤ 2199023255552) (hr : RdX w (.slice ao es.length cap) es) (hh : ¬ (h < 0 ∨ (es.length : Int) < h)) (hb : fr < 0 ∨ (es.length : Int) < fr ∨ ms < 1 ∨ 20 < ms) :
    Calls Try.prog 19 #[.slice ao es.length cap, .int .i64 h, .int .i64 fr, .int .i64 ms] w fun e w' => e = .returned (.tuple #[.slice none 0 0, .int .i64 0, .int .i64 2]) ∧ Below w.heap.size w w' := by
  have HR : Hid (RdX w (.slice ao es.length cap) es) := hr
  have hsf : stf es h = ((stb es h.toNat : Int), 0) := by unfold stf; rw [if_neg hh]
  clear hr hh
  go_enter Try.func19, Try.ntmps19
  go_wp2_with fail
  refine (stableOf_any es _ h _ hl HR.out).mono ?_
  rintro e w1 ⟨rfl, hb1⟩
  rw [hsf]
  clear hsf HR
  by_cases hf : fr < 0 ∨ (es.length : Int) < fr
  · have i1 : inR fr 0 es.length = false := by unfold inR; simp; omega
    clear hb hf
    go_wp2_with fail
    refine (In_any _ _ _ _).mono ?_
    rintro e w' ⟨rfl, rfl⟩
    rw [i1]
    go_wp2
    go_ret3
    exact ⟨rfl, hb1⟩
  · have i1 : inR fr 0 es.length = true := by unfold inR; simp; omega
    have i2 : inR ms 1 20 = false := by unfold inR; simp; omega
    clear hb hf
    go_wp2_with fail
    refine (In_any _ _ _ _).mono ?_
    rintro e w' ⟨rfl, rfl⟩
    rw [i1]
    go_wp2_with fail
    refine (In_any _ _ _ _).mono ?_
    rintro e w' ⟨rfl, rfl⟩
    rw [i2]
    go_wp2
    go_ret3
    exact ⟨rfl, hb1⟩
end

end Go.Proofs.Ytdpiijndnefahaa
