/-
  The walks of wire.Encode and of the document's EntryBytes: the bytes of an entry, or what is wrong with it.
-/
import Derived.Test.YtkakagjffafdiaaWbody
import Derived.Test.YtkakagjffafdiaaWfault
import Derived.Laws.BytesArg
namespace Go.Proofs.Ytkakagjffafdiaa
open Go.RowKit
set_option linter.unusedVariables false

theorem flt_ok {a b c d k : Int} {t : Bool} {n : Nat} (h : flt a b c d k t n = 0) :
    (0 ≤ a ∧ a ≤ 1073741824) ∧ (0 ≤ b ∧ b ≤ 1073741824) ∧ (0 ≤ c ∧ c ≤ 1073741824) ∧ (0 ≤ d ∧ d ≤ 1073741824) ∧ (1 ≤ k ∧ k ≤ 3) ∧ n ≤ 40 := by
  unfold flt at h
  split at h
  · omega
  · rename_i h1
    split at h
    · omega
    · rename_i h2
      split at h
      · omega
      · rename_i h3
        simp [inB] at h2
        have hk : 1 ≤ k ∧ k ≤ 3 := by
          by_cases e : k = 1
          · omega
          · cases hm : mkB k
            · exact absurd ⟨e, hm⟩ h1
            · simp [mkB] at hm; omega
        omega

/-- The bytes of an entry whose body is L. -/
def encB (L : List Int) : List Int := (L.length : Int) :: (L ++ [sumL L / 256, sumL L % 256])
def encL (a b c d k : Int) (t : Bool) (s : ByteArray) : List Int := encB (bodyL a b c d k t s)

theorem Own.shape {B : Nat} {v : Value} {l : List Int} {w : World} (h : Own B v l w) : ∃ ao cap, v = .slice ao l.length cap := by
  obtain ⟨_, ao, cap, h, _⟩ := h.rd
  exact ⟨ao, cap, h⟩

section
variable {w : World} {ops : Array Oper} {rest : List Oper} {o : Oper} {a : Act} {Q : Exit → Act → World → Prop}
theorem wp_mk (hgd : o.guard = none) (x y : Operand) (ho : o.op = Op.makeSlice 59 x y) (B : Nat) (kl kc : IntKind) (C : Int) (n : Nat) (hx : a.eval x = .int kl 0) (hy : a.eval y = .int kc C) (hC : C = (n : Int)) (hn : n ≤ 100000000)
    (hB : B ≤ w.heap.size) (h : ∀ w', Own B (.slice (some ⟨w.heap.size, 0, none⟩) 0 n) [] w' → Below B w w' → wpList Try.prog ops Q rest (a.put o.dst (.slice (some ⟨w.heap.size, 0, none⟩) 0 n)) w') : wpList Try.prog ops Q (o :: rest) a w := by
  obtain ⟨i, hi, hz0, hz1, hz2⟩ := info_parts infoByte
  refine wpList_make_own w hgd x y _ ho B _ i (.int .u8 0) 1 Try.underlying59 hi hz0 hz1 kl kc C n hx hy hC (by rw [hz2]; omega) (by unfold maxLen; omega) hB ?_
  intro w' ho' hg
  exact h w' ⟨by simpa using ho', fun n hn => by simp at hn, Nat.le_trans hB hg.size⟩ ((Below.refl B w).grown hg hB (fun k hk => by cases hk))
end

set_option maxRecDepth 100000 in
set_option maxHeartbeats 1000000 in
theorem encode_bad (a b c d k : Int) (t : Bool) (s : ByteArray) (w : World) (r : Int) (hr : flt a b c d k t s.size = r) (h0 : (r != 0) = true) :
    Calls Try.prog 112 #[.agg #[.int .i64 a, .int .i64 b, .int .i64 c, .int .i64 d, .int .i64 k, .bool t, .string s]] w fun e w' => e = .returned (.tuple #[.slice none 0 0, .int .i64 r]) ∧ Below w.heap.size w w' := by
  have HC : Hid (∀ w, _) := fun w => check_any a b c d k t s w
  rw [hr] at HC
  clear hr
  go_enter Try.func112, Try.ntmps112
  go_wp2_with fail
  refine (HC.out _).mono ?_
  rintro e w1 ⟨rfl, hb1⟩
  have hb := bstep (bbox _ _) hb1
  clear hb1 HC
  go_wp2_with fail
  go_ret2
  exact ⟨rfl, hb⟩

set_option maxRecDepth 100000 in
set_option maxHeartbeats 2000000 in
theorem encode_ok (a b c d k : Int) (t : Bool) (s : ByteArray) (w : World) (hr : flt a b c d k t s.size = 0) :
    Calls Try.prog 112 #[.agg #[.int .i64 a, .int .i64 b, .int .i64 c, .int .i64 d, .int .i64 k, .bool t, .string s]] w fun e w' => ∃ v, e = .returned (.tuple #[v, .int .i64 0]) ∧ Own w.heap.size v (encL a b c d k t s) w' ∧ Below w.heap.size w w' := by
  obtain ⟨ha, hb, hc, hd, hk, hs⟩ := flt_ok hr
  have HC : Hid (∀ w, _) := fun w => check_any a b c d k t s w
  rw [hr] at HC
  have HE : Hid (∀ w, _) := fun w => encodeBody_any a b c d k t s w ha hb hc hd hk hs
  have hlen := bodyL_len a b c d k t s
  have hfin : encL a b c d k t s = encB (bodyL a b c d k t s) := rfl
  rw [hfin]
  generalize bodyL a b c d k t s = L at *
  clear hr hfin ha hb hc hd hk
  go_enter Try.func112, Try.ntmps112
  go_wp2_with fail
  refine (HC.out _).mono ?_
  rintro e w1 ⟨rfl, hb1⟩
  have hcell1 := box_cells (by simpa using hb1)
  have hb1' := bstep (bbox _ _) hb1
  clear hb1 HC
  go_wp2_with fail
  refine (HE.out _).mono ?_
  rintro e w2 ⟨vb, rfl, hvb, hb2⟩
  have hb2' := bstep hb1' hb2
  clear hb2 HE hb1' hcell1
  obtain ⟨ao, cap, rfl⟩ := hvb.shape
  go_wp2_with (at_make; refine wp_mk rfl _ _ rfl w2.heap.size _ _ _ (1 + L.length + 2) rfl rfl (by omega) (by omega) (Nat.le_refl _) ?_)
  intro w3 hown3 hb3
  have hrd2 := hvb.rd
  have hA := hown3.alloc (.cells #[.int .u8 L.length] 5)
  have hr := rd_one w3 L.length (by omega)
  go_wp2_with (at_builtin; refine wp_app rfl _ _ rfl _ _ _ rfl hA _ _ rfl hr (by simp) ?_)
  intro v4 w4 hown4 hb4
  have hW4 := (hb3.alloc hown3.2.2 _).trans hb4
  have hrd4 := hrd2.below (Nat.le_refl _) hW4
  clear hA hr hb4 hown3 hb3
  go_wp2_with (at_builtin; refine wp_app rfl _ _ rfl _ _ _ rfl hown4 _ _ rfl hrd4 (by simp; omega) ?_)
  intro v5 w5 hown5 hb5
  have hW5 := hW4.trans hb5
  have hrd5 := hrd2.below (Nat.le_refl _) hW5
  clear hb5 hown4 hrd4 hW4
  go_wp2_with fail
  refine (sum_any L _ _ (by omega) hrd5).mono ?_
  rintro e w' ⟨rfl, rfl⟩
  have hS := sumL_bd L
  have hA := hown5.alloc (.cells #[.int .u8 (sumL L / 256), .int .u8 (sumL L % 256)] 5)
  have hr := rd_two w' (sumL L / 256) (sumL L % 256) (by omega) (by omega)
  clear hrd5 hrd2 hvb
  go_wp2_with (at_builtin; go_loud (refine wp_app rfl _ _ rfl _ _ _ rfl hA _ _ rfl hr (by simp; omega) ?_))
  intro v6 w6 hown6 hb6
  have hW6 := (hW5.alloc hown5.2.2 _).trans hb6
  have hfin : Own w.heap.size v6 (encB L) w6 := by (have := hown6.mono (C := w.heap.size) hb2'.size; simpa [encB] using this)
  have hbel : Below w.heap.size w w6 := bstep hb2' hW6
  clear hW5 hW6 hb6 hown6 hown5 hA hr hb2'
  go_wp2
  go_ret2
  exact ⟨_, rfl, hfin, hbel⟩

set_option maxRecDepth 100000 in
set_option maxHeartbeats 1000000 in
theorem bytes_bad (a b c d k : Int) (t : Bool) (s : ByteArray) (w : World) (r : Int) (hr : flt a b c d k t s.size = r) (h0 : (r != 0) = true) :
    Calls Try.prog 119 #[.agg #[.int .i64 a, .int .i64 b, .int .i64 c, .int .i64 d, .int .i64 k, .bool t, .string s]] w fun e w' => e = .returned (.tuple #[.slice none 0 0, .int .i64 r]) ∧ Below w.heap.size w w' := by
  have HC : Hid (∀ w, _) := fun w => fault_any a b c d k t s w
  rw [hr] at HC
  clear hr
  go_enter Try.func119, Try.ntmps119
  go_wp2_with fail
  refine (HC.out _).mono ?_
  rintro e w1 ⟨rfl, hb1⟩
  have hb := bstep (bbox _ _) hb1
  clear hb1 HC
  go_wp2_with fail
  go_ret2
  exact ⟨rfl, hb⟩

set_option maxRecDepth 100000 in
set_option maxHeartbeats 2000000 in
theorem bytes_ok (a b c d k : Int) (t : Bool) (s : ByteArray) (w : World) (hr : flt a b c d k t s.size = 0) :
    Calls Try.prog 119 #[.agg #[.int .i64 a, .int .i64 b, .int .i64 c, .int .i64 d, .int .i64 k, .bool t, .string s]] w fun e w' => ∃ v, e = .returned (.tuple #[v, .int .i64 0]) ∧ Own w.heap.size v (encL a b c d k t s) w' ∧ Below w.heap.size w w' := by
  obtain ⟨ha, hb, hc, hd, hk, hs⟩ := flt_ok hr
  have HC : Hid (∀ w, _) := fun w => fault_any a b c d k t s w
  rw [hr] at HC
  have HE : Hid (∀ w, _) := fun w => bodyOf_any a b c d k t s w ha hb hc hd hk hs
  have hlen := bodyL_len a b c d k t s
  have hfin : encL a b c d k t s = encB (bodyL a b c d k t s) := rfl
  rw [hfin]
  generalize bodyL a b c d k t s = L at *
  clear hr hfin ha hb hc hd hk
  go_enter Try.func119, Try.ntmps119
  go_wp2_with fail
  refine (HC.out _).mono ?_
  rintro e w1 ⟨rfl, hb1⟩
  have hcell1 := box_cells (by simpa using hb1)
  have hb1' := bstep (bbox _ _) hb1
  clear hb1 HC
  go_wp2_with fail
  refine (HE.out _).mono ?_
  rintro e w2 ⟨vb, rfl, hvb, hb2⟩
  have hb2' := bstep hb1' hb2
  clear hb2 HE hb1' hcell1
  obtain ⟨ao, cap, rfl⟩ := hvb.shape
  have hrd2 := hvb.rd
  have hown4 := own_one w2.heap.size w2 L.length (by omega) (Nat.le_refl _)
  have hW4 := bbox w2 (.cells #[.int .u8 L.length] 5)
  have hrd4 := hrd2.below (Nat.le_refl _) hW4
  go_wp2_with (at_builtin; refine wp_app rfl _ _ rfl _ _ _ rfl hown4 _ _ rfl hrd4 (by simp; omega) ?_)
  intro v5 w5 hown5 hb5
  have hW5 := hW4.trans hb5
  have hrd5 := hrd2.below (Nat.le_refl _) hW5
  clear hb5 hown4 hrd4 hW4
  have hS := sumL_bd L
  go_wp2_with fail
  refine (sumOf_any L _ _ (by omega) hrd5).mono ?_
  rintro e w' ⟨rfl, rfl⟩
  go_wp2_with fail
  refine (sumOf_any L _ _ (by omega) hrd5).mono ?_
  rintro e w'' ⟨rfl, rfl⟩
  have hA := hown5.alloc (.cells #[.int .u8 (sumL L / 256), .int .u8 (sumL L % 256)] 5)
  have hr := rd_two w'' (sumL L / 256) (sumL L % 256) (by omega) (by omega)
  clear hrd5 hrd2 hvb
  go_wp2_with (at_builtin; refine wp_app rfl _ _ rfl _ _ _ rfl hA _ _ rfl hr (by simp; omega) ?_)
  intro v6 w6 hown6 hb6
  have hW6 := (hW5.alloc hown5.2.2 _).trans hb6
  have hfin : Own w.heap.size v6 (encB L) w6 := by (have := hown6.mono (C := w.heap.size) hb2'.size; simpa [encB] using this)
  have hbel : Below w.heap.size w w6 := bstep hb2' hW6
  clear hW5 hW6 hb6 hown6 hown5 hA hr hb2'
  go_wp2
  go_ret2
  exact ⟨_, rfl, hfin, hbel⟩

/-- The text that a slice of bytes is turned into. -/
theorem conv_str {w : World} {v : Value} {l : List Int} (h : Rd w v l) : (convert 59 9 v).run Try.prog w = .ok (.string (strOfNums l)) w := by
  obtain ⟨hb, ao, cap, rfl, r4, r5, r6, hc⟩ := h
  by_cases h0 : 0 < l.length
  · obtain ⟨b, off, rfl, hc'⟩ := hc h0
    exact run_convert_bytes_arg w _ _ Try.underlying59 Try.underlying5 b off l.length cap l rfl hc' _ Try.underlying9
  · have hl : l = [] := List.eq_nil_of_length_eq_zero (by omega)
    subst hl
    cases ao with
    | none => exact run_convert_bytes_nil w _ _ Try.underlying59 Try.underlying5 0 cap _ Try.underlying9
    | some ad =>
      have hl : (loadCells ad 0).run Try.prog w = .ok (([] : List Int).map (Value.int .u8)).toArray w := by
        have := run_loadCells_list (P := Try.prog) w ad [] (fun j v hj => by simp at hj)
        simpa using this
      have := run_convert_bytes_string (P := Try.prog) w 59 9 5 (some ad) 0 cap Try.underlying59 Try.underlying5 Try.underlying9
      rw [List.length_nil, this, run_bytesToString w ad 0 cap [] hl]
      rfl

end Go.Proofs.Ytkakagjffafdiaa
