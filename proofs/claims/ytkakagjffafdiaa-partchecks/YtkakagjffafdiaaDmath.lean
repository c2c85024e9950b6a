/-
  Plain lists of numbers: how an entry is read from bytes, and that nothing else than what is written is read.
-/
import Derived.Test.YtkakagjffafdiaaWenc
namespace Go.Proofs.Ytkakagjffafdiaa
open Go.RowKit
set_option linter.unusedVariables false

/-- A number as it stands, in at most so many bytes, and what is left. -/
def rawF : Nat → List Int → Option (Int × List Int)
  | 0, _ => none
  | _ + 1, [] => none
  | f + 1, c :: r => if c < 128 then some (c, r) else
    match rawF f r with
    | none => none
    | some (n, r') => some (c - 128 + 128 * n, r')
/-- A number in as few bytes as may be. -/
def minF : Nat → Bool → List Int → Option (Int × List Int)
  | 0, _, _ => none
  | _ + 1, _, [] => none
  | f + 1, first, c :: r => if c < 128 then (if c = 0 ∧ first = false then none else some (c, r)) else
    match minF f false r with
    | none => none
    | some (n, r') => some (c - 128 + 128 * n, r')

theorem minF_raw (f : Nat) (first : Bool) (l : List Int) (n : Int) (r : List Int) (h : minF f first l = some (n, r)) : rawF f l = some (n, r) := by
  induction f generalizing first l n r with
  | zero => simp [minF] at h
  | succ f ih =>
    cases l with
    | nil => simp [minF] at h
    | cons c l =>
      simp only [minF] at h
      simp only [rawF]
      by_cases hc : c < 128
      · rw [if_pos hc] at h ⊢
        split at h
        · simp at h
        · exact h
      · rw [if_neg hc] at h ⊢
        cases hm : minF f false l with
        | none => simp [hm] at h
        | some p =>
          obtain ⟨n', r'⟩ := p
          rw [hm] at h
          rw [ih false l n' r' hm]
          exact h

theorem minF_sev (f : Nat) (first : Bool) (l : List Int) (hb : Bytes l) (n : Int) (r : List Int) (h : minF f first l = some (n, r)) :
    0 ≤ n ∧ n.toNat < 128 ^ f ∧ (first = false → n ≠ 0) ∧ l = sevF f n.toNat ++ r := by
  induction f generalizing first l n r with
  | zero => simp [minF] at h
  | succ f ih =>
    cases l with
    | nil => simp [minF] at h
    | cons c l =>
      have hc0 := hb c (List.mem_cons_self ..)
      have hbl : Bytes l := fun x hx => hb x (List.mem_cons_of_mem _ hx)
      have hp : 1 ≤ 128 ^ f := Nat.one_le_pow _ _ (by omega)
      simp only [minF] at h
      by_cases hc : c < 128
      · rw [if_pos hc] at h
        split at h
        · simp at h
        · rename_i hz
          simp only [Option.some.injEq, Prod.mk.injEq] at h
          obtain ⟨rfl, rfl⟩ := h
          refine ⟨hc0.1, by rw [Nat.pow_succ]; omega, fun hf e => hz ⟨e, hf⟩, ?_⟩
          rw [sevF_small _ _ (by omega)]
          simp
          omega
      · rw [if_neg hc] at h
        cases hm : minF f false l with
        | none => simp [hm] at h
        | some p =>
          obtain ⟨n', r'⟩ := p
          rw [hm] at h
          simp only [Option.some.injEq, Prod.mk.injEq] at h
          obtain ⟨rfl, rfl⟩ := h
          obtain ⟨h1, h2, h3, h4⟩ := ih false l hbl n' r' hm
          have h3' := h3 rfl
          refine ⟨by omega, by rw [Nat.pow_succ]; omega, fun _ => by omega, ?_⟩
          rw [sevF_big _ _ (by omega)]
          have e1 : (c - 128 + 128 * n').toNat / 128 = n'.toNat := by omega
          have e2 : ((128 + (c - 128 + 128 * n').toNat % 128 : Nat) : Int) = c := by omega
          rw [e1, e2, h4]
          rfl

theorem sev_minF (f : Nat) (first : Bool) (n : Nat) (r : List Int) (hn : n < 128 ^ f) (h0 : (first = true ∧ 1 ≤ f) ∨ n ≠ 0) : minF f first (sevF f n ++ r) = some ((n : Int), r) := by
  induction f generalizing first n with
  | zero => simp at hn; omega
  | succ f ih =>
    by_cases hs : n < 128
    · rw [sevF_small _ _ hs]
      simp only [List.singleton_append, minF]
      rw [if_pos (by omega), if_neg]
      rintro ⟨e, hf⟩
      rcases h0 with h0 | h0
      · simp [hf] at h0
      · omega
    · rw [sevF_big _ _ hs]
      simp only [List.cons_append, minF]
      rw [if_neg (by omega), ih false (n / 128) (by rw [Nat.pow_succ] at hn; omega) (.inr (by omega))]
      simp only [Option.some.injEq, Prod.mk.injEq, and_true]
      omega

theorem sev_rawF (n : Int) (h0 : 0 ≤ n) (h1 : n ≤ 1073741824) (r : List Int) : minF 5 true (sev n ++ r) = some (n, r) := by
  have := sev_minF 5 true n.toNat r (by omega) (.inl ⟨rfl, by omega⟩)
  rw [show ((n.toNat : Nat) : Int) = n by omega] at this
  exact this

/-- An entry. -/
structure Ent where
  a : Int
  b : Int
  c : Int
  d : Int
  k : Int
  t : Bool
  s : ByteArray
def Ent.flt (e : Ent) : Int := Ytkakagjffafdiaa.flt e.a e.b e.c e.d e.k e.t e.s.size
def Ent.body (e : Ent) : List Int := bodyL e.a e.b e.c e.d e.k e.t e.s
def Ent.enc (e : Ent) : List Int := encL e.a e.b e.c e.d e.k e.t e.s

theorem strL_strOfNums (l : List Int) (h : Bytes l) : strL (strOfNums l) = l := by
  unfold strL
  rw [strOfNums_data]
  simp only [List.map_map]
  have : ∀ x ∈ l, ((fun c : UInt8 => (c.toNat : Int)) ∘ fun n => UInt8.ofNat n.toNat) x = x := by
    intro x hx
    have := h x hx
    simp only [Function.comp, UInt8.toNat_ofNat']
    omega
  rw [List.map_congr_left this]
  simp
theorem strOfNums_strL (s : ByteArray) : strOfNums (strL s) = s := by
  unfold strOfNums strL
  simp only [List.map_map]
  have : ∀ x ∈ s.data.toList, ((fun n : Int => UInt8.ofNat n.toNat) ∘ fun c : UInt8 => (c.toNat : Int)) x = x := by
    intro x _
    simp
  rw [List.map_congr_left this]
  simp

def kAnd (kb : Int) : Int := kb - 16 * (kb / 16 % 2)
def tAnd (kb : Int) : Bool := decide (kb / 16 % 2 = 1)
/-- What a body says, whether or not it may be. -/
def rawB : List Int → Option Ent
  | [] => none
  | kb :: r =>
    match rawF 5 r with
    | none => none
    | some (a, r1) =>
      match rawF 5 r1 with
      | none => none
      | some (b, r2) =>
        match rawF 5 r2 with
        | none => none
        | some (c, r3) =>
          match rawF 5 r3 with
          | none => none
          | some (d, r4) => some ⟨a, b, c, d, kAnd kb, tAnd kb, strOfNums r4⟩
/-- What a body says, if it may be. -/
def minB : List Int → Option Ent
  | [] => none
  | kb :: r =>
    if 32 ≤ kb then none else
    match minF 5 true r with
    | none => none
    | some (a, r1) =>
      match minF 5 true r1 with
      | none => none
      | some (b, r2) =>
        match minF 5 true r2 with
        | none => none
        | some (c, r3) =>
          match minF 5 true r3 with
          | none => none
          | some (d, r4) => if (Ent.mk a b c d (kb % 16) (decide (kb / 16 = 1)) (strOfNums r4)).flt = 0 then some ⟨a, b, c, d, kb % 16, decide (kb / 16 = 1), strOfNums r4⟩ else none

theorem bytes_right {l r : List Int} (h : Bytes (l ++ r)) : Bytes r := fun n hn => h n (List.mem_append_right _ hn)

theorem minB_body (x : List Int) (hb : Bytes x) (e : Ent) (h : minB x = some e) : e.flt = 0 ∧ x = e.body := by
  cases x with
  | nil => simp [minB] at h
  | cons kb r =>
    have hk := hb kb (List.mem_cons_self ..)
    have hr : Bytes r := fun n hn => hb n (List.mem_cons_of_mem _ hn)
    simp only [minB] at h
    by_cases h32 : 32 ≤ kb
    · rw [if_pos h32] at h; simp at h
    rw [if_neg h32] at h
    cases ha : minF 5 true r with
    | none => simp [ha] at h
    | some pa =>
      obtain ⟨a, r1⟩ := pa
      obtain ⟨_, _, _, ea⟩ := minF_sev 5 true r hr a r1 ha
      have hr1 : Bytes r1 := bytes_right (ea ▸ hr)
      rw [ha] at h
      simp only at h
      cases hb' : minF 5 true r1 with
      | none => simp [hb'] at h
      | some pb =>
        obtain ⟨b, r2⟩ := pb
        obtain ⟨_, _, _, eb⟩ := minF_sev 5 true r1 hr1 b r2 hb'
        have hr2 : Bytes r2 := bytes_right (eb ▸ hr1)
        rw [hb'] at h
        simp only at h
        cases hc : minF 5 true r2 with
        | none => simp [hc] at h
        | some pc =>
          obtain ⟨c, r3⟩ := pc
          obtain ⟨_, _, _, ec⟩ := minF_sev 5 true r2 hr2 c r3 hc
          have hr3 : Bytes r3 := bytes_right (ec ▸ hr2)
          rw [hc] at h
          simp only at h
          cases hd : minF 5 true r3 with
          | none => simp [hd] at h
          | some pd =>
            obtain ⟨d, r4⟩ := pd
            obtain ⟨_, _, _, ed⟩ := minF_sev 5 true r3 hr3 d r4 hd
            have hr4 : Bytes r4 := bytes_right (ed ▸ hr3)
            rw [hd] at h
            simp only at h
            split at h
            · rename_i hf
              simp only [Option.some.injEq] at h
              subst h
              refine ⟨hf, ?_⟩
              have hkb : kindB (kb % 16) (decide (kb / 16 = 1)) = kb := by
                unfold kindB
                by_cases h1 : kb / 16 = 1
                · simp [h1]; omega
                · simp [h1]; omega
              simp only [Ent.body, bodyL, hkb, strL_strOfNums r4 hr4]
              rw [ea, eb, ec, ed]
              rfl
            · simp at h

theorem body_min (e : Ent) (h : e.flt = 0) : minB e.body = some e ∧ rawB e.body = some e := by
  obtain ⟨ha, hb, hc, hd, hk, hs⟩ := flt_ok h
  have h1 := sev_rawF e.a ha.1 ha.2 (sev e.b ++ (sev e.c ++ (sev e.d ++ strL e.s)))
  have h2 := sev_rawF e.b hb.1 hb.2 (sev e.c ++ (sev e.d ++ strL e.s))
  have h3 := sev_rawF e.c hc.1 hc.2 (sev e.d ++ strL e.s)
  have h4 := sev_rawF e.d hd.1 hd.2 (strL e.s)
  have k1 := minF_raw _ _ _ _ _ h1
  have k2 := minF_raw _ _ _ _ _ h2
  have k3 := minF_raw _ _ _ _ _ h3
  have k4 := minF_raw _ _ _ _ _ h4
  have hs' := strOfNums_strL e.s
  have hlt : ¬ 32 ≤ kindB e.k e.t := by unfold kindB; split <;> omega
  have hkm : kindB e.k e.t % 16 = e.k := by unfold kindB; split <;> omega
  have htm : decide (kindB e.k e.t / 16 = 1) = e.t := by unfold kindB; cases e.t <;> simp <;> omega
  have hka : kAnd (kindB e.k e.t) = e.k := by unfold kAnd kindB; cases e.t <;> simp <;> omega
  have hta : tAnd (kindB e.k e.t) = e.t := by unfold tAnd kindB; cases e.t <;> simp <;> omega
  constructor
  · simp only [Ent.body, bodyL, minB]
    rw [if_neg hlt, h1]
    simp only [h2, h3, h4, hkm, htm, hs']
    rw [if_pos h]
  · simp only [Ent.body, bodyL, rawB, k1, k2, k3, k4, hka, hta, hs']

theorem body_len (e : Ent) : 1 ≤ e.body.length := by simp [Ent.body, bodyL]
theorem body_len' (e : Ent) (h : e.flt = 0) : e.body.length ≤ 61 := by
  obtain ⟨ha, hb, hc, hd, hk, hs⟩ := flt_ok h
  have := bodyL_len e.a e.b e.c e.d e.k e.t e.s
  unfold Ent.body
  omega
theorem enc_eq (e : Ent) : e.enc = (e.body.length : Int) :: (e.body ++ [sumL e.body / 256, sumL e.body % 256]) := rfl
theorem enc_len (e : Ent) : e.enc.length = e.body.length + 3 := by rw [enc_eq]; simp

/-- The entry that bytes begin with, and its size. -/
def firstP : List Int → Option (Ent × Nat)
  | [] => none
  | n :: r =>
    if n < 1 ∨ (r.length : Int) < n + 2 then none else
    match minB (r.take n.toNat) with
    | none => none
    | some e => if sumL (r.take n.toNat) = 256 * r.getD n.toNat 0 + r.getD (n.toNat + 1) 0 then some (e, n.toNat + 3) else none
/-- The same, by writing it again. -/
def wfirst : List Int → Option (Ent × Nat)
  | [] => none
  | n :: r =>
    if (r.length : Int) < n + 2 then none else
    match rawB (r.take n.toNat) with
    | none => none
    | some e => if e.flt = 0 ∧ e.enc = (n :: r).take (n.toNat + 3) then some (e, n.toNat + 3) else none

theorem take_two (r : List Int) (n : Nat) (h : n + 2 ≤ r.length) : r.take (n + 2) = r.take n ++ [r.getD n 0, r.getD (n + 1) 0] := by
  have h1 := List.take_succ_eq_append_getElem (l := r) (i := n) (by omega)
  have h2 := List.take_succ_eq_append_getElem (l := r) (i := n + 1) (by omega)
  have e1 : r.getD n 0 = r[n] := by simp [List.getD, show n < r.length by omega]
  have e2 : r.getD (n + 1) 0 = r[n + 1] := by simp [List.getD, show n + 1 < r.length by omega]
  rw [h2, h1, e1, e2, List.append_assoc]
  rfl

theorem first_some (b : List Int) (hb : Bytes b) (e : Ent) (z : Nat) (h : firstP b = some (e, z)) : e.flt = 0 ∧ z = e.enc.length ∧ b = e.enc ++ b.drop z := by
  cases b with
  | nil => simp [firstP] at h
  | cons n r =>
    have hn := hb n (List.mem_cons_self ..)
    have hr : Bytes r := fun x hx => hb x (List.mem_cons_of_mem _ hx)
    simp only [firstP] at h
    by_cases h1 : n < 1 ∨ (r.length : Int) < n + 2
    · rw [if_pos h1] at h; simp at h
    rw [if_neg h1] at h
    cases hm : minB (r.take n.toNat) with
    | none => simp [hm] at h
    | some e' =>
      rw [hm] at h
      simp only at h
      split at h
      · rename_i hs
        simp only [Option.some.injEq, Prod.mk.injEq] at h
        obtain ⟨rfl, rfl⟩ := h
        obtain ⟨hf, hx⟩ := minB_body _ (bytes_take hr _) _ hm
        have hl : e'.body.length = n.toNat := by rw [← hx]; simp; omega
        have hsb := sumL_bd e'.body
        have b1 := bytes_getD hr n.toNat
        have b2 := bytes_getD hr (n.toNat + 1)
        rw [hx] at hs
        refine ⟨hf, by rw [enc_len]; omega, ?_⟩
        have he : e'.enc = (n :: r).take (n.toNat + 3) := by
          rw [enc_eq, List.take_succ_cons, take_two r n.toNat (by omega), hx, hl]
          have e1 : ((n.toNat : Nat) : Int) = n := by omega
          have e2 : sumL e'.body / 256 = r.getD n.toNat 0 := by omega
          have e3 : sumL e'.body % 256 = r.getD (n.toNat + 1) 0 := by omega
          rw [e1, e2, e3]
        rw [he]
        exact (List.take_append_drop _ _).symm
      · simp at h

theorem enc_first (e : Ent) (h : e.flt = 0) (r : List Int) : firstP (e.enc ++ r) = some (e, e.enc.length) := by
  have hl := body_len e
  have hl' := body_len' e h
  have hsb := sumL_bd e.body
  have hm := (body_min e h).1
  rw [enc_len, enc_eq]
  simp only [List.cons_append, firstP]
  have e1 : ((e.body.length : Nat) : Int).toNat = e.body.length := by omega
  have e2 : (e.body ++ [sumL e.body / 256, sumL e.body % 256] ++ r).take e.body.length = e.body := by simp
  rw [e1, e2, if_neg (by simp; omega), hm]
  simp only
  rw [if_pos]
  simp [List.getD]
  omega

theorem wfirst_eq (b : List Int) (hb : Bytes b) : wfirst b = firstP b := by
  cases hp : firstP b with
  | some p =>
    obtain ⟨e, z⟩ := p
    obtain ⟨hf, hz, he⟩ := first_some b hb e z hp
    have hm := (body_min e hf).2
    have hl := body_len e
    rw [he, enc_eq]
    simp only [List.cons_append, wfirst]
    have e1 : ((e.body.length : Nat) : Int).toNat = e.body.length := by omega
    have e2 : (e.body ++ [sumL e.body / 256, sumL e.body % 256] ++ b.drop z).take e.body.length = e.body := by simp
    rw [e1, e2, if_neg (by simp; omega), hm]
    simp only
    have e3 : (e.body.length : Int) :: (e.body ++ [sumL e.body / 256, sumL e.body % 256] ++ b.drop z) = e.enc ++ b.drop z := by rw [enc_eq]; rfl
    have e4 : e.enc = ((e.body.length : Int) :: (e.body ++ [sumL e.body / 256, sumL e.body % 256] ++ b.drop z)).take (e.body.length + 3) := by
      rw [e3, ← enc_len]
      exact List.take_left.symm
    rw [if_pos ⟨hf, e4⟩, hz, enc_len]
  | none =>
    cases hw : wfirst b with
    | none => rfl
    | some p =>
      obtain ⟨e, z⟩ := p
      cases b with
      | nil => simp [wfirst] at hw
      | cons n r =>
        simp only [wfirst] at hw
        split at hw
        · simp at hw
        · split at hw
          · simp at hw
          · split at hw
            · rename_i e' _ hh
              obtain ⟨hf, he⟩ := hh
              have := enc_first e' hf ((n :: r).drop (n.toNat + 3))
              rw [he, List.take_append_drop, hp] at this
              simp at this
            · simp at hw

/-- All entries, as far as they go, and how many bytes these are. -/
def decP : Nat → List Int → List Ent × Nat
  | 0, _ => ([], 0)
  | f + 1, b =>
    match firstP b with
    | none => ([], 0)
    | some (e, z) => (e :: (decP f (b.drop z)).1, z + (decP f (b.drop z)).2)
def decL (b : List Int) : List Ent × Nat := decP b.length b

theorem decP_none (f : Nat) (b : List Int) (h : firstP b = none) : decP f b = ([], 0) := by
  cases f with
  | zero => rfl
  | succ f => simp [decP, h]
theorem decP_some (f : Nat) (b : List Int) (e : Ent) (z : Nat) (h : firstP b = some (e, z)) : decP (f + 1) b = (e :: (decP f (b.drop z)).1, z + (decP f (b.drop z)).2) := by
  simp [decP, h]

end Go.Proofs.Ytkakagjffafdiaa
