/-
  Plain lists of numbers: how an entry is read from bytes, and that nothing else than what is written is read.
  The walks of the two ways to read a number.
  The walk of wire.decodeBody: what a body says, if its numbers end.
  The walk of wire.decodeFirst: the entry that bytes begin with.
  The walk of wire.Decode: all entries, as far as they go, and how many bytes these are.
  Plain lists: entries one behind the other are read as they were written; what is read is what is written.
  A slice of entries, as it reads.
-/
import Derived.Test.YtknipikmbfdcnaaAwire
import Derived.Laws.BitsAllLaws
namespace Go.Proofs.Ytknipikmbfdcnaa

section
open Go.RowKit
set_option linter.unusedVariables false

/-- A number as it stands, in at most so many bytes, and what is left. -/
def rawF : Nat → List Int → Option (Int × List Int)
  | 0, _ => none
  | _ + 1, [] => none
  | f + 1, c :: r => if c < 128 then some (c, r) else
    match rawF f r with
    | none => none
    | some (n, r') => some (c - 128 + 128 * n, r')
/-- A number in as few bytes as may be. -/
def minF : Nat → Bool → List Int → Option (Int × List Int)
  | 0, _, _ => none
  | _ + 1, _, [] => none
  | f + 1, first, c :: r => if c < 128 then (if c = 0 ∧ first = false then none else some (c, r)) else
    match minF f false r with
    | none => none
    | some (n, r') => some (c - 128 + 128 * n, r')

theorem minF_raw (f : Nat) (first : Bool) (l : List Int) (n : Int) (r : List Int) (h : minF f first l = some (n, r)) : rawF f l = some (n, r) := by
  induction f generalizing first l n r with
  | zero => simp [minF] at h
  | succ f ih =>
    cases l with
    | nil => simp [minF] at h
    | cons c l =>
      simp only [minF] at h
      simp only [rawF]
      by_cases hc : c < 128
      · rw [if_pos hc] at h ⊢
        split at h
        · simp at h
        · exact h
      · rw [if_neg hc] at h ⊢
        cases hm : minF f false l with
        | none => simp [hm] at h
        | some p =>
          obtain ⟨n', r'⟩ := p
          rw [hm] at h
          rw [ih false l n' r' hm]
          exact h

theorem minF_sev (f : Nat) (first : Bool) (l : List Int) (hb : Bytes l) (n : Int) (r : List Int) (h : minF f first l = some (n, r)) :
    0 ≤ n ∧ n.toNat < 128 ^ f ∧ (first = false → n ≠ 0) ∧ l = sevF f n.toNat ++ r := by
  induction f generalizing first l n r with
  | zero => simp [minF] at h
  | succ f ih =>
    cases l with
    | nil => simp [minF] at h
    | cons c l =>
      have hc0 := hb c (List.mem_cons_self ..)
      have hbl : Bytes l := fun x hx => hb x (List.mem_cons_of_mem _ hx)
      have hp : 1 ≤ 128 ^ f := Nat.one_le_pow _ _ (by omega)
      simp only [minF] at h
      by_cases hc : c < 128
      · rw [if_pos hc] at h
        split at h
        · simp at h
        · rename_i hz
          simp only [Option.some.injEq, Prod.mk.injEq] at h
          obtain ⟨rfl, rfl⟩ := h
          refine ⟨hc0.1, by rw [Nat.pow_succ]; omega, fun hf e => hz ⟨e, hf⟩, ?_⟩
          rw [sevF_small _ _ (by omega)]
          simp
          omega
      · rw [if_neg hc] at h
        cases hm : minF f false l with
        | none => simp [hm] at h
        | some p =>
          obtain ⟨n', r'⟩ := p
          rw [hm] at h
          simp only [Option.some.injEq, Prod.mk.injEq] at h
          obtain ⟨rfl, rfl⟩ := h
          obtain ⟨h1, h2, h3, h4⟩ := ih false l hbl n' r' hm
          have h3' := h3 rfl
          refine ⟨by omega, by rw [Nat.pow_succ]; omega, fun _ => by omega, ?_⟩
          rw [sevF_big _ _ (by omega)]
          have e1 : (c - 128 + 128 * n').toNat / 128 = n'.toNat := by omega
          have e2 : ((128 + (c - 128 + 128 * n').toNat % 128 : Nat) : Int) = c := by omega
          rw [e1, e2, h4]
          rfl

theorem sev_minF (f : Nat) (first : Bool) (n : Nat) (r : List Int) (hn : n < 128 ^ f) (h0 : (first = true ∧ 1 ≤ f) ∨ n ≠ 0) : minF f first (sevF f n ++ r) = some ((n : Int), r) := by
  induction f generalizing first n with
  | zero => simp at hn; omega
  | succ f ih =>
    by_cases hs : n < 128
    · rw [sevF_small _ _ hs]
      simp only [List.singleton_append, minF]
      rw [if_pos (by omega), if_neg]
      rintro ⟨e, hf⟩
      rcases h0 with h0 | h0
      · simp [hf] at h0
      · omega
    · rw [sevF_big _ _ hs]
      simp only [List.cons_append, minF]
      rw [if_neg (by omega), ih false (n / 128) (by rw [Nat.pow_succ] at hn; omega) (.inr (by omega))]
      simp only [Option.some.injEq, Prod.mk.injEq, and_true]
      omega

theorem sev_rawF (n : Int) (h0 : 0 ≤ n) (h1 : n ≤ 1073741824) (r : List Int) : minF 5 true (sev n ++ r) = some (n, r) := by
  have := sev_minF 5 true n.toNat r (by omega) (.inl ⟨rfl, by omega⟩)
  rw [show ((n.toNat : Nat) : Int) = n by omega] at this
  exact this

/-- An entry. -/
structure Ent where
  a : Int
  b : Int
  c : Int
  d : Int
  k : Int
  t : Bool
  s : ByteArray
def Ent.flt (e : Ent) : Int := Ytknipikmbfdcnaa.flt e.a e.b e.c e.d e.k e.t e.s.size
def Ent.body (e : Ent) : List Int := bodyL e.a e.b e.c e.d e.k e.t e.s
def Ent.enc (e : Ent) : List Int := encL e.a e.b e.c e.d e.k e.t e.s

theorem strL_strOfNums (l : List Int) (h : Bytes l) : strL (strOfNums l) = l := by
  unfold strL
  rw [strOfNums_data]
  simp only [List.map_map]
  have : ∀ x ∈ l, ((fun c : UInt8 => (c.toNat : Int)) ∘ fun n => UInt8.ofNat n.toNat) x = x := by
    intro x hx
    have := h x hx
    simp only [Function.comp, UInt8.toNat_ofNat']
    omega
  rw [List.map_congr_left this]
  simp
theorem strOfNums_strL (s : ByteArray) : strOfNums (strL s) = s := by
  unfold strOfNums strL
  simp only [List.map_map]
  have : ∀ x ∈ s.data.toList, ((fun n : Int => UInt8.ofNat n.toNat) ∘ fun c : UInt8 => (c.toNat : Int)) x = x := by
    intro x _
    simp
  rw [List.map_congr_left this]
  simp

def kAnd (kb : Int) : Int := kb - 16 * (kb / 16 % 2)
def tAnd (kb : Int) : Bool := decide (kb / 16 % 2 = 1)
/-- What a body says, whether or not it may be. -/
def rawB : List Int → Option Ent
  | [] => none
  | kb :: r =>
    match rawF 5 r with
    | none => none
    | some (a, r1) =>
      match rawF 5 r1 with
      | none => none
      | some (b, r2) =>
        match rawF 5 r2 with
        | none => none
        | some (c, r3) =>
          match rawF 5 r3 with
          | none => none
          | some (d, r4) => some ⟨a, b, c, d, kAnd kb, tAnd kb, strOfNums r4⟩
/-- What a body says, if it may be. -/
def minB : List Int → Option Ent
  | [] => none
  | kb :: r =>
    if 32 ≤ kb then none else
    match minF 5 true r with
    | none => none
    | some (a, r1) =>
      match minF 5 true r1 with
      | none => none
      | some (b, r2) =>
        match minF 5 true r2 with
        | none => none
        | some (c, r3) =>
          match minF 5 true r3 with
          | none => none
          | some (d, r4) => if (Ent.mk a b c d (kb % 16) (decide (kb / 16 = 1)) (strOfNums r4)).flt = 0 then some ⟨a, b, c, d, kb % 16, decide (kb / 16 = 1), strOfNums r4⟩ else none

theorem bytes_right {l r : List Int} (h : Bytes (l ++ r)) : Bytes r := fun n hn => h n (List.mem_append_right _ hn)

theorem minB_body (x : List Int) (hb : Bytes x) (e : Ent) (h : minB x = some e) : e.flt = 0 ∧ x = e.body := by
  cases x with
  | nil => simp [minB] at h
  | cons kb r =>
    have hk := hb kb (List.mem_cons_self ..)
    have hr : Bytes r := fun n hn => hb n (List.mem_cons_of_mem _ hn)
    simp only [minB] at h
    by_cases h32 : 32 ≤ kb
    · rw [if_pos h32] at h; simp at h
    rw [if_neg h32] at h
    cases ha : minF 5 true r with
    | none => simp [ha] at h
    | some pa =>
      obtain ⟨a, r1⟩ := pa
      obtain ⟨_, _, _, ea⟩ := minF_sev 5 true r hr a r1 ha
      have hr1 : Bytes r1 := bytes_right (ea ▸ hr)
      rw [ha] at h
      simp only at h
      cases hb' : minF 5 true r1 with
      | none => simp [hb'] at h
      | some pb =>
        obtain ⟨b, r2⟩ := pb
        obtain ⟨_, _, _, eb⟩ := minF_sev 5 true r1 hr1 b r2 hb'
        have hr2 : Bytes r2 := bytes_right (eb ▸ hr1)
        rw [hb'] at h
        simp only at h
        cases hc : minF 5 true r2 with
        | none => simp [hc] at h
        | some pc =>
          obtain ⟨c, r3⟩ := pc
          obtain ⟨_, _, _, ec⟩ := minF_sev 5 true r2 hr2 c r3 hc
          have hr3 : Bytes r3 := bytes_right (ec ▸ hr2)
          rw [hc] at h
          simp only at h
          cases hd : minF 5 true r3 with
          | none => simp [hd] at h
          | some pd =>
            obtain ⟨d, r4⟩ := pd
            obtain ⟨_, _, _, ed⟩ := minF_sev 5 true r3 hr3 d r4 hd
            have hr4 : Bytes r4 := bytes_right (ed ▸ hr3)
            rw [hd] at h
            simp only at h
            split at h
            · rename_i hf
              simp only [Option.some.injEq] at h
              subst h
              refine ⟨hf, ?_⟩
              have hkb : kindB (kb % 16) (decide (kb / 16 = 1)) = kb := by
                unfold kindB
                by_cases h1 : kb / 16 = 1
                · simp [h1]; omega
                · simp [h1]; omega
              simp only [Ent.body, bodyL, hkb, strL_strOfNums r4 hr4]
              rw [ea, eb, ec, ed]
              rfl
            · simp at h

theorem body_min (e : Ent) (h : e.flt = 0) : minB e.body = some e ∧ rawB e.body = some e := by
  obtain ⟨ha, hb, hc, hd, hk, hs⟩ := flt_ok h
  have h1 := sev_rawF e.a ha.1 ha.2 (sev e.b ++ (sev e.c ++ (sev e.d ++ strL e.s)))
  have h2 := sev_rawF e.b hb.1 hb.2 (sev e.c ++ (sev e.d ++ strL e.s))
  have h3 := sev_rawF e.c hc.1 hc.2 (sev e.d ++ strL e.s)
  have h4 := sev_rawF e.d hd.1 hd.2 (strL e.s)
  have k1 := minF_raw _ _ _ _ _ h1
  have k2 := minF_raw _ _ _ _ _ h2
  have k3 := minF_raw _ _ _ _ _ h3
  have k4 := minF_raw _ _ _ _ _ h4
  have hs' := strOfNums_strL e.s
  have hlt : ¬ 32 ≤ kindB e.k e.t := by unfold kindB; split <;> omega
  have hkm : kindB e.k e.t % 16 = e.k := by unfold kindB; split <;> omega
  have htm : decide (kindB e.k e.t / 16 = 1) = e.t := by unfold kindB; cases e.t <;> simp <;> omega
  have hka : kAnd (kindB e.k e.t) = e.k := by unfold kAnd kindB; cases e.t <;> simp <;> omega
  have hta : tAnd (kindB e.k e.t) = e.t := by unfold tAnd kindB; cases e.t <;> simp <;> omega
  constructor
  · simp only [Ent.body, bodyL, minB]
    rw [if_neg hlt, h1]
    simp only [h2, h3, h4, hkm, htm, hs']
    rw [if_pos h]
  · simp only [Ent.body, bodyL, rawB, k1, k2, k3, k4, hka, hta, hs']

theorem body_len (e : Ent) : 1 ≤ e.body.length := by simp [Ent.body, bodyL]
theorem body_len' (e : Ent) (h : e.flt = 0) : e.body.length ≤ 61 := by
  obtain ⟨ha, hb, hc, hd, hk, hs⟩ := flt_ok h
  have := bodyL_len e.a e.b e.c e.d e.k e.t e.s
  unfold Ent.body
  omega
theorem enc_eq (e : Ent) : e.enc = (e.body.length : Int) :: (e.body ++ [sumL e.body / 256, sumL e.body % 256]) := rfl
theorem enc_len (e : Ent) : e.enc.length = e.body.length + 3 := by rw [enc_eq]; simp

/-- The entry that bytes begin with, and its size. -/
def firstP : List Int → Option (Ent × Nat)
  | [] => none
  | n :: r =>
    if n < 1 ∨ (r.length : Int) < n + 2 then none else
    match minB (r.take n.toNat) with
    | none => none
    | some e => if sumL (r.take n.toNat) = 256 * r.getD n.toNat 0 + r.getD (n.toNat + 1) 0 then some (e, n.toNat + 3) else none
/-- The same, by writing it again. -/
def wfirst : List Int → Option (Ent × Nat)
  | [] => none
  | n :: r =>
    if (r.length : Int) < n + 2 then none else
    match rawB (r.take n.toNat) with
    | none => none
    | some e => if e.flt = 0 ∧ e.enc = (n :: r).take (n.toNat + 3) then some (e, n.toNat + 3) else none

theorem take_two (r : List Int) (n : Nat) (h : n + 2 ≤ r.length) : r.take (n + 2) = r.take n ++ [r.getD n 0, r.getD (n + 1) 0] := by
  have h1 := List.take_succ_eq_append_getElem (l := r) (i := n) (by omega)
  have h2 := List.take_succ_eq_append_getElem (l := r) (i := n + 1) (by omega)
  have e1 : r.getD n 0 = r[n] := by simp [List.getD, show n < r.length by omega]
  have e2 : r.getD (n + 1) 0 = r[n + 1] := by simp [List.getD, show n + 1 < r.length by omega]
  rw [h2, h1, e1, e2, List.append_assoc]
  rfl

theorem first_some (b : List Int) (hb : Bytes b) (e : Ent) (z : Nat) (h : firstP b = some (e, z)) : e.flt = 0 ∧ z = e.enc.length ∧ b = e.enc ++ b.drop z := by
  cases b with
  | nil => simp [firstP] at h
  | cons n r =>
    have hn := hb n (List.mem_cons_self ..)
    have hr : Bytes r := fun x hx => hb x (List.mem_cons_of_mem _ hx)
    simp only [firstP] at h
    by_cases h1 : n < 1 ∨ (r.length : Int) < n + 2
    · rw [if_pos h1] at h; simp at h
    rw [if_neg h1] at h
    cases hm : minB (r.take n.toNat) with
    | none => simp [hm] at h
    | some e' =>
      rw [hm] at h
      simp only at h
      split at h
      · rename_i hs
        simp only [Option.some.injEq, Prod.mk.injEq] at h
        obtain ⟨rfl, rfl⟩ := h
        obtain ⟨hf, hx⟩ := minB_body _ (bytes_take hr _) _ hm
        have hl : e'.body.length = n.toNat := by rw [← hx]; simp; omega
        have hsb := sumL_bd e'.body
        have b1 := bytes_getD hr n.toNat
        have b2 := bytes_getD hr (n.toNat + 1)
        rw [hx] at hs
        refine ⟨hf, by rw [enc_len]; omega, ?_⟩
        have he : e'.enc = (n :: r).take (n.toNat + 3) := by
          rw [enc_eq, List.take_succ_cons, take_two r n.toNat (by omega), hx, hl]
          have e1 : ((n.toNat : Nat) : Int) = n := by omega
          have e2 : sumL e'.body / 256 = r.getD n.toNat 0 := by omega
          have e3 : sumL e'.body % 256 = r.getD (n.toNat + 1) 0 := by omega
          rw [e1, e2, e3]
        rw [he]
        exact (List.take_append_drop _ _).symm
      · simp at h

theorem enc_first (e : Ent) (h : e.flt = 0) (r : List Int) : firstP (e.enc ++ r) = some (e, e.enc.length) := by
  have hl := body_len e
  have hl' := body_len' e h
  have hsb := sumL_bd e.body
  have hm := (body_min e h).1
  rw [enc_len, enc_eq]
  simp only [List.cons_append, firstP]
  have e1 : ((e.body.length : Nat) : Int).toNat = e.body.length := by omega
  have e2 : (e.body ++ [sumL e.body / 256, sumL e.body % 256] ++ r).take e.body.length = e.body := by simp
  rw [e1, e2, if_neg (by simp; omega), hm]
  simp only
  rw [if_pos]
  simp [List.getD]
  omega

theorem wfirst_eq (b : List Int) (hb : Bytes b) : wfirst b = firstP b := by
  cases hp : firstP b with
  | some p =>
    obtain ⟨e, z⟩ := p
    obtain ⟨hf, hz, he⟩ := first_some b hb e z hp
    have hm := (body_min e hf).2
    have hl := body_len e
    rw [he, enc_eq]
    simp only [List.cons_append, wfirst]
    have e1 : ((e.body.length : Nat) : Int).toNat = e.body.length := by omega
    have e2 : (e.body ++ [sumL e.body / 256, sumL e.body % 256] ++ b.drop z).take e.body.length = e.body := by simp
    rw [e1, e2, if_neg (by simp; omega), hm]
    simp only
    have e3 : (e.body.length : Int) :: (e.body ++ [sumL e.body / 256, sumL e.body % 256] ++ b.drop z) = e.enc ++ b.drop z := by rw [enc_eq]; rfl
    have e4 : e.enc = ((e.body.length : Int) :: (e.body ++ [sumL e.body / 256, sumL e.body % 256] ++ b.drop z)).take (e.body.length + 3) := by
      rw [e3, ← enc_len]
      exact List.take_left.symm
    rw [if_pos ⟨hf, e4⟩, hz, enc_len]
  | none =>
    cases hw : wfirst b with
    | none => rfl
    | some p =>
      obtain ⟨e, z⟩ := p
      cases b with
      | nil => simp [wfirst] at hw
      | cons n r =>
        simp only [wfirst] at hw
        split at hw
        · simp at hw
        · split at hw
          · simp at hw
          · split at hw
            · rename_i e' _ hh
              obtain ⟨hf, he⟩ := hh
              have := enc_first e' hf ((n :: r).drop (n.toNat + 3))
              rw [he, List.take_append_drop, hp] at this
              simp at this
            · simp at hw

/-- All entries, as far as they go, and how many bytes these are. -/
def decP : Nat → List Int → List Ent × Nat
  | 0, _ => ([], 0)
  | f + 1, b =>
    match firstP b with
    | none => ([], 0)
    | some (e, z) => (e :: (decP f (b.drop z)).1, z + (decP f (b.drop z)).2)
def decL (b : List Int) : List Ent × Nat := decP b.length b

theorem decP_none (f : Nat) (b : List Int) (h : firstP b = none) : decP f b = ([], 0) := by
  cases f with
  | zero => rfl
  | succ f => simp [decP, h]
theorem decP_some (f : Nat) (b : List Int) (e : Ent) (z : Nat) (h : firstP b = some (e, z)) : decP (f + 1) b = (e :: (decP f (b.drop z)).1, z + (decP f (b.drop z)).2) := by
  simp [decP, h]
end

section
open Go.RowKit
set_option linter.unusedVariables false

/-- What decodeNumber answers. -/
def numW (l : List Int) : Int × Nat :=
  match rawF 5 l with
  | none => (0, 0)
  | some (n, r) => (n, l.length - r.length)

/-- How far one has come: so many bytes that say that another one follows, and what they hold. -/
def NumSt (l : List Int) (k : Nat) (acc : Int) : Prop :=
  k ≤ 5 ∧ k ≤ l.length ∧ 0 ≤ acc ∧ acc < 128 ^ k ∧ rawF 5 l = match rawF (5 - k) (l.drop k) with
    | none => none
    | some (n, r) => some (acc + 128 ^ k * n, r)

theorem numSt_0 (l : List Int) : NumSt l 0 0 := by
  refine ⟨by omega, by omega, by omega, by simp, ?_⟩
  simp only [Nat.sub_zero, List.drop_zero, Int.pow_zero, Int.zero_add, Int.one_mul]
  cases rawF 5 l <;> simp

theorem drop_cons_getD (l : List Int) (k : Nat) (h : k < l.length) : l.drop k = l.getD k 0 :: l.drop (k + 1) := by
  rw [List.drop_eq_getElem_cons h]
  simp [List.getD, h]

theorem numSt_end (l : List Int) (k : Nat) (acc : Int) (h : NumSt l k acc) (hk : k < 5) (hl : k < l.length) (hc : l.getD k 0 < 128) : rawF 5 l = some (acc + 128 ^ k * l.getD k 0, l.drop (k + 1)) := by
  obtain ⟨h1, h2, h3, h4, h5⟩ := h
  rw [h5, drop_cons_getD l k hl, show 5 - k = (4 - k) + 1 by omega]
  simp only [rawF]
  rw [if_pos hc]
theorem numSt_next (l : List Int) (k : Nat) (acc : Int) (h : NumSt l k acc) (hk : k < 5) (hl : k < l.length) (hb : Bytes l) (hc : ¬ l.getD k 0 < 128) : NumSt l (k + 1) (acc + 128 ^ k * (l.getD k 0 - 128)) := by
  obtain ⟨h1, h2, h3, h4, h5⟩ := h
  have hx := bytes_getD hb k
  have hp : (0 : Int) < 128 ^ k := Int.pow_pos (by omega)
  have e1 : (0 : Int) ≤ 128 ^ k * (l.getD k 0 - 128) := Int.mul_nonneg (by omega) (by omega)
  have e2 : (128 : Int) ^ k * (l.getD k 0 - 128) ≤ 128 ^ k * 127 := Int.mul_le_mul_of_nonneg_left (by omega) (by omega)
  refine ⟨by omega, by omega, by omega, by rw [Int.pow_succ]; omega, ?_⟩
  rw [h5, drop_cons_getD l k hl, show 5 - k = (4 - k) + 1 by omega, show 5 - (k + 1) = 4 - k by omega]
  simp only [rawF]
  rw [if_neg hc]
  cases rawF (4 - k) (l.drop (k + 1)) with
  | none => rfl
  | some p =>
    obtain ⟨n, r⟩ := p
    simp only [Option.some.injEq, Prod.mk.injEq, and_true]
    rw [Int.pow_succ, Int.mul_add, Int.mul_assoc]
    omega
theorem numSt_none (l : List Int) (k : Nat) (acc : Int) (h : NumSt l k acc) (hk : k = 5 ∨ k = l.length) : rawF 5 l = none := by
  obtain ⟨h1, h2, h3, h4, h5⟩ := h
  rw [h5]
  rcases hk with rfl | rfl
  · simp [rawF]
  · rw [List.drop_length]
    cases 5 - l.length <;> simp [rawF]

theorem i64_or_nat (a b : Nat) (ha : a < 4611686018427387904) (hb : b < 4611686018427387904) : bits .or .i64 (a : Int) (b : Int) = ((a ||| b : Nat) : Int) := by
  have hx : a ||| b < 2 ^ 62 := Nat.or_lt_two_pow (by omega) (by omega)
  show IntKind.i64.wrap ((BitVec.ofInt 64 (a : Int) ||| BitVec.ofInt 64 (b : Int)).toNat : Int) = _
  rw [BitVec.toNat_or, ofInt_u64 a (by omega), ofInt_u64 b (by omega)]
  simp only [IntKind.wrap, IntKind.bits, IntKind.signed]
  simp
  omega
theorem u8_low7 (c : Int) (h : 0 ≤ c ∧ c ≤ 255) : bits .andNot .u8 c 128 = c % 128 := by
  rw [u8_andNot c 128 (by omega) (by omega) (by omega) (by omega)]
  have : c.toNat &&& (255 - (128 : Int).toNat) = c.toNat % 128 := nat_mask7 c.toNat
  rw [this]
  omega
theorem or_step (k : Nat) (hk : k ≤ 4) (acc c : Int) (h0 : 0 ≤ acc) (h1 : acc < 128 ^ k) (hc : 0 ≤ c ∧ c ≤ 255) :
    bits .or .i64 acc (wrap64 (wrap64 (bits .andNot .u8 c 128) * 128 ^ k)) = acc + 128 ^ k * (c % 128) := by
  rw [u8_low7 c hc, w64 (c % 128) (by omega)]
  have hp : (128 : Int) ^ k ≤ 268435456 := by
    rcases (show k = 0 ∨ k = 1 ∨ k = 2 ∨ k = 3 ∨ k = 4 from by omega) with rfl | rfl | rfl | rfl | rfl <;> simp
  have hp0 : (0 : Int) < 128 ^ k := Int.pow_pos (by omega)
  have e1 : (0 : Int) ≤ c % 128 * 128 ^ k := Int.mul_nonneg (by omega) (by omega)
  have e2 : c % 128 * (128 : Int) ^ k ≤ 127 * 128 ^ k := Int.mul_le_mul_of_nonneg_right (by omega) (by omega)
  rw [w64 _ (by omega)]
  have e3 := i64_or_nat acc.toNat (c % 128 * 128 ^ k).toNat (by omega) (by omega)
  rw [show ((acc.toNat : Nat) : Int) = acc by omega, show (((c % 128 * 128 ^ k).toNat : Nat) : Int) = c % 128 * 128 ^ k by omega] at e3
  rw [e3, Nat.or_comm]
  have e4 : (c % 128 * 128 ^ k).toNat = (c % 128).toNat * 2 ^ (7 * k) := by
    rw [Nat.pow_mul]
    rw [Int.toNat_mul (by omega) (by omega)]
    congr 1
  have e5 : acc.toNat < 2 ^ (7 * k) := by
    have h7 : (2 : Nat) ^ (7 * k) = 128 ^ k := by simp [Nat.pow_mul]
    have : ((128 ^ k : Nat) : Int) = (128 : Int) ^ k := by simp
    rw [h7]
    omega
  rw [nat_join (7 * k) _ _ (by rw [e4]; exact Nat.mul_mod_left _ _) e5, Int.mul_comm (128 ^ k) (c % 128)]
  omega

theorem numW_some {l : List Int} {n : Int} {r : List Int} (h : rawF 5 l = some (n, r)) : numW l = (n, l.length - r.length) := by simp [numW, h]
theorem numW_none {l : List Int} (h : rawF 5 l = none) : numW l = (0, 0) := by simp [numW, h]

theorem num_ret {a b : Int} {m n : Int} (h : a = b) (h2 : m = n) : Ending.returned (.tuple #[.int .i64 a, .int .i64 m]) = .returned (.tuple #[.int .i64 b, .int .i64 n]) := by rw [h, h2]
theorem num_next {l : List Int} {k : Nat} {acc c : Int} (H : NumSt l k acc) (hk : k < 5) (hl : k < l.length) (hb : Bytes l) (hc : l.getD k 0 = c) (h : ¬ c < 128) : Hid (NumSt l (k + 1) (acc + 128 ^ k * (c % 128))) := by
  have hx := bytes_getD hb k
  have e : c % 128 = l.getD k 0 - 128 := by omega
  rw [e]
  exact numSt_next l k acc H hk hl hb (by omega)

set_option maxRecDepth 100000 in
set_option maxHeartbeats 2000000 in
theorem decodeNumber_some (l : List Int) (b off cap : Nat) (w : World) (h0 : 0 < l.length) (hcap : l.length ≤ cap) (hm : cap ≤ maxLen) (hb : Bytes l) (hc : ∀ i, i < l.length → w.cell? ⟨b, off + i, none⟩ = some (.int .u8 (l.getD i 0))) :
    Calls Try.prog 72 #[.slice (some ⟨b, off, none⟩) l.length cap] w fun e w' => e = .returned (.tuple #[.int .i64 (numW l).1, .int .i64 (numW l).2]) ∧ w' = w := by
  unfold maxLen at hm
  by_cases h5 : l.length < 5
  · go_enter Try.func72, Try.ntmps72
    go_wp2
    go_loop [4, 13] (fun n i => ∃ (k : Nat) (acc : Int), k ≤ l.length ∧ i = .int .i64 k ∧ n = .int .i64 acc ∧ Hid (NumSt l k acc)) (fun _ i => 5 - (intOf i).toNat)
    case atStart => exact ⟨0, 0, Nat.zero_le _, rfl, rfl, numSt_0 l⟩
    case round =>
      obtain ⟨k, acc, hk, rfl, rfl, H⟩ := hrel
      have ha := H.out.2.2.1
      have ha2 : Hid (acc < 128 ^ k) := H.out.2.2.2.1
      by_cases hlt : k < l.length
      · skip
        rcases (show k = 0 ∨ k = 1 ∨ k = 2 ∨ k = 3 from by omega) with rfl | rfl | rfl | rfl
        · have hcx := hc 0 hlt
          have hx := bytes_getD hb 0
          generalize hcd : l.getD 0 0 = c at hcx hx
          have HC : Hid (l.getD 0 0 = c) := hcd
          clear hc hcd
          simp only [Nat.add_zero] at hcx
          have E : Hid (bits .or .i64 acc (wrap64 (wrap64 (bits .andNot .u8 c 128))) = acc + 128 ^ 0 * (c % 128)) := show bits .or .i64 acc (wrap64 (wrap64 (bits .andNot .u8 c 128))) = acc + 128 ^ 0 * (c % 128) by (have := or_step 0 (by omega) acc c ha ha2.out hx; simpa using this)
          by_cases h128 : c < 128
          · go_wp2
            go_ret2
            have e := numW_some (numSt_end l 0 acc H.out (by omega) hlt (by rw [HC.out]; exact h128))
            rw [e, E.out, HC.out]
            exact ⟨num_ret (by omega) (by simp; omega), rfl⟩
          · go_wp2
            go_round
            case rel => exact ⟨1, acc + 128 ^ 0 * (c % 128), by omega, rfl, by rw [E.out], num_next H.out (by omega) hlt hb HC.out (by omega)⟩
            case measure => simp [intOf]
        · have hcx := hc 1 hlt
          have hx := bytes_getD hb 1
          generalize hcd : l.getD 1 0 = c at hcx hx
          have HC : Hid (l.getD 1 0 = c) := hcd
          clear hc hcd
          skip
          have E : Hid (bits .or .i64 acc (wrap64 (wrap64 (bits .andNot .u8 c 128) * 128)) = acc + 128 ^ 1 * (c % 128)) := show bits .or .i64 acc (wrap64 (wrap64 (bits .andNot .u8 c 128) * 128)) = acc + 128 ^ 1 * (c % 128) by (have := or_step 1 (by omega) acc c ha ha2.out hx; simpa using this)
          by_cases h128 : c < 128
          · go_wp2
            go_ret2
            have e := numW_some (numSt_end l 1 acc H.out (by omega) hlt (by rw [HC.out]; exact h128))
            rw [e, E.out, HC.out]
            exact ⟨num_ret (by omega) (by simp; omega), rfl⟩
          · go_wp2
            go_round
            case rel => exact ⟨2, acc + 128 ^ 1 * (c % 128), by omega, rfl, by rw [E.out], num_next H.out (by omega) hlt hb HC.out (by omega)⟩
            case measure => simp [intOf]
        · have hcx := hc 2 hlt
          have hx := bytes_getD hb 2
          generalize hcd : l.getD 2 0 = c at hcx hx
          have HC : Hid (l.getD 2 0 = c) := hcd
          clear hc hcd
          skip
          have E : Hid (bits .or .i64 acc (wrap64 (wrap64 (bits .andNot .u8 c 128) * 16384)) = acc + 128 ^ 2 * (c % 128)) := show bits .or .i64 acc (wrap64 (wrap64 (bits .andNot .u8 c 128) * 16384)) = acc + 128 ^ 2 * (c % 128) by (have := or_step 2 (by omega) acc c ha ha2.out hx; simpa using this)
          by_cases h128 : c < 128
          · go_wp2
            go_ret2
            have e := numW_some (numSt_end l 2 acc H.out (by omega) hlt (by rw [HC.out]; exact h128))
            rw [e, E.out, HC.out]
            exact ⟨num_ret (by omega) (by simp; omega), rfl⟩
          · go_wp2
            go_round
            case rel => exact ⟨3, acc + 128 ^ 2 * (c % 128), by omega, rfl, by rw [E.out], num_next H.out (by omega) hlt hb HC.out (by omega)⟩
            case measure => simp [intOf]
        · have hcx := hc 3 hlt
          have hx := bytes_getD hb 3
          generalize hcd : l.getD 3 0 = c at hcx hx
          have HC : Hid (l.getD 3 0 = c) := hcd
          clear hc hcd
          skip
          have E : Hid (bits .or .i64 acc (wrap64 (wrap64 (bits .andNot .u8 c 128) * 2097152)) = acc + 128 ^ 3 * (c % 128)) := show bits .or .i64 acc (wrap64 (wrap64 (bits .andNot .u8 c 128) * 2097152)) = acc + 128 ^ 3 * (c % 128) by (have := or_step 3 (by omega) acc c ha ha2.out hx; simpa using this)
          by_cases h128 : c < 128
          · go_wp2
            go_ret2
            have e := numW_some (numSt_end l 3 acc H.out (by omega) hlt (by rw [HC.out]; exact h128))
            rw [e, E.out, HC.out]
            exact ⟨num_ret (by omega) (by simp; omega), rfl⟩
          · go_wp2
            go_round
            case rel => exact ⟨4, acc + 128 ^ 3 * (c % 128), by omega, rfl, by rw [E.out], num_next H.out (by omega) hlt hb HC.out (by omega)⟩
            case measure => simp [intOf]
      · have hkk : k = l.length := by omega
        have e : Hid (numW l = (0, 0)) := numW_none (numSt_none l k acc H.out (.inr hkk))
        clear hc
        clear hkk
        go_wp2
        go_ret2
        rw [e.out]
        exact ⟨rfl, rfl⟩
  · go_enter Try.func72, Try.ntmps72
    go_wp2
    all_goals
      go_loop [4, 13] (fun n i => ∃ (k : Nat) (acc : Int), k ≤ 5 ∧ i = .int .i64 k ∧ n = .int .i64 acc ∧ Hid (NumSt l k acc)) (fun _ i => 5 - (intOf i).toNat)
      case atStart => exact ⟨0, 0, Nat.zero_le _, rfl, rfl, numSt_0 l⟩
      case round =>
        obtain ⟨k, acc, hk, rfl, rfl, H⟩ := hrel
        have ha := H.out.2.2.1
        have ha2 : Hid (acc < 128 ^ k) := H.out.2.2.2.1
        by_cases hlt : k < 5
        · have hlt : k < l.length := by omega
          rcases (show k = 0 ∨ k = 1 ∨ k = 2 ∨ k = 3 ∨ k = 4 from by omega) with rfl | rfl | rfl | rfl | rfl
          · have hcx := hc 0 hlt
            have hx := bytes_getD hb 0
            generalize hcd : l.getD 0 0 = c at hcx hx
            have HC : Hid (l.getD 0 0 = c) := hcd
            clear hc hcd
            simp only [Nat.add_zero] at hcx
            have E : Hid (bits .or .i64 acc (wrap64 (wrap64 (bits .andNot .u8 c 128))) = acc + 128 ^ 0 * (c % 128)) := show bits .or .i64 acc (wrap64 (wrap64 (bits .andNot .u8 c 128))) = acc + 128 ^ 0 * (c % 128) by (have := or_step 0 (by omega) acc c ha ha2.out hx; simpa using this)
            by_cases h128 : c < 128
            · go_wp2
              go_ret2
              have e := numW_some (numSt_end l 0 acc H.out (by omega) hlt (by rw [HC.out]; exact h128))
              rw [e, E.out, HC.out]
              exact ⟨num_ret (by omega) (by simp; omega), rfl⟩
            · go_wp2
              go_round
              case rel => exact ⟨1, acc + 128 ^ 0 * (c % 128), by omega, rfl, by rw [E.out], num_next H.out (by omega) hlt hb HC.out (by omega)⟩
              case measure => simp [intOf]
          · have hcx := hc 1 hlt
            have hx := bytes_getD hb 1
            generalize hcd : l.getD 1 0 = c at hcx hx
            have HC : Hid (l.getD 1 0 = c) := hcd
            clear hc hcd
            skip
            have E : Hid (bits .or .i64 acc (wrap64 (wrap64 (bits .andNot .u8 c 128) * 128)) = acc + 128 ^ 1 * (c % 128)) := show bits .or .i64 acc (wrap64 (wrap64 (bits .andNot .u8 c 128) * 128)) = acc + 128 ^ 1 * (c % 128) by (have := or_step 1 (by omega) acc c ha ha2.out hx; simpa using this)
            by_cases h128 : c < 128
            · go_wp2
              go_ret2
              have e := numW_some (numSt_end l 1 acc H.out (by omega) hlt (by rw [HC.out]; exact h128))
              rw [e, E.out, HC.out]
              exact ⟨num_ret (by omega) (by simp; omega), rfl⟩
            · go_wp2
              go_round
              case rel => exact ⟨2, acc + 128 ^ 1 * (c % 128), by omega, rfl, by rw [E.out], num_next H.out (by omega) hlt hb HC.out (by omega)⟩
              case measure => simp [intOf]
          · have hcx := hc 2 hlt
            have hx := bytes_getD hb 2
            generalize hcd : l.getD 2 0 = c at hcx hx
            have HC : Hid (l.getD 2 0 = c) := hcd
            clear hc hcd
            skip
            have E : Hid (bits .or .i64 acc (wrap64 (wrap64 (bits .andNot .u8 c 128) * 16384)) = acc + 128 ^ 2 * (c % 128)) := show bits .or .i64 acc (wrap64 (wrap64 (bits .andNot .u8 c 128) * 16384)) = acc + 128 ^ 2 * (c % 128) by (have := or_step 2 (by omega) acc c ha ha2.out hx; simpa using this)
            by_cases h128 : c < 128
            · go_wp2
              go_ret2
              have e := numW_some (numSt_end l 2 acc H.out (by omega) hlt (by rw [HC.out]; exact h128))
              rw [e, E.out, HC.out]
              exact ⟨num_ret (by omega) (by simp; omega), rfl⟩
            · go_wp2
              go_round
              case rel => exact ⟨3, acc + 128 ^ 2 * (c % 128), by omega, rfl, by rw [E.out], num_next H.out (by omega) hlt hb HC.out (by omega)⟩
              case measure => simp [intOf]
          · have hcx := hc 3 hlt
            have hx := bytes_getD hb 3
            generalize hcd : l.getD 3 0 = c at hcx hx
            have HC : Hid (l.getD 3 0 = c) := hcd
            clear hc hcd
            skip
            have E : Hid (bits .or .i64 acc (wrap64 (wrap64 (bits .andNot .u8 c 128) * 2097152)) = acc + 128 ^ 3 * (c % 128)) := show bits .or .i64 acc (wrap64 (wrap64 (bits .andNot .u8 c 128) * 2097152)) = acc + 128 ^ 3 * (c % 128) by (have := or_step 3 (by omega) acc c ha ha2.out hx; simpa using this)
            by_cases h128 : c < 128
            · go_wp2
              go_ret2
              have e := numW_some (numSt_end l 3 acc H.out (by omega) hlt (by rw [HC.out]; exact h128))
              rw [e, E.out, HC.out]
              exact ⟨num_ret (by omega) (by simp; omega), rfl⟩
            · go_wp2
              go_round
              case rel => exact ⟨4, acc + 128 ^ 3 * (c % 128), by omega, rfl, by rw [E.out], num_next H.out (by omega) hlt hb HC.out (by omega)⟩
              case measure => simp [intOf]
          · have hcx := hc 4 hlt
            have hx := bytes_getD hb 4
            generalize hcd : l.getD 4 0 = c at hcx hx
            have HC : Hid (l.getD 4 0 = c) := hcd
            clear hc hcd
            skip
            have E : Hid (bits .or .i64 acc (wrap64 (wrap64 (bits .andNot .u8 c 128) * 268435456)) = acc + 128 ^ 4 * (c % 128)) := show bits .or .i64 acc (wrap64 (wrap64 (bits .andNot .u8 c 128) * 268435456)) = acc + 128 ^ 4 * (c % 128) by (have := or_step 4 (by omega) acc c ha ha2.out hx; simpa using this)
            by_cases h128 : c < 128
            · go_wp2
              go_ret2
              have e := numW_some (numSt_end l 4 acc H.out (by omega) hlt (by rw [HC.out]; exact h128))
              rw [e, E.out, HC.out]
              exact ⟨num_ret (by omega) (by simp; omega), rfl⟩
            · go_wp2
              go_round
              case rel => exact ⟨5, acc + 128 ^ 4 * (c % 128), by omega, rfl, by rw [E.out], num_next H.out (by omega) hlt hb HC.out (by omega)⟩
              case measure => simp [intOf]
        · have hkk : k = 5 := by omega
          have e : Hid (numW l = (0, 0)) := numW_none (numSt_none l k acc H.out (.inl hkk))
          clear hc
          subst hkk
          go_wp2
          go_ret2
          rw [e.out]
          exact ⟨rfl, rfl⟩

set_option maxRecDepth 100000 in
set_option maxHeartbeats 400000 in
theorem decodeNumber_none (ao : Option Addr) (cap : Nat) (w : World) (hm : cap ≤ maxLen) (hz : ao = none → cap = 0) :
    Calls Try.prog 72 #[.slice ao 0 cap] w fun e w' => e = .returned (.tuple #[.int .i64 0, .int .i64 0]) ∧ w' = w := by
  unfold maxLen at hm
  cases ao with
  | none =>
    obtain rfl := hz rfl
    go_enter Try.func72, Try.ntmps72
    go_wp2
    refine wp_loop_rounds 1 ?_
    rw [rounds_succ]
    go_wp2
    go_ret2
    exact ⟨rfl, rfl⟩
  | some ad =>
    clear hz
    go_enter Try.func72, Try.ntmps72
    go_wp2
    all_goals
      refine wp_loop_rounds 1 ?_
      rw [rounds_succ]
      go_wp2
      go_ret2
      exact ⟨rfl, rfl⟩

theorem decodeNumber_any (l : List Int) (v : Value) (w : World) (h : Rd w v l) :
    Calls Try.prog 72 #[v] w fun e w' => e = .returned (.tuple #[.int .i64 (numW l).1, .int .i64 (numW l).2]) ∧ w' = w := by
  obtain ⟨hb, ao, cap, rfl, h1, h2, h3, hc⟩ := h
  by_cases h0 : 0 < l.length
  · obtain ⟨b, off, rfl, hc'⟩ := hc h0
    exact decodeNumber_some l b off cap w h0 h1 h2 hb hc'
  · have hl : l = [] := List.eq_nil_of_length_eq_zero (by omega)
    subst hl
    exact decodeNumber_none ao cap w h2 h3
end

section
open Go.RowKit
set_option linter.unusedVariables false

theorem rd_drop {w : World} {l : List Int} {b off cap : Nat} (hb : Bytes l) (hcap : l.length ≤ cap) (hm : cap ≤ maxLen) (hc : ∀ i, i < l.length → w.cell? ⟨b, off + i, none⟩ = some (.int .u8 (l.getD i 0))) (k : Nat) (hk : k ≤ l.length) :
    Rd w (.slice (if cap = k then some ⟨b, off, none⟩ else some ⟨b, off + k, none⟩) (l.length - k) (cap - k)) (l.drop k) := by
  refine ⟨bytes_drop hb k, _, cap - k, by rw [List.length_drop], by rw [List.length_drop]; omega, by omega, ?_, fun h => ?_⟩
  · intro h
    split at h <;> simp at h
  · rw [List.length_drop] at h
    refine ⟨b, off + k, by rw [if_neg (by omega)], fun i hi => ?_⟩
    rw [List.length_drop] at hi
    have := hc (k + i) (by omega)
    rw [← Nat.add_assoc] at this
    rw [this]
    simp [List.getD]

theorem rawF_rest (f : Nat) (l : List Int) (n : Int) (r : List Int) (h : rawF f l = some (n, r)) : ∃ z, 1 ≤ z ∧ z ≤ l.length ∧ r = l.drop z ∧ l.length - r.length = z := by
  induction f generalizing l n with
  | zero => simp [rawF] at h
  | succ f ih =>
    cases l with
    | nil => simp [rawF] at h
    | cons c l =>
      simp only [rawF] at h
      split at h
      · simp only [Option.some.injEq, Prod.mk.injEq] at h
        obtain ⟨_, rfl⟩ := h
        exact ⟨1, by omega, by simp, by simp, by simp⟩
      · split at h
        · simp at h
        · rename_i n' r' hr
          simp only [Option.some.injEq, Prod.mk.injEq] at h
          obtain ⟨_, rfl⟩ := h
          obtain ⟨z, h1, h2, h3, h4⟩ := ih l n' hr
          refine ⟨z + 1, by omega, by simp; omega, by simpa using h3, ?_⟩
          have : r'.length = l.length - z := by rw [h3]; simp
          simp only [List.length_cons]
          omega


theorem u8_clr (c : Int) (h : 0 ≤ c ∧ c ≤ 255) : bits .andNot .u8 c 16 = kAnd c := by
  rw [u8_andNot c 16 (by omega) (by omega) (by omega) (by omega)]
  have key : ∀ n : Fin 256, n.val &&& 239 = n.val - 16 * (n.val / 16 % 2) := by decide +kernel
  have := key ⟨c.toNat, by omega⟩
  have e : c.toNat &&& (255 - (16 : Int).toNat) = c.toNat &&& 239 := rfl
  simp only at this
  rw [e, this]
  unfold kAnd
  omega
theorem u8_bit (c : Int) (h : 0 ≤ c ∧ c ≤ 255) : (bits .and .u8 c 16 != 0) = tAnd c := by
  rw [u8_and c 16 (by omega) (by omega) (by omega) (by omega)]
  have key : ∀ n : Fin 256, n.val &&& 16 = 16 * (n.val / 16 % 2) := by decide +kernel
  have := key ⟨c.toNat, by omega⟩
  have e : c.toNat &&& (16 : Int).toNat = c.toNat &&& 16 := rfl
  simp only at this
  rw [e, this]
  unfold tAnd
  rw [Bool.eq_iff_iff, bne_iff_ne, decide_eq_true_iff]
  omega

def Ent.val (e : Ent) : Value := .agg #[.int .i64 e.a, .int .i64 e.b, .int .i64 e.c, .int .i64 e.d, .int .i64 e.k, .bool e.t, .string e.s]
def zeroE : Ent := ⟨0, 0, 0, 0, 0, false, ⟨#[]⟩⟩
def rawV (l : List Int) : Ent × Bool := match rawB l with
  | none => (zeroE, false)
  | some e => (e, true)
theorem rawV_none {l : List Int} (h : rawB l = none) : rawV l = (zeroE, false) := by simp [rawV, h]
theorem rawV_some {l : List Int} {e : Ent} (h : rawB l = some e) : rawV l = (e, true) := by simp [rawV, h]

set_option maxRecDepth 100000 in
set_option maxHeartbeats 2000000 in
theorem decodeBody_some (l : List Int) (b off cap : Nat) (w : World) (h0 : 0 < l.length) (hcap : l.length ≤ cap) (hm : cap ≤ maxLen) (hb : Bytes l) (hc : ∀ i, i < l.length → w.cell? ⟨b, off + i, none⟩ = some (.int .u8 (l.getD i 0))) :
    Calls Try.prog 68 #[.slice (some ⟨b, off, none⟩) l.length cap] w fun e w' => e = .returned (.tuple #[(rawV l).1.val, .bool (rawV l).2]) ∧ Below w.heap.size w w' := by
  have hr1 := rd_drop hb hcap hm hc 1 (by omega)
  unfold maxLen at hm
  have hcx := hc 0 h0
  have hx := bytes_getD hb 0
  generalize hcd : l.getD 0 0 = c at hcx hx
  have HL : Hid (l = c :: l.drop 1) := show l = c :: l.drop 1 by (have := drop_cons_getD l 0 h0; rw [hcd] at this; simpa using this)
  simp only [Nat.add_zero] at hcx
  have hz : ((l.length : Int) == 0) = false := by rw [beq_eq_false_iff_ne]; omega
  have hz' : (1 : Int) ≤ l.length := by omega
  have hblt := cell_lt hcx
  go_enter Try.func68, Try.ntmps68
  go_wp2
  go_region
  generalize (Value.slice (if cap = 1 then some { block := b, off := off } else some { block := b, off := off + 1 }) (l.length - 1) (cap - 1)) = v1 at hr1 ⊢
  generalize l.drop 1 = r1 at *
  clear hc hcd hz hz' hcap hm hb h0 hcx hblt
  go_wp2
  refine wp_loop_rounds 5 ?_
  rw [rounds_succ]
  go_wp2_with fail
  refine (decodeNumber_any r1 v1 _ ?_).mono ?_
  · exact hr1.below (Nat.le_refl _) (by repeat (first | exact Below.refl _ _ | refine Below.drew ?_ | refine Below.setCell ?_ (by simp) _ | refine Below.alloc ?_ (by simp) _))
  rintro e w' ⟨rfl, rfl⟩
  rcases hn1 : rawF 5 r1 with _ | ⟨n1, r2⟩
  · rw [numW_none hn1]
    go_wp2
    refine bodyPost_ret (v := .tuple #[zeroE.val, .bool false]) (by simp [results, Try.results68, go_sem, zeroE, Ent.val]) rfl ⟨?_, ?_⟩
    · rw [rawV_none (by rw [HL.out]; simp only [rawB, hn1])]
    · repeat (first | exact Below.refl _ _ | refine Below.drew ?_ | refine Below.setCell ?_ (by simp) _ | refine Below.alloc ?_ (by simp) _)
  obtain ⟨z1, hz1, hz2, hz3, hz4⟩ := rawF_rest 5 r1 n1 r2 hn1
  rw [numW_some hn1, hz4]
  obtain ⟨hb1, ao1, cap1, rfl, hq1, hq2, hq3, hq4⟩ := hr1
  obtain ⟨b1, off1, rfl, hq5⟩ := hq4 (by omega)
  have hr2 := rd_drop hb1 hq1 hq2 hq5 z1 hz2
  rw [← hz3] at hr2
  have hz5 : (((z1 : Nat) : Int) == 0) = false := by rw [beq_eq_false_iff_ne]; omega
  unfold maxLen at hq2
  clear hz3 hz4 hq3 hq4 hq5
  go_wp2
  go_region
  generalize (Value.slice (if cap1 = z1 then some { block := b1, off := off1 } else some { block := b1, off := off1 + z1 }) (r1.length - z1) (cap1 - z1)) = v2 at hr2 ⊢
  clear hz1 hz2 hq1 hq2 hz5 hb1
  go_wp2
  rw [rounds_succ]
  go_wp2_with fail
  refine (decodeNumber_any r2 v2 _ ?_).mono ?_
  · exact hr2.below (Nat.le_refl _) (by repeat (first | exact Below.refl _ _ | refine Below.drew ?_ | refine Below.setCell ?_ (by simp) _ | refine Below.alloc ?_ (by simp) _))
  rintro e w' ⟨rfl, rfl⟩
  rcases hn2 : rawF 5 r2 with _ | ⟨n2, r3⟩
  · rw [numW_none hn2]
    go_wp2
    refine bodyPost_ret (v := .tuple #[zeroE.val, .bool false]) (by simp [results, Try.results68, go_sem, zeroE, Ent.val]) rfl ⟨?_, ?_⟩
    · rw [rawV_none (by rw [HL.out]; simp only [rawB, hn1, hn2])]
    · repeat (first | exact Below.refl _ _ | refine Below.drew ?_ | refine Below.setCell ?_ (by simp) _ | refine Below.alloc ?_ (by simp) _)
  obtain ⟨z2, hz1, hz2, hz3, hz4⟩ := rawF_rest 5 r2 n2 r3 hn2
  rw [numW_some hn2, hz4]
  obtain ⟨hb2, ao2, cap2, rfl, hq1, hq2, hq3, hq4⟩ := hr2
  obtain ⟨b2, off2, rfl, hq5⟩ := hq4 (by omega)
  have hr3 := rd_drop hb2 hq1 hq2 hq5 z2 hz2
  rw [← hz3] at hr3
  have hz5 : (((z2 : Nat) : Int) == 0) = false := by rw [beq_eq_false_iff_ne]; omega
  unfold maxLen at hq2
  clear hz3 hz4 hq3 hq4 hq5
  go_wp2
  go_region
  generalize (Value.slice (if cap2 = z2 then some { block := b2, off := off2 } else some { block := b2, off := off2 + z2 }) (r2.length - z2) (cap2 - z2)) = v3 at hr3 ⊢
  clear hz1 hz2 hq1 hq2 hz5 hb2
  go_wp2
  rw [rounds_succ]
  go_wp2_with fail
  refine (decodeNumber_any r3 v3 _ ?_).mono ?_
  · exact hr3.below (Nat.le_refl _) (by repeat (first | exact Below.refl _ _ | refine Below.drew ?_ | refine Below.setCell ?_ (by simp) _ | refine Below.alloc ?_ (by simp) _))
  rintro e w' ⟨rfl, rfl⟩
  rcases hn3 : rawF 5 r3 with _ | ⟨n3, r4⟩
  · rw [numW_none hn3]
    go_wp2
    refine bodyPost_ret (v := .tuple #[zeroE.val, .bool false]) (by simp [results, Try.results68, go_sem, zeroE, Ent.val]) rfl ⟨?_, ?_⟩
    · rw [rawV_none (by rw [HL.out]; simp only [rawB, hn1, hn2, hn3])]
    · repeat (first | exact Below.refl _ _ | refine Below.drew ?_ | refine Below.setCell ?_ (by simp) _ | refine Below.alloc ?_ (by simp) _)
  obtain ⟨z3, hz1, hz2, hz3, hz4⟩ := rawF_rest 5 r3 n3 r4 hn3
  rw [numW_some hn3, hz4]
  obtain ⟨hb3, ao3, cap3, rfl, hq1, hq2, hq3, hq4⟩ := hr3
  obtain ⟨b3, off3, rfl, hq5⟩ := hq4 (by omega)
  have hr4 := rd_drop hb3 hq1 hq2 hq5 z3 hz2
  rw [← hz3] at hr4
  have hz5 : (((z3 : Nat) : Int) == 0) = false := by rw [beq_eq_false_iff_ne]; omega
  unfold maxLen at hq2
  clear hz3 hz4 hq3 hq4 hq5
  go_wp2
  go_region
  generalize (Value.slice (if cap3 = z3 then some { block := b3, off := off3 } else some { block := b3, off := off3 + z3 }) (r3.length - z3) (cap3 - z3)) = v4 at hr4 ⊢
  clear hz1 hz2 hq1 hq2 hz5 hb3
  go_wp2
  rw [rounds_succ]
  go_wp2_with fail
  refine (decodeNumber_any r4 v4 _ ?_).mono ?_
  · exact hr4.below (Nat.le_refl _) (by repeat (first | exact Below.refl _ _ | refine Below.drew ?_ | refine Below.setCell ?_ (by simp) _ | refine Below.alloc ?_ (by simp) _))
  rintro e w' ⟨rfl, rfl⟩
  rcases hn4 : rawF 5 r4 with _ | ⟨n4, r5⟩
  · rw [numW_none hn4]
    go_wp2
    refine bodyPost_ret (v := .tuple #[zeroE.val, .bool false]) (by simp [results, Try.results68, go_sem, zeroE, Ent.val]) rfl ⟨?_, ?_⟩
    · rw [rawV_none (by rw [HL.out]; simp only [rawB, hn1, hn2, hn3, hn4])]
    · repeat (first | exact Below.refl _ _ | refine Below.drew ?_ | refine Below.setCell ?_ (by simp) _ | refine Below.alloc ?_ (by simp) _)
  obtain ⟨z4, hz1, hz2, hz3, hz4⟩ := rawF_rest 5 r4 n4 r5 hn4
  rw [numW_some hn4, hz4]
  obtain ⟨hb4, ao4, cap4, rfl, hq1, hq2, hq3, hq4⟩ := hr4
  obtain ⟨b4, off4, rfl, hq5⟩ := hq4 (by omega)
  have hr5 := rd_drop hb4 hq1 hq2 hq5 z4 hz2
  rw [← hz3] at hr5
  have hz5 : (((z4 : Nat) : Int) == 0) = false := by rw [beq_eq_false_iff_ne]; omega
  unfold maxLen at hq2
  clear hz3 hz4 hq3 hq4 hq5
  go_wp2
  go_region
  generalize (Value.slice (if cap4 = z4 then some { block := b4, off := off4 } else some { block := b4, off := off4 + z4 }) (r4.length - z4) (cap4 - z4)) = v5 at hr5 ⊢
  clear hz1 hz2 hq1 hq2 hz5 hb4
  go_wp2
  rw [rounds_succ]
  go_wp2_with fail
  rw [conv_str (hr5.below (Nat.le_refl _) (by repeat (first | exact Below.refl _ _ | refine Below.drew ?_ | refine Below.setCell ?_ (by simp) _ | refine Below.alloc ?_ (by simp) _)))]
  have E1 := u8_clr c hx
  have E2 := u8_bit c hx
  rw [E1, E2, w64 (kAnd c) (by unfold kAnd; omega)]
  clear E1 E2
  go_wp2
  refine bodyPost_ret (v := .tuple #[(Ent.mk n1 n2 n3 n4 (kAnd c) (tAnd c) (strOfNums r5)).val, .bool true]) (by simp [results, Try.results68, go_sem, Ent.val]) rfl ⟨?_, ?_⟩
  · have hR : rawB l = some (Ent.mk n1 n2 n3 n4 (kAnd c) (tAnd c) (strOfNums r5)) := by (rw [HL.out]; simp only [rawB, hn1, hn2, hn3, hn4])
    rw [rawV_some hR]
  · repeat (first | exact Below.refl _ _ | refine Below.drew ?_ | refine Below.setCell ?_ (by simp) _ | refine Below.alloc ?_ (by simp) _)

set_option maxRecDepth 100000 in
set_option maxHeartbeats 400000 in
theorem decodeBody_none (ao : Option Addr) (cap : Nat) (w : World) :
    Calls Try.prog 68 #[.slice ao 0 cap] w fun e w' => e = .returned (.tuple #[zeroE.val, .bool false]) ∧ Below w.heap.size w w' := by
  go_enter Try.func68, Try.ntmps68
  go_wp2
  refine bodyPost_ret (v := .tuple #[zeroE.val, .bool false]) (by simp [results, Try.results68, go_sem, zeroE, Ent.val]) rfl ⟨rfl, ?_⟩
  repeat (first | exact Below.refl _ _ | refine Below.drew ?_ | refine Below.setCell ?_ (by simp) _ | refine Below.alloc ?_ (by simp) _)

theorem decodeBody_any (l : List Int) (v : Value) (w : World) (h : Rd w v l) :
    Calls Try.prog 68 #[v] w fun e w' => e = .returned (.tuple #[(rawV l).1.val, .bool (rawV l).2]) ∧ Below w.heap.size w w' := by
  obtain ⟨hb, ao, cap, rfl, h1, h2, h3, hc⟩ := h
  by_cases h0 : 0 < l.length
  · obtain ⟨b, off, rfl, hc'⟩ := hc h0
    exact decodeBody_some l b off cap w h0 h1 h2 hb hc'
  · have hl : l = [] := List.eq_nil_of_length_eq_zero (by omega)
    subst hl
    exact decodeBody_none ao cap w
end

section
open Go.RowKit
set_option linter.unusedVariables false
set_option linter.unusedSimpArgs false

theorem bytes_eq (l r : List Int) (hl : Bytes l) (hr : Bytes r) : ((strOfNums l).toList == (strOfNums r).toList) = decide (l = r) := by
  rw [Lib.toList_data, Lib.toList_data, strOfNums_data, strOfNums_data, Bool.eq_iff_iff, beq_iff_eq, decide_eq_true_iff]
  constructor
  · intro h
    have h1 := strL_strOfNums l hl
    have h2 := strL_strOfNums r hr
    unfold strL at h1 h2
    rw [strOfNums_data] at h1 h2
    rw [h] at h1
    exact h1.symm.trans h2
  · intro h
    rw [h]

set_option maxRecDepth 100000 in
set_option maxHeartbeats 400000 in
theorem equal_any (l r : List Int) (v u : Value) (w : World) (h1 : Rd w v l) (h2 : Rd w u r) :
    Calls Try.prog 69 #[v, u] w fun e w' => e = .returned (.bool (decide (l = r))) ∧ w' = w := by
  have c1 := conv_str h1
  have c2 := conv_str h2
  have E : Hid (((strOfNums l).toList == (strOfNums r).toList) = decide (l = r)) := bytes_eq l r h1.1 h2.1
  clear h1 h2
  go_enter Try.func69, Try.ntmps69
  go_wp2
  go_ret
  rw [← E.out]
  exact ⟨rfl, rfl⟩

theorem rd_cut {w : World} {l : List Int} {b off cap : Nat} (hb : Bytes l) (hcap : l.length ≤ cap) (hm : cap ≤ maxLen) (hc : ∀ i, i < l.length → w.cell? ⟨b, off + i, none⟩ = some (.int .u8 (l.getD i 0))) (k n : Nat) (hk : k + n ≤ l.length) :
    Rd w (.slice (if cap = k then some ⟨b, off, none⟩ else some ⟨b, off + k, none⟩) n (cap - k)) ((l.drop k).take n) := by
  have hl : ((l.drop k).take n).length = n := by simp; omega
  refine ⟨bytes_take (bytes_drop hb k) n, _, cap - k, by rw [hl], by omega, by omega, ?_, fun h => ?_⟩
  · intro h
    split at h <;> simp at h
  · rw [hl] at h
    refine ⟨b, off + k, by rw [if_neg (by omega)], fun i hi => ?_⟩
    rw [hl] at hi
    have := hc (k + i) (by omega)
    rw [← Nat.add_assoc] at this
    rw [this]
    simp [List.getD, hi]

theorem box_free {w wi : World} {cs : Array Value} {T : TypeId} (hb : Below (w.heap.size + 1) (w.alloc (.cells cs T)) wi) (o : Nat) : wi.frozen? ⟨w.heap.size, o, none⟩ = false := by
  rw [hb.frozen (p := ⟨w.heap.size, o, none⟩) (by show w.heap.size < _; omega)]
  simp

theorem below_stores {w wi : World} {o : Obj} {v0 v1 v2 v3 v4 v5 v6 : Value} (hb : Below w.heap.size w wi) : Below w.heap.size w ((((((((wi.setCell ⟨w.heap.size, 0, none⟩ v0).setCell ⟨w.heap.size, 1, none⟩ v1).setCell ⟨w.heap.size, 2, none⟩ v2).setCell ⟨w.heap.size, 3, none⟩ v3).setCell ⟨w.heap.size, 4, none⟩ v4).setCell ⟨w.heap.size, 5, none⟩ v5).setCell ⟨w.heap.size, 6, none⟩ v6).alloc o) := by
  have h := (((((((hb.setCell (p := ⟨w.heap.size, 0, none⟩) (Nat.le_refl _) v0).setCell (p := ⟨w.heap.size, 1, none⟩) (Nat.le_refl _) v1).setCell (p := ⟨w.heap.size, 2, none⟩) (Nat.le_refl _) v2).setCell (p := ⟨w.heap.size, 3, none⟩) (Nat.le_refl _) v3).setCell (p := ⟨w.heap.size, 4, none⟩) (Nat.le_refl _) v4).setCell (p := ⟨w.heap.size, 5, none⟩) (Nat.le_refl _) v5).setCell (p := ⟨w.heap.size, 6, none⟩) (Nat.le_refl _) v6)
  exact h.alloc h.size o

theorem below_stores' {w wi : World} {v0 v1 v2 v3 v4 v5 v6 : Value} (hb : Below w.heap.size w wi) : Below w.heap.size w (((((((wi.setCell ⟨w.heap.size, 0, none⟩ v0).setCell ⟨w.heap.size, 1, none⟩ v1).setCell ⟨w.heap.size, 2, none⟩ v2).setCell ⟨w.heap.size, 3, none⟩ v3).setCell ⟨w.heap.size, 4, none⟩ v4).setCell ⟨w.heap.size, 5, none⟩ v5).setCell ⟨w.heap.size, 6, none⟩ v6) :=
  (((((((hb.setCell (p := ⟨w.heap.size, 0, none⟩) (Nat.le_refl _) v0).setCell (p := ⟨w.heap.size, 1, none⟩) (Nat.le_refl _) v1).setCell (p := ⟨w.heap.size, 2, none⟩) (Nat.le_refl _) v2).setCell (p := ⟨w.heap.size, 3, none⟩) (Nat.le_refl _) v3).setCell (p := ⟨w.heap.size, 4, none⟩) (Nat.le_refl _) v4).setCell (p := ⟨w.heap.size, 5, none⟩) (Nat.le_refl _) v5).setCell (p := ⟨w.heap.size, 6, none⟩) (Nat.le_refl _) v6)

def firstV (l : List Int) : Ent × Nat := match firstP l with
  | none => (zeroE, 0)
  | some p => p
theorem firstV_none {l : List Int} (h : firstP l = none) : firstV l = (zeroE, 0) := by simp [firstV, h]
theorem firstV_some {l : List Int} {e : Ent} {z : Nat} (h : firstP l = some (e, z)) : firstV l = (e, z) := by simp [firstV, h]

set_option maxRecDepth 100000 in
set_option maxHeartbeats 1000000 in
theorem decodeFirst_some (l : List Int) (b off cap : Nat) (w : World) (h0 : 0 < l.length) (hl : l.length ≤ 140737488355328) (hcap : l.length ≤ cap) (hm : cap ≤ maxLen) (hb : Bytes l) (hc : ∀ i, i < l.length → w.cell? ⟨b, off + i, none⟩ = some (.int .u8 (l.getD i 0))) :
    Calls Try.prog 59 #[.slice (some ⟨b, off, none⟩) l.length cap] w fun e w' => e = .returned (.tuple #[(firstV l).1.val, .int .i64 (firstV l).2]) ∧ Below w.heap.size w w' := by
  have hcx := hc 0 h0
  have hx := bytes_getD hb 0
  generalize hcd : l.getD 0 0 = c at hcx hx
  have HL : l = c :: l.drop 1 := by (have := drop_cons_getD l 0 h0; rw [hcd] at this; simpa using this)
  have hW := wfirst_eq l hb
  simp only [Nat.add_zero] at hcx
  have hz' : (1 : Int) ≤ l.length := by omega
  have hblt := cell_lt hcx
  obtain ⟨m, rfl⟩ := Int.eq_ofNat_of_zero_le hx.1
  have hr1 := fun h => rd_cut hb hcap hm hc 1 m h
  have hr2 := fun h => rd_cut hb hcap hm hc 0 (m + 3) h
  unfold maxLen at hm
  by_cases hs : m + 3 ≤ l.length
  · have HL' : Hid _ := HL
    have HW : Hid _ := hW
    have hR1 := hr1 (by omega)
    have hR2 := hr2 (by omega)
    clear hr1 hr2 HL hW hcd hc
    rw [if_neg (by omega)] at hR1 hR2
    simp only [Nat.add_zero, Nat.sub_zero, List.drop_zero] at hR2
    have hm3 : m + 3 = 1 + m + 2 := by omega
    rw [hm3] at hR2
    have HF : Hid (∀ x, rawB ((l.drop 1).take m) = x → firstP l = match x with
        | none => none
        | some e => if e.flt = 0 ∧ e.enc = l.take (1 + m + 2) then some (e, 1 + m + 2) else none) := by
      intro x hx
      rw [← HW.out]
      rw [HL'.out] at hx ⊢
      simp only [List.drop_succ_cons, List.drop_zero] at hx
      simp only [wfirst, List.drop_succ_cons, List.drop_zero]
      rw [if_neg (by simp; omega)]
      have e1 : ((m : Nat) : Int).toNat = m := by omega
      rw [e1, hx, hm3]
      all_goals (cases x <;> rfl)
    generalize (l.drop 1).take m = L at *
    clear HW HL' hm3 hb
    go_enter Try.func59, Try.ntmps59
    go_wp2_with fail
    refine (decodeBody_any L _ _ ?_).mono ?_
    · exact hR1.below (Nat.le_refl _) (bbox _ _)
    rintro e w1 ⟨rfl, hb1⟩
    have hB1 := (by simpa using hb1 : Below (w.heap.size + 1) _ w1)
    have hc1 := box_cells hB1
    have hbel1 := bstep (bbox _ _) hb1
    have hf1 : ∀ o, w1.frozen? ⟨w.heap.size, o, none⟩ = false := box_free (by simpa using hb1)
    have hz1 : w.heap.size < w1.heap.size := by (have := hb1.size; simp at this; omega)
    clear hb1
    rcases hraw : rawB L with _ | e
    · rw [rawV_none hraw]
      have E : Hid (firstV l = (zeroE, 0)) := firstV_none (HF.out _ hraw)
      simp only [zeroE, Ent.val]
      go_wp2
      refine bodyPost_ret (v := .tuple #[zeroE.val, .int .i64 0]) (by simp [results, Try.results59, go_sem, zeroE, Ent.val, hc1, hf1, hz1, Nat.ne_of_lt hz1]) rfl ⟨by rw [E.out]; rfl, ?_⟩
      exact below_stores hbel1
    · rw [rawV_some hraw]
      obtain ⟨ea, eb, ec, ed, ek, et, es⟩ := e
      have HF2 := HF.out _ hraw
      simp only at HF2
      have HF3 : Hid _ := HF2
      clear HF HF2
      simp only [Ent.val]
      by_cases hflt : flt ea eb ec ed ek et es.size = 0
      · go_wp2_with fail
        refine (encode_ok ea eb ec ed ek et es _ hflt).mono ?_
        rintro e w2 ⟨ve, rfl, hve, hb2⟩
        have hB2 := (hB1.alloc hz1 _).trans (hb2.mono (by simp only [World.size_alloc]; omega))
        have hc2 := box_cells hB2
        have hf2 : ∀ o, w2.frozen? ⟨w.heap.size, o, none⟩ = false := box_free hB2
        have hc3 := box_cells (by simpa using hb2 : Below (w1.heap.size + 1) _ w2)
        have hbel2 := bstep (bstep hbel1 (bbox _ _)) hb2
        have hz2 : w1.heap.size < w2.heap.size := by (have := hb2.size; simp at this; omega)
        have hR3 := hR2.below (Nat.le_refl _) hbel2
        clear hb2 hB2 hB1 hbel1 hc1 hf1 hR2 hR1
        by_cases henc : encL ea eb ec ed ek et es = l.take (1 + m + 2)
        · have hdec : decide (encL ea eb ec ed ek et es = l.take (1 + m + 2)) = true := by simp [henc]
          have E : Hid (firstV l = (⟨ea, eb, ec, ed, ek, et, es⟩, 1 + m + 2)) := firstV_some (by rw [HF3.out, if_pos ⟨hflt, henc⟩])
          clear henc HF3 hflt
          go_wp2_with fail
          refine (equal_any _ _ _ _ _ hve.rd hR3).mono ?_
          rintro e w3 ⟨rfl, rfl⟩
          rw [hdec]
          clear hdec hve hR3
          go_wp2
          refine bodyPost_ret (v := .tuple #[(Ent.mk ea eb ec ed ek et es).val, .int .i64 (1 + m + 2)]) (by simp [results, Try.results59, go_sem, Ent.val, hc2, hf2, hc3, hz1, hz2, Nat.ne_of_lt hz1, Nat.ne_of_lt hz2]) rfl ⟨by rw [E.out]; rfl, ?_⟩
          exact below_stores' hbel2
        · have hdec : decide (encL ea eb ec ed ek et es = l.take (1 + m + 2)) = false := by simp [henc]
          have E : Hid (firstV l = (zeroE, 0)) := firstV_none (by rw [HF3.out, if_neg]; exact fun h => henc h.2)
          clear henc HF3 hflt
          go_wp2_with fail
          refine (equal_any _ _ _ _ _ hve.rd hR3).mono ?_
          rintro e w3 ⟨rfl, rfl⟩
          rw [hdec]
          clear hdec hve hR3
          go_wp2
          refine bodyPost_ret (v := .tuple #[zeroE.val, .int .i64 0]) (by simp [results, Try.results59, go_sem, zeroE, Ent.val, hc2, hf2, hc3, hz1, hz2, Nat.ne_of_lt hz1, Nat.ne_of_lt hz2]) rfl ⟨by rw [E.out]; rfl, ?_⟩
          exact below_stores' hbel2
      · have E : Hid (firstV l = (zeroE, 0)) := firstV_none (by rw [HF3.out, if_neg]; exact fun h => hflt h.1)
        go_wp2_with fail
        refine (encode_bad ea eb ec ed ek et es _ _ rfl (by simp [hflt])).mono ?_
        rintro e w2 ⟨rfl, hb2⟩
        have hr0 : (flt ea eb ec ed ek et es.size != 0) = true := by simp [hflt]
        have hB2 := (hB1.alloc hz1 _).trans (hb2.mono (by simp only [World.size_alloc]; omega))
        have hc2 := box_cells hB2
        have hf2 : ∀ o, w2.frozen? ⟨w.heap.size, o, none⟩ = false := box_free hB2
        have hbel2 := bstep (bstep hbel1 (bbox _ _)) hb2
        have hz2 : w1.heap.size < w2.heap.size := by (have := hb2.size; simp at this; omega)
        clear hb2 hB2 hB1 hbel1 hc1 hf1 hR2 hR1 hflt
        go_wp2
        refine bodyPost_ret (v := .tuple #[zeroE.val, .int .i64 0]) (by simp [results, Try.results59, go_sem, zeroE, Ent.val, hc2, hf2, hz1, hz2, Nat.ne_of_lt hz1, Nat.ne_of_lt hz2]) rfl ⟨by rw [E.out]; rfl, ?_⟩
        exact below_stores' hbel2
  · have e : firstP l = none := by
      rw [← hW, HL]
      simp only [wfirst]
      rw [if_pos (by simp; omega)]
    have E : Hid (firstV l = (zeroE, 0)) := firstV_none e
    clear e hW HL hr1 hr2 hcd
    go_enter Try.func59, Try.ntmps59
    go_wp2
    refine bodyPost_ret (v := .tuple #[zeroE.val, .int .i64 0]) (by simp [results, Try.results59, go_sem, zeroE, Ent.val]) rfl ⟨by rw [E.out]; rfl, ?_⟩
    repeat (first | exact Below.refl _ _ | refine Below.drew ?_ | refine Below.setCell ?_ (by simp) _ | refine Below.alloc ?_ (by simp) _)
end

section
open Go.RowKit
set_option linter.unusedVariables false
set_option linter.unusedSimpArgs false

def Ent.cells (e : Ent) : List Value := [.int .i64 e.a, .int .i64 e.b, .int .i64 e.c, .int .i64 e.d, .int .i64 e.k, .bool e.t, .string e.s]
theorem infoEntry : (Try.prog.info? 23).map (fun i => (i.zero, i.size, i.bytes)) = some (some zeroE.val, 7, 64) := by kernel_rfl

/-- The slice v owns these entries, in a block from B on. -/
def OwnE (B : Nat) (v : Value) (es : List Ent) (w : World) : Prop := w.ownsRow B 23 7 v es.length (es.flatMap Ent.cells) ∧ B ≤ w.heap.size

theorem OwnE.alloc {B : Nat} {v : Value} {es : List Ent} {w : World} (h : OwnE B v es w) (o : Obj) : OwnE B v es (w.alloc o) :=
  ⟨h.1.alloc o, Nat.le_trans h.2 ((Below.refl 0 w).alloc (Nat.zero_le _) o).size⟩
theorem OwnE.mono {B C : Nat} {v : Value} {es : List Ent} {w : World} (h : OwnE B v es w) (hC : C ≤ B) : OwnE C v es w := by
  obtain ⟨⟨h1, h2⟩, h4⟩ := h
  refine ⟨⟨h1, ?_⟩, by omega⟩
  rcases h2 with h2 | ⟨g, cap, cur, r1, r2, r3⟩
  · exact .inl h2
  · exact .inr ⟨g, cap, cur, r1, by omega, r3⟩
theorem OwnE.below {B C : Nat} {v : Value} {es : List Ent} {w w' : World} (h : OwnE B v es w) (hC : w.heap.size ≤ C) (hb : Below C w w') : OwnE B v es w' := by
  obtain ⟨⟨h1, h2⟩, h4⟩ := h
  refine ⟨⟨h1, ?_⟩, Nat.le_trans h4 hb.size⟩
  rcases h2 with h2 | ⟨g, cap, cur, r1, r2, r3, r4⟩
  · exact .inl h2
  · have hg : g < w.heap.size := by
      rcases Nat.lt_or_ge g w.heap.size with hg | hg
      · exact hg
      · rw [Array.getElem?_eq_none hg] at r3; simp at r3
    exact .inr ⟨g, cap, cur, r1, r2, by rw [hb.block g (by omega)]; exact r3, r4⟩
theorem ownE_nil (B : Nat) (w : World) (hB : B ≤ w.heap.size) : OwnE B (.slice none 0 0) [] w := ⟨World.ownsRow_nil w B _ 7, hB⟩
theorem OwnE.shape {B : Nat} {v : Value} {es : List Ent} {w : World} (h : OwnE B v es w) : ∃ ao cap, v = .slice ao es.length cap := by
  rcases h.1.2 with ⟨h1, h2⟩ | ⟨g, cap, cur, r1, r2⟩
  · exact ⟨none, 0, by rw [h1, h2]⟩
  · exact ⟨_, cap, r1⟩

section
variable {w0 : World} {ops : Array Oper} {rest : List Oper} {o : Oper} {a : Act} {Q : Exit → Act → World → Prop}
theorem wp_appE (hgd : o.guard = none) (s x : Operand)
    (ho : o.op = .call { callee := .builtin .append, args := #[s, x], argTypes := #[30, 30] })
    (B : Nat) (v : Value) (es : List Ent) (hs : a.eval s = v) (e : Ent) (hown : OwnE B v es w0) (g : Nat) (hx : a.eval x = .slice (some ⟨g, 0, none⟩) 1 1) (hg : g = w0.heap.size) (hlen : es.length + 1 ≤ 1099511627776)
    (h : ∀ v' w', OwnE B v' (es ++ [e]) w' → Below B w0 w' → wpList Try.prog ops Q rest (a.put o.dst v') w') :
    wpList Try.prog ops Q (o :: rest) a (w0.alloc (.cells #[.int .i64 e.a, .int .i64 e.b, .int .i64 e.c, .int .i64 e.d, .int .i64 e.k, .bool e.t, .string e.s] 23)) := by
  subst hg
  obtain ⟨i, hi, hz0, hz1, hz2⟩ := info_parts infoEntry
  have hown' := hown.alloc (.cells #[.int .i64 e.a, .int .i64 e.b, .int .i64 e.c, .int .i64 e.d, .int .i64 e.k, .bool e.t, .string e.s] 23)
  refine wpList_append_own _ hgd s x _ ho B _ i zeroE.val 7 64 Try.underlying30 hi hz0 hz1 hz2 rfl (by decide) v _ _ hs hown'.1 ⟨w0.heap.size, 0, none⟩ 1 1 e.cells hx rfl ?_ ?_ (by unfold maxLen; omega) (by omega) hown'.2 ?_
  · intro j u hj
    have hj' : j < 7 := by
      have := (List.getElem?_eq_some_iff.1 hj).1
      simpa [Ent.cells] using this
    rcases (show j = 0 ∨ j = 1 ∨ j = 2 ∨ j = 3 ∨ j = 4 ∨ j = 5 ∨ j = 6 from by omega) with rfl | rfl | rfl | rfl | rfl | rfl | rfl <;> (simp [Ent.cells] at hj; subst hj; simp [Addr.add])
  · intro u hu
    simp [Ent.cells] at hu
    rcases hu with rfl | rfl | rfl | rfl | rfl | rfl | rfl <;> rfl
  · intro v' w' ho' hg _
    refine h v' w' ⟨by simpa using ho', Nat.le_trans hown'.2 hg.size⟩ ?_
    exact ((Below.refl B w0).alloc hown.2 _).grown hg hown'.2 (fun k hk => (hown'.1.lt k hk).1)
end

theorem decodeFirst_any (l : List Int) (v : Value) (w : World) (h0 : 0 < l.length) (hl : l.length ≤ 140737488355328) (h : Rd w v l) :
    Calls Try.prog 59 #[v] w fun e w' => e = .returned (.tuple #[(firstV l).1.val, .int .i64 (firstV l).2]) ∧ Below w.heap.size w w' := by
  obtain ⟨hb, ao, cap, rfl, h1, h2, h3, hc⟩ := h
  obtain ⟨b, off, rfl, hc'⟩ := hc h0
  exact decodeFirst_some l b off cap w h0 hl h1 h2 hb hc'

/-- How far one has come. -/
def DecSt (l : List Int) (k : Nat) (es : List Ent) : Prop :=
  k ≤ l.length ∧ es.length ≤ k ∧ ∃ f, (l.drop k).length ≤ f ∧ decL l = (es ++ (decP f (l.drop k)).1, k + (decP f (l.drop k)).2)
theorem decSt_0 (l : List Int) : DecSt l 0 [] := ⟨by omega, by simp, l.length, by simp, by simp [decL]⟩
theorem decSt_stop {l : List Int} {k : Nat} {es : List Ent} (h : DecSt l k es) (hf : firstP (l.drop k) = none) : decL l = (es, k) := by
  obtain ⟨_, _, f, _, h⟩ := h
  rw [h, decP_none _ _ hf]
  simp
theorem decSt_end {l : List Int} {es : List Ent} (h : DecSt l l.length es) : decL l = (es, l.length) := decSt_stop h (by rw [List.drop_length]; rfl)
theorem decSt_next {l : List Int} {k : Nat} {es : List Ent} (h : DecSt l k es) (hb : Bytes l) {e : Ent} {z : Nat} (hf : firstP (l.drop k) = some (e, z)) : DecSt l (k + z) (es ++ [e]) ∧ 8 ≤ z ∧ k + z ≤ l.length := by
  obtain ⟨h1, h2, f, h3, h⟩ := h
  obtain ⟨hf0, hz, he⟩ := first_some _ (bytes_drop hb k) e z hf
  have hz8 : 8 ≤ z := by
    rw [hz, enc_len]
    have : 5 ≤ e.body.length := by
      obtain ⟨ha, hb, hc, hd, hk, hs⟩ := flt_ok hf0
      have s1 : ∀ n : Int, 1 ≤ (sev n).length := by
        intro n
        unfold sev
        by_cases hn : n.toNat < 128
        · rw [sevF_small _ _ hn]; simp
        · rw [sevF_big _ _ hn]; simp
      have s2 := s1 e.a
      have s3 := s1 e.b
      have s4 := s1 e.c
      have s5 := s1 e.d
      simp only [Ent.body, bodyL, List.length_cons, List.length_append]
      omega
    omega
  have hle : k + z ≤ l.length := by
    have := congrArg List.length he
    simp only [List.length_append, List.length_drop] at this
    omega
  refine ⟨⟨hle, by simp; omega, f - 1, by simp only [List.length_drop] at h3 ⊢; omega, ?_⟩, hz8, hle⟩
  obtain ⟨f', rfl⟩ : ∃ f', f = f' + 1 := ⟨f - 1, by simp only [List.length_drop] at h3; omega⟩
  rw [h, decP_some _ _ _ _ hf]
  simp only [List.drop_drop, List.append_assoc, List.singleton_append, Nat.add_sub_cancel]
  rw [Nat.add_assoc]

set_option maxRecDepth 100000 in
set_option maxHeartbeats 1000000 in
theorem decode_some (l : List Int) (b off cap : Nat) (w : World) (hl : l.length ≤ 1099511627775) (hcap : l.length ≤ cap) (hm : cap ≤ maxLen) (hb : Bytes l) (hc : ∀ i, i < l.length → w.cell? ⟨b, off + i, none⟩ = some (.int .u8 (l.getD i 0))) :
    Calls Try.prog 24 #[.slice (some ⟨b, off, none⟩) l.length cap] w fun e w' => ∃ v, e = .returned (.tuple #[v, .int .i64 (decL l).2]) ∧ OwnE w.heap.size v (decL l).1 w' ∧ Below w.heap.size w w' := by
  have hr := fun k h => rd_drop hb hcap hm hc k h
  have HR : Hid _ := hr
  unfold maxLen at hm
  clear hr hc
  go_enter Try.func24, Try.ntmps24
  go_wp2
  go_loopw [4, 5] (fun v a wr => ∃ (k : Nat) (es : List Ent), k ≤ l.length ∧ a = .int .i64 k ∧ Hid (DecSt l k es) ∧ OwnE w.heap.size v es wr ∧ Below w.heap.size w wr) (fun _ a _ => l.length - (intOf a).toNat)
  case atStart => exact ⟨0, [], by omega, rfl, decSt_0 l, ownE_nil _ _ (Nat.le_refl _), Below.refl _ _⟩
  case round =>
    obtain ⟨k, es, hk, rfl, H, hown, hbel⟩ := hrel
    have hes := H.out.2.1
    by_cases hlt : k < l.length
    · have hR := (HR.out k hk).below (Nat.le_refl _) hbel
      rw [if_neg (by omega)] at hR
      go_wp2_with fail
      refine (decodeFirst_any (l.drop k) _ _ (by simp; omega) (by simp; omega) hR).mono ?_
      rintro e w1 ⟨rfl, hb1⟩
      have hown1 := hown.below (Nat.le_refl _) hb1
      have hbel1 := bstep hbel hb1
      clear hb1 hR hown hbel
      rcases hf : firstP (l.drop k) with _ | ⟨e, z⟩
      · rw [firstV_none hf]
        have E : Hid (decL l = (es, k)) := decSt_stop H.out hf
        simp only [zeroE, Ent.val]
        clear hf
        go_wp2
        go_ret2
        rw [E.out]
        refine ⟨_, rfl, hown1.alloc _, ?_⟩
        exact hbel1.alloc hown1.2 _
      · rw [firstV_some hf]
        obtain ⟨hn, hz, hkz⟩ := decSt_next H.out hb hf
        have HN : Hid _ := hn
        have hz' : ((z : Int) == 0) = false := by rw [beq_eq_false_iff_ne]; omega
        clear hn hf H
        simp only [Ent.val]
        go_wp2_with (at_builtin; (refine wp_appE rfl _ _ rfl _ _ es rfl e (hown1.alloc _) _ rfl (by simp) (by omega) ?_))
        intro v2 w2 hown2 hb2
        have hbel2 := (hbel1.alloc hown1.2 _).trans hb2
        clear hb2 hown1 hbel1
        go_wp2
        go_roundw
        case rel => exact ⟨k + z, es ++ [e], hkz, by go_num, HN, hown2, hbel2⟩
        case measure => simp [intOf]; omega
    · have hkl : k = l.length := by omega
      have E : Hid (decL l = (es, k)) := by (rw [hkl] at H ⊢; exact decSt_end H.out)
      clear hkl H
      go_wp2
      go_ret2
      rw [E.out]
      exact ⟨_, rfl, hown, hbel⟩

set_option maxRecDepth 100000 in
set_option maxHeartbeats 400000 in
theorem decode_none (ao : Option Addr) (cap : Nat) (w : World) :
    Calls Try.prog 24 #[.slice ao 0 cap] w fun e w' => ∃ v, e = .returned (.tuple #[v, .int .i64 0]) ∧ OwnE w.heap.size v [] w' ∧ Below w.heap.size w w' := by
  go_enter Try.func24, Try.ntmps24
  go_wp2
  refine wp_loop_rounds 1 ?_
  rw [rounds_succ]
  go_wp2
  go_ret2
  exact ⟨_, rfl, ownE_nil _ _ (Nat.le_refl _), Below.refl _ _⟩

theorem decode_any (l : List Int) (v : Value) (w : World) (hl : l.length ≤ 1099511627775) (h : Rd w v l) :
    Calls Try.prog 24 #[v] w fun e w' => ∃ v, e = .returned (.tuple #[v, .int .i64 (decL l).2]) ∧ OwnE w.heap.size v (decL l).1 w' ∧ Below w.heap.size w w' := by
  obtain ⟨hb, ao, cap, rfl, h1, h2, h3, hc⟩ := h
  by_cases h0 : 0 < l.length
  · obtain ⟨b, off, rfl, hc'⟩ := hc h0
    exact decode_some l b off cap w hl h1 h2 hb hc'
  · have hl : l = [] := List.eq_nil_of_length_eq_zero (by omega)
    subst hl
    exact decode_none ao cap w
end

section
open Go.RowKit
set_option linter.unusedVariables false

theorem decP_encs (es : List Ent) (h : ∀ e ∈ es, e.flt = 0) (f : Nat) (hf : (es.flatMap Ent.enc).length ≤ f) : decP f (es.flatMap Ent.enc) = (es, (es.flatMap Ent.enc).length) := by
  induction es generalizing f with
  | nil => rw [List.flatMap_nil]; exact decP_none f [] rfl
  | cons e es ih =>
    have he := h e (List.mem_cons_self ..)
    have h1 := enc_first e he (es.flatMap Ent.enc)
    have hl := enc_len e
    simp only [List.flatMap_cons, List.length_append] at hf ⊢
    obtain ⟨f', rfl⟩ : ∃ f', f = f' + 1 := ⟨f - 1, by omega⟩
    rw [decP_some _ _ _ _ h1, List.drop_left, ih (fun x hx => h x (List.mem_cons_of_mem _ hx)) f' (by omega)]
theorem dec_encs (es : List Ent) (h : ∀ e ∈ es, e.flt = 0) : decL (es.flatMap Ent.enc) = (es, (es.flatMap Ent.enc).length) := decP_encs es h _ (Nat.le_refl _)

theorem decP_back (f : Nat) (l : List Int) (hb : Bytes l) : (decP f l).1.flatMap Ent.enc = l.take (decP f l).2 ∧ (decP f l).2 ≤ l.length ∧ ∀ e ∈ (decP f l).1, e.flt = 0 := by
  induction f generalizing l with
  | zero => simp [decP]
  | succ f ih =>
    cases hf : firstP l with
    | none => simp [decP, hf]
    | some p =>
      obtain ⟨e, z⟩ := p
      obtain ⟨hf0, hz, he⟩ := first_some l hb e z hf
      obtain ⟨h1, h2, h3⟩ := ih (l.drop z) (bytes_drop hb z)
      rw [decP_some _ _ _ _ hf]
      simp only [List.flatMap_cons, List.length_drop] at h1 h2 ⊢
      have hzl : z ≤ l.length := by
        have := congrArg List.length he
        simp only [List.length_append, List.length_drop] at this
        omega
      refine ⟨?_, by omega, fun x hx => ?_⟩
      · rw [h1]
        have h4 : l.take (z + (decP f (l.drop z)).2) = l.take z ++ (l.drop z).take (decP f (l.drop z)).2 := by rw [List.take_add]
        rw [h4]
        have h5 : l.take z = e.enc := by
          have : (e.enc ++ l.drop z).take z = e.enc := by rw [hz]; exact List.take_left
          rw [← he] at this
          exact this
        rw [h5]
      · rcases List.mem_cons.1 hx with rfl | hx
        · exact hf0
        · exact h3 x hx
theorem dec_back (l : List Int) (hb : Bytes l) : (decL l).1.flatMap Ent.enc = l.take (decL l).2 ∧ (decL l).2 ≤ l.length ∧ ∀ e ∈ (decL l).1, e.flt = 0 := decP_back _ l hb

theorem dec_one (e : Ent) (h : e.flt = 0) : decL e.enc = ([e], e.enc.length) := by
  have := dec_encs [e] (by intro x hx; simp at hx; rw [hx]; exact h)
  simpa using this

/-- Bytes as many as an entry's, from which that entry alone is read, are the entry's own. -/
theorem dec_same (e : Ent) (l : List Int) (hb : Bytes l) (hl : l.length = e.enc.length) (h : (decL l).1 = [e]) : l = e.enc := by
  obtain ⟨h1, h2, h3⟩ := dec_back l hb
  rw [h] at h1
  simp only [List.flatMap_cons, List.flatMap_nil, List.append_nil] at h1
  have h4 := congrArg List.length h1
  simp only [List.length_take] at h4
  rw [h1]
  rw [List.take_of_length_le (by omega)]

theorem enc_bytes (e : Ent) (h : e.flt = 0) : Bytes e.enc := by
  obtain ⟨ha, hb, hc, hd, hk, hs⟩ := flt_ok h
  have hs := sumL_bd e.body
  have hl := body_len' e h
  have hbd : Bytes e.body := by
    intro n hn
    simp only [Ent.body, bodyL, List.mem_cons, List.mem_append] at hn
    rcases hn with rfl | hn | hn | hn | hn | hn
    · unfold kindB; split <;> omega
    · exact sev_bytes _ n hn
    · exact sev_bytes _ n hn
    · exact sev_bytes _ n hn
    · exact sev_bytes _ n hn
    · exact strL_bytes _ n hn
  intro n hn
  rw [enc_eq] at hn
  simp only [List.mem_cons, List.mem_append, List.not_mem_nil, or_false] at hn
  rcases hn with rfl | hn | rfl | rfl
  · omega
  · exact hbd n hn
  · omega
  · omega

theorem decP_len (f : Nat) (l : List Int) (hb : Bytes l) : (decP f l).1.length ≤ l.length ∧ (decP f l).2 ≤ l.length := by
  induction f generalizing l with
  | zero => simp [decP]
  | succ f ih =>
    cases hf : firstP l with
    | none => simp [decP, hf]
    | some p =>
      obtain ⟨e, z⟩ := p
      obtain ⟨hf0, hz, he⟩ := first_some l hb e z hf
      have h := ih (l.drop z) (bytes_drop hb z)
      rw [decP_some _ _ _ _ hf]
      have hl := congrArg List.length he
      rw [enc_len] at hz
      simp only [List.length_append, List.length_drop, enc_len] at hl h
      simp only [List.length_cons]
      omega


theorem flat_take_len (es : List Ent) (k : Nat) : ((es.take k).flatMap Ent.enc).length ≤ (es.flatMap Ent.enc).length := by
  have h : es.flatMap Ent.enc = (es.take k).flatMap Ent.enc ++ (es.drop k).flatMap Ent.enc := by rw [← List.flatMap_append, List.take_append_drop]
  rw [h, List.length_append]
  omega
theorem flat_take_succ (es : List Ent) (k : Nat) (h : k < es.length) : (es.take (k + 1)).flatMap Ent.enc = (es.take k).flatMap Ent.enc ++ (es[k]'h).enc := by
  rw [List.take_succ_eq_append_getElem h, List.flatMap_append]
  simp
theorem flat_len (es : List Ent) (h : ∀ e ∈ es, e.flt = 0) : (es.flatMap Ent.enc).length ≤ 64 * es.length := by
  induction es with
  | nil => simp
  | cons e es ih =>
    have h1 := body_len' e (h e (List.mem_cons_self ..))
    have h2 := ih (fun x hx => h x (List.mem_cons_of_mem _ hx))
    simp only [List.flatMap_cons, List.length_append, List.length_cons, enc_len]
    omega
end

section
open Go.RowKit
set_option linter.unusedVariables false
set_option linter.unusedSimpArgs false

theorem Rd.drewN {w : World} {v : Value} {l : List Int} (h : Rd w v l) (n : Nat) : Rd (w.drewN n) v l := h
theorem OwnE.drewN {B : Nat} {v : Value} {es : List Ent} {w : World} (h : OwnE B v es w) (n : Nat) : OwnE B v es (w.drewN n) := h

/-- A slice of entries that reads as es. -/
def RdE (w : World) (v : Value) (es : List Ent) : Prop :=
  ∃ ao cap, v = .slice ao es.length cap ∧ es.length ≤ cap ∧ cap ≤ maxLen ∧ (0 < es.length → ∃ g, ao = some ⟨g, 0, none⟩ ∧ ∀ i, (h : i < es.length) → ∀ j, j < 7 → w.cell? ⟨g, i * 7 + j, none⟩ = (es[i]'h).cells[j]?)

theorem cells_len (e : Ent) : e.cells.length = 7 := rfl
theorem flat_get (es : List Ent) (i j : Nat) (h : i < es.length) (hj : j < 7) : (es.flatMap Ent.cells)[i * 7 + j]? = (es[i]'h).cells[j]? := by
  induction es generalizing i with
  | nil => simp at h
  | cons e es ih =>
    rw [List.flatMap_cons]
    cases i with
    | zero =>
      rw [List.getElem?_append_left (by rw [cells_len]; omega)]
      simp
    | succ i =>
      rw [List.getElem?_append_right (by rw [cells_len]; omega), cells_len, show (i + 1) * 7 + j - 7 = i * 7 + j by omega, ih i (by simpa using h)]
      simp

theorem OwnE.rd {B : Nat} {v : Value} {es : List Ent} {w : World} (h : OwnE B v es w) : RdE w v es := by
  obtain ⟨h1, h4⟩ := h
  rcases h1.2 with ⟨rfl, h0⟩ | ⟨g, cap, cur, rfl, r2, r3, r4, r5, r6⟩
  · refine ⟨none, 0, by rw [h0], by omega, by unfold maxLen; omega, fun h => by omega⟩
  · refine ⟨_, _, rfl, r4, r5, fun _ => ⟨g, rfl, fun i hi j hj => ?_⟩⟩
    have := h1.cellAt (i * 7 + j) (by omega)
    rw [this, flat_get es i j hi hj]

theorem seven {w : World} {g n : Nat} {e : Ent} (h : ∀ j, j < 7 → w.cell? ⟨g, n + j, none⟩ = e.cells[j]?) :
    w.cell? ⟨g, n, none⟩ = some (.int .i64 e.a) ∧ w.cell? ⟨g, n + 1, none⟩ = some (.int .i64 e.b) ∧ w.cell? ⟨g, n + 2, none⟩ = some (.int .i64 e.c) ∧ w.cell? ⟨g, n + 3, none⟩ = some (.int .i64 e.d) ∧ w.cell? ⟨g, n + 4, none⟩ = some (.int .i64 e.k) ∧ w.cell? ⟨g, n + 5, none⟩ = some (.bool e.t) ∧ w.cell? ⟨g, n + 6, none⟩ = some (.string e.s) :=
  ⟨h 0 (by omega), h 1 (by omega), h 2 (by omega), h 3 (by omega), h 4 (by omega), h 5 (by omega), h 6 (by omega)⟩


theorem ent_ext (x y : Ent) (h1 : x.a = y.a) (h2 : x.b = y.b) (h3 : x.c = y.c) (h4 : x.d = y.d) (h5 : x.k = y.k) (h6 : x.t = y.t) (h7 : x.s.toList = y.s.toList) : x = y := by
  obtain ⟨xa, xb, xc, xd, xk, xt, xs⟩ := x
  obtain ⟨ya, yb, yc, yd, yk, yt, ys⟩ := y
  simp only at h1 h2 h3 h4 h5 h6 h7
  have h8 : xs = ys := by
    rw [Lib.toList_data, Lib.toList_data] at h7
    exact WideShapes.bytes_inj h7
  subst h1 h2 h3 h4 h5 h6 h8
  rfl

/-- Two entries that are not one are told apart. -/
theorem ent_ne (x y : Ent) (w : World) (h : x ≠ y) : (binOp .eql 23 (.agg #[.int .i64 x.a, .int .i64 x.b, .int .i64 x.c, .int .i64 x.d, .int .i64 x.k, .bool x.t, .string x.s]) (.agg #[.int .i64 y.a, .int .i64 y.b, .int .i64 y.c, .int .i64 y.d, .int .i64 y.k, .bool y.t, .string y.s])).run Try.prog w = .ok (.bool false) w := by
  go_simp
  intro h1 h2 h3 h4 h5 h6 h7
  exact h (ent_ext x y h1 h2 h3 h4 h5 h6 h7)
end

end Go.Proofs.Ytknipikmbfdcnaa
