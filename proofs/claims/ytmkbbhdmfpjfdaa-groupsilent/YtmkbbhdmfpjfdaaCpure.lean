/-
  Coordinators as plain data: what the document's chapter 5 answers.
-/
import Derived.Test.YtmkbbhdmfpjfdaaErow
namespace Go.Proofs.Ytmkbbhdmfpjfdaa
open Go.RowKit
set_option linter.unusedVariables false
set_option linter.unusedSimpArgs false

/-- p holds of all below n. -/
def allN (p : Nat → Bool) : Nat → Bool
  | 0 => true
  | k + 1 => allN p k && p k
theorem allN_iff {p : Nat → Bool} {n : Nat} : allN p n = true ↔ ∀ j, j < n → p j = true := by
  induction n with
  | zero => simp [allN]
  | succ n ih =>
    simp only [allN, Bool.and_eq_true, ih]
    exact ⟨fun h j hj => by rcases Nat.lt_succ_iff_lt_or_eq.1 hj with h1 | rfl; exact h.1 j h1; exact h.2, fun h => ⟨fun j hj => h j (by omega), h n (by omega)⟩⟩
theorem allN_no {p : Nat → Bool} {n j : Nat} (hj : j < n) (h : p j = false) : allN p n = false := by
  cases e : allN p n with
  | false => rfl
  | true => rw [allN_iff.1 e j hj] at h; cases h
theorem allN_congr {p q : Nat → Bool} {n : Nat} (h : ∀ j, j < n → p j = q j) : allN p n = allN q n := by
  induction n with
  | zero => rfl
  | succ n ih => simp only [allN]; rw [ih (fun j hj => h j (by omega)), h n (by omega)]

/-- A producer's transactions. -/
structure Txn where
  nm : ByteArray
  id : Int
  v : Int
  st : Int
  ps : List Int
  sn : Int
  dn : Int
def zeroT : Txn := ⟨⟨#[]⟩, 0, 0, 0, [], 0, 0⟩
/-- A coordinator. -/
structure Crd where
  ck : Int
  nx : Int
  wt : Int
  ts : List Txn
def Crd.zero : Crd := ⟨0, 0, 0, []⟩
def Crd.at (c : Crd) (i : Nat) : Txn := c.ts.getD i zeroT
theorem at_txn {c : Crd} {i : Nat} (h : i < c.ts.length) : c.at i = c.ts[i]'h := by simp [Crd.at, List.getD, h]

/-- The same text? -/
def sameN (a b : ByteArray) : Bool := a.toList == b.toList
theorem bytes_toList (a : ByteArray) : a.toList = a.data.toList := Lib.toList_data a
theorem sameN_iff {a b : ByteArray} : sameN a b = true ↔ a = b := by
  unfold sameN
  rw [bytes_toList, bytes_toList, beq_iff_eq]
  constructor
  · intro h
    cases a; cases b
    simp only [ByteArray.mk.injEq]
    exact Array.toList_inj.1 h
  · rintro rfl; rfl
theorem sameN_no {a b : ByteArray} : sameN a b = false ↔ a ≠ b := by
  rw [← Bool.not_eq_true, sameN_iff]
/-- A small letter. -/
def letB (n : Int) : Bool := inR n 97 122
/-- Is it a name (P5.1)? -/
def nameB (s : ByteArray) : Bool := inR s.size 1 8 && allN (fun i => letB ((strL s).getD i 0)) s.size
/-- Is the part in its place (P5.2)? -/
def okAt (l : List Int) (k : Nat) : Bool := inR (l.getD k 0) (if k = 0 then 0 else l.getD (k - 1) 0 + 1) 3
/-- Do parts rise? -/
def riseB (l : List Int) : Bool := allN (okAt l) l.length
/-- Are markers on their way? -/
def Txn.endB (t : Txn) : Bool := t.st == 3 || t.st == 4
def doneB (n : Int) : Bool := n == 0 || n == 3 || n == 4
/-- May it be, by itself? -/
def Crd.okB (c : Crd) (t : Txn) : Bool :=
  nameB t.nm && inR t.id 1 (c.nx - 1) && inR t.v 0 1073741824 && inR t.st 1 4 && inR t.sn 0 c.ck && doneB t.dn && riseB t.ps && (decide (t.ps.length = 0) == decide (t.st = 1))
def likeB (x y : Txn) : Bool := sameN x.nm y.nm || x.id == y.id
/-- Is none ahead of the i-th like it? -/
def Crd.freeB (c : Crd) (i : Nat) : Bool := allN (fun k => !likeB (c.at k) (c.at i)) i
def Crd.numB (c : Crd) : Bool := inR c.ck 0 1073741824 && inR c.nx 1 1073741824 && inR c.wt 1 1000
/-- P5.2. -/
def Crd.mayB (c : Crd) : Bool := c.numB && decide (c.ts.length ≤ 8) && allN (fun i => c.okB (c.at i) && c.freeB i) c.ts.length
def Crd.cfl (c : Crd) : Int := if c.mayB then 0 else 12
theorem ccfl_no {c : Crd} (h : c.mayB = false) : c.cfl = 12 := by unfold Crd.cfl; rw [h]; rfl
theorem ccfl_yes {c : Crd} (h : c.mayB = true) : c.cfl = 0 := by unfold Crd.cfl; rw [h]; rfl
/-- The place of a producer; -1: it is not known. -/
def Crd.pos (c : Crd) (s : ByteArray) : Int := scan (fun i => sameN (c.at i).nm s = true) c.ts.length 0
/-- What is refused ahead of all else, where a name is told. -/
def Crd.flt (c : Crd) (s : ByteArray) : Int := if c.mayB then (if nameB s then 0 else 4) else 12
/-- And where a version is told. -/
def Crd.kfl (c : Crd) (s : ByteArray) (v : Int) : Int := if c.flt s ≠ 0 then c.flt s else if c.pos s < 0 then 5 else if (c.at (c.pos s).toNat).v = v then 0 else 10
def Crd.setT (c : Crd) (i : Nat) (t : Txn) : Crd := { c with ts := c.ts.set i t }
/-- P5.1. -/
def newC (wait : Int) : Crd × Int := if inR wait 1 1000 then (⟨0, 1, wait, []⟩, 0) else (Crd.zero, 2)
def Txn.renew (t : Txn) : Txn := { t with v := t.v + 1, st := if t.st = 2 then 4 else t.st }
/-- P5.3. -/
def Crd.initP (c : Crd) (s : ByteArray) : Crd × Int × Int × Int :=
  if c.flt s ≠ 0 then (Crd.zero, 0, 0, c.flt s)
  else if c.pos s < 0 then
    (if 8 ≤ c.ts.length ∨ 1073741824 ≤ c.nx then (Crd.zero, 0, 0, 16) else ({ c with nx := c.nx + 1, ts := c.ts ++ [⟨s, c.nx, 0, 1, [], 0, 0⟩] }, c.nx, 0, 0))
  else if (c.at (c.pos s).toNat).endB then (Crd.zero, 0, 0, 12)
  else if (c.at (c.pos s).toNat).v = 1073741824 then (Crd.zero, 0, 0, 2)
  else (c.setT (c.pos s).toNat (c.at (c.pos s).toNat).renew, (c.at (c.pos s).toNat).id, (c.at (c.pos s).toNat).v + 1, 0)
/-- The parts, with one more. -/
def insP (l : List Int) (p : Int) : List Int := [0, 1, 2, 3].filter (fun q => q == p || l.contains q)
def Txn.add (t : Txn) (now p : Int) : Txn := { t with st := if t.st = 1 then 2 else t.st, sn := if t.st = 1 then now else t.sn, ps := insP t.ps p }
/-- P5.4. -/
def Crd.addP (c : Crd) (s : ByteArray) (v p : Int) : Crd × Int :=
  if c.kfl s v ≠ 0 then (Crd.zero, c.kfl s v)
  else if inR p 0 3 = false then (Crd.zero, 2)
  else if (c.at (c.pos s).toNat).endB then (Crd.zero, 12)
  else (c.setT (c.pos s).toNat ((c.at (c.pos s).toNat).add c.ck p), 0)
def wantI (b : Bool) : Int := if b then 3 else 4
/-- P5.5. -/
def Crd.endP (c : Crd) (s : ByteArray) (v : Int) (b : Bool) : Crd × Int :=
  if c.kfl s v ≠ 0 then (Crd.zero, c.kfl s v)
  else if (c.at (c.pos s).toNat).st = 2 then (c.setT (c.pos s).toNat { c.at (c.pos s).toNat with st := wantI b }, 0)
  else if (c.at (c.pos s).toNat).st = wantI b then (c, 0)
  else if (c.at (c.pos s).toNat).st = 1 ∧ ((c.at (c.pos s).toNat).dn = 0 ∨ (c.at (c.pos s).toNat).dn = wantI b) then (c.setT (c.pos s).toNat { c.at (c.pos s).toNat with dn := wantI b }, 0)
  else (Crd.zero, 12)
/-- How many of the first i have markers on their way. -/
def Crd.cnt (c : Crd) : Nat → Nat
  | 0 => 0
  | i + 1 => c.cnt i + if (c.at i).endB then 1 else 0
/-- The place of the n'th of these. -/
def Crd.nth (c : Crd) (n : Int) : Int := scan (fun i => (c.at i).endB = true ∧ (c.cnt i : Int) = n) c.ts.length 0
def Txn.mkK (t : Txn) : Int := if t.st = 3 then 2 else 3
/-- P5.6: the name, the part, and of the marker Pid, Ver and Kind. -/
def Crd.nextP (c : Crd) (n : Int) : ByteArray × Int × Int × Int × Int × Bool × Int :=
  if c.mayB = false then (⟨#[]⟩, 0, 0, 0, 0, false, 12)
  else if c.nth n < 0 then (⟨#[]⟩, 0, 0, 0, 0, false, 15)
  else ((c.at (c.nth n).toNat).nm, (c.at (c.nth n).toNat).ps.getD 0 0, (c.at (c.nth n).toNat).id, (c.at (c.nth n).toNat).v, (c.at (c.nth n).toNat).mkK, true, 0)
def delP (l : List Int) (p : Int) : List Int := l.filter (fun q => q != p)
def Txn.less (t : Txn) (p : Int) : Txn := { t with ps := delP t.ps p, dn := if delP t.ps p = [] then t.st else t.dn, st := if delP t.ps p = [] then 1 else t.st }
/-- P5.6. -/
def Crd.doneP (c : Crd) (s : ByteArray) (p : Int) : Crd × Int :=
  if c.flt s ≠ 0 then (Crd.zero, c.flt s)
  else if c.pos s < 0 then (Crd.zero, 5)
  else if (c.at (c.pos s).toNat).endB = false then (Crd.zero, 12)
  else if (c.at (c.pos s).toNat).ps.contains p = false then (Crd.zero, 5)
  else (c.setT (c.pos s).toNat ((c.at (c.pos s).toNat).less p), 0)
/-- Does it last too long? -/
def Txn.lateB (t : Txn) (now wait : Int) : Bool := t.st == 2 && decide (t.sn + wait ≤ now) && t.v != 1073741824
def Txn.tick (t : Txn) (now wait : Int) : Txn := if t.lateB now wait then { t with st := 4, v := t.v + 1 } else t
/-- P5.7. -/
def Crd.tickP (c : Crd) (n : Int) : Crd × Int :=
  if c.mayB = false then (Crd.zero, 12)
  else if inR n 0 1000 = false ∨ 1073741824 < c.ck + n then (Crd.zero, 2)
  else ({ c with ck := c.ck + n, ts := c.ts.map (fun t => t.tick (c.ck + n) c.wt) }, 0)

/-- What a producer that may be is. -/
structure TxnOk (ck nx : Int) (t : Txn) : Prop where
  nm : nameB t.nm = true
  i0 : 1 ≤ t.id
  i1 : t.id < nx
  v0 : 0 ≤ t.v
  v1 : t.v ≤ 1073741824
  s0 : 1 ≤ t.st
  s1 : t.st ≤ 4
  n0 : 0 ≤ t.sn
  n1 : t.sn ≤ ck
  dn : t.dn = 0 ∨ t.dn = 3 ∨ t.dn = 4
  ps : riseB t.ps = true
  em : t.ps = [] ↔ t.st = 1
theorem ok_iff {c : Crd} {t : Txn} : c.okB t = true ↔ TxnOk c.ck c.nx t := by
  unfold Crd.okB doneB
  simp only [Bool.and_eq_true, inR_iff, Bool.or_eq_true, beq_iff_eq]
  constructor
  · rintro ⟨⟨⟨⟨⟨⟨⟨h1, h2, h3⟩, h4, h5⟩, h6, h7⟩, h8, h9⟩, h10⟩, h11⟩, h12⟩
    refine ⟨h1, h2, by omega, h4, h5, h6, h7, h8, h9, by omega, h11, ?_⟩
    rw [← List.length_eq_zero_iff]
    exact decide_eq_decide.1 h12
  · intro h
    refine ⟨⟨⟨⟨⟨⟨⟨h.nm, h.i0, by have := h.i1; omega⟩, h.v0, h.v1⟩, h.s0, h.s1⟩, h.n0, h.n1⟩, by have := h.dn; omega⟩, h.ps⟩, decide_eq_decide.2 ?_⟩
    rw [List.length_eq_zero_iff]
    exact h.em
/-- What a coordinator that may be is. -/
structure MayC (c : Crd) : Prop where
  c0 : 0 ≤ c.ck
  c1 : c.ck ≤ 1073741824
  x0 : 1 ≤ c.nx
  x1 : c.nx ≤ 1073741824
  w0 : 1 ≤ c.wt
  w1 : c.wt ≤ 1000
  n8 : c.ts.length ≤ 8
  ok : ∀ i, i < c.ts.length → TxnOk c.ck c.nx (c.at i)
  fr : ∀ i k, i < c.ts.length → k < i → (c.at k).nm ≠ (c.at i).nm ∧ (c.at k).id ≠ (c.at i).id
theorem mayC_iff {c : Crd} : c.mayB = true ↔ MayC c := by
  unfold Crd.mayB Crd.numB
  simp only [Bool.and_eq_true, inR_iff, decide_eq_true_eq, allN_iff, ok_iff]
  constructor
  · rintro ⟨⟨⟨⟨⟨h1, h2⟩, h3, h4⟩, h5, h6⟩, h7⟩, h8⟩
    refine ⟨h1, h2, h3, h4, h5, h6, h7, fun i hi => (h8 i hi).1, fun i k hi hk => ?_⟩
    have := allN_iff.1 (h8 i hi).2 k hk
    simp only [likeB, Bool.not_eq_true', Bool.or_eq_false_iff, sameN_no, beq_eq_false_iff_ne] at this
    exact this
  · intro h
    refine ⟨⟨⟨⟨⟨h.c0, h.c1⟩, h.x0, h.x1⟩, h.w0, h.w1⟩, h.n8⟩, fun i hi => ⟨h.ok i hi, allN_iff.2 fun k hk => ?_⟩⟩
    simp only [likeB, Bool.not_eq_true', Bool.or_eq_false_iff, sameN_no, beq_eq_false_iff_ne]
    exact h.fr i k hi hk
theorem mayC_no {c : Crd} (h : ¬ MayC c) : c.mayB = false := by
  cases e : c.mayB with
  | false => rfl
  | true => exact absurd (mayC_iff.1 e) h
theorem flt_zero_iff {c : Crd} {s : ByteArray} : c.flt s = 0 ↔ MayC c ∧ nameB s = true := by
  unfold Crd.flt
  rw [← mayC_iff]
  cases c.mayB <;> cases nameB s <;> simp

/-- Lists of parts that rise: these sixteen. -/
theorem rise_cases {l : List Int} (h : riseB l = true) : l ∈ [[], [0], [1], [2], [3], [0, 1], [0, 2], [0, 3], [1, 2], [1, 3], [2, 3], [0, 1, 2], [0, 1, 3], [0, 2, 3], [1, 2, 3], [0, 1, 2, 3]] := by
  unfold riseB at h
  rw [allN_iff] at h
  have step : ∀ k, k < l.length → (if k = 0 then 0 else l.getD (k - 1) 0 + 1) ≤ l.getD k 0 ∧ l.getD k 0 ≤ 3 := fun k hk => by
    have := h k hk
    unfold okAt at this
    rwa [inR_iff] at this
  match l with
  | [] => simp
  | [a] =>
    have h0 := step 0 (by simp)
    simp at h0
    rcases (show a = 0 ∨ a = 1 ∨ a = 2 ∨ a = 3 by omega) with rfl | rfl | rfl | rfl <;> simp
  | [a, b] =>
    have h0 := step 0 (by simp)
    have h1 := step 1 (by simp)
    simp at h0 h1
    rcases (show (a = 0 ∧ b = 1) ∨ (a = 0 ∧ b = 2) ∨ (a = 0 ∧ b = 3) ∨ (a = 1 ∧ b = 2) ∨ (a = 1 ∧ b = 3) ∨ (a = 2 ∧ b = 3) by omega) with ⟨rfl, rfl⟩ | ⟨rfl, rfl⟩ | ⟨rfl, rfl⟩ | ⟨rfl, rfl⟩ | ⟨rfl, rfl⟩ | ⟨rfl, rfl⟩ <;> simp
  | [a, b, c] =>
    have h0 := step 0 (by simp)
    have h1 := step 1 (by simp)
    have h2 := step 2 (by simp)
    simp at h0 h1 h2
    rcases (show (a = 0 ∧ b = 1 ∧ c = 2) ∨ (a = 0 ∧ b = 1 ∧ c = 3) ∨ (a = 0 ∧ b = 2 ∧ c = 3) ∨ (a = 1 ∧ b = 2 ∧ c = 3) by omega) with ⟨rfl, rfl, rfl⟩ | ⟨rfl, rfl, rfl⟩ | ⟨rfl, rfl, rfl⟩ | ⟨rfl, rfl, rfl⟩ <;> simp
  | [a, b, c, d] =>
    have h0 := step 0 (by simp)
    have h1 := step 1 (by simp)
    have h2 := step 2 (by simp)
    have h3 := step 3 (by simp)
    simp at h0 h1 h2 h3
    obtain ⟨rfl, rfl, rfl, rfl⟩ : a = 0 ∧ b = 1 ∧ c = 2 ∧ d = 3 := by omega
    simp
  | a :: b :: c :: d :: e :: l =>
    have h0 := step 0 (by simp)
    have h1 := step 1 (by simp)
    have h2 := step 2 (by simp)
    have h3 := step 3 (by simp)
    have h4 := step 4 (by simp)
    simp at h0 h1 h2 h3 h4
    omega
theorem rise_of (l : List Int) (h : l ∈ [[], [0], [1], [2], [3], [0, 1], [0, 2], [0, 3], [1, 2], [1, 3], [2, 3], [0, 1, 2], [0, 1, 3], [0, 2, 3], [1, 2, 3], [0, 1, 2, 3]]) : riseB l = true := by
  simp only [List.mem_cons, List.not_mem_nil, or_false] at h
  rcases h with rfl | rfl | rfl | rfl | rfl | rfl | rfl | rfl | rfl | rfl | rfl | rfl | rfl | rfl | rfl | rfl <;> decide
theorem in03 {p : Int} (h : inR p 0 3 = true) : p = 0 ∨ p = 1 ∨ p = 2 ∨ p = 3 := by
  rw [inR_iff] at h
  omega
/-- How many are below p. -/
def below (l : List Int) (p : Int) : Nat := (l.filter (fun q => decide (q < p))).length
theorem ins_there {l : List Int} {p : Int} (h : riseB l = true) (hp : inR p 0 3 = true) (hc : l.contains p = true) : insP l p = l := by
  have := rise_cases h
  simp only [List.mem_cons, List.not_mem_nil, or_false] at this
  rcases this with rfl | rfl | rfl | rfl | rfl | rfl | rfl | rfl | rfl | rfl | rfl | rfl | rfl | rfl | rfl | rfl <;> rcases in03 hp with rfl | rfl | rfl | rfl <;> first | decide | (exfalso; revert hc; decide)
theorem ins_new {l : List Int} {p : Int} (h : riseB l = true) (hp : inR p 0 3 = true) (hc : l.contains p = false) : insP l p = l.take (below l p) ++ p :: l.drop (below l p) := by
  have := rise_cases h
  simp only [List.mem_cons, List.not_mem_nil, or_false] at this
  rcases this with rfl | rfl | rfl | rfl | rfl | rfl | rfl | rfl | rfl | rfl | rfl | rfl | rfl | rfl | rfl | rfl <;> rcases in03 hp with rfl | rfl | rfl | rfl <;> first | decide | (exfalso; revert hc; decide)
theorem ins_rise {l : List Int} {p : Int} (h : riseB l = true) (hp : inR p 0 3 = true) : riseB (insP l p) = true ∧ insP l p ≠ [] := by
  have := rise_cases h
  simp only [List.mem_cons, List.not_mem_nil, or_false] at this
  rcases this with rfl | rfl | rfl | rfl | rfl | rfl | rfl | rfl | rfl | rfl | rfl | rfl | rfl | rfl | rfl | rfl <;> rcases in03 hp with rfl | rfl | rfl | rfl <;> decide
theorem del_rise {l : List Int} (p : Int) (h : riseB l = true) : riseB (delP l p) = true := by
  have := rise_cases h
  by_cases hp : inR p 0 3 = true
  · simp only [List.mem_cons, List.not_mem_nil, or_false] at this
    rcases this with rfl | rfl | rfl | rfl | rfl | rfl | rfl | rfl | rfl | rfl | rfl | rfl | rfl | rfl | rfl | rfl <;> rcases in03 hp with rfl | rfl | rfl | rfl <;> decide
  · have e : delP l p = l := by
      unfold delP
      rw [List.filter_eq_self]
      intro q hq
      simp only [bne_iff_ne, ne_eq]
      rintro rfl
      apply hp
      simp only [List.mem_cons, List.not_mem_nil, or_false] at this
      rcases this with rfl | rfl | rfl | rfl | rfl | rfl | rfl | rfl | rfl | rfl | rfl | rfl | rfl | rfl | rfl | rfl <;> simp only [List.mem_cons, List.not_mem_nil, or_false] at hq <;> rw [inR_iff] <;> omega
    rw [e]; exact h
/-- Of numbers that rise none is there twice. -/
theorem rise_nodup {l : List Int} (h : riseB l = true) : l.Nodup := by
  have := rise_cases h
  simp only [List.mem_cons, List.not_mem_nil, or_false] at this
  rcases this with rfl | rfl | rfl | rfl | rfl | rfl | rfl | rfl | rfl | rfl | rfl | rfl | rfl | rfl | rfl | rfl <;> decide

end Go.Proofs.Ytmkbbhdmfpjfdaa
