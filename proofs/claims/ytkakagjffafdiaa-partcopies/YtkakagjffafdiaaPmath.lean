/-
  Parts as plain data: replicas, who keeps up, what is known; what the document's chapter 4 answers.
-/
import Derived.Test.YtkakagjffafdiaaSmath
import Derived.Test.YtkakagjffafdiaaVstb
import Derived.Test.YtkakagjffafdiaaQmath
namespace Go.Proofs.Ytkakagjffafdiaa
open Go.RowKit
set_option linter.unusedVariables false

/-- A replica: whether it is up, its log's bytes, how many are safe, its High. -/
structure Rep where
  up : Bool
  l : List Int
  y : Int
  h : Int
/-- A part. -/
structure Prt where
  ep : Int
  ld : Int
  isr : List Bool
  kn : List Int
  rs : List Rep
  fw : Int
  bs : Int
def Rep.zero : Rep := ⟨false, [], 0, 0⟩
def Prt.zero : Prt := ⟨0, 0, [], [], [], 0, 0⟩
/-- Its entries. -/
def Rep.es (r : Rep) : List Ent := (decL r.l).1
/-- How many of them are safe. -/
def Rep.safe (r : Rep) : Nat := (decL (r.l.take r.y.toNat)).1.length
def Prt.at (p : Prt) (i : Nat) : Rep := p.rs.getD i Rep.zero
/-- May the replica be, with what is known of it? -/
def Rep.okB (r : Rep) (k : Int) : Bool := lft r.l r.y == 0 && inR r.h 0 r.es.length && inR k 0 400
/-- The first j replicas may be. -/
def Prt.oks (p : Prt) : Nat → Bool
  | 0 => true
  | j + 1 => p.oks j && (p.at j).okB (p.kn.getD j 0)
/-- One of the first j keeps up. -/
def Prt.some (p : Prt) : Nat → Bool
  | 0 => false
  | j + 1 => p.some j || p.isr.getD j false
/-- May the part be (P4.2)? -/
def Prt.formB (p : Prt) : Bool :=
  inR p.rs.length 1 5 && p.isr.length == p.rs.length && p.kn.length == p.rs.length && inR p.fw 1 p.rs.length && inR p.ep 0 1073741824 && inR p.ld (-1) ((p.rs.length : Int) - 1) && inR p.bs 0 400
def Prt.ledB (p : Prt) : Bool := decide (p.ld < 0) || (p.isr.getD p.ld.toNat false && (p.at p.ld.toNat).up)
def Prt.mayB (p : Prt) : Bool := p.formB && p.oks p.rs.length && p.ledB && p.some p.rs.length
/-- What is refused ahead of all else, where a replica is named. -/
def Prt.flt (p : Prt) (r : Int) : Int := if p.mayB then (if inR r 0 ((p.rs.length : Int) - 1) then 0 else 5) else 12
/-- The least that is known of the first j that keep up, and n. -/
def Prt.low (p : Prt) (n : Int) : Nat → Int
  | 0 => n
  | j + 1 => if p.isr.getD j false = true ∧ p.kn.getD j 0 < p.low n j then p.kn.getD j 0 else p.low n j
def Prt.setR (p : Prt) (i : Nat) (f : Rep → Rep) : Prt := { p with rs := p.rs.modify i f }
/-- P4.3. -/
def Prt.raised (p : Prt) : Prt :=
  if p.ld < 0 then p
  else if (p.at p.ld.toNat).h < p.low (p.at p.ld.toNat).es.length p.isr.length then p.setR p.ld.toNat (fun r => { r with h := p.low (p.at p.ld.toNat).es.length p.isr.length })
  else p
/-- P4.1. -/
def newP (n few : Int) : Prt × Int :=
  if inR n 1 5 && inR few 1 n then (⟨0, -1, List.replicate n.toNat true, List.replicate n.toNat 0, List.replicate n.toNat ⟨true, [], 0, 0⟩, few, 0⟩, 0) else (Prt.zero, 2)
/-- P4.5. -/
def Prt.syncP (p : Prt) (r : Int) : Prt × Int :=
  if p.flt r ≠ 0 then (Prt.zero, p.flt r)
  else if (p.at r.toNat).up = false then (Prt.zero, 7)
  else if r = p.ld then ({ p.setR r.toNat (fun x => { x with y := x.l.length }) with kn := p.kn.set r.toNat (p.at r.toNat).es.length }.raised, 0)
  else (p.setR r.toNat (fun x => { x with y := x.l.length }), 0)
/-- P4.7. -/
def Prt.riseP (p : Prt) (r : Int) : Prt × Int :=
  if p.flt r ≠ 0 then (Prt.zero, p.flt r)
  else if (p.at r.toNat).up = true then (Prt.zero, 6)
  else (p.setR r.toNat (fun x => { x with up := true }), 0)
/-- Another one than r, of the first j, keeps up. -/
def Prt.other (p : Prt) (r : Int) : Nat → Bool
  | 0 => false
  | j + 1 => p.other r j || (decide ((j : Int) ≠ r) && p.isr.getD j false)
/-- P4.8. -/
def Prt.wipeP (p : Prt) (r : Int) : Prt × Int :=
  if p.flt r ≠ 0 then (Prt.zero, p.flt r)
  else if (p.at r.toNat).up = true then (Prt.zero, 12)
  else if p.other r p.isr.length = false then (Prt.zero, 8)
  else ({ p.setR r.toNat (fun _ => Rep.zero) with kn := p.kn.set r.toNat 0, isr := p.isr.set r.toNat false }, 0)
/-- P4.9. -/
def Prt.electP (p : Prt) (r : Int) : Prt × Int :=
  if p.flt r ≠ 0 then (Prt.zero, p.flt r)
  else if (p.at r.toNat).up = false then (Prt.zero, 7)
  else if p.isr.getD r.toNat false = false then (Prt.zero, 13)
  else if p.ld = r then (Prt.zero, 6)
  else if p.ep = 1073741824 then (Prt.zero, 2)
  else ({ p with ep := p.ep + 1, ld := r, kn := (List.replicate p.kn.length 0).set r.toNat (p.at r.toNat).safe, bs := (p.at r.toNat).es.length }.raised, 0)
def Prt.ofl (p : Prt) (r : Int) : Int := if p.flt r ≠ 0 then p.flt r else if p.ld < 0 ∨ p.ld = r then 8 else 0
/-- P4.10. -/
def Prt.shrinkP (p : Prt) (r : Int) : Prt × Int :=
  if p.ofl r ≠ 0 then (Prt.zero, p.ofl r)
  else if p.isr.getD r.toNat false = false then (Prt.zero, 13)
  else ({ p with isr := p.isr.set r.toNat false }.raised, 0)
def Prt.expandP (p : Prt) (r : Int) : Prt × Int :=
  if p.ofl r ≠ 0 then (Prt.zero, p.ofl r)
  else if p.isr.getD r.toNat false = true then (Prt.zero, 6)
  else if (p.at r.toNat).up = false then (Prt.zero, 7)
  else if p.kn.getD r.toNat 0 < p.bs ∨ p.kn.getD r.toNat 0 < (p.at p.ld.toNat).h then (Prt.zero, 13)
  else ({ p with isr := p.isr.set r.toNat true }, 0)

/-- Of the first j so many keep up and are up. -/
def Prt.ups (p : Prt) : Nat → Nat
  | 0 => 0
  | j + 1 => p.ups j + if p.isr.getD j false = true ∧ (p.at j).up = true then 1 else 0
/-- An entry with the part's Epoch. -/
def Prt.ent (p : Prt) (x : Ent) : Ent := { x with a := p.ep }
/-- What seg's Append refuses (P2.3). -/
def appF (l : List Int) (y : Int) (x : Ent) : Int :=
  if lft l y ≠ 0 then lft l y
  else if x.flt ≠ 0 then x.flt
  else if 400 ≤ (decL l).1.length ∨ 40000 < l.length + x.enc.length then 16
  else 0
/-- P4.4. -/
def Prt.putP (p : Prt) (x : Ent) : Prt × Int × Int :=
  if p.mayB = false then (Prt.zero, 0, 12)
  else if p.ld < 0 then (Prt.zero, 0, 8)
  else if (p.ent x).flt ≠ 0 then (Prt.zero, 0, (p.ent x).flt)
  else if (chk (p.at p.ld.toNat).es (p.ent x)).2 ≠ 0 then (Prt.zero, 0, (chk (p.at p.ld.toNat).es (p.ent x)).2)
  else if 0 ≤ (chk (p.at p.ld.toNat).es (p.ent x)).1 then (p, (chk (p.at p.ld.toNat).es (p.ent x)).1, 0)
  else if (p.ups p.isr.length : Int) < p.fw then (Prt.zero, 0, 9)
  else if appF (p.at p.ld.toNat).l (p.at p.ld.toNat).y (p.ent x) ≠ 0 then (Prt.zero, 0, appF (p.at p.ld.toNat).l (p.at p.ld.toNat).y (p.ent x))
  else (p.setR p.ld.toNat (fun r => { r with l := r.l ++ (p.ent x).enc }), (p.at p.ld.toNat).es.length, 0)
/-- How much of a log that is cut to n entries is safe. -/
def cutS (l : List Int) (y : Int) (n : Nat) : Int := if y ≤ (endOf (decL l).1 n : Int) then y else endOf (decL l).1 n
/-- A replica's log, cut to what is as the leader's; of these the safe ones are known; High rises. -/
def Prt.met (p : Prt) (r n : Nat) : Prt :=
  { p.setR r (fun x => { x with l := x.l.take (endOf x.es n), y := cutS x.l x.y n }) with kn := p.kn.set r (Rep.safe ⟨false, (p.at r).l.take (endOf (p.at r).es n), cutS (p.at r).l (p.at r).y n, 0⟩) }.raised
/-- P4.6. -/
def Prt.fetchP (p : Prt) (r : Int) : Prt × Int × Int :=
  if p.flt r ≠ 0 then (Prt.zero, 0, p.flt r)
  else if p.ld < 0 ∨ p.ld = r then (Prt.zero, 0, 8)
  else if (p.at r.toNat).up = false then (Prt.zero, 0, 7)
  else
    let d := p.ld.toNat
    let n := com (p.at r.toNat).es (p.at d).es
    let q := p.met r.toNat n
    let x := Ent.at (p.at d).es n
    let came := if n < (p.at d).es.length ∧ appF (q.at r.toNat).l (q.at r.toNat).y x = 0 then 1 else 0
    (q.setR r.toNat (fun z => { z with l := if came = 1 then z.l ++ x.enc else z.l, h := min (max (p.at r.toNat).h (q.at d).h) ((n + came : Nat) : Int) }), came, 0)
/-- What seg's Crash refuses (P2.5). -/
def crashF (l : List Int) (y k : Int) : Int := if lft l y ≠ 0 then lft l y else if k < 0 then 2 else 0
/-- How many bytes stay. -/
def stayOf (l : List Int) (y k : Int) : Nat := (decL (l.take (if k < (l.length : Int) - y then (y + k).toNat else l.length))).2
/-- P4.7. -/
def Prt.crashP (p : Prt) (r k : Int) : Prt × Int :=
  if p.flt r ≠ 0 then (Prt.zero, p.flt r)
  else if (p.at r.toNat).up = false then (Prt.zero, 7)
  else if crashF (p.at r.toNat).l (p.at r.toNat).y k ≠ 0 then (Prt.zero, crashF (p.at r.toNat).l (p.at r.toNat).y k)
  else ({ p.setR r.toNat (fun x => ⟨false, x.l.take (stayOf x.l x.y k), stayOf x.l x.y k, min x.h (decL (x.l.take (stayOf x.l x.y k))).1.length⟩) with kn := p.kn.set r.toNat 0, ld := if p.ld = r then -1 else p.ld }, 0)

end Go.Proofs.Ytkakagjffafdiaa
