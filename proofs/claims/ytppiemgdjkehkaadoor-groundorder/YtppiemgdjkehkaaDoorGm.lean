/- Whether a constraint holds of values. No walk. -/
import Derived.Test.YtppiemgdjkehkaaDoorMright
namespace Go.Proofs.YtppiemgdjkehkaaDoor
open Go.RowKit

def atE (a : List Int) (v : Int) : Int := a.getD v.toNat 0
/-- The values of variables. -/
def valsE (l a : List Int) : List Int := l.map (atE a)
def sumN (f : Nat → Int) : Nat → Int
  | 0 => 0
  | k + 1 => sumN f k + f k
def noneN (p : Nat → Bool) (n : Nat) : Bool := !(List.range n).any p
def justB (b : Int) (so : Bool) : Bool := if so then b == 1 else b == 0
def placeB (v n : Int) : Bool := decide (1 ≤ v) && decide (v ≤ n)
def linB (c : ConL) (t : Int) (y : List Int) : Bool :=
  if c.kind = 1 then t == c.K else if c.kind = 2 then decide (t ≤ c.K) else if c.kind = 3 then t != c.K else justB (y.getD 0 0) (decide (t ≤ c.K))
def dotE (C x : List Int) : Int := sumN (fun i => C.getD i 0 * x.getD i 0) C.length
def worksB (k : Int) (x : List Int) : Bool :=
  if k = 5 then x.getD 0 0 * x.getD 1 0 == x.getD 2 0
  else if k = 6 then x.getD 1 0 != 0 && (x.getD 0 0).tdiv (x.getD 1 0) == x.getD 2 0
  else if k = 7 then x.getD 1 0 != 0 && (x.getD 0 0).tmod (x.getD 1 0) == x.getD 2 0
  else if k = 8 then max (x.getD 0 0) (-(x.getD 0 0)) == x.getD 1 0
  else if k = 9 then min (x.getD 0 0) (x.getD 1 0) == x.getD 2 0
  else max (x.getD 0 0) (x.getD 1 0) == x.getD 2 0
def toldB (k K x b : Int) : Bool :=
  if k = 13 then justB b (x == K) else if k = 14 then justB b (decide (x ≤ K))
  else if k = 15 then b == 0 || b == 1 && x == K else b == 0 || b == 1 && decide (x ≤ K)
def needF (c : ConL) (x : List Int) (t : Int) (i : Nat) : Int := if decide (x.getD i 0 ≤ t) && decide (t < x.getD i 0 + c.C.getD i 0) then c.D.getD i 0 else 0
def needE (c : ConL) (x : List Int) (t : Int) : Int := sumN (needF c x t) x.length
/-- The places gone through: so many steps are left, so many done. -/
def roundF (x : List Int) : Nat → Nat → Int → Bool
  | 0, _, _ => false
  | k + 1, s, at_ => if placeB (atE x (at_ - 1)) x.length = false then false else if atE x (at_ - 1) = 1 then s + 1 == x.length else roundF x k (s + 1) (atE x (at_ - 1))
def countE (x : List Int) (v : Int) : Int := sumN (fun i => if x.getD i 0 == v then 1 else 0) x.length
def lexB : List Int → List Int → Bool
  | [], _ => true
  | _ :: _, [] => false
  | a :: s, b :: t => if a < b then true else if b < a then false else lexB s t
def backB (x y : List Int) (i : Nat) : Bool := placeB (x.getD i 0) y.length && atE y (x.getD i 0 - 1) == (i : Int) + 1
def diffP (x : List Int) (i : Nat) : Bool := (x.take i).any (· == x.getD i 0)
def cumP (c : ConL) (x : List Int) (i : Nat) : Bool := decide (c.K < needE c x (x.getD i 0))
def gccP (c : ConL) (x : List Int) (i : Nat) : Bool := decide (countE x (c.C.getD i 0) < c.D.getD i 0) || decide (c.E.getD i 0 < countE x (c.C.getD i 0))
def invP (x y : List Int) (i : Nat) : Bool := !backB x y i || !backB y x i
/-- Does what a kind says hold of the values of A and B? -/
def meetsB (c : ConL) (x y : List Int) : Bool :=
  if 1 ≤ c.kind ∧ c.kind ≤ 4 then linB c (dotE c.C x) y
  else if 5 ≤ c.kind ∧ c.kind ≤ 10 then worksB c.kind x
  else if c.kind = 11 then placeB (x.getD 0 0) c.C.length && atE c.C (x.getD 0 0 - 1) == x.getD 1 0
  else if c.kind = 12 then x.any (· == 1) || y.any (· == 0)
  else if 13 ≤ c.kind ∧ c.kind ≤ 16 then toldB c.kind c.K (x.getD 0 0) (y.getD 0 0)
  else if c.kind = 17 then noneN (diffP x) x.length
  else if c.kind = 18 then c.rows.any (fun r => r == x)
  else if c.kind = 19 then noneN (cumP c x) x.length
  else if c.kind = 20 then roundF x x.length 0 1
  else if c.kind = 21 then noneN (gccP c x) c.C.length
  else if c.kind = 22 then lexB x y
  else if c.kind = 23 then noneN (invP x y) x.length
  else false
def holdsB (c : ConL) (a : List Int) : Bool := rightE c (a.length : Nat) == 0 && meetsB c (valsE c.A a) (valsE c.B a)
/-- What Holds tells. -/
def holdsE (c : ConL) (a : List Int) : Bool := !a.any (outB (-1000000) 1000000) && holdsB c a

/-! What a constraint that may be has, kind by kind. -/
structure ConR (n : Nat) (c : ConL) : Prop where
  k1 : 1 ≤ c.kind
  k23 : c.kind ≤ 23
  pa : ∀ v ∈ c.A, 0 ≤ v ∧ v < (n : Int)
  pb : ∀ v ∈ c.B, 0 ≤ v ∧ v < (n : Int)
  pc : ∀ v ∈ c.C, -1000000 ≤ v ∧ v ≤ 1000000
  pd : ∀ v ∈ c.D, 0 ≤ v ∧ v ≤ 1000000
  a64 : c.A.length ≤ 64
  a1 : c.kind ≠ 12 → 1 ≤ c.A.length
  b64 : c.B.length ≤ 64
  lin : c.kind ≤ 4 → c.C.length = c.A.length
  reif : c.kind = 4 → c.B.length = 1
  three : 5 ≤ c.kind → c.kind ≤ 10 → c.kind ≠ 8 → c.A.length = 3
  two : c.kind = 8 ∨ c.kind = 11 → c.A.length = 2
  c64 : c.C.length ≤ 64
  c11 : c.kind = 11 → 1 ≤ c.C.length
  told : 13 ≤ c.kind → c.kind ≤ 16 → c.A.length = 1 ∧ c.B.length = 1
  cum : c.kind = 19 → c.C.length = c.A.length ∧ c.D.length = c.A.length
  gcc : c.kind = 21 → c.D.length = c.C.length ∧ c.E.length = c.C.length
  pair : 22 ≤ c.kind → c.B.length = c.A.length
  rows : c.kind = 18 → ∀ r ∈ c.rows, r.length = c.A.length
end Go.Proofs.YtppiemgdjkehkaaDoor
