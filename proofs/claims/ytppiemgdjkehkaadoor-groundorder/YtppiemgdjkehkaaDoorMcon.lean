/- How a constraint and a model lie in memory. Definitions and plain facts; no walk. -/
import Derived.Test.YtppiemgdjkehkaaDoorMkind
import Derived.Test.YtppiemgdjkehkaaDoorLexname
namespace Go.Proofs.YtppiemgdjkehkaaDoor
open Go.RowKit

/-- A slice, as it is handed on. -/
structure Sl where
  A : Option Addr
  n : Nat
  c : Nat
abbrev Sl.v (x : Sl) : Value := .slice x.A x.n x.c
/-- A slice of numbers. -/
structure IsInts (w : World) (x : Sl) (L : List Int) : Prop where
  len : x.n = L.length
  lies : Lies w x.A x.n (i64f L)
  big : x.n ≤ 4611686018427387903
  cap : x.n ≤ x.c
/-- A slice of slices of numbers. -/
structure IsRows (w : World) (x : Sl) (R : List (List Int)) : Prop where
  len : x.n = R.length
  big : x.n ≤ 4611686018427387903
  lies : 0 < x.n → ∃ ad, x.A = some ad ∧ ad.block < w.heap.size ∧ ∀ i, i < x.n → ∃ u : Sl, w.cell? (ad.add i) = some (.slice u.A u.n u.c) ∧ IsInts w u (R.getD i [])
theorem IsInts.below {w w' : World} {v : Sl} {L : List Int} (h : IsInts w v L) (hb : Below w.heap.size w w') : IsInts w' v L := ⟨h.len, h.lies.below hb, h.big, h.cap⟩
theorem IsRows.below {w w' : World} {v : Sl} {R : List (List Int)} (h : IsRows w v R) (hb : Below w.heap.size w w') : IsRows w' v R := by
  refine ⟨h.len, h.big, fun h0 => ?_⟩
  obtain ⟨ad, e, hl, hc⟩ := h.lies h0
  refine ⟨ad, e, Nat.lt_of_lt_of_le hl hb.size, fun i hi => ?_⟩
  obtain ⟨u, h3, h4⟩ := hc i hi
  exact ⟨u, (hb.cell (by rw [add_block]; exact hl)).trans h3, h4.below hb⟩
theorem IsInts.nil (w : World) : IsInts w ⟨none, 0, 0⟩ [] := ⟨rfl, Lies.none _ _ _, by simp, Nat.le_refl _⟩
theorem IsRows.nil (w : World) : IsRows w ⟨none, 0, 0⟩ [] := ⟨rfl, by simp, fun h => absurd h (by simp)⟩

/-- A constraint, as lists. -/
structure ConL where
  kind : Int
  A : List Int
  B : List Int
  C : List Int
  D : List Int
  E : List Int
  K : Int
  rows : List (List Int)

/-- A constraint's parts, as they are handed on. -/
structure ConV where
  a : Sl
  b : Sl
  c : Sl
  d : Sl
  e : Sl
  r : Sl
abbrev ConV.cells (v : ConV) (kind k : Int) : Array Value := #[.int .i64 kind, .slice v.a.A v.a.n v.a.c, .slice v.b.A v.b.n v.b.c, .slice v.c.A v.c.n v.c.c, .slice v.d.A v.d.n v.d.c, .slice v.e.A v.e.n v.e.c, .int .i64 k, .slice v.r.A v.r.n v.r.c]
abbrev ConV.val (v : ConV) (kind k : Int) : Value := .agg #[.int .i64 kind, .slice v.a.A v.a.n v.a.c, .slice v.b.A v.b.n v.b.c, .slice v.c.A v.c.n v.c.c, .slice v.d.A v.d.n v.d.c, .slice v.e.A v.e.n v.e.c, .int .i64 k, .slice v.r.A v.r.n v.r.c]
structure ConIn (w : World) (v : ConV) (l : ConL) : Prop where
  a : IsInts w v.a l.A
  b : IsInts w v.b l.B
  c : IsInts w v.c l.C
  d : IsInts w v.d l.D
  e : IsInts w v.e l.E
  r : IsRows w v.r l.rows
theorem ConIn.below {w w' : World} {v : ConV} {c : ConL} (h : ConIn w v c) (hb : Below w.heap.size w w') : ConIn w' v c :=
  ⟨h.a.below hb, h.b.below hb, h.c.below hb, h.d.below hb, h.e.below hb, h.r.below hb⟩
/-- A constraint's value. -/
def IsCon (w : World) (x : Value) (c : ConL) : Prop := ∃ v : ConV, x = v.val c.kind c.K ∧ ConIn w v c
theorem IsCon.below {w w' : World} {x : Value} {c : ConL} (h : IsCon w x c) (hb : Below w.heap.size w w') : IsCon w' x c := by
  obtain ⟨v, e, h1⟩ := h
  exact ⟨v, e, h1.below hb⟩
end Go.Proofs.YtppiemgdjkehkaaDoor
