/- A constraint that the document's Make is making: its box, its rows. No walk. -/
import Derived.Test.YtkhmocbfkpbpfaaGreatDoorMkp
import Derived.Test.YtkhmocbfkpbpfaaGreatDoorMshapes
import Derived.Test.YtkhmocbfkpbpfaaGreatDoorMulp
import Derived.Test.YtkhmocbfkpbpfaaGreatDoorLay00
namespace Go.Proofs.YtkhmocbfkpbpfaaGreatDoor
open Go.RowKit Go.Sort

/-- All blocks but one stay. -/
structure Kp (G : Nat) (a b : World) : Prop where
  os : b.os = a.os
  tape : b.tape = a.tape
  output : b.output = a.output
  size : a.heap.size ≤ b.heap.size
  block : ∀ k, k < a.heap.size → k ≠ G → b.heap[k]? = a.heap[k]?
theorem Kp.refl (G : Nat) (a : World) : Kp G a a := ⟨rfl, rfl, rfl, Nat.le_refl _, fun _ _ _ => rfl⟩
theorem Kp.trans {G : Nat} {a b c : World} (h : Kp G a b) (k : Kp G b c) : Kp G a c :=
  ⟨k.os.trans h.os, k.tape.trans h.tape, k.output.trans h.output, Nat.le_trans h.size k.size, fun i hi hS => (k.block i (Nat.lt_of_lt_of_le hi h.size) hS).trans (h.block i hi hS)⟩
theorem Kp.of_below {G : Nat} {a b : World} (h : Below a.heap.size a b) : Kp G a b := ⟨h.os, h.tape, h.output, h.size, fun k hk _ => h.block k hk⟩
theorem Kp.drew {G : Nat} {a b : World} (h : Kp G a b) : Kp G a b.drew := ⟨h.os, h.tape, h.output, h.size, h.block⟩
theorem Kp.alloc {G : Nat} {a b : World} (h : Kp G a b) (o : Obj) : Kp G a (b.alloc o) := h.trans (Kp.of_below ((Below.refl _ _).alloc (Nat.le_refl _) o))
theorem Kp.put {G : Nat} {a b : World} (h : Kp G a b) (j : Nat) (u : Value) : Kp G a (b.setCell ⟨G, j, none⟩ u) :=
  h.trans ⟨rfl, rfl, rfl, by simp [World.setCell], fun k _ hk => Below.heap_setCell _ _ _ _ hk⟩
theorem Kp.grown {G : Nat} {a b c : World} {row : Option Nat} (h : Kp G a b) (hg : b.grownBy c row) (hr : ∀ k, row = some k → a.heap.size ≤ k) : Kp G a c :=
  ⟨hg.os.trans h.os, hg.tape.trans h.tape, hg.output.trans h.output, Nat.le_trans h.size hg.size, fun k hk hk' => (hg.block k (Nat.lt_of_lt_of_le hk h.size) (fun e => by have := hr k e.symm; omega)).trans (h.block k hk hk')⟩
theorem Kp.below {G b : Nat} {a c : World} (h : Kp G a c) (hb : b ≤ a.heap.size) (hG : b ≤ G) : Below b a c := ⟨h.os, h.tape, h.output, h.size, fun k hk => h.block k (by omega) (by omega)⟩
theorem box_put {W : World} {G j : Nat} {u : Array Value} {t : TypeId} {x : Value} (h : W.heap[G]? = some (.cells u t (0, 0))) : (W.setCell ⟨G, j, none⟩ x).heap[G]? = some (.cells (u.setIfInBounds j x) t (0, 0)) := by
  simp [World.setCell, Array.getElem?_modify, h]
theorem box_cell {W : World} {G j : Nat} {u : Array Value} {t : TypeId} {x : Value} (h : W.heap[G]? = some (.cells u t (0, 0))) (hx : u[j]? = some x) : W.cell? ⟨G, j, none⟩ = some x := by
  unfold World.cell?
  rw [h]
  exact hx
theorem box_free {W : World} {G : Nat} {u : Array Value} {t : TypeId} (h : W.heap[G]? = some (.cells u t (0, 0))) (j : Nat) : W.frozen? ⟨G, j, none⟩ = false := by
  unfold World.frozen?; rw [h]; simp
theorem own_type {w : World} {base : Nat} {e : TypeId} {size n : Nat} {v : Value} {xs : List Value} (h : w.ownsRow base e size v n xs) {k : Nat} (hk : v.ownBlock = some k) : ∃ cur, w.heap[k]? = some (.cells cur e (0, 0)) := by
  rcases h.2 with ⟨rfl, -⟩ | ⟨g, cap, cur, rfl, hb, hg, hn, hm, hs, ht⟩
  · cases hk
  · obtain rfl : g = k := by simpa [Value.ownBlock] using hk
    exact ⟨cur, hg⟩
theorem own_lt' {w : World} {base : Nat} {e : TypeId} {size : Nat} {v : Value} {n : Nat} {xs : List Value} (h : w.ownsRow base e size v n xs) {g : Nat} (hg : v.ownBlock = some g) : base ≤ g ∧ g < w.heap.size := by
  refine ⟨own_ge h g hg, ?_⟩
  obtain ⟨cur, hc⟩ := own_type h hg
  exact (Array.getElem?_eq_some_iff.1 hc).1
theorem own_keep' {w w' : World} {base : Nat} {e : TypeId} {size : Nat} {v : Value} {n : Nat} {xs : List Value} (h : w.ownsRow base e size v n xs) (hk : ∀ g, v.ownBlock = some g → w'.heap[g]? = w.heap[g]?) : w'.ownsRow base e size v n xs := by
  obtain ⟨h1, h2⟩ := h
  refine ⟨h1, ?_⟩
  rcases h2 with h2 | ⟨g, cap, cur, e, hg, hh, r⟩
  · exact .inl h2
  · exact .inr ⟨g, cap, cur, e, hg, (hk g (by rw [e]; rfl)).trans hh, r⟩
theorem Row3.kp {G b : Nat} {W W' : World} {y : Sl} {L : List Int} (h : Row3 W b y L) (k : Kp G W W') (hG : G < b) : Row3 W' b y L :=
  own_keep' h fun g hg => by have := own_lt' h hg; exact k.block g this.2 (by omega)
theorem Row3.base {b b' : Nat} {W : World} {y : Sl} {L : List Int} (h : Row3 W b y L) (hb : b' ≤ b) : Row3 W b' y L := own_base h hb

/-- Rows of one's own. -/
def RowsP (W : World) (b : Nat) (y : Sl) (R : List (List Int)) : Prop :=
  ∃ xs : List Sl, xs.length = R.length ∧ W.ownsRow b 30 1 (.slice y.A y.n y.c) R.length (xs.map fun x => Value.slice x.A x.n x.c) ∧ ∀ (k : Nat) (x : Sl) (r : List Int), xs[k]? = some x → R[k]? = some r → Row3 W b x r
theorem RowsP.nil (W : World) (b : Nat) : RowsP W b ⟨none, 0, 0⟩ [] := ⟨[], rfl, World.ownsRow_nil _ _ _ _, fun k x r h => by cases h⟩
theorem RowsP.kp {G b : Nat} {W W' : World} {y : Sl} {R : List (List Int)} (h : RowsP W b y R) (k : Kp G W W') (hG : G < b) : RowsP W' b y R := by
  obtain ⟨xs, hl, hO, hR⟩ := h
  exact ⟨xs, hl, own_keep' hO fun g hg => by have := own_lt' hO hg; exact k.block g this.2 (by omega), fun i x r h1 h2 => (hR i x r h1 h2).kp k hG⟩

/-- The rows of a constraint that is being made. -/
structure MkR (q : Nat) (W : World) (v : ConV) (l : ConL) : Prop where
  a : Row3 W q v.a l.A
  b : Row3 W q v.b l.B
  c : Row3 W q v.c l.C
  d : Row3 W q v.d l.D
  e : Row3 W q v.e l.E
  r : RowsP W q v.r l.rows
theorem MkR.kp {G b : Nat} {W W' : World} {v : ConV} {c : ConL} (h : MkR b W v c) (k : Kp G W W') (hG : G < b) : MkR b W' v c :=
  ⟨h.a.kp k hG, h.b.kp k hG, h.c.kp k hG, h.d.kp k hG, h.e.kp k hG, h.r.kp k hG⟩
def noV : ConV := ⟨⟨none, 0, 0⟩, ⟨none, 0, 0⟩, ⟨none, 0, 0⟩, ⟨none, 0, 0⟩, ⟨none, 0, 0⟩, ⟨none, 0, 0⟩⟩
abbrev bareC (kd : Int) : ConL := ⟨kd, [], [], [], [], [], 0, []⟩
theorem MkR.none (q : Nat) (W : World) (kd : Int) : MkR q W noV (bareC kd) := ⟨Row3.nil _ _, Row3.nil _ _, Row3.nil _ _, Row3.nil _ _, Row3.nil _ _, RowsP.nil _ _⟩

/-- The boxes: what comes in, what is handed back, what is being made. -/
structure MkB (w : World) (z o u : Array Value) (W : World) : Prop where
  low : Below w.heap.size w W
  zb : W.heap[w.heap.size]? = some (.cells z 26 (0, 0))
  ob : W.heap[w.heap.size + 1]? = some (.cells o 32 (0, 0))
  cb : W.heap[w.heap.size + 1 + 1]? = some (.cells u 32 (0, 0))
theorem MkB.size {w : World} {z o u : Array Value} {W : World} (h : MkB w z o u W) : w.heap.size + 1 + 1 + 1 ≤ W.heap.size := (Array.getElem?_eq_some_iff.1 h.cb).1
theorem MkB.kp {w : World} {z o u u' : Array Value} {W W' : World} (h : MkB w z o u W) (k : Kp (w.heap.size + 1 + 1) W W') (hb : W'.heap[w.heap.size + 1 + 1]? = some (.cells u' 32 (0, 0))) : MkB w z o u' W' := by
  have hs := h.size
  exact ⟨h.low.trans (k.below (by omega) (by omega)), (k.block _ (by omega) (by omega)).trans h.zb, (k.block _ (by omega) (by omega)).trans h.ob, hb⟩
theorem MkB.below {w : World} {z o u : Array Value} {W W' : World} (h : MkB w z o u W) (k : Below W.heap.size W W') : MkB w z o u W' :=
  h.kp (Kp.of_below k) ((k.block _ (by have := h.size; omega)).trans h.cb)
/-- What is being made. -/
structure Mk (w : World) (z o : Array Value) (W : World) (v : ConV) (c : ConL) : Prop where
  box : MkB w z o (v.cells c.kind c.K) W
  rows : MkR (w.heap.size + 1 + 1 + 1) W v c
theorem Mk.below {w : World} {z o : Array Value} {W W' : World} {v : ConV} {c : ConL} (h : Mk w z o W v c) (k : Below W.heap.size W W') : Mk w z o W' v c :=
  ⟨h.box.below k, h.rows.kp (Kp.of_below (G := w.heap.size) k) (by omega)⟩
theorem Mk.put {w : World} {z o : Array Value} {W : World} {v v' : ConV} {c c' : ConL} (h : Mk w z o W v c) (j : Nat) (x : Value) (he : (v.cells c.kind c.K).setIfInBounds j x = v'.cells c'.kind c'.K) (hr : MkR (w.heap.size + 1 + 1 + 1) W v' c') :
    Mk w z o (W.setCell ⟨w.heap.size + 1 + 1, j, none⟩ x) v' c' :=
  ⟨h.box.kp ((Kp.refl _ _).put j x) (by rw [← he]; exact box_put h.box.cb), hr.kp ((Kp.refl (w.heap.size + 1 + 1) W).put j x) (by omega)⟩
section
variable {w : World} {z o : Array Value} {W : World} {v : ConV} {c : ConL}
theorem Mk.setA (h : Mk w z o W v c) {x : Sl} {l : List Int} (hx : Row3 W (w.heap.size + 1 + 1 + 1) x l) : Mk w z o (W.setCell ⟨w.heap.size + 1 + 1, 1, none⟩ (.slice x.A x.n x.c)) { v with a := x } { c with A := l } :=
  h.put 1 _ rfl ⟨hx, h.rows.b, h.rows.c, h.rows.d, h.rows.e, h.rows.r⟩
theorem Mk.setB (h : Mk w z o W v c) {x : Sl} {l : List Int} (hx : Row3 W (w.heap.size + 1 + 1 + 1) x l) : Mk w z o (W.setCell ⟨w.heap.size + 1 + 1, 2, none⟩ (.slice x.A x.n x.c)) { v with b := x } { c with B := l } :=
  h.put 2 _ rfl ⟨h.rows.a, hx, h.rows.c, h.rows.d, h.rows.e, h.rows.r⟩
theorem Mk.setC (h : Mk w z o W v c) {x : Sl} {l : List Int} (hx : Row3 W (w.heap.size + 1 + 1 + 1) x l) : Mk w z o (W.setCell ⟨w.heap.size + 1 + 1, 3, none⟩ (.slice x.A x.n x.c)) { v with c := x } { c with C := l } :=
  h.put 3 _ rfl ⟨h.rows.a, h.rows.b, hx, h.rows.d, h.rows.e, h.rows.r⟩
theorem Mk.setD (h : Mk w z o W v c) {x : Sl} {l : List Int} (hx : Row3 W (w.heap.size + 1 + 1 + 1) x l) : Mk w z o (W.setCell ⟨w.heap.size + 1 + 1, 4, none⟩ (.slice x.A x.n x.c)) { v with d := x } { c with D := l } :=
  h.put 4 _ rfl ⟨h.rows.a, h.rows.b, h.rows.c, hx, h.rows.e, h.rows.r⟩
theorem Mk.setE (h : Mk w z o W v c) {x : Sl} {l : List Int} (hx : Row3 W (w.heap.size + 1 + 1 + 1) x l) : Mk w z o (W.setCell ⟨w.heap.size + 1 + 1, 5, none⟩ (.slice x.A x.n x.c)) { v with e := x } { c with E := l } :=
  h.put 5 _ rfl ⟨h.rows.a, h.rows.b, h.rows.c, h.rows.d, hx, h.rows.r⟩
theorem Mk.setK (h : Mk w z o W v c) (k : Int) : Mk w z o (W.setCell ⟨w.heap.size + 1 + 1, 6, none⟩ (.int .i64 k)) v { c with K := k } :=
  h.put 6 _ rfl ⟨h.rows.a, h.rows.b, h.rows.c, h.rows.d, h.rows.e, h.rows.r⟩
theorem Mk.setR (h : Mk w z o W v c) {x : Sl} {l : List (List Int)} (hx : RowsP W (w.heap.size + 1 + 1 + 1) x l) : Mk w z o (W.setCell ⟨w.heap.size + 1 + 1, 7, none⟩ (.slice x.A x.n x.c)) { v with r := x } { c with rows := l } :=
  h.put 7 _ rfl ⟨h.rows.a, h.rows.b, h.rows.c, h.rows.d, h.rows.e, hx⟩
theorem Mk.cells (h : Mk w z o W v c) (j : Nat) {x : Value} (hx : (v.cells c.kind c.K)[j]? = some x) : W.cell? ⟨w.heap.size + 1 + 1, j, none⟩ = some x := box_cell h.box.cb hx
theorem Mk.free (h : Mk w z o W v c) (j : Nat) : W.frozen? ⟨w.heap.size + 1 + 1, j, none⟩ = false := box_free h.box.cb j
theorem Mk.zcell (h : Mk w z o W v c) (j : Nat) {x : Value} (hx : z[j]? = some x) : W.cell? ⟨w.heap.size, j, none⟩ = some x := box_cell h.box.zb hx
theorem Mk.ocell (h : Mk w z o W v c) (j : Nat) {x : Value} (hx : o[j]? = some x) : W.cell? ⟨w.heap.size + 1, j, none⟩ = some x := box_cell h.box.ob hx
theorem Mk.ofree (h : Mk w z o W v c) (j : Nat) : W.frozen? ⟨w.heap.size + 1, j, none⟩ = false := box_free h.box.ob j
theorem Mk.size (h : Mk w z o W v c) : w.heap.size + 1 + 1 + 1 ≤ W.heap.size := h.box.size
end
/-- What was made lies in memory. -/
theorem MkR.con {b : Nat} {W : World} {v : ConV} {c : ConL} (h : MkR b W v c) (ha : c.A.length ≤ 1000000) (hb : c.B.length ≤ 1000000) (hc : c.C.length ≤ 1000000) (hd : c.D.length ≤ 1000000) (he : c.E.length ≤ 1000000) (hr : c.rows.length ≤ 1000000) (hrr : ∀ r ∈ c.rows, r.length ≤ 1000000) : ConIn W v c := by
  have I3 : ∀ {y : Sl} {zs : List Int}, Row3 W b y zs → zs.length ≤ 1000000 → IsInts W y zs := fun {y zs} h hs => by
    obtain ⟨A, n, k⟩ := y
    obtain ⟨A', c', e, hL, hc⟩ := own_lies h
    simp only [Value.slice.injEq] at e
    obtain ⟨rfl, rfl, rfl⟩ := e
    exact ⟨rfl, hL, by simp only; omega, hc⟩
  refine ⟨I3 h.a ha, I3 h.b hb, I3 h.c hc, I3 h.d hd, I3 h.e he, ?_⟩
  obtain ⟨xs, hl, hO, hR⟩ := h.r
  obtain ⟨⟨A, n, k⟩, hy⟩ : ∃ y, v.r = y := ⟨_, rfl⟩
  rw [hy] at hO ⊢
  simp only at hO
  obtain ⟨A', c', e⟩ := slice_row hO
  simp only [Value.slice.injEq] at e
  obtain ⟨rfl, rfl, rfl⟩ := e
  refine ⟨rfl, by simp only; omega, fun h0 => ?_⟩
  simp only at h0 ⊢
  rcases hO.2 with ⟨e, h2⟩ | ⟨g, cap, cur, e, hb, hg, hn, hm, hs, ht⟩
  · omega
  · simp only [Value.slice.injEq] at e
    obtain ⟨rfl, -, rfl⟩ := e
    refine ⟨_, rfl, (Array.getElem?_eq_some_iff.1 hg).1, fun i hi => ?_⟩
    have hi : i < c.rows.length := hi
    have hix : i < xs.length := by omega
    refine ⟨xs[i], ?_, ?_⟩
    · have := hO.cellAt i (by omega)
      rw [Addr.add_mid, Nat.zero_add, this, List.getElem?_map, List.getElem?_eq_getElem hix]
      rfl
    · have h1 := hR i xs[i] c.rows[i] (List.getElem?_eq_getElem hix) (List.getElem?_eq_getElem hi)
      rw [List.getD_eq_getElem?_getD, List.getElem?_eq_getElem hi]
      exact I3 h1 (hrr _ (List.getElem_mem hi))
end Go.Proofs.YtkhmocbfkpbpfaaGreatDoor

/- What is left of the domains of an absolute value, a minimum, a maximum: over lists. No walk. -/
namespace Go.Proofs.YtkhmocbfkpbpfaaGreatDoor
open Go.RowKit

/-- A number without its sign. -/
def absV (v : Int) : Int := max v (-v)
def absA (A B : List Int) : List Int := A.filter fun v => decide (absV v ∈ B)
def absB (A B : List Int) : List Int := (absA A B).map absV
/-- The one of two numbers that a kind tells. -/
def selV (kind x y : Int) : Int := if kind = 9 then min x y else max x y
def lowX (kind : Int) (A B : List Int) : Int := selV kind (A.head?.getD 0) (B.head?.getD 0)
def highX (kind : Int) (A B : List Int) : Int := selV kind (A.getLast?.getD 0) (B.getLast?.getD 0)
def thirdX (kind : Int) (A B C : List Int) : List Int := (C.filter fun u => decide (lowX kind A B ≤ u)).filter fun u => decide (u ≤ highX kind A B)
/-- What is left of three domains, none empty. -/
def extL (kind : Int) (A B C : List Int) : List (List Int) :=
  if A.length * B.length ≤ 4096 then [ofL (h1 (hitsE (kindV kind) C A B)), ofL (h2 (hitsE (kindV kind) C A B)), ofL (h3 (hitsE (kindV kind) C A B))]
  else if kind = 9 then [A.filter fun u => decide ((thirdX kind A B C).head?.getD 0 ≤ u), B.filter fun u => decide ((thirdX kind A B C).head?.getD 0 ≤ u), thirdX kind A B C]
  else [A.filter fun u => decide (u ≤ (thirdX kind A B C).getLast?.getD 0), B.filter fun u => decide (u ≤ (thirdX kind A B C).getLast?.getD 0), thirdX kind A B C]
def extR (kind : Int) (D : List (List Int)) : List (List Int) :=
  if kind = 8 then [ofL (absA (D.getD 0 []) (D.getD 1 [])), ofL (absB (D.getD 0 []) (D.getD 1 []))] else extL kind (D.getD 0 []) (D.getD 1 []) (D.getD 2 [])
/-- What is left; nothing, if a domain is empty, or the constraint isn't one of these. -/
def extE (c : ConL) (D : List (List Int)) : Option (List (List Int)) :=
  if fitsE c D 8 10 = true then (if (extR c.kind D).any (fun l => l.length == 0) = true then none else some (extR c.kind D)) else none

theorem kindV_sel {kind : Int} (hk : kind = 9 ∨ kind = 10) (x y : Int) : kindV kind x y = some (selV kind x y) := by
  rcases hk with rfl | rfl
  · rw [kindV_9]; rfl
  · rw [kindV_10]; rfl
theorem two_abs {c : ConL} {n : Int} (h : rightE c n = 0) (hk : c.kind = 8) : c.A.length = 2 ∧ c.B.length = 0 := by
  obtain ⟨k1, k2, hs, ha, hb, hn⟩ := right_parts h
  rw [size_8 c hk] at hs
  exact ⟨hs.1, hs.2.1⟩
theorem three_ext {c : ConL} {n : Int} (h : rightE c n = 0) (hk : c.kind = 9 ∨ c.kind = 10) : c.A.length = 3 ∧ c.B.length = 0 := by
  obtain ⟨k1, k2, hs, ha, hb, hn⟩ := right_parts h
  rcases hk with hk | hk
  · rw [size_9 c hk] at hs
    exact ⟨hs.1, hs.2.1⟩
  · rw [size_10 c hk] at hs
    exact ⟨hs.1, hs.2.1⟩
/-- Where the constraint is one of these and fits, there are two domains, or three. -/
theorem fits_ext {c : ConL} {D : List (List Int)} (h : fitsE c D 8 10 = true) : (c.kind = 8 ∧ ∃ A B, D = [A, B] ∧ A ≠ [] ∧ B ≠ []) ∨ ((c.kind = 9 ∨ c.kind = 10) ∧ ∃ A B C, D = [A, B, C] ∧ A ≠ [] ∧ B ≠ [] ∧ C ≠ []) := by
  unfold fitsE at h
  simp only [Bool.and_eq_true, Bool.not_eq_true', decide_eq_false_iff_not, decide_eq_true_eq, beq_iff_eq] at h
  obtain ⟨⟨⟨⟨h1, h2⟩, h3⟩, h4⟩, h5⟩ := h
  by_cases h8 : c.kind = 8
  · left
    refine ⟨h8, ?_⟩
    obtain ⟨l1, l2⟩ := two_abs h4 h8
    match D, h3, h5 with
    | [A, B], _, h5 =>
      simp only [List.any_cons, List.any_nil, Bool.or_false, Bool.or_eq_false_iff, beq_eq_false_iff_ne, ne_eq, List.length_eq_zero_iff] at h5
      exact ⟨A, B, rfl, h5.1, h5.2⟩
    | [], h3, _ => simp at h3; omega
    | [_], h3, _ => simp at h3; omega
    | _ :: _ :: _ :: _, h3, _ => simp at h3; omega
  · right
    have hk : c.kind = 9 ∨ c.kind = 10 := by omega
    refine ⟨hk, ?_⟩
    obtain ⟨l1, l2⟩ := three_ext h4 hk
    match D, h3, h5 with
    | [A, B, C], _, h5 =>
      simp only [List.any_cons, List.any_nil, Bool.or_false, Bool.or_eq_false_iff, beq_eq_false_iff_ne, ne_eq, List.length_eq_zero_iff] at h5
      exact ⟨A, B, C, rfl, h5.1, h5.2.1, h5.2.2⟩
    | [], h3, _ => simp at h3; omega
    | [_], h3, _ => simp at h3; omega
    | [_, _], h3, _ => simp at h3; omega
    | _ :: _ :: _ :: _ :: _, h3, _ => simp at h3; omega
theorem fits_two {c : ConL} {A B : List Int} (hk : c.kind = 8) (hr : rightE c 256 = 0) (ha : A ≠ []) (hb : B ≠ []) : fitsE c [A, B] 8 10 = true := by
  obtain ⟨l1, l2⟩ := two_abs hr hk
  unfold fitsE
  rw [decide_eq_false (show ¬ c.kind < 8 by omega), decide_eq_false (show ¬ 10 < c.kind by omega), l1, l2, hr]
  have e1 : (A.length == 0) = false := by simp [ha]
  have e2 : (B.length == 0) = false := by simp [hb]
  simp [e1, e2]
theorem fits_thr {c : ConL} {A B C : List Int} (hk : c.kind = 9 ∨ c.kind = 10) (hr : rightE c 256 = 0) (ha : A ≠ []) (hb : B ≠ []) (hc : C ≠ []) : fitsE c [A, B, C] 8 10 = true := by
  obtain ⟨l1, l2⟩ := three_ext hr hk
  unfold fitsE
  rw [decide_eq_false (show ¬ c.kind < 8 by omega), decide_eq_false (show ¬ 10 < c.kind by omega), l1, l2, hr]
  have e1 : (A.length == 0) = false := by simp [ha]
  have e2 : (B.length == 0) = false := by simp [hb]
  have e3 : (C.length == 0) = false := by simp [hc]
  simp [e1, e2, e3]
theorem extE_none {c : ConL} {D : List (List Int)} (h : fitsE c D 8 10 = false) : extE c D = none := by unfold extE; rw [if_neg (by rw [h]; decide)]
theorem extE_is {c : ConL} {D : List (List Int)} (h : fitsE c D 8 10 = true) : extE c D = if (extR c.kind D).any (fun l => l.length == 0) = true then none else some (extR c.kind D) := by unfold extE; rw [if_pos h]
theorem extR_two {kind : Int} {A B : List Int} (hk : kind = 8) : extR kind [A, B] = [ofL (absA A B), ofL (absB A B)] := by unfold extR; rw [if_pos hk]; rfl
theorem extR_thr {kind : Int} {A B C : List Int} (hk : kind = 9 ∨ kind = 10) : extR kind [A, B, C] = extL kind A B C := by unfold extR; rw [if_neg (by omega)]; rfl
theorem extL_len (kind : Int) (A B C : List Int) : (extL kind A B C).length = 3 := by
  unfold extL
  split
  · rfl
  · split <;> rfl
/-- What is left has as many domains. -/
theorem extE_tells (c : ConL) (D : List (List Int)) : (fitsE c D 8 10 = true → (extE c D).isSome = true → ((extE c D).getD []).length = D.length) ∧ (fitsE c D 8 10 = false → extE c D = none) := by
  refine ⟨fun hf hs => ?_, extE_none⟩
  have key : (extR c.kind D).length = D.length := by
    rcases fits_ext hf with ⟨hk, A, B, rfl, -, -⟩ | ⟨hk, A, B, C, rfl, -, -, -⟩
    · rw [extR_two hk]; rfl
    · rw [extR_thr hk, extL_len]; rfl
  rw [extE_is hf] at hs ⊢
  split at hs
  · cases hs
  · next h => rw [if_neg h]; exact key
end Go.Proofs.YtkhmocbfkpbpfaaGreatDoor

/- What is left of an absolute value's, a minimum's, a maximum's domains, over lists that are domains; how much. No walk. -/
namespace Go.Proofs.YtkhmocbfkpbpfaaGreatDoor
open Go.RowKit

theorem mem_absA {A B : List Int} {v : Int} : v ∈ absA A B ↔ v ∈ A ∧ absV v ∈ B := by
  unfold absA
  rw [List.mem_filter, decide_eq_true_eq]
theorem mem_absB {A B : List Int} {v : Int} : v ∈ absB A B ↔ v ∈ B ∧ ∃ a, a ∈ A ∧ absV a = v := by
  unfold absB
  rw [List.mem_map]
  constructor
  · rintro ⟨a, ha, rfl⟩
    obtain ⟨q1, q2⟩ := mem_absA.1 ha
    exact ⟨q2, a, q1, rfl⟩
  · rintro ⟨q2, a, q1, rfl⟩
    exact ⟨a, mem_absA.2 ⟨q1, q2⟩, rfl⟩
theorem absB_ne {A B : List Int} (h : absA A B ≠ []) : absB A B ≠ [] := by
  intro e; apply h; simpa [absB] using e
/-- What is left of an absolute value's domains. -/
theorem extE_two {c : ConL} {A B : List Int} (hf : fitsE c [A, B] 8 10 = true) (hk : c.kind = 8) (hA : DomL A) (hB : DomL B) :
    extE c [A, B] = if absA A B = [] then none else some [ofL (absA A B), ofL (absB A B)] := by
  rw [extE_is hf, extR_two hk]
  by_cases h : absA A B = []
  · rw [if_pos h]
    have h2 : absB A B = [] := by unfold absB; rw [h]; rfl
    rw [h, h2]
    rfl
  · rw [if_neg h]
    obtain ⟨t, ht⟩ := List.exists_mem_of_ne_nil _ h
    obtain ⟨q1, q2⟩ := mem_absA.1 ht
    have k1 := ofL_ne (ofErr_sub (hA.2 (List.ne_nil_of_mem q1)) h (fun v hv => (mem_absA.1 hv).1)) h
    have k2 := ofL_ne (ofErr_sub (hB.2 (List.ne_nil_of_mem q2)) (absB_ne h) (fun v hv => (mem_absB.1 hv).1)) (absB_ne h)
    rw [if_neg]
    simp [k1, k2]
/-- Where few pairs are looked at: what is left. -/
theorem extE_few {c : ConL} {A B C : List Int} (hf : fitsE c [A, B, C] 8 10 = true) (hk : c.kind = 9 ∨ c.kind = 10) (hA : DomL A) (hB : DomL B) (hC : DomL C) (hn : A.length * B.length ≤ 4096) :
    extE c [A, B, C] = if hitsE (kindV c.kind) C A B = [] then none else some [ofL (h1 (hitsE (kindV c.kind) C A B)), ofL (h2 (hitsE (kindV c.kind) C A B)), ofL (h3 (hitsE (kindV c.kind) C A B))] := by
  have hm : extL c.kind A B C = [ofL (h1 (hitsE (kindV c.kind) C A B)), ofL (h2 (hitsE (kindV c.kind) C A B)), ofL (h3 (hitsE (kindV c.kind) C A B))] := by unfold extL; rw [if_pos hn]
  rw [extE_is hf, extR_thr hk, hm]
  by_cases h : hitsE (kindV c.kind) C A B = []
  · rw [if_pos h, h]
    rfl
  · rw [if_neg h]
    obtain ⟨n1, n2, n3⟩ := h_ne h
    obtain ⟨t, ht⟩ := List.exists_mem_of_ne_nil _ h
    obtain ⟨q1, q2, q3, q4⟩ := mem_hitsE.1 ht
    have k1 := ofL_ne (ofErr_sub (hA.2 (List.ne_nil_of_mem q1)) n1 (fun v hv => (mem_h1.1 hv).1)) n1
    have k2 := ofL_ne (ofErr_sub (hB.2 (List.ne_nil_of_mem q2)) n2 (fun v hv => (mem_h2.1 hv).1)) n2
    have k3 := ofL_ne (ofErr_sub (hC.2 (List.ne_nil_of_mem q4)) n3 (fun v hv => (mem_h3.1 hv).1)) n3
    rw [if_neg]
    simp [k1, k2, k3]
theorem absA_len (A B : List Int) : (absA A B).length ≤ A.length := List.length_filter_le _ _
/-- How much is left. -/
theorem extE_sized {c : ConL} {D : List (List Int)} (hD : ∀ l ∈ D, l.length ≤ 200) : ((extE c D).getD []).length ≤ 3 ∧ ∀ r ∈ (extE c D).getD [], r.length ≤ 4096 := by
  cases hf : fitsE c D 8 10 with
  | false =>
    rw [extE_none hf]
    exact ⟨by simp, fun r hr => by cases hr⟩
  | true =>
    have key : (extR c.kind D).length ≤ 3 ∧ ∀ r ∈ extR c.kind D, r.length ≤ 4096 := by
      rcases fits_ext hf with ⟨hk, A, B, rfl, -, -⟩ | ⟨hk, A, B, C, rfl, -, -, -⟩
      · rw [extR_two hk]
        have la := hD A (by simp)
        have q := absA_len A B
        refine ⟨by simp, fun r hr => ?_⟩
        simp only [List.mem_cons, List.not_mem_nil, or_false] at hr
        rcases hr with rfl | rfl
        · exact Nat.le_trans (ofL_short _) (by omega)
        · exact Nat.le_trans (ofL_short _) (by unfold absB; rw [List.length_map]; omega)
      · rw [extR_thr hk]
        have la := hD A (by simp)
        have lb := hD B (by simp)
        have lc := hD C (by simp)
        refine ⟨by rw [extL_len]; omega, fun r hr => ?_⟩
        unfold extL at hr
        split at hr
        · rename_i hab
          have hl := hitsE_len (kindV c.kind) C A B
          simp only [List.mem_cons, List.not_mem_nil, or_false] at hr
          rcases hr with rfl | rfl | rfl
          · refine Nat.le_trans (ofL_short _) ?_; simp only [h1, List.length_map]; omega
          · refine Nat.le_trans (ofL_short _) ?_; simp only [h2, List.length_map]; omega
          · refine Nat.le_trans (ofL_short _) ?_; simp only [h3, List.length_map]; omega
        · have lt : (thirdX c.kind A B C).length ≤ 200 := Nat.le_trans (List.length_filter_le _ _) (Nat.le_trans (List.length_filter_le _ _) lc)
          split at hr <;>
          · simp only [List.mem_cons, List.not_mem_nil, or_false] at hr
            rcases hr with rfl | rfl | rfl
            · exact Nat.le_trans (List.length_filter_le _ _) (by omega)
            · exact Nat.le_trans (List.length_filter_le _ _) (by omega)
            · omega
    rw [extE_is hf]
    split
    · exact ⟨by simp, fun r hr => by cases hr⟩
    · exact key
theorem extE_small {c : ConL} {D : List (List Int)} (hD : ∀ l ∈ D, DomL l ∧ l.length ≤ 60) : ((extE c D).getD []).length ≤ 3 ∧ ∀ r ∈ (extE c D).getD [], r.length ≤ 4096 :=
  extE_sized fun l hl => by have := (hD l hl).2; omega
end Go.Proofs.YtkhmocbfkpbpfaaGreatDoor
