/- A constraint that the document's Make is making: its box, its rows. No walk. -/
import Derived.Test.YtppiemgdjkehkaaDoorMkp
import Derived.Test.YtppiemgdjkehkaaDoorMshapes
namespace Go.Proofs.YtppiemgdjkehkaaDoor
open Go.RowKit Go.Sort

/-- All blocks but one stay. -/
structure Kp (G : Nat) (a b : World) : Prop where
  os : b.os = a.os
  tape : b.tape = a.tape
  output : b.output = a.output
  size : a.heap.size ≤ b.heap.size
  block : ∀ k, k < a.heap.size → k ≠ G → b.heap[k]? = a.heap[k]?
theorem Kp.refl (G : Nat) (a : World) : Kp G a a := ⟨rfl, rfl, rfl, Nat.le_refl _, fun _ _ _ => rfl⟩
theorem Kp.trans {G : Nat} {a b c : World} (h : Kp G a b) (k : Kp G b c) : Kp G a c :=
  ⟨k.os.trans h.os, k.tape.trans h.tape, k.output.trans h.output, Nat.le_trans h.size k.size, fun i hi hS => (k.block i (Nat.lt_of_lt_of_le hi h.size) hS).trans (h.block i hi hS)⟩
theorem Kp.of_below {G : Nat} {a b : World} (h : Below a.heap.size a b) : Kp G a b := ⟨h.os, h.tape, h.output, h.size, fun k hk _ => h.block k hk⟩
theorem Kp.drew {G : Nat} {a b : World} (h : Kp G a b) : Kp G a b.drew := ⟨h.os, h.tape, h.output, h.size, h.block⟩
theorem Kp.alloc {G : Nat} {a b : World} (h : Kp G a b) (o : Obj) : Kp G a (b.alloc o) := h.trans (Kp.of_below ((Below.refl _ _).alloc (Nat.le_refl _) o))
theorem Kp.put {G : Nat} {a b : World} (h : Kp G a b) (j : Nat) (u : Value) : Kp G a (b.setCell ⟨G, j, none⟩ u) :=
  h.trans ⟨rfl, rfl, rfl, by simp [World.setCell], fun k _ hk => Below.heap_setCell _ _ _ _ hk⟩
theorem Kp.grown {G : Nat} {a b c : World} {row : Option Nat} (h : Kp G a b) (hg : b.grownBy c row) (hr : ∀ k, row = some k → a.heap.size ≤ k) : Kp G a c :=
  ⟨hg.os.trans h.os, hg.tape.trans h.tape, hg.output.trans h.output, Nat.le_trans h.size hg.size, fun k hk hk' => (hg.block k (Nat.lt_of_lt_of_le hk h.size) (fun e => by have := hr k e.symm; omega)).trans (h.block k hk hk')⟩
theorem Kp.below {G b : Nat} {a c : World} (h : Kp G a c) (hb : b ≤ a.heap.size) (hG : b ≤ G) : Below b a c := ⟨h.os, h.tape, h.output, h.size, fun k hk => h.block k (by omega) (by omega)⟩
theorem box_put {W : World} {G j : Nat} {u : Array Value} {t : TypeId} {x : Value} (h : W.heap[G]? = some (.cells u t (0, 0))) : (W.setCell ⟨G, j, none⟩ x).heap[G]? = some (.cells (u.setIfInBounds j x) t (0, 0)) := by
  simp [World.setCell, Array.getElem?_modify, h]
theorem box_cell {W : World} {G j : Nat} {u : Array Value} {t : TypeId} {x : Value} (h : W.heap[G]? = some (.cells u t (0, 0))) (hx : u[j]? = some x) : W.cell? ⟨G, j, none⟩ = some x := by
  unfold World.cell?
  rw [h]
  exact hx
theorem box_free {W : World} {G : Nat} {u : Array Value} {t : TypeId} (h : W.heap[G]? = some (.cells u t (0, 0))) (j : Nat) : W.frozen? ⟨G, j, none⟩ = false := by
  unfold World.frozen?; rw [h]; simp
theorem own_type {w : World} {base : Nat} {e : TypeId} {size n : Nat} {v : Value} {xs : List Value} (h : w.ownsRow base e size v n xs) {k : Nat} (hk : v.ownBlock = some k) : ∃ cur, w.heap[k]? = some (.cells cur e (0, 0)) := by
  rcases h.2 with ⟨rfl, -⟩ | ⟨g, cap, cur, rfl, hb, hg, hn, hm, hs, ht⟩
  · cases hk
  · obtain rfl : g = k := by simpa [Value.ownBlock] using hk
    exact ⟨cur, hg⟩
theorem own_lt' {w : World} {base : Nat} {e : TypeId} {size : Nat} {v : Value} {n : Nat} {xs : List Value} (h : w.ownsRow base e size v n xs) {g : Nat} (hg : v.ownBlock = some g) : base ≤ g ∧ g < w.heap.size := by
  refine ⟨own_ge h g hg, ?_⟩
  obtain ⟨cur, hc⟩ := own_type h hg
  exact (Array.getElem?_eq_some_iff.1 hc).1
theorem own_keep' {w w' : World} {base : Nat} {e : TypeId} {size : Nat} {v : Value} {n : Nat} {xs : List Value} (h : w.ownsRow base e size v n xs) (hk : ∀ g, v.ownBlock = some g → w'.heap[g]? = w.heap[g]?) : w'.ownsRow base e size v n xs := by
  obtain ⟨h1, h2⟩ := h
  refine ⟨h1, ?_⟩
  rcases h2 with h2 | ⟨g, cap, cur, e, hg, hh, r⟩
  · exact .inl h2
  · exact .inr ⟨g, cap, cur, e, hg, (hk g (by rw [e]; rfl)).trans hh, r⟩
theorem Row3.kp {G b : Nat} {W W' : World} {y : Sl} {L : List Int} (h : Row3 W b y L) (k : Kp G W W') (hG : G < b) : Row3 W' b y L :=
  own_keep' h fun g hg => by have := own_lt' h hg; exact k.block g this.2 (by omega)
theorem Row3.base {b b' : Nat} {W : World} {y : Sl} {L : List Int} (h : Row3 W b y L) (hb : b' ≤ b) : Row3 W b' y L := own_base h hb

/-- Rows of one's own. -/
def RowsP (W : World) (b : Nat) (y : Sl) (R : List (List Int)) : Prop :=
  ∃ xs : List Sl, xs.length = R.length ∧ W.ownsRow b 27 1 (.slice y.A y.n y.c) R.length (xs.map fun x => Value.slice x.A x.n x.c) ∧ ∀ (k : Nat) (x : Sl) (r : List Int), xs[k]? = some x → R[k]? = some r → Row3 W b x r
theorem RowsP.nil (W : World) (b : Nat) : RowsP W b ⟨none, 0, 0⟩ [] := ⟨[], rfl, World.ownsRow_nil _ _ _ _, fun k x r h => by cases h⟩
theorem RowsP.kp {G b : Nat} {W W' : World} {y : Sl} {R : List (List Int)} (h : RowsP W b y R) (k : Kp G W W') (hG : G < b) : RowsP W' b y R := by
  obtain ⟨xs, hl, hO, hR⟩ := h
  exact ⟨xs, hl, own_keep' hO fun g hg => by have := own_lt' hO hg; exact k.block g this.2 (by omega), fun i x r h1 h2 => (hR i x r h1 h2).kp k hG⟩

/-- The rows of a constraint that is being made. -/
structure MkR (q : Nat) (W : World) (v : ConV) (l : ConL) : Prop where
  a : Row3 W q v.a l.A
  b : Row3 W q v.b l.B
  c : Row3 W q v.c l.C
  d : Row3 W q v.d l.D
  e : Row3 W q v.e l.E
  r : RowsP W q v.r l.rows
theorem MkR.kp {G b : Nat} {W W' : World} {v : ConV} {c : ConL} (h : MkR b W v c) (k : Kp G W W') (hG : G < b) : MkR b W' v c :=
  ⟨h.a.kp k hG, h.b.kp k hG, h.c.kp k hG, h.d.kp k hG, h.e.kp k hG, h.r.kp k hG⟩
def noV : ConV := ⟨⟨none, 0, 0⟩, ⟨none, 0, 0⟩, ⟨none, 0, 0⟩, ⟨none, 0, 0⟩, ⟨none, 0, 0⟩, ⟨none, 0, 0⟩⟩
abbrev bareC (kd : Int) : ConL := ⟨kd, [], [], [], [], [], 0, []⟩
theorem MkR.none (q : Nat) (W : World) (kd : Int) : MkR q W noV (bareC kd) := ⟨Row3.nil _ _, Row3.nil _ _, Row3.nil _ _, Row3.nil _ _, Row3.nil _ _, RowsP.nil _ _⟩

/-- The boxes: what comes in, what is handed back, what is being made. -/
structure MkB (w : World) (z o u : Array Value) (W : World) : Prop where
  low : Below w.heap.size w W
  zb : W.heap[w.heap.size]? = some (.cells z 26 (0, 0))
  ob : W.heap[w.heap.size + 1]? = some (.cells o 30 (0, 0))
  cb : W.heap[w.heap.size + 1 + 1]? = some (.cells u 30 (0, 0))
theorem MkB.size {w : World} {z o u : Array Value} {W : World} (h : MkB w z o u W) : w.heap.size + 1 + 1 + 1 ≤ W.heap.size := (Array.getElem?_eq_some_iff.1 h.cb).1
theorem MkB.kp {w : World} {z o u u' : Array Value} {W W' : World} (h : MkB w z o u W) (k : Kp (w.heap.size + 1 + 1) W W') (hb : W'.heap[w.heap.size + 1 + 1]? = some (.cells u' 30 (0, 0))) : MkB w z o u' W' := by
  have hs := h.size
  exact ⟨h.low.trans (k.below (by omega) (by omega)), (k.block _ (by omega) (by omega)).trans h.zb, (k.block _ (by omega) (by omega)).trans h.ob, hb⟩
theorem MkB.below {w : World} {z o u : Array Value} {W W' : World} (h : MkB w z o u W) (k : Below W.heap.size W W') : MkB w z o u W' :=
  h.kp (Kp.of_below k) ((k.block _ (by have := h.size; omega)).trans h.cb)
/-- What is being made. -/
structure Mk (w : World) (z o : Array Value) (W : World) (v : ConV) (c : ConL) : Prop where
  box : MkB w z o (v.cells c.kind c.K) W
  rows : MkR (w.heap.size + 1 + 1 + 1) W v c
theorem Mk.below {w : World} {z o : Array Value} {W W' : World} {v : ConV} {c : ConL} (h : Mk w z o W v c) (k : Below W.heap.size W W') : Mk w z o W' v c :=
  ⟨h.box.below k, h.rows.kp (Kp.of_below (G := w.heap.size) k) (by omega)⟩
theorem Mk.put {w : World} {z o : Array Value} {W : World} {v v' : ConV} {c c' : ConL} (h : Mk w z o W v c) (j : Nat) (x : Value) (he : (v.cells c.kind c.K).setIfInBounds j x = v'.cells c'.kind c'.K) (hr : MkR (w.heap.size + 1 + 1 + 1) W v' c') :
    Mk w z o (W.setCell ⟨w.heap.size + 1 + 1, j, none⟩ x) v' c' :=
  ⟨h.box.kp ((Kp.refl _ _).put j x) (by rw [← he]; exact box_put h.box.cb), hr.kp ((Kp.refl (w.heap.size + 1 + 1) W).put j x) (by omega)⟩
section
variable {w : World} {z o : Array Value} {W : World} {v : ConV} {c : ConL}
theorem Mk.setA (h : Mk w z o W v c) {x : Sl} {l : List Int} (hx : Row3 W (w.heap.size + 1 + 1 + 1) x l) : Mk w z o (W.setCell ⟨w.heap.size + 1 + 1, 1, none⟩ (.slice x.A x.n x.c)) { v with a := x } { c with A := l } :=
  h.put 1 _ rfl ⟨hx, h.rows.b, h.rows.c, h.rows.d, h.rows.e, h.rows.r⟩
theorem Mk.setB (h : Mk w z o W v c) {x : Sl} {l : List Int} (hx : Row3 W (w.heap.size + 1 + 1 + 1) x l) : Mk w z o (W.setCell ⟨w.heap.size + 1 + 1, 2, none⟩ (.slice x.A x.n x.c)) { v with b := x } { c with B := l } :=
  h.put 2 _ rfl ⟨h.rows.a, hx, h.rows.c, h.rows.d, h.rows.e, h.rows.r⟩
theorem Mk.setC (h : Mk w z o W v c) {x : Sl} {l : List Int} (hx : Row3 W (w.heap.size + 1 + 1 + 1) x l) : Mk w z o (W.setCell ⟨w.heap.size + 1 + 1, 3, none⟩ (.slice x.A x.n x.c)) { v with c := x } { c with C := l } :=
  h.put 3 _ rfl ⟨h.rows.a, h.rows.b, hx, h.rows.d, h.rows.e, h.rows.r⟩
theorem Mk.setD (h : Mk w z o W v c) {x : Sl} {l : List Int} (hx : Row3 W (w.heap.size + 1 + 1 + 1) x l) : Mk w z o (W.setCell ⟨w.heap.size + 1 + 1, 4, none⟩ (.slice x.A x.n x.c)) { v with d := x } { c with D := l } :=
  h.put 4 _ rfl ⟨h.rows.a, h.rows.b, h.rows.c, hx, h.rows.e, h.rows.r⟩
theorem Mk.setE (h : Mk w z o W v c) {x : Sl} {l : List Int} (hx : Row3 W (w.heap.size + 1 + 1 + 1) x l) : Mk w z o (W.setCell ⟨w.heap.size + 1 + 1, 5, none⟩ (.slice x.A x.n x.c)) { v with e := x } { c with E := l } :=
  h.put 5 _ rfl ⟨h.rows.a, h.rows.b, h.rows.c, h.rows.d, hx, h.rows.r⟩
theorem Mk.setK (h : Mk w z o W v c) (k : Int) : Mk w z o (W.setCell ⟨w.heap.size + 1 + 1, 6, none⟩ (.int .i64 k)) v { c with K := k } :=
  h.put 6 _ rfl ⟨h.rows.a, h.rows.b, h.rows.c, h.rows.d, h.rows.e, h.rows.r⟩
theorem Mk.setR (h : Mk w z o W v c) {x : Sl} {l : List (List Int)} (hx : RowsP W (w.heap.size + 1 + 1 + 1) x l) : Mk w z o (W.setCell ⟨w.heap.size + 1 + 1, 7, none⟩ (.slice x.A x.n x.c)) { v with r := x } { c with rows := l } :=
  h.put 7 _ rfl ⟨h.rows.a, h.rows.b, h.rows.c, h.rows.d, h.rows.e, hx⟩
theorem Mk.cells (h : Mk w z o W v c) (j : Nat) {x : Value} (hx : (v.cells c.kind c.K)[j]? = some x) : W.cell? ⟨w.heap.size + 1 + 1, j, none⟩ = some x := box_cell h.box.cb hx
theorem Mk.free (h : Mk w z o W v c) (j : Nat) : W.frozen? ⟨w.heap.size + 1 + 1, j, none⟩ = false := box_free h.box.cb j
theorem Mk.zcell (h : Mk w z o W v c) (j : Nat) {x : Value} (hx : z[j]? = some x) : W.cell? ⟨w.heap.size, j, none⟩ = some x := box_cell h.box.zb hx
theorem Mk.ocell (h : Mk w z o W v c) (j : Nat) {x : Value} (hx : o[j]? = some x) : W.cell? ⟨w.heap.size + 1, j, none⟩ = some x := box_cell h.box.ob hx
theorem Mk.ofree (h : Mk w z o W v c) (j : Nat) : W.frozen? ⟨w.heap.size + 1, j, none⟩ = false := box_free h.box.ob j
theorem Mk.size (h : Mk w z o W v c) : w.heap.size + 1 + 1 + 1 ≤ W.heap.size := h.box.size
end
/-- What was made lies in memory. -/
theorem MkR.con {b : Nat} {W : World} {v : ConV} {c : ConL} (h : MkR b W v c) (ha : c.A.length ≤ 1000000) (hb : c.B.length ≤ 1000000) (hc : c.C.length ≤ 1000000) (hd : c.D.length ≤ 1000000) (he : c.E.length ≤ 1000000) (hr : c.rows.length ≤ 1000000) (hrr : ∀ r ∈ c.rows, r.length ≤ 1000000) : ConIn W v c := by
  have I3 : ∀ {y : Sl} {zs : List Int}, Row3 W b y zs → zs.length ≤ 1000000 → IsInts W y zs := fun {y zs} h hs => by
    obtain ⟨A, n, k⟩ := y
    obtain ⟨A', c', e, hL, hc⟩ := own_lies h
    simp only [Value.slice.injEq] at e
    obtain ⟨rfl, rfl, rfl⟩ := e
    exact ⟨rfl, hL, by simp only; omega, hc⟩
  refine ⟨I3 h.a ha, I3 h.b hb, I3 h.c hc, I3 h.d hd, I3 h.e he, ?_⟩
  obtain ⟨xs, hl, hO, hR⟩ := h.r
  obtain ⟨⟨A, n, k⟩, hy⟩ : ∃ y, v.r = y := ⟨_, rfl⟩
  rw [hy] at hO ⊢
  simp only at hO
  obtain ⟨A', c', e⟩ := slice_row hO
  simp only [Value.slice.injEq] at e
  obtain ⟨rfl, rfl, rfl⟩ := e
  refine ⟨rfl, by simp only; omega, fun h0 => ?_⟩
  simp only at h0 ⊢
  rcases hO.2 with ⟨e, h2⟩ | ⟨g, cap, cur, e, hb, hg, hn, hm, hs, ht⟩
  · omega
  · simp only [Value.slice.injEq] at e
    obtain ⟨rfl, -, rfl⟩ := e
    refine ⟨_, rfl, (Array.getElem?_eq_some_iff.1 hg).1, fun i hi => ?_⟩
    have hi : i < c.rows.length := hi
    have hix : i < xs.length := by omega
    refine ⟨xs[i], ?_, ?_⟩
    · have := hO.cellAt i (by omega)
      rw [Addr.add_mid, Nat.zero_add, this, List.getElem?_map, List.getElem?_eq_getElem hix]
      rfl
    · have h1 := hR i xs[i] c.rows[i] (List.getElem?_eq_getElem hix) (List.getElem?_eq_getElem hi)
      rw [List.getD_eq_getElem?_getD, List.getElem?_eq_getElem hi]
      exact I3 h1 (hrr _ (List.getElem_mem hi))
end Go.Proofs.YtppiemgdjkehkaaDoor
