/- A constraint that is being read, in memory. No walk. -/
import Derived.Test.YtmamgaaeeonfmaaGreatDoorPgoal
namespace Go.Proofs.YtmamgaaeeonfmaaGreatDoor
open Go.RowKit Go.Sort Go.Maps

/-- Below a number all blocks but one stay. -/
structure Lo (b0 B : Nat) (w w' : World) : Prop where
  os : w'.os = w.os
  tape : w'.tape = w.tape
  output : w'.output = w.output
  size : w.heap.size ≤ w'.heap.size
  block : ∀ k, k < b0 → k ≠ B → w'.heap[k]? = w.heap[k]?
theorem Lo.refl (b0 B : Nat) (w : World) : Lo b0 B w w := ⟨rfl, rfl, rfl, Nat.le_refl _, fun _ _ _ => rfl⟩
theorem Lo.trans {b0 B : Nat} {a b c : World} (h : Lo b0 B a b) (k : Lo b0 B b c) : Lo b0 B a c :=
  ⟨k.os.trans h.os, k.tape.trans h.tape, k.output.trans h.output, Nat.le_trans h.size k.size, fun i hi hB => (k.block i hi hB).trans (h.block i hi hB)⟩
theorem Mv.lo {b0 B : Nat} {w w' : World} (h : Mv (one B) w w') (hb : b0 ≤ w.heap.size) : Lo b0 B w w' :=
  ⟨h.os, h.tape, h.output, h.size, fun k hk hB => h.block k (by omega) (by simpa [one] using hB)⟩
theorem lo_below {b0 B : Nat} {w w' : World} (h : Below w.heap.size w w') (hb : b0 ≤ w.heap.size) : Lo b0 B w w' :=
  ⟨h.os, h.tape, h.output, h.size, fun k hk _ => h.block k (by omega)⟩
theorem Lo.setCell {b0 B : Nat} {w w' : World} (h : Lo b0 B w w') {p : Addr} (hp : b0 ≤ p.block) (u : Value) : Lo b0 B w (w'.setCell p u) :=
  h.trans ⟨rfl, rfl, rfl, by simp [World.setCell], fun k hk _ => Below.heap_setCell _ _ _ _ (by omega)⟩
theorem Lo.grown {b0 B : Nat} {w w' w'' : World} {row : Option Nat} (h : Lo b0 B w w') (hg : w'.grownBy w'' row) (hb : b0 ≤ w'.heap.size) (hr : ∀ k, row = some k → b0 ≤ k) : Lo b0 B w w'' :=
  h.trans ⟨hg.os, hg.tape, hg.output, hg.size, fun k hk _ => hg.block k (by omega) (fun e => by have := hr k e.symm; omega)⟩
theorem Lo.mv {B : Nat} {w w' : World} (h : Lo w.heap.size B w w') : Mv (one B) w w' := ⟨h.os, h.tape, h.output, h.size, fun k hk hS => h.block k hk (by simpa [one] using hS)⟩

/-- A constraint that is being read. -/
structure ConSt (b0 B : Nat) (U : Nat → Bool) (w : World) (G : Nat) (v : ConV) (c : ConL) : Prop where
  box : w.heap[G]? = some (.cells (v.cells c.kind c.K) 51 (0, 0))
  ge : b0 ≤ G
  bB : B < b0
  uG : U G = true
  uB : U B = true
  lt : ∀ g, U g = true → g < w.heap.size
  a : w.ownsRow b0 3 1 (.slice v.a.A v.a.n v.a.c) c.A.length (I c.A)
  aU : ∀ g, (Value.slice v.a.A v.a.n v.a.c).ownBlock = some g → U g = true
  b : w.ownsRow b0 3 1 (.slice v.b.A v.b.n v.b.c) c.B.length (I c.B)
  bU : ∀ g, (Value.slice v.b.A v.b.n v.b.c).ownBlock = some g → U g = true
  ab : ∀ g, (Value.slice v.a.A v.a.n v.a.c).ownBlock = some g → (Value.slice v.b.A v.b.n v.b.c).ownBlock ≠ some g
  fc : IsInts (hide U w) v.c c.C
  fd : IsInts (hide U w) v.d c.D
  fe : IsInts (hide U w) v.e c.E
  fr : IsRows (hide U w) v.r c.rows
section
variable {b0 B G : Nat} {U : Nat → Bool} {w w' : World} {v : ConV} {c : ConL}
theorem ConSt.cells (h : ConSt b0 B U w G v c) : ∀ j u, (v.cells c.kind c.K)[j]? = some u → w.cell? ⟨G, j, none⟩ = some u := fun j u hj => by
  unfold World.cell?
  rw [h.box]
  exact hj
theorem ConSt.free (h : ConSt b0 B U w G v c) (j : Nat) : w.frozen? ⟨G, j, none⟩ = false := by
  unfold World.frozen?; rw [h.box]; simp
theorem ConSt.hb (h : ConSt b0 B U w G v c) : b0 ≤ w.heap.size := by have := h.lt G h.uG; have := h.ge; omega
/-- Only tokens were read. -/
theorem ConSt.mv (h : ConSt b0 B U w G v c) (hm : Mv (one B) w w') : ConSt b0 B U w' G v c := by
  have hmU := hm.toS h.uB
  have hk : ∀ g, g < w.heap.size → b0 ≤ g → w'.heap[g]? = w.heap[g]? := fun g hg hb => hm.block g hg (by have := h.bB; simp [one]; omega)
  exact ⟨(hk G (h.lt G h.uG) h.ge).trans h.box, h.ge, h.bB, h.uG, h.uB, fun g hg => Nat.lt_of_lt_of_le (h.lt g hg) hm.size, own_same h.a fun g hg hl => hk g hl (own_ge h.a g hg), h.aU, own_same h.b fun g hg hl => hk g hl (own_ge h.b g hg), h.bU, h.ab, h.fc.below (hide_step hmU fun _ _ => rfl), h.fd.below (hide_step hmU fun _ _ => rfl), h.fe.below (hide_step hmU fun _ _ => rfl), h.fr.below (hide_step hmU fun _ _ => rfl)⟩
theorem ConSt.neG (h : ConSt b0 B U w G v c) {g : Nat} {cur : Array Value} (hg : w.heap[g]? = some (.cells cur 3 (0, 0))) : g ≠ G := ty_ne hg h.box (by decide)
/-- A store into the box leaves all but the box. -/
theorem ConSt.mvU (h : ConSt b0 B U w G v c) (j : Nat) (u : Value) : Mv U w (w.setCell ⟨G, j, none⟩ u) := (Mv.refl U w).setCell (p := ⟨G, j, none⟩) h.uG u
theorem ConSt.setC (h : ConSt b0 B U w G v c) {x : Sl} {l : List Int} (hx : IsInts (hide U w) x l) : ConSt b0 B U (w.setCell ⟨G, 3, none⟩ (.slice x.A x.n x.c)) G { v with c := x } { c with C := l } := by
  have hm := h.mvU 3 (.slice x.A x.n x.c)
  have hs : ∀ g, g ≠ G → (w.setCell ⟨G, 3, none⟩ (.slice x.A x.n x.c)).heap[g]? = w.heap[g]? := fun g hg => Below.heap_setCell _ _ _ _ hg
  exact ⟨by simp [World.setCell, Array.getElem?_modify, h.box, ConV.cells], h.ge, h.bB, h.uG, h.uB, fun g hg => Nat.lt_of_lt_of_le (h.lt g hg) hm.size, own_same h.a fun g hg _ => hs g (by obtain ⟨cur, hc⟩ := own_typed h.a hg; exact h.neG hc), h.aU, own_same h.b fun g hg _ => hs g (by obtain ⟨cur, hc⟩ := own_typed h.b hg; exact h.neG hc), h.bU, h.ab, hx.below (hide_step hm fun _ _ => rfl), h.fd.below (hide_step hm fun _ _ => rfl), h.fe.below (hide_step hm fun _ _ => rfl), h.fr.below (hide_step hm fun _ _ => rfl)⟩
theorem ConSt.setD (h : ConSt b0 B U w G v c) {x : Sl} {l : List Int} (hx : IsInts (hide U w) x l) : ConSt b0 B U (w.setCell ⟨G, 4, none⟩ (.slice x.A x.n x.c)) G { v with d := x } { c with D := l } := by
  have hm := h.mvU 4 (.slice x.A x.n x.c)
  have hs : ∀ g, g ≠ G → (w.setCell ⟨G, 4, none⟩ (.slice x.A x.n x.c)).heap[g]? = w.heap[g]? := fun g hg => Below.heap_setCell _ _ _ _ hg
  exact ⟨by simp [World.setCell, Array.getElem?_modify, h.box, ConV.cells], h.ge, h.bB, h.uG, h.uB, fun g hg => Nat.lt_of_lt_of_le (h.lt g hg) hm.size, own_same h.a fun g hg _ => hs g (by obtain ⟨cur, hc⟩ := own_typed h.a hg; exact h.neG hc), h.aU, own_same h.b fun g hg _ => hs g (by obtain ⟨cur, hc⟩ := own_typed h.b hg; exact h.neG hc), h.bU, h.ab, h.fc.below (hide_step hm fun _ _ => rfl), hx.below (hide_step hm fun _ _ => rfl), h.fe.below (hide_step hm fun _ _ => rfl), h.fr.below (hide_step hm fun _ _ => rfl)⟩
theorem ConSt.setE (h : ConSt b0 B U w G v c) {x : Sl} {l : List Int} (hx : IsInts (hide U w) x l) : ConSt b0 B U (w.setCell ⟨G, 5, none⟩ (.slice x.A x.n x.c)) G { v with e := x } { c with E := l } := by
  have hm := h.mvU 5 (.slice x.A x.n x.c)
  have hs : ∀ g, g ≠ G → (w.setCell ⟨G, 5, none⟩ (.slice x.A x.n x.c)).heap[g]? = w.heap[g]? := fun g hg => Below.heap_setCell _ _ _ _ hg
  exact ⟨by simp [World.setCell, Array.getElem?_modify, h.box, ConV.cells], h.ge, h.bB, h.uG, h.uB, fun g hg => Nat.lt_of_lt_of_le (h.lt g hg) hm.size, own_same h.a fun g hg _ => hs g (by obtain ⟨cur, hc⟩ := own_typed h.a hg; exact h.neG hc), h.aU, own_same h.b fun g hg _ => hs g (by obtain ⟨cur, hc⟩ := own_typed h.b hg; exact h.neG hc), h.bU, h.ab, h.fc.below (hide_step hm fun _ _ => rfl), h.fd.below (hide_step hm fun _ _ => rfl), hx.below (hide_step hm fun _ _ => rfl), h.fr.below (hide_step hm fun _ _ => rfl)⟩
theorem ConSt.setK (h : ConSt b0 B U w G v c) (x : Int) : ConSt b0 B U (w.setCell ⟨G, 6, none⟩ (.int .i64 x)) G v { c with K := x } := by
  have hm := h.mvU 6 (.int .i64 x)
  have hs : ∀ g, g ≠ G → (w.setCell ⟨G, 6, none⟩ (.int .i64 x)).heap[g]? = w.heap[g]? := fun g hg => Below.heap_setCell _ _ _ _ hg
  exact ⟨by simp [World.setCell, Array.getElem?_modify, h.box, ConV.cells], h.ge, h.bB, h.uG, h.uB, fun g hg => Nat.lt_of_lt_of_le (h.lt g hg) hm.size, own_same h.a fun g hg _ => hs g (by obtain ⟨cur, hc⟩ := own_typed h.a hg; exact h.neG hc), h.aU, own_same h.b fun g hg _ => hs g (by obtain ⟨cur, hc⟩ := own_typed h.b hg; exact h.neG hc), h.bU, h.ab, h.fc.below (hide_step hm fun _ _ => rfl), h.fd.below (hide_step hm fun _ _ => rfl), h.fe.below (hide_step hm fun _ _ => rfl), h.fr.below (hide_step hm fun _ _ => rfl)⟩
theorem ConSt.setR (h : ConSt b0 B U w G v c) {x : Sl} {l : List (List Int)} (hx : IsRows (hide U w) x l) : ConSt b0 B U (w.setCell ⟨G, 7, none⟩ (.slice x.A x.n x.c)) G { v with r := x } { c with rows := l } := by
  have hm := h.mvU 7 (.slice x.A x.n x.c)
  have hs : ∀ g, g ≠ G → (w.setCell ⟨G, 7, none⟩ (.slice x.A x.n x.c)).heap[g]? = w.heap[g]? := fun g hg => Below.heap_setCell _ _ _ _ hg
  exact ⟨by simp [World.setCell, Array.getElem?_modify, h.box, ConV.cells], h.ge, h.bB, h.uG, h.uB, fun g hg => Nat.lt_of_lt_of_le (h.lt g hg) hm.size, own_same h.a fun g hg _ => hs g (by obtain ⟨cur, hc⟩ := own_typed h.a hg; exact h.neG hc), h.aU, own_same h.b fun g hg _ => hs g (by obtain ⟨cur, hc⟩ := own_typed h.b hg; exact h.neG hc), h.bU, h.ab, h.fc.below (hide_step hm fun _ _ => rfl), h.fd.below (hide_step hm fun _ _ => rfl), h.fe.below (hide_step hm fun _ _ => rfl), hx.below (hide_step hm fun _ _ => rfl)⟩
/-- A new row of variables: 'x' lies in the old row's block, or in a new one. -/
theorem ConSt.setA (h : ConSt b0 B U w G v c) {x : Sl} {l : List Int} {w3 : World} (hm : Mv U w w3) (hx : w3.ownsRow b0 3 1 (.slice x.A x.n x.c) l.length (I l)) (hnew : ∀ g, (Value.slice x.A x.n x.c).ownBlock = some g → (Value.slice v.a.A v.a.n v.a.c).ownBlock = some g ∨ w.heap.size ≤ g)
    (hG : w3.heap[G]? = w.heap[G]?) (hb : ∀ g, (Value.slice v.b.A v.b.n v.b.c).ownBlock = some g → w3.heap[g]? = w.heap[g]?) : ConSt b0 B (plus U (.slice x.A x.n x.c)) (w3.setCell ⟨G, 1, none⟩ (.slice x.A x.n x.c)) G { v with a := x } { c with A := l } := by
  have hs : ∀ g, g ≠ G → (w3.setCell ⟨G, 1, none⟩ (.slice x.A x.n x.c)).heap[g]? = w3.heap[g]? := fun g hg => Below.heap_setCell _ _ _ _ hg
  have hbx : w3.heap[G]? = some (.cells (v.cells c.kind c.K) 51 (0, 0)) := hG.trans h.box
  have hm4 : Mv U w (w3.setCell ⟨G, 1, none⟩ (.slice x.A x.n x.c)) := hm.setCell (p := ⟨G, 1, none⟩) h.uG _
  have hT : ∀ g, g < w.heap.size → plus U (.slice x.A x.n x.c) g = U g := fun g hg => by
    unfold plus
    by_cases e : (Value.slice x.A x.n x.c).ownBlock = some g
    · rcases hnew g e with h1 | h1
      · simp [h.aU g h1]
      · omega
    · simp [e]
  refine ⟨by simp [World.setCell, Array.getElem?_modify, hbx, ConV.cells], h.ge, h.bB, plus_of h.uG, plus_of h.uB, fun g hg => ?_, own_same hx fun g hg _ => hs g (by obtain ⟨cur, hc⟩ := own_typed hx hg; exact ty_ne hc hbx (by decide)), fun g hg => plus_own hg, own_same h.b fun g hg hl => (hs g (by obtain ⟨cur, hc⟩ := own_typed h.b hg; exact h.neG hc)).trans (hb g hg), fun g hg => plus_of (h.bU g hg), fun g hg e => ?_, h.fc.below (hide_step hm4 hT), h.fd.below (hide_step hm4 hT), h.fe.below (hide_step hm4 hT), h.fr.below (hide_step hm4 hT)⟩
  · unfold plus at hg
    by_cases e : (Value.slice x.A x.n x.c).ownBlock = some g
    · exact Nat.lt_of_lt_of_le (own_lt hx e).2 (by simp [World.setCell])
    · exact Nat.lt_of_lt_of_le (h.lt g (by simpa [e] using hg)) hm4.size
  · rcases hnew g hg with h1 | h1
    · exact h.ab g h1 e
    · have := (own_lt h.b e).2; omega
theorem ConSt.setB (h : ConSt b0 B U w G v c) {x : Sl} {l : List Int} {w3 : World} (hm : Mv U w w3) (hx : w3.ownsRow b0 3 1 (.slice x.A x.n x.c) l.length (I l)) (hnew : ∀ g, (Value.slice x.A x.n x.c).ownBlock = some g → (Value.slice v.b.A v.b.n v.b.c).ownBlock = some g ∨ w.heap.size ≤ g)
    (hG : w3.heap[G]? = w.heap[G]?) (ha : ∀ g, (Value.slice v.a.A v.a.n v.a.c).ownBlock = some g → w3.heap[g]? = w.heap[g]?) : ConSt b0 B (plus U (.slice x.A x.n x.c)) (w3.setCell ⟨G, 2, none⟩ (.slice x.A x.n x.c)) G { v with b := x } { c with B := l } := by
  have hs : ∀ g, g ≠ G → (w3.setCell ⟨G, 2, none⟩ (.slice x.A x.n x.c)).heap[g]? = w3.heap[g]? := fun g hg => Below.heap_setCell _ _ _ _ hg
  have hbx : w3.heap[G]? = some (.cells (v.cells c.kind c.K) 51 (0, 0)) := hG.trans h.box
  have hm4 : Mv U w (w3.setCell ⟨G, 2, none⟩ (.slice x.A x.n x.c)) := hm.setCell (p := ⟨G, 2, none⟩) h.uG _
  have hT : ∀ g, g < w.heap.size → plus U (.slice x.A x.n x.c) g = U g := fun g hg => by
    unfold plus
    by_cases e : (Value.slice x.A x.n x.c).ownBlock = some g
    · rcases hnew g e with h1 | h1
      · simp [h.bU g h1]
      · omega
    · simp [e]
  refine ⟨by simp [World.setCell, Array.getElem?_modify, hbx, ConV.cells], h.ge, h.bB, plus_of h.uG, plus_of h.uB, fun g hg => ?_, own_same h.a fun g hg hl => (hs g (by obtain ⟨cur, hc⟩ := own_typed h.a hg; exact h.neG hc)).trans (ha g hg), fun g hg => plus_of (h.aU g hg), own_same hx fun g hg _ => hs g (by obtain ⟨cur, hc⟩ := own_typed hx hg; exact ty_ne hc hbx (by decide)), fun g hg => plus_own hg, fun g hg e => ?_, h.fc.below (hide_step hm4 hT), h.fd.below (hide_step hm4 hT), h.fe.below (hide_step hm4 hT), h.fr.below (hide_step hm4 hT)⟩
  · unfold plus at hg
    by_cases e : (Value.slice x.A x.n x.c).ownBlock = some g
    · exact Nat.lt_of_lt_of_le (own_lt hx e).2 (by simp [World.setCell])
    · exact Nat.lt_of_lt_of_le (h.lt g (by simpa [e] using hg)) hm4.size
  · rcases hnew g e with h1 | h1
    · exact h.ab g hg h1
    · have := (own_lt h.a hg).2; omega
theorem ConSt.gone_a (h : ConSt b0 B U w G v c) (j : Nat) {u : Value} (hj : (v.cells c.kind c.K)[j]? = some u) {o : Obj} : ∀ w5, (w.alloc o).grownBy w5 (Value.slice v.a.A v.a.n v.a.c).ownBlock → w5.cell? ⟨G, j, none⟩ = some u ∧ w5.frozen? ⟨G, j, none⟩ = false := fun w5 hg => by
  have hGl := h.lt G h.uG
  have hb : w5.heap[G]? = w.heap[G]? := (hg.block G (by simp; omega) (fun e => by obtain ⟨cur, hcur⟩ := own_typed h.a e.symm; exact h.neG hcur rfl)).trans (Below.heap_alloc _ _ _ hGl)
  exact ⟨(World.cell?_of_block hb).trans (h.cells j u hj), (World.frozen?_of_block hb).trans (h.free j)⟩
theorem ConSt.gone_b (h : ConSt b0 B U w G v c) (j : Nat) {u : Value} (hj : (v.cells c.kind c.K)[j]? = some u) {o : Obj} : ∀ w5, (w.alloc o).grownBy w5 (Value.slice v.b.A v.b.n v.b.c).ownBlock → w5.cell? ⟨G, j, none⟩ = some u ∧ w5.frozen? ⟨G, j, none⟩ = false := fun w5 hg => by
  have hGl := h.lt G h.uG
  have hb : w5.heap[G]? = w.heap[G]? := (hg.block G (by simp; omega) (fun e => by obtain ⟨cur, hcur⟩ := own_typed h.b e.symm; exact h.neG hcur rfl)).trans (Below.heap_alloc _ _ _ hGl)
  exact ⟨(World.cell?_of_block hb).trans (h.cells j u hj), (World.frozen?_of_block hb).trans (h.free j)⟩
/-- It is a constraint outside what is smaller. -/
theorem ConSt.con (h : ConSt b0 B U w G v c) {S : Nat → Bool} (hS : ∀ g, S g = true → g < b0) (hSU : ∀ g, S g = true → U g = true) (hla : c.A.length ≤ 1048576) (hlb : c.B.length ≤ 1048576) : ConIn (hide S w) v c := by
  have hrow : ∀ (x : Sl) (l : List Int), w.ownsRow b0 3 1 (.slice x.A x.n x.c) l.length (I l) → l.length ≤ 1048576 → IsInts (hide S w) x l := fun x l hx hb => by
    obtain ⟨A, k, e, hl, hc⟩ := own_lies hx
    injection e with e1 e2 e3
    refine IsInts.hide ⟨e2, by rw [e1, e2]; exact hl, by omega, by rw [e2, e3]; exact hc⟩ fun ad ea => ?_
    cases hs : S ad.block
    · rfl
    · have h1 := hS _ hs
      have h2 := own_ge hx ad.block (by rw [ea]; rfl)
      omega
  have hcell : ∀ a y, (hide U w).cell? a = some y → (hide S w).cell? a = some y := fun a y ha => by
    obtain ⟨h1, h2⟩ := hide_cell ha
    refine cell_hide h2 ?_
    cases hs : S a.block
    · rfl
    · rw [hSU _ hs] at h1; cases h1
  have hints : ∀ (x : Sl) (l : List Int), IsInts (hide U w) x l → IsInts (hide S w) x l := fun x l hx => ⟨hx.len, fun h0 => by
    obtain ⟨ad, e1, h2, h3⟩ := hx.lies h0
    exact ⟨ad, e1, by rw [hide_size] at h2 ⊢; exact h2, fun j hj => hcell _ _ (h3 j hj)⟩, hx.big, hx.cap⟩
  exact ⟨hrow _ _ h.a hla, hrow _ _ h.b hlb, hints _ _ h.fc, hints _ _ h.fd, hints _ _ h.fe, ⟨h.fr.len, h.fr.big, fun h0 => by
    obtain ⟨ad, e1, h2, h3⟩ := h.fr.lies h0
    refine ⟨ad, e1, by rw [hide_size] at h2 ⊢; exact h2, fun i hi => ?_⟩
    obtain ⟨u, h4, h5⟩ := h3 i hi
    exact ⟨u, hcell _ _ h4, hints _ _ h5⟩⟩⟩
end
end Go.Proofs.YtmamgaaeeonfmaaGreatDoor
