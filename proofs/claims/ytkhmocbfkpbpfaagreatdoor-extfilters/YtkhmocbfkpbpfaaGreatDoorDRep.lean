/- Contracts of math/bits.TrailingZeros64 and Len64, and of dom's lowest and highest, by the rising list of a word's bits. Conditions: the word has 64 bits and isn't 0; the table of math/bits is laid as its text says. -/
import Derived.Test.YtkhmocbfkpbpfaaGreatDoorDSmall
import Derived.Below
import Derived.Lib.Walk
import Derived.Lib.Hide
namespace Go.Proofs.YtkhmocbfkpbpfaaGreatDoor
open Go.RowKit

/-- The table of math/bits lies in its variable. -/
def Tab (w : World) : Prop := 0 < w.heap.size ∧ ∀ j, j < 64 → w.cell? ⟨0, j, none⟩ = some (.int .u8 ((Lib.deBruijn64tab.getD j 0 : Nat) : Int))

theorem Tab.below {w w' : World} (h : Tab w) (hb : Below w.heap.size w w') : Tab w' :=
  ⟨Nat.lt_of_lt_of_le h.1 hb.size, fun j hj => (hb.cell (p := ⟨0, j, none⟩) h.1).trans (h.2 j hj)⟩

end Go.Proofs.YtkhmocbfkpbpfaaGreatDoor

/- How a domain lies in memory, and which rising list of numbers it is. Definitions and plain facts; no walk. -/
namespace Go.Proofs.YtkhmocbfkpbpfaaGreatDoor
open Go.RowKit

/-- The n cells from A on hold f 0, f 1, ..; they lie below the heap's end. (Nothing is asked where n is 0.) -/
def Lies (w : World) (A : Option Addr) (n : Nat) (f : Nat → Value) : Prop :=
  0 < n → ∃ ad, A = some ad ∧ ad.block < w.heap.size ∧ ∀ j, j < n → w.cell? (ad.add j) = some (f j)

theorem add_block (a : Addr) (n : Nat) : (a.add n).block = a.block := by unfold Addr.add; split <;> rfl

theorem Lies.below {w w' : World} {A : Option Addr} {n : Nat} {f : Nat → Value} (h : Lies w A n f) (hb : Below w.heap.size w w') : Lies w' A n f := by
  intro hn
  obtain ⟨ad, e, hl, hc⟩ := h hn
  exact ⟨ad, e, Nat.lt_of_lt_of_le hl hb.size, fun j hj => (hb.cell (by rw [add_block]; exact hl)).trans (hc j hj)⟩

theorem Lies.none (w : World) (A : Option Addr) (f : Nat → Value) : Lies w A 0 f := fun h => absurd h (by omega)

def u64f (ws : List Nat) (j : Nat) : Value := .int .u64 ((ws.getD j 0 : Nat) : Int)
def i64f (zs : List Int) (j : Nat) : Value := .int .i64 (zs.getD j 0)

/-- The words of a domain: their width, their form, their places. -/
structure Form (s : Int) (ws : List Nat) : Prop where
  words : ∀ j, ws.getD j 0 < 18446744073709551616
  first : 0 < ws.length → ws.getD 0 0 ≠ 0
  last : 0 < ws.length → ws.getD (ws.length - 1) 0 ≠ 0
  zero : ws.length = 0 → s = 0
  lo : -15625 ≤ s
  hi : s + ws.length ≤ 15626

/-- d is a domain whose numbers are L, rising. -/
def IsDom (w : World) (d : Value) (L : List Int) : Prop :=
  ∃ (s : Int) (A : Option Addr) (ws : List Nat) (c : Nat), d = .agg #[.int .i64 s, .slice A ws.length c, .int .i64 (L.length : Nat)] ∧
    Lies w A ws.length (u64f ws) ∧ Form s ws ∧ listOf s ws = L

theorem IsDom.below {w w' : World} {d : Value} {L : List Int} (h : IsDom w d L) (hb : Below w.heap.size w w') : IsDom w' d L := by
  obtain ⟨s, A, ws, c, e, h1, h2, h3⟩ := h
  exact ⟨s, A, ws, c, e, h1.below hb, h2, h3⟩

theorem IsDom.rising {w : World} {d : Value} {L : List Int} (h : IsDom w d L) : L.Pairwise (· < ·) := by
  obtain ⟨s, A, ws, c, e, h1, h2, h3⟩ := h
  rw [← h3]; exact rising_listOf ws s

theorem len_le_listOf : ∀ (ws : List Nat) (s : Int), (listOf s ws).length ≤ 64 * ws.length
  | [], _ => by simp [listOf]
  | x :: r, s => by
    rw [len_listOf_cons]
    have := len_le_listOf r (s + 1)
    have := ones_le x
    simp only [List.length_cons]
    omega

theorem Form.len {s : Int} {ws : List Nat} (h : Form s ws) : ws.length ≤ 31251 := by
  have := h.lo; have := h.hi; omega

end Go.Proofs.YtkhmocbfkpbpfaaGreatDoor
