/- Contracts of the methods of a domain that only read: word, Has, Min, Max, Size. -/
import Derived.Test.YtkhmocbfkpbpfaaGreatDoorDRep
import Derived.Deep.QuietTactic
import Derived.BigQuiet
import Derived.Deep.RegionHeld3
import Derived.Deep.DeepCutAuto
import Derived.KernelRfl
import Derived.Deep.RegionWith
import Derived.IntWalk
import Derived.OwnWalk
namespace Go.Proofs.YtkhmocbfkpbpfaaGreatDoor
open Go.RowKit

theorem below1 (w : World) (o : Obj) : Below w.heap.size w (w.alloc o) := (Below.refl _ _).alloc (Nat.le_refl _) _

theorem below_drewN {B : Nat} {a w : World} (h : Below B a w) (n : Nat) : Below B a (w.drewN n) := ⟨h.os, h.tape, h.output, h.size, h.block⟩

theorem add_zero (a : Addr) : a.add 0 = a := by simp [Addr.add]

end Go.Proofs.YtkhmocbfkpbpfaaGreatDoor

/- Contracts of Next and Prev: the walks, over what the words are said to hold. -/
namespace Go.Proofs.YtkhmocbfkpbpfaaGreatDoor
open Go.RowKit

/-- What a method of a domain answers, in every world in which what lay still lies. -/
def Answers (k : FuncId) (args : Array Value) (w : World) (r : Value) : Prop :=
  ∀ W, Below w.heap.size w W → Calls Tryz.prog k args W fun e w' => e = .returned r ∧ Below W.heap.size W w'

theorem Answers.on {k : FuncId} {args : Array Value} {w : World} {r : Value} (h : Answers k args w r) (W : World) (hb : Below w.heap.size w W) :
    Calls Tryz.prog k args W fun e w' => e = .returned r ∧ Below W.heap.size W w' := h W hb

theorem boxed {w W : World} {a b c : Value} {t : TypeId} (h : Below (w.heap.size + 1) (w.alloc (.cells #[a, b, c] t)) W) :
    W.cell? ⟨w.heap.size, 0, none⟩ = some a ∧ W.cell? ⟨w.heap.size, 1, none⟩ = some b ∧ W.cell? ⟨w.heap.size, 2, none⟩ = some c :=
  ⟨by rw [h.cell (by simp)]; simp, by rw [h.cell (by simp)]; simp, by rw [h.cell (by simp)]; simp⟩

theorem of_boxed {w W : World} {o : Obj} (h : Below (w.heap.size + 1) (w.alloc o) W) : Below w.heap.size w W := (below1 w o).trans (h.mono (by omega))
end Go.Proofs.YtkhmocbfkpbpfaaGreatDoor

/- Contract of List: a new slice with the domain's numbers, rising. -/
namespace Go.Proofs.YtkhmocbfkpbpfaaGreatDoor
open Go.RowKit

theorem Tryz.info3 : (Tryz.prog.info? 3).map (fun i => (i.zero, i.size, i.bytes)) = some (some (.int .i64 0), 1, 8) := by kernel_rfl
theorem Tryz.info97 : (Tryz.prog.info? 97).map (fun i => (i.zero, i.size, i.bytes)) = some (some (.int .u64 0), 1, 8) := by kernel_rfl

/-- Numbers as cells. -/
def I (zs : List Int) : List Value := zs.map (Value.int .i64)
theorem I_append (a b : List Int) : I (a ++ b) = I a ++ I b := by simp [I]
theorem I_one (z : Int) : I [z] = [Value.int .i64 z] := rfl

/-- What a call owns reads as a list of numbers. -/
theorem own_lies {w : World} {base : Nat} {v : Value} {zs : List Int} (h : w.ownsRow base 3 1 v zs.length (I zs)) :
    ∃ A c, v = .slice A zs.length c ∧ Lies w A zs.length (i64f zs) ∧ zs.length ≤ c := by
  rcases h.2 with ⟨e, h0⟩ | ⟨g, cap, cur, e, hb, hg, hn, hm, hs, ht⟩
  · refine ⟨none, 0, ?_, fun hp => absurd hp (by omega), by omega⟩
    rw [e, h0]
  · refine ⟨some ⟨g, 0, none⟩, cap, e, fun hp => ⟨⟨g, 0, none⟩, rfl, (Array.getElem?_eq_some_iff.1 hg).1, fun j hj => ?_⟩, hn⟩
    refine h.cells (g := g) (by rw [e]; rfl) j _ ?_
    simp only [I, List.getElem?_map]
    rw [List.getElem?_eq_getElem hj]
    simp [i64f, List.getD_eq_getElem?_getD, List.getElem?_eq_getElem hj]

theorem own_ge {w : World} {base : Nat} {e : TypeId} {size n : Nat} {v : Value} {xs : List Value} (h : w.ownsRow base e size v n xs) : ∀ g, v.ownBlock = some g → base ≤ g := fun g hg => (h.lt g hg).1

/-- A new slice with these numbers is returned; nothing old has turned. -/
def GivesInts (w : World) (zs : List Int) (e : Ending) (w' : World) : Prop := ∃ v, e = .returned v ∧ w'.ownsRow w.heap.size 3 1 v zs.length (I zs) ∧ Below w.heap.size w w'

theorem own_base {w : World} {base base' : Nat} {e : TypeId} {size n : Nat} {v : Value} {xs : List Value} (h : w.ownsRow base e size v n xs) (hb : base' ≤ base) : w.ownsRow base' e size v n xs := by
  refine ⟨h.1, ?_⟩
  rcases h.2 with h2 | ⟨g, cap, cur, a, b, r⟩
  · exact .inl h2
  · exact .inr ⟨g, cap, cur, a, Nat.le_trans hb b, r⟩

theorem take_listOf (s : Int) (ws : List Nat) (k : Nat) (hk : k < ws.length) : listOf s (ws.take (k + 1)) = listOf s (ws.take k) ++ (bitsUp (ws.getD k 0)).map (fun j : Nat => (s + k) * 64 + (j : Int)) := by
  rw [List.take_succ_eq_append_getElem hk, listOf_append, List.length_take, Nat.min_eq_left (by omega)]
  congr 1
  rw [List.getD_eq_getElem?_getD, List.getElem?_eq_getElem hk]
  simp [listOf]

theorem len_take_listOf (s : Int) (ws : List Nat) (k : Nat) : (listOf s (ws.take k)).length ≤ 64 * ws.length := by
  have := len_le_listOf (ws.take k) s
  have : (ws.take k).length ≤ ws.length := by rw [List.length_take]; omega
  omega

/-- The inner loop's state: acc is gathered, the bits of x are still to come. -/
structure Gather (s : Int) (ws : List Nat) (k x : Nat) (acc : List Int) : Prop where
  lt : x < 18446744073709551616
  all : acc ++ (bitsUp x).map (fun j : Nat => (s + k) * 64 + (j : Int)) = listOf s (ws.take (k + 1))

theorem Gather.len {s : Int} {ws : List Nat} {k x : Nat} {acc : List Int} (h : Gather s ws k x acc) : acc.length ≤ 64 * ws.length := by
  have := len_take_listOf s ws (k + 1)
  rw [← h.all, List.length_append] at this
  omega

theorem Gather.step {s : Int} {ws : List Nat} {k x : Nat} {acc : List Int} (h : Gather s ws k x acc) (hx : x ≠ 0) :
    Gather s ws k (x &&& (x - 1)) (acc ++ [(s + k) * 64 + ((Lib.ctz 64 x : Nat) : Int)]) ∧ x &&& (x - 1) < x := by
  obtain ⟨y, hy, hlt, e⟩ := and_pred x hx h.lt
  rw [hy]
  refine ⟨⟨by have := h.lt; omega, ?_⟩, hlt⟩
  rw [← h.all, e]
  simp

end Go.Proofs.YtkhmocbfkpbpfaaGreatDoor

/- Contract of became: what became of a domain, by its size and bounds. -/
namespace Go.Proofs.YtkhmocbfkpbpfaaGreatDoor
open Go.RowKit

theorem below2 (w : World) (o p : Obj) : Below w.heap.size w ((w.alloc o).alloc p) := (below1 w o).alloc (by simp) _

/-- The two boxes of a method with two domains. -/
def Boxes2 (w : World) (d e : Value × Value × Value) (W : World) : Prop :=
  Below w.heap.size w W ∧ w.heap.size + 2 ≤ W.heap.size ∧
  W.cell? ⟨w.heap.size, 0, none⟩ = some d.1 ∧ W.cell? ⟨w.heap.size, 1, none⟩ = some d.2.1 ∧ W.cell? ⟨w.heap.size, 2, none⟩ = some d.2.2 ∧
  W.cell? ⟨w.heap.size + 1, 0, none⟩ = some e.1 ∧ W.cell? ⟨w.heap.size + 1, 1, none⟩ = some e.2.1 ∧ W.cell? ⟨w.heap.size + 1, 2, none⟩ = some e.2.2

theorem Boxes2.start (w : World) (a b c x y z : Value) (t u : TypeId) : Boxes2 w (a, b, c) (x, y, z) ((w.alloc (.cells #[a, b, c] t)).alloc (.cells #[x, y, z] u)).drew :=
  ⟨(below2 _ _ _).drew, by simp, by simp, by simp, by simp, by simp, by simp, by simp⟩

end Go.Proofs.YtkhmocbfkpbpfaaGreatDoor
