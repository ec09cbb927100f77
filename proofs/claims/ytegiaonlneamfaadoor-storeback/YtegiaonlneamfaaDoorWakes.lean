/- Contract of the law's own wakes: it is true. Condition: the table of math/bits is laid as its text says. -/
import Derived.Test.YtegiaonlneamfaaDoorNear
namespace Go.Proofs.YtegiaonlneamfaaDoor
open Go.RowKit

/-- Three cells of one block. -/
def At3 (W : World) (g : Nat) (a b c : Value) : Prop := g < W.heap.size ∧ W.cell? ⟨g, 0, none⟩ = some a ∧ W.cell? ⟨g, 1, none⟩ = some b ∧ W.cell? ⟨g, 2, none⟩ = some c
theorem At3.below {W W' : World} {g : Nat} {a b c : Value} (h : At3 W g a b c) (hb : Below W.heap.size W W') : At3 W' g a b c :=
  ⟨Nat.lt_of_lt_of_le h.1 hb.size, (hb.cell h.1).trans h.2.1, (hb.cell h.1).trans h.2.2.1, (hb.cell h.1).trans h.2.2.2⟩
theorem At3.new (W : World) (a b c : Value) (t : TypeId) : At3 (W.alloc (.cells #[a, b, c] t)) W.heap.size a b c := ⟨by simp, by simp, by simp, by simp⟩

theorem wakes_ofL : ofL [3, 1, 3] = [1, 3] := by decide +kernel
theorem wakes_ofE : ofErr [3, 1, 3] = 0 := by decide +kernel
theorem wakes_f : ([1, 3] : List Int).filter (fun u => decide (u ≠ 3)) = [1] := by decide +kernel
theorem wakes_c : chg [1, 3] [1] = 3 := by decide +kernel
theorem wakes_r : rangeErr 5 4 = 4 := by decide +kernel
theorem wakes_r2 : rangeErr (-3) 70 = 0 := by decide +kernel
theorem wakes_l : (rangeL (-3) 70).length = 74 := by decide +kernel
theorem wakes_h : decide ((-3 : Int) ∈ rangeL (-3) 70) = true := by decide +kernel
theorem wakes_n : decide ((71 : Int) ∈ rangeL (-3) 70) = false := by decide +kernel

theorem ints3 (w : World) : Lies (w.alloc (.cells #[.int .i64 3, .int .i64 1, .int .i64 3] 3)) (some ⟨w.heap.size, 0, none⟩) 3 (i64f [3, 1, 3]) := by
  intro _
  refine ⟨_, rfl, by simp, fun j hj => ?_⟩
  match j, hj with
  | 0, _ => simp [Addr.add, i64f]
  | 1, _ => simp [Addr.add, i64f]
  | 2, _ => simp [Addr.add, i64f]

theorem ints1 (w : World) (z : Int) : Lies (w.alloc (.cells #[.int .i64 z] 3)) (some ⟨w.heap.size, 0, none⟩) 1 (i64f [z]) := by
  intro _
  refine ⟨_, rfl, by simp, fun j hj => ?_⟩
  match j, hj with
  | 0, _ => simp [Addr.add, i64f]

end Go.Proofs.YtegiaonlneamfaaDoor
