/- A box of four cells (a token's) that is written to: what stays. -/
import Derived.Test.YtancjkanmjdkkaaDoorRun
namespace Go.Proofs.YtancjkanmjdkkaaDoor
open Go.RowKit

/-- A token's value. -/
abbrev tokV (k : Nat) (x : ByteArray) (v : Int) (p : Int) : Value := .agg #[.int .i64 (k : Nat), .string x, .int .i64 v, .int .i64 p]

/-- A box of a token, and nothing else in its block. -/
def Box (ty : TypeId) (W : World) (g : Nat) (a b c d : Value) : Prop := W.heap[g]? = some (.cells #[a, b, c, d] ty (0, 0))
section
variable {ty : TypeId} {W W' : World} {g : Nat} {a b c d : Value}
theorem Box.lt (h : Box ty W g a b c d) : g < W.heap.size := (Array.getElem?_eq_some_iff.1 h).1
theorem Box.below (h : Box ty W g a b c d) (hb : Below W.heap.size W W') : Box ty W' g a b c d := (hb.block g h.lt).trans h
theorem Box.new (ty : TypeId) (W : World) (a b c d : Value) : Box ty (W.alloc (.cells #[a, b, c, d] ty)) W.heap.size a b c d := heap_alloc_new W _
theorem Box.cells (h : Box ty W g a b c d) : W.cell? ⟨g, 0, none⟩ = some a ∧ W.cell? ⟨g, 1, none⟩ = some b ∧ W.cell? ⟨g, 2, none⟩ = some c ∧ W.cell? ⟨g, 3, none⟩ = some d := by
  unfold Box at h
  refine ⟨?_, ?_, ?_, ?_⟩ <;> (unfold World.cell?; rw [h]; simp)
theorem Box.free (h : Box ty W g a b c d) (i : Nat) : W.frozen? ⟨g, i, none⟩ = false := by
  unfold Box at h
  unfold World.frozen?
  rw [h]; simp
end

/-- The cells of a new block. -/
theorem new_cells (W : World) (ty : TypeId) (a b c d : Value) (j : Nat) (u : Value) (hj : [a, b, c, d][j]? = some u) : (W.alloc (.cells #[a, b, c, d] ty)).cell? ((⟨W.heap.size, 0, none⟩ : Addr).add j) = some u := by
  obtain ⟨x0, x1, x2, x3⟩ := (Box.new ty W a b c d).cells
  have e : (⟨W.heap.size, 0, none⟩ : Addr).add j = ⟨W.heap.size, j, none⟩ := by
    unfold Addr.add
    split
    · next h => rw [h]
    · simp
  rw [e]
  match j, hj with
  | 0, hj => rw [x0]; exact hj
  | 1, hj => rw [x1]; exact hj
  | 2, hj => rw [x2]; exact hj
  | 3, hj => rw [x3]; exact hj
  | n + 4, hj => simp at hj

/-- A box written anew. -/
abbrev put4 (W : World) (g : Nat) (a b c d : Value) : World := (((W.setCell ⟨g, 0, none⟩ a).setCell ⟨g, 1, none⟩ b).setCell ⟨g, 2, none⟩ c).setCell ⟨g, 3, none⟩ d
theorem put4_size (W : World) (g : Nat) (a b c d : Value) : (put4 W g a b c d).heap.size = W.heap.size := by simp [put4, World.setCell]
theorem put4_heap (W : World) (g k : Nat) (a b c d : Value) (h : k ≠ g) : (put4 W g a b c d).heap[k]? = W.heap[k]? := by
  simp [put4, World.setCell, Array.getElem?_modify, Ne.symm h]
theorem put4_same {ty : TypeId} {W : World} {g : Nat} {a b c d : Value} (h : Box ty W g a b c d) (a' b' c' d' : Value) : Box ty (put4 W g a' b' c' d') g a' b' c' d' := by
  unfold Box at h ⊢
  simp [put4, World.setCell, Array.getElem?_modify, h]
theorem put4_below {B : Nat} {A W : World} (h : Below B A W) (g : Nat) (hg : B ≤ g) (a b c d : Value) : Below B A (put4 W g a b c d) :=
  (((h.setCell (p := ⟨g, 0, none⟩) hg a).setCell (p := ⟨g, 1, none⟩) hg b).setCell (p := ⟨g, 2, none⟩) hg c).setCell (p := ⟨g, 3, none⟩) hg d
theorem set_same3 {ty : TypeId} {W : World} {g : Nat} {a b c d : Value} (h : Box ty W g a b c d) (d' : Value) : Box ty (W.setCell ⟨g, 3, none⟩ d') g a b c d' := by
  unfold Box at h ⊢
  simp [World.setCell, Array.getElem?_modify, h]
end Go.Proofs.YtancjkanmjdkkaaDoor
