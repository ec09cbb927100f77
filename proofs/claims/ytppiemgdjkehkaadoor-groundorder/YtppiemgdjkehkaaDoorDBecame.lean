/- Contract of became: what became of a domain, by its size and bounds. -/
import Derived.Test.YtppiemgdjkehkaaDoorDList
namespace Go.Proofs.YtppiemgdjkehkaaDoor
open Go.RowKit

theorem below2 (w : World) (o p : Obj) : Below w.heap.size w ((w.alloc o).alloc p) := (below1 w o).alloc (by simp) _

/-- The two boxes of a method with two domains. -/
def Boxes2 (w : World) (d e : Value × Value × Value) (W : World) : Prop :=
  Below w.heap.size w W ∧ w.heap.size + 2 ≤ W.heap.size ∧
  W.cell? ⟨w.heap.size, 0, none⟩ = some d.1 ∧ W.cell? ⟨w.heap.size, 1, none⟩ = some d.2.1 ∧ W.cell? ⟨w.heap.size, 2, none⟩ = some d.2.2 ∧
  W.cell? ⟨w.heap.size + 1, 0, none⟩ = some e.1 ∧ W.cell? ⟨w.heap.size + 1, 1, none⟩ = some e.2.1 ∧ W.cell? ⟨w.heap.size + 1, 2, none⟩ = some e.2.2

theorem Boxes2.start (w : World) (a b c x y z : Value) (t u : TypeId) : Boxes2 w (a, b, c) (x, y, z) ((w.alloc (.cells #[a, b, c] t)).alloc (.cells #[x, y, z] u)).drew :=
  ⟨(below2 _ _ _).drew, by simp, by simp, by simp, by simp, by simp, by simp, by simp⟩

end Go.Proofs.YtppiemgdjkehkaaDoor
