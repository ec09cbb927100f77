/- Contracts of math/bits.TrailingZeros64 and Len64, and of dom's lowest and highest, by the rising list of a word's bits. Conditions: the word has 64 bits and isn't 0; the table of math/bits is laid as its text says. -/
import Derived.Test.YtlcdjlmocmonaaaDoorDSmall
import Derived.Below
import Derived.Lib.Walk
import Derived.Lib.Hide
namespace Go.Proofs.YtlcdjlmocmonaaaDoor
open Go.RowKit

/-- The table of math/bits lies in its variable. -/
def Tab (w : World) : Prop := 0 < w.heap.size ∧ ∀ j, j < 64 → w.cell? ⟨0, j, none⟩ = some (.int .u8 ((Lib.deBruijn64tab.getD j 0 : Nat) : Int))

theorem Tab.below {w w' : World} (h : Tab w) (hb : Below w.heap.size w w') : Tab w' :=
  ⟨Nat.lt_of_lt_of_le h.1 hb.size, fun j hj => (hb.cell (p := ⟨0, j, none⟩) h.1).trans (h.2 j hj)⟩

end Go.Proofs.YtlcdjlmocmonaaaDoor
