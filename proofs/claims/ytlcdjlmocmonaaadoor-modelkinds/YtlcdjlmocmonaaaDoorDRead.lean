/- Contracts of the methods of a domain that only read: word, Has, Min, Max, Size. -/
import Derived.Test.YtlcdjlmocmonaaaDoorDRep
import Derived.Deep.QuietTactic
import Derived.BigQuiet
import Derived.Deep.RegionHeld3
import Derived.Deep.DeepCutAuto
import Derived.KernelRfl
import Derived.Deep.RegionWith
import Derived.IntWalk
namespace Go.Proofs.YtlcdjlmocmonaaaDoor
open Go.RowKit

theorem below1 (w : World) (o : Obj) : Below w.heap.size w (w.alloc o) := (Below.refl _ _).alloc (Nat.le_refl _) _

theorem below_drewN {B : Nat} {a w : World} (h : Below B a w) (n : Nat) : Below B a (w.drewN n) := ⟨h.os, h.tape, h.output, h.size, h.block⟩

theorem add_zero (a : Addr) : a.add 0 = a := by simp [Addr.add]

end Go.Proofs.YtlcdjlmocmonaaaDoor
