/- Contracts of slices.Equal, Min and Max, at words and numbers; of Equal of two domains. -/
import Derived.Test.YtlcdjlmocmonaaaDoorDWays
namespace Go.Proofs.YtlcdjlmocmonaaaDoor
open Go.RowKit

theorem Lies.drewN {w : World} {A : Option Addr} {n : Nat} {f : Nat → Value} (h : Lies w A n f) (k : Nat) : Lies (w.drewN k) A n f := h

end Go.Proofs.YtlcdjlmocmonaaaDoor
