/- Contracts of the methods of a domain that only read: word, Has, Min, Max, Size. -/
import Derived.Test.YtppiemgdjkehkaaDoorDRep
import Derived.Deep.QuietTactic
import Derived.BigQuiet
import Derived.Deep.RegionHeld3
import Derived.Deep.DeepCutAuto
import Derived.KernelRfl
import Derived.Deep.RegionWith
import Derived.IntWalk
namespace Go.Proofs.YtppiemgdjkehkaaDoor
open Go.RowKit

theorem below1 (w : World) (o : Obj) : Below w.heap.size w (w.alloc o) := (Below.refl _ _).alloc (Nat.le_refl _) _

theorem below_drewN {B : Nat} {a w : World} (h : Below B a w) (n : Nat) : Below B a (w.drewN n) := ⟨h.os, h.tape, h.output, h.size, h.block⟩

theorem add_zero (a : Addr) : a.add 0 = a := by simp [Addr.add]

end Go.Proofs.YtppiemgdjkehkaaDoor

/- Contracts of Next and Prev: the walks, over what the words are said to hold. -/
namespace Go.Proofs.YtppiemgdjkehkaaDoor
open Go.RowKit

/-- What a method of a domain answers, in every world in which what lay still lies. -/
def Answers (k : FuncId) (args : Array Value) (w : World) (r : Value) : Prop :=
  ∀ W, Below w.heap.size w W → Calls Tryd.prog k args W fun e w' => e = .returned r ∧ Below W.heap.size W w'

theorem Answers.on {k : FuncId} {args : Array Value} {w : World} {r : Value} (h : Answers k args w r) (W : World) (hb : Below w.heap.size w W) :
    Calls Tryd.prog k args W fun e w' => e = .returned r ∧ Below W.heap.size W w' := h W hb

theorem boxed {w W : World} {a b c : Value} {t : TypeId} (h : Below (w.heap.size + 1) (w.alloc (.cells #[a, b, c] t)) W) :
    W.cell? ⟨w.heap.size, 0, none⟩ = some a ∧ W.cell? ⟨w.heap.size, 1, none⟩ = some b ∧ W.cell? ⟨w.heap.size, 2, none⟩ = some c :=
  ⟨by rw [h.cell (by simp)]; simp, by rw [h.cell (by simp)]; simp, by rw [h.cell (by simp)]; simp⟩

theorem of_boxed {w W : World} {o : Obj} (h : Below (w.heap.size + 1) (w.alloc o) W) : Below w.heap.size w W := (below1 w o).trans (h.mono (by omega))
end Go.Proofs.YtppiemgdjkehkaaDoor
