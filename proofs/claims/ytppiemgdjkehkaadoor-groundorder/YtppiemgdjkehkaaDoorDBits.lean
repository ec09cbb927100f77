/- Contracts of slices.Min and Max at numbers, and of Equal of two domains. -/
import Derived.Test.YtppiemgdjkehkaaDoorDSame
import Derived.Laws.MakeOwn
import Derived.Laws.OwnMore
namespace Go.Proofs.YtppiemgdjkehkaaDoor
open Go.RowKit

/-- A least (a greatest) number among the first k. -/
structure MinTo (zs : List Int) (k : Nat) (m : Int) : Prop where
  is : ∃ j, j < k ∧ zs.getD j 0 = m
  le : ∀ j, j < k → m ≤ zs.getD j 0
structure MaxTo (zs : List Int) (k : Nat) (m : Int) : Prop where
  is : ∃ j, j < k ∧ zs.getD j 0 = m
  le : ∀ j, j < k → zs.getD j 0 ≤ m

theorem MinTo.start {zs : List Int} {z : Int} (h : zs.getD 0 0 = z) : MinTo zs 1 z :=
  ⟨⟨0, by omega, h⟩, fun j hj => by rw [show j = 0 by omega, h]; exact Int.le_refl _⟩
theorem MaxTo.start {zs : List Int} {z : Int} (h : zs.getD 0 0 = z) : MaxTo zs 1 z :=
  ⟨⟨0, by omega, h⟩, fun j hj => by rw [show j = 0 by omega, h]; exact Int.le_refl _⟩
theorem MinTo.step {zs : List Int} {k : Nat} {m : Int} (h : MinTo zs k m) : MinTo zs (k + 1) (min m (zs.getD k 0)) := by
  obtain ⟨j, hj, e⟩ := h.is
  refine ⟨?_, fun i hi => ?_⟩
  · by_cases hm : m ≤ zs.getD k 0
    · exact ⟨j, by omega, by omega⟩
    · exact ⟨k, by omega, by omega⟩
  · by_cases hik : i = k
    · rw [hik]; omega
    · have := h.le i (by omega); omega
theorem MaxTo.step {zs : List Int} {k : Nat} {m : Int} (h : MaxTo zs k m) : MaxTo zs (k + 1) (max m (zs.getD k 0)) := by
  obtain ⟨j, hj, e⟩ := h.is
  refine ⟨?_, fun i hi => ?_⟩
  · by_cases hm : zs.getD k 0 ≤ m
    · exact ⟨j, by omega, by omega⟩
    · exact ⟨k, by omega, by omega⟩
  · by_cases hik : i = k
    · rw [hik]; omega
    · have := h.le i (by omega); omega

def GivesMinTo (w : World) (zs : List Int) (e : Ending) (w' : World) : Prop := ∃ m, e = .returned (.int .i64 m) ∧ MinTo zs zs.length m ∧ w = w'

def GivesMaxTo (w : World) (zs : List Int) (e : Ending) (w' : World) : Prop := ∃ m, e = .returned (.int .i64 m) ∧ MaxTo zs zs.length m ∧ w = w'

end Go.Proofs.YtppiemgdjkehkaaDoor

/- Contracts of mayBe and noBits. -/
namespace Go.Proofs.YtppiemgdjkehkaaDoor
open Go.RowKit

def mayB (v : Int) : Bool := decide (-1000000 ≤ v) && decide (v ≤ 1000000)

/-- m new words, all 0, and the first one's place. -/
def GivesWords (w : World) (s : Int) (m : Nat) (e : Ending) (w' : World) : Prop :=
  e = .returned (.tuple #[.int .i64 s, .slice (some ⟨w.heap.size, 0, none⟩) m m]) ∧ w'.ownsRow w.heap.size 91 1 (.slice (some ⟨w.heap.size, 0, none⟩) m m) m (U (List.replicate m 0)) ∧ Below w.heap.size w w' ∧ w.heap.size < w'.heap.size

end Go.Proofs.YtppiemgdjkehkaaDoor
