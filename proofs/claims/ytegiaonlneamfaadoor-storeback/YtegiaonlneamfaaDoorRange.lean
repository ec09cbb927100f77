/- Contract of Range: all numbers between two, or its error. -/
import Derived.Test.YtegiaonlneamfaaDoorRangem
namespace Go.Proofs.YtegiaonlneamfaaDoor
open Go.RowKit

theorem boxed_free {w W : World} {a b c : Value} {t : TypeId} (h : Below (w.heap.size + 1) (w.alloc (.cells #[a, b, c] t)) W) :
    W.frozen? ⟨w.heap.size, 0, none⟩ = false ∧ W.frozen? ⟨w.heap.size, 1, none⟩ = false ∧ W.frozen? ⟨w.heap.size, 2, none⟩ = false :=
  ⟨by rw [h.frozen (by simp)]; simp, by rw [h.frozen (by simp)]; simp, by rw [h.frozen (by simp)]; simp⟩

theorem own_word {w : World} {base g m k : Nat} {zs : List Nat} (h : w.ownsRow base 85 1 (.slice (some ⟨g, 0, none⟩) m m) m (U zs)) (hz : zs.length = m) (hk : k < m) : w.cell? ⟨g, k, none⟩ = some (.int .u64 ((zs.getD k 0 : Nat) : Int)) := by
  rw [h.cellAt k (by omega)]
  simp [U, List.getD_eq_getElem?_getD, List.getElem?_eq_getElem (show k < zs.length by omega)]

theorem own_put {w : World} {base g m : Nat} {zs : List Nat} (h : w.ownsRow base 85 1 (.slice (some ⟨g, 0, none⟩) m m) m (U zs)) (k x : Nat) : (w.setCell ⟨g, k, none⟩ (.int .u64 (x : Nat))).ownsRow base 85 1 (.slice (some ⟨g, 0, none⟩) m m) m (U (zs.set k x)) := by
  have := (h.stored k (.int .u64 (x : Nat))).1
  rwa [show (U zs).set k (.int .u64 ((x : Nat) : Int)) = U (zs.set k x) by unfold U; rw [List.map_set]] at this

end Go.Proofs.YtegiaonlneamfaaDoor
