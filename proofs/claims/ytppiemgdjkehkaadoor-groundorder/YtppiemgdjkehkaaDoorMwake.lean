/- What the law's wakes tells: true. -/
import Derived.Test.YtppiemgdjkehkaaDoorMright
import Derived.Test.YtppiemgdjkehkaaDoorMshapes
namespace Go.Proofs.YtppiemgdjkehkaaDoor
open Go.RowKit Go.Sort

theorem ints_new (w : World) (l : List Int) (t : TypeId) (hl : l.length ≤ 4611686018427387903) : IsInts (w.alloc (.cells (l.map fun z => Value.int .i64 z).toArray t)) ⟨some ⟨w.heap.size, 0, none⟩, l.length, l.length⟩ l := by
  refine ⟨rfl, fun _ => ⟨_, rfl, by simp, fun j hj => ?_⟩, hl, Nat.le_refl _⟩
  rw [Addr.add_mid, Nat.zero_add]
  have hj' : j < l.length := hj
  simp [i64f, hj', List.getD_eq_getElem?_getD]

def allTwo (z : Int) : ConL := ⟨17, [0, z], [], [], [], [], 0, []⟩
theorem right_two (z : Int) (w : World) (t : TypeId) (hE : EntIn w) :
    Calls Tryd.prog 26 #[.agg #[.int .i64 17, .slice (some ⟨w.heap.size, 0, none⟩) 2 2, .slice none 0 0, .slice none 0 0, .slice none 0 0, .slice none 0 0, .int .i64 0, .slice none 0 0], .int .i64 2] (w.alloc (.cells #[.int .i64 0, .int .i64 z] t)) fun e w' => e = .returned (.int .i64 (rightE (allTwo z) 2)) ∧ Below (w.alloc (.cells #[.int .i64 0, .int .i64 z] t)).heap.size (w.alloc (.cells #[.int .i64 0, .int .i64 z] t)) w' :=
  right_any ⟨⟨some ⟨w.heap.size, 0, none⟩, 2, 2⟩, ⟨none, 0, 0⟩, ⟨none, 0, 0⟩, ⟨none, 0, 0⟩, ⟨none, 0, 0⟩, ⟨none, 0, 0⟩⟩ (allTwo z) 2 _ (hE.below (below1 w _)) ⟨ints_new w [0, z] t (by simp), IsInts.nil _, IsInts.nil _, IsInts.nil _, IsInts.nil _, IsRows.nil _⟩

theorem wf1 : foundF (kindP 17) = (⟨17, [97, 108, 108, 95, 100, 105, 102, 102, 101, 114, 101, 110, 116], [86]⟩, true) := by kernel_rfl
theorem wf2 : foundF (wordP ⟨#[108, 101, 120, 95, 108, 101]⟩) = (⟨22, [108, 101, 120, 95, 108, 101], [86, 87]⟩, true) := by kernel_rfl
theorem wf3 : foundF (wordP ⟨#[120]⟩) = (noEnt, false) := by kernel_rfl
theorem wf4 : foundF (kindP 21) = (⟨21, [103, 99, 99], [86, 99, 100, 101]⟩, true) := by kernel_rfl
theorem wf5 : rightE (allTwo 2) 2 = 7 := by kernel_rfl
theorem wf6 : rightE (allTwo 1) 2 = 0 := by kernel_rfl

end Go.Proofs.YtppiemgdjkehkaaDoor
