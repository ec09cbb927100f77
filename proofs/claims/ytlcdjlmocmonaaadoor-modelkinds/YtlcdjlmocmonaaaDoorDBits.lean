/- Contracts of mayBe and noBits. -/
import Derived.Test.YtlcdjlmocmonaaaDoorDEqual
import Derived.Laws.MakeOwn
import Derived.Laws.OwnMore
namespace Go.Proofs.YtlcdjlmocmonaaaDoor
open Go.RowKit

def mayB (v : Int) : Bool := decide (-1000000 ≤ v) && decide (v ≤ 1000000)

theorem maybe_any (v : Int) (w : World) : Calls Tryd.prog 65 #[.int .i64 v] w fun e w' => e = .returned (.bool (mayB v)) ∧ w = w' := by
  by_cases h1 : -1000000 ≤ v
  · have d1 : decide (-1000000 ≤ v) = true := by simpa using h1
    by_cases h2 : v ≤ 1000000
    · have d2 : decide (v ≤ 1000000) = true := by simpa using h2
      have Hfin : Hid (mayB v = true) := by unfold Hid mayB; rw [d1, d2]; rfl
      clear h1 h2
      go_enter Tryd.func65, Tryd.ntmps65
      go_wp2
      go_ret
      exact ⟨by rw [Hfin.out]; rfl, rfl⟩
    · have d2 : decide (v ≤ 1000000) = false := by simpa using h2
      have Hfin : Hid (mayB v = false) := by unfold Hid mayB; rw [d1, d2]; rfl
      clear h1 h2
      go_enter Tryd.func65, Tryd.ntmps65
      go_wp2
      go_ret
      exact ⟨by rw [Hfin.out]; rfl, rfl⟩
  · have d1 : decide (-1000000 ≤ v) = false := by simpa using h1
    have Hfin : Hid (mayB v = false) := by unfold Hid mayB; rw [d1]; rfl
    clear h1
    go_enter Tryd.func65, Tryd.ntmps65
    go_wp2
    go_ret
    exact ⟨by rw [Hfin.out]; rfl, rfl⟩

/-- m new words, all 0, and the first one's place. -/
def GivesWords (w : World) (s : Int) (m : Nat) (e : Ending) (w' : World) : Prop :=
  e = .returned (.tuple #[.int .i64 s, .slice (some ⟨w.heap.size, 0, none⟩) m m]) ∧ w'.ownsRow w.heap.size 94 1 (.slice (some ⟨w.heap.size, 0, none⟩) m m) m (U (List.replicate m 0)) ∧ Below w.heap.size w w' ∧ w.heap.size < w'.heap.size

theorem nobits_any (low high : Int) (m : Nat) (w : World) (hm : (m : Int) = high / 64 - low / 64 + 1) (hm2 : m ≤ 100000) :
    Calls Tryd.prog 66 #[.int .i64 low, .int .i64 high] w (GivesWords w (low / 64) m) := by
  obtain ⟨i0, hi, hz0, hz1, hz2⟩ := info_parts Tryd.info94
  have hmk : ∀ W : World, (Instr.makeSlice 77 (.int .i64 (high / 64 - low / 64 + 1)) (.int .i64 (high / 64 - low / 64 + 1))).run Tryd.prog W = .ok (.slice (some ⟨W.heap.size, 0, none⟩) m m) (W.alloc (.cells (madeCells #[.int .u64 0] m) 94)) := by
    intro W
    have := run_make (P := Tryd.prog) W 77 94 i0 (.int .u64 0) Tryd.underlying77 hi hz0 .i64 .i64 (high / 64 - low / 64 + 1) (high / 64 - low / 64 + 1) (by omega) (by omega) (by rw [hz2]; omega) (by omega)
    rw [this, ← hm, hz1]
    simp [Value.cells]
  have e2 : IntKind.i64.wrap (high / 64 - low / 64) = high / 64 - low / 64 := IntWalk.i64_in _ (by omega)
  have e3 : IntKind.i64.wrap (high / 64 - low / 64 + 1) = high / 64 - low / 64 + 1 := IntWalk.i64_in _ (by omega)
  have Hm := Lib.hid hm
  clear hm hi hz0 hz1 hz2
  go_enter Tryd.func66, Tryd.ntmps66
  go_wp2_with (go_at_call 67; with_reducible refine (place_any _ _).mono ?_; rintro e w' ⟨rfl, rfl⟩)
  go_region_with (first | (go_at_call 67; refine (place_any _ _).mono ?_; rintro e w' ⟨rfl, rfl⟩))
  all_goals
    go_wp2
    go_ret2
    refine ⟨rfl, ?_, (below1 _ _).drew, by simp⟩
    have := World.ownsRow_lit (base := w.heap.size) (e := 94) (size := 1) w (madeCells #[Value.int .u64 0] m) m (Nat.le_refl _) (by unfold maxLen; omega) (by simp [madeCells])
    rw [toList_madeCells_one] at this
    simpa [U] using this.drew
end Go.Proofs.YtlcdjlmocmonaaaDoor
