/- What the law's wakes tells: true. -/
import Derived.Test.YtlcdjlmocmonaaaDoorMright
import Derived.Test.YtlcdjlmocmonaaaDoorMshapes
namespace Go.Proofs.YtlcdjlmocmonaaaDoor
open Go.RowKit Go.Sort

theorem ints_new (w : World) (l : List Int) (t : TypeId) (hl : l.length ≤ 4611686018427387903) : IsInts (w.alloc (.cells (l.map fun z => Value.int .i64 z).toArray t)) ⟨some ⟨w.heap.size, 0, none⟩, l.length, l.length⟩ l := by
  refine ⟨rfl, fun _ => ⟨_, rfl, by simp, fun j hj => ?_⟩, hl, Nat.le_refl _⟩
  rw [Addr.add_mid, Nat.zero_add]
  have hj' : j < l.length := hj
  simp [i64f, hj', List.getD_eq_getElem?_getD]

def allTwo (z : Int) : ConL := ⟨17, [0, z], [], [], [], [], 0, []⟩
theorem right_two (z : Int) (w : World) (t : TypeId) (hE : EntIn w) :
    Calls Tryd.prog 18 #[.agg #[.int .i64 17, .slice (some ⟨w.heap.size, 0, none⟩) 2 2, .slice none 0 0, .slice none 0 0, .slice none 0 0, .slice none 0 0, .int .i64 0, .slice none 0 0], .int .i64 2] (w.alloc (.cells #[.int .i64 0, .int .i64 z] t)) fun e w' => e = .returned (.int .i64 (rightE (allTwo z) 2)) ∧ Below (w.alloc (.cells #[.int .i64 0, .int .i64 z] t)).heap.size (w.alloc (.cells #[.int .i64 0, .int .i64 z] t)) w' :=
  right_any ⟨⟨some ⟨w.heap.size, 0, none⟩, 2, 2⟩, ⟨none, 0, 0⟩, ⟨none, 0, 0⟩, ⟨none, 0, 0⟩, ⟨none, 0, 0⟩, ⟨none, 0, 0⟩⟩ (allTwo z) 2 _ (hE.below (below1 w _)) ⟨ints_new w [0, z] t (by simp), IsInts.nil _, IsInts.nil _, IsInts.nil _, IsInts.nil _, IsRows.nil _⟩

theorem wf1 : foundF (kindP 17) = (⟨17, [97, 108, 108, 95, 100, 105, 102, 102, 101, 114, 101, 110, 116], [86]⟩, true) := by kernel_rfl
theorem wf2 : foundF (wordP ⟨#[108, 101, 120, 95, 108, 101]⟩) = (⟨22, [108, 101, 120, 95, 108, 101], [86, 87]⟩, true) := by kernel_rfl
theorem wf3 : foundF (wordP ⟨#[120]⟩) = (noEnt, false) := by kernel_rfl
theorem wf4 : foundF (kindP 21) = (⟨21, [103, 99, 99], [86, 99, 100, 101]⟩, true) := by kernel_rfl
theorem wf5 : rightE (allTwo 2) 2 = 7 := by kernel_rfl
theorem wf6 : rightE (allTwo 1) 2 = 0 := by kernel_rfl

set_option maxHeartbeats 2000000 in
set_option maxRecDepth 100000 in
theorem wakes_true (w : World) (hE : EntIn w) : Calls Tryd.prog 11 #[] w fun e w' => e = .returned (.bool true) ∧ Below w.heap.size w w' := by
  have C1 := Lib.hid (word_kind 17 w hE)
  rw [wf1] at C1
  have C2 := Lib.hid (fun W h => kind_word ⟨#[108, 101, 120, 95, 108, 101]⟩ W h)
  rw [wf2] at C2
  have C3 := Lib.hid (fun W h => kind_word ⟨#[120]⟩ W h)
  rw [wf3] at C3
  have C4 := Lib.hid (fun W h => shape_kind 21 W h)
  rw [wf4] at C4
  have C5 := Lib.hid (fun W t h => right_two 2 W t h)
  rw [wf5] at C5
  have C6 := Lib.hid (fun W t h => right_two 1 W t h)
  rw [wf6] at C6
  have HE := Lib.hid hE
  clear hE
  go_enter Tryd.func11, Tryd.ntmps11
  go_wp2_with fail
  refine C1.out.mono ?_
  rintro e w1 ⟨rfl, b1⟩
  have B1 := Lib.hid b1
  clear b1 C1
  go_wp2_with fail
  refine (C2.out _ (HE.out.below B1.out)).mono ?_
  rintro e w2 ⟨rfl, b2⟩
  have B2 := Lib.hid (B1.out.trans (b2.mono B1.out.size))
  clear b2 C2 B1
  go_wp2_with fail
  refine (C3.out _ (HE.out.below B2.out)).mono ?_
  rintro e w3 ⟨rfl, b3⟩
  have B3 := Lib.hid (B2.out.trans (b3.mono B2.out.size))
  clear b3 C3 B2
  unfold noEnt
  go_wp2_with fail
  refine (C4.out _ (HE.out.below B3.out)).mono ?_
  rintro e w4 ⟨rfl, b4⟩
  have B4 := Lib.hid (B3.out.trans (b4.mono B3.out.size))
  clear b4 C4 B3
  go_wp2_with fail
  refine (C5.out _ _ (HE.out.below B4.out)).mono ?_
  rintro e w5 ⟨rfl, b5⟩
  have B5 := Lib.hid (B4.out.trans ((below1 w4 _).trans (b5.mono (by simp)) |>.mono B4.out.size))
  clear b5 C5 B4
  go_wp2_with fail
  refine (C6.out _ _ (HE.out.below B5.out)).mono ?_
  rintro e w6 ⟨rfl, b6⟩
  have B6 := Lib.hid (B5.out.trans ((below1 w5 _).trans (b6.mono (by simp)) |>.mono B5.out.size))
  clear b6 C6 B5
  go_wp2_with fail
  go_ret
  exact ⟨rfl, B6.out⟩
end Go.Proofs.YtlcdjlmocmonaaaDoor
