/- Contracts of a queue's functions: New, Has, Len, and all of nil. -/
import Derived.Test.YtfbpdkajonpphaaQt
namespace Go.Proofs.Ytfbpdkajonpphaa
open Go.RowKit Go.Maps

theorem clear_nil (w : World) : Calls Try.prog 9 #[.pointer none] w fun e w' => e = .returned (.tuple #[]) ∧ w = w' := by
  go_enter Try.func9, Try.ntmps9
  go_wp2
  go_end0
  exact ⟨rfl, rfl⟩

theorem pop_nil (w : World) : Calls Try.prog 7 #[.pointer none] w fun e w' => e = .returned (.tuple #[.int .i64 0, .bool false]) ∧ w = w' := by
  go_enter Try.func7, Try.ntmps7
  go_wp2
  go_ret2
  exact ⟨rfl, rfl⟩

theorem len_nil (w : World) : Calls Try.prog 12 #[.pointer none] w fun e w' => e = .returned (.int .i64 0) ∧ w = w' := by
  go_enter Try.func12, Try.ntmps12
  go_wp2
  go_ret
  exact ⟨rfl, rfl⟩

theorem has_nil (w : World) (x : Int) : Calls Try.prog 13 #[.pointer none, .int .i64 x] w fun e w' => e = .returned (.bool false) ∧ w = w' := by
  go_enter Try.func13, Try.ntmps13
  go_wp2
  go_ret
  exact ⟨rfl, rfl⟩

theorem push_nil (w : World) (x b : Int) : Calls Try.prog 11 #[.pointer none, .int .i64 x, .int .i64 b] w fun e w' => e = .returned (.bool false) ∧ w = w' := by
  go_enter Try.func11, Try.ntmps11
  go_wp2
  go_ret
  exact ⟨rfl, rfl⟩

theorem new_q (w : World) (n : Int) : Calls Try.prog 6 #[.int .i64 n] w fun e w' => e = .returned (ptr (w.heap.size + 1)) ∧ IsQ w' ⟨w.heap.size + 1, n, fun _ => .slice none 0 0, w.heap.size⟩ [] ∧ Below w.heap.size w w' := by
  have hmm := @run_makeMap Try.prog
  have HI := Lib.hid (IsQ.new w n)
  go_enter Try.func6, Try.ntmps6
  go_wp2
  go_ret
  exact ⟨rfl, HI.out, (below1 _ _).trans ((below1 _ _).mono (by simp))⟩

section
variable {w : World} {q : Qs} {l : List (Int × Nat)}

theorem len_q (h : IsQ w q l) : Calls Try.prog 12 #[ptr q.Q] w fun e w' => e = .returned (.int .i64 (l.length : Nat)) ∧ w = w' := by
  obtain ⟨-, -, c5⟩ := h.cells
  obtain ⟨D, hD, -, hD2⟩ := h.map
  rw [← hD2]
  clear hD2
  go_enter Try.func12, Try.ntmps12
  go_wp2_with (first | (at_len; refine wpList_len_own _ rfl _ 43 rfl 3 50 Try.underlying43 _ q.m (size D) D rfl hD ?_) | go_in)
  go_ret
  exact ⟨rfl, rfl⟩

theorem has_q (h : IsQ w q l) (x : Int) (hx : (Lit.int .i64 x).wf = true) : Calls Try.prog 13 #[ptr q.Q, .int .i64 x] w fun e w' => e = .returned (.bool (decide (x ∈ l.map Prod.fst))) ∧ Below w.heap.size w w' := by
  obtain ⟨-, -, c5⟩ := h.cells
  obtain ⟨D, hD, hD1, -⟩ := h.map
  have hkey := key_mk hx
  rw [← hD1]
  clear hD1
  go_enter Try.func13, Try.ntmps13
  go_wp2_with (first | (at_lookup; refine wpList_lookup_own_unit _ rfl _ _ 43 rfl 3 50 law3 Try.underlying43 (zero50 _) q.m (size D) D rfl hD _ _ rfl hkey ?_) | go_in)
  go_ret
  exact ⟨rfl, below1 _ _⟩
end
end Go.Proofs.Ytfbpdkajonpphaa
