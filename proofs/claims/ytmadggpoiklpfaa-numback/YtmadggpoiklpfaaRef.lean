/- What each function of package jigsawref01 answers, for every two numbers of 64 bits: the walks. -/
import Derived.Test.YtmadggpoiklpfaaMore
namespace Go.Proofs.Ytmadggpoiklpfaa
open Go.ChangeShapes Go.WideShapes Go.ChangeAt Go.RowKit

theorem ret_int {k : IntKind} {a b : Int} (h : a = b) : Ending.returned (.int k a) = .returned (.int k b) := by rw [h]

theorem radd_yes (a b : Int) (w : World) (ha : fits a) (hb : fits b) (h : fits (a + b)) :
    Calls Try.prog 8 #[.int .i64 a, .int .i64 b] w fun e w' => e = .returned (.tuple #[.int .i64 (a + b), .bool true]) ∧ w = w' := by
  unfold fits at *
  by_cases p : 0 < b
  · have q : ¬ b < 0 := by omega
    have r : ¬ 9223372036854775807 - b < a := by omega
    go_enter Try.func8, Try.ntmps8
    go_wp2
    go_ret2
    exact ⟨rfl, rfl⟩
  · by_cases q : b < 0
    · have r : ¬ a < -9223372036854775808 - b := by omega
      go_enter Try.func8, Try.ntmps8
      go_wp2
      go_ret2
      exact ⟨rfl, rfl⟩
    · obtain rfl : b = 0 := by omega
      go_enter Try.func8, Try.ntmps8
      go_wp2
      go_ret2
      exact ⟨by simp, rfl⟩

theorem radd_no (a b : Int) (w : World) (ha : fits a) (hb : fits b) (h : ¬ fits (a + b)) :
    Calls Try.prog 8 #[.int .i64 a, .int .i64 b] w fun e w' => e = .returned (.tuple #[.int .i64 0, .bool false]) ∧ w = w' := by
  unfold fits at *
  by_cases p : 0 < b
  · have r : 9223372036854775807 - b < a := by omega
    clear h
    go_enter Try.func8, Try.ntmps8
    go_wp2
    go_ret2
    exact ⟨rfl, rfl⟩
  · have q : b < 0 := by omega
    have r : a < -9223372036854775808 - b := by omega
    clear h
    go_enter Try.func8, Try.ntmps8
    go_wp2
    go_ret2
    exact ⟨rfl, rfl⟩

theorem rsub_yes (a b : Int) (w : World) (ha : fits a) (hb : fits b) (h : fits (a - b)) :
    Calls Try.prog 10 #[.int .i64 a, .int .i64 b] w fun e w' => e = .returned (.tuple #[.int .i64 (a - b), .bool true]) ∧ w = w' := by
  unfold fits at *
  by_cases p : 0 < b
  · have q : ¬ b < 0 := by omega
    have r : ¬ a < -9223372036854775808 + b := by omega
    go_enter Try.func10, Try.ntmps10
    go_wp2
    go_ret2
    exact ⟨rfl, rfl⟩
  · by_cases q : b < 0
    · have r : ¬ 9223372036854775807 + b < a := by omega
      go_enter Try.func10, Try.ntmps10
      go_wp2
      go_ret2
      exact ⟨rfl, rfl⟩
    · obtain rfl : b = 0 := by omega
      go_enter Try.func10, Try.ntmps10
      go_wp2
      go_ret2
      exact ⟨by simp, rfl⟩

theorem rsub_no (a b : Int) (w : World) (ha : fits a) (hb : fits b) (h : ¬ fits (a - b)) :
    Calls Try.prog 10 #[.int .i64 a, .int .i64 b] w fun e w' => e = .returned (.tuple #[.int .i64 0, .bool false]) ∧ w = w' := by
  unfold fits at *
  by_cases p : 0 < b
  · have r : a < -9223372036854775808 + b := by omega
    clear h
    go_enter Try.func10, Try.ntmps10
    go_wp2
    go_ret2
    exact ⟨rfl, rfl⟩
  · have q : b < 0 := by omega
    have r : 9223372036854775807 + b < a := by omega
    clear h
    go_enter Try.func10, Try.ntmps10
    go_wp2
    go_ret2
    exact ⟨rfl, rfl⟩

theorem size_neg (a : Int) (w : World) (ha : fits a) (h : a < 0) :
    Calls Try.prog 22 #[.int .i64 a] w fun e w' => e = .returned (.int .u64 (-a)) ∧ w = w' := by
  unfold fits at ha
  go_enter Try.func22, Try.ntmps22
  go_wp2
  go_ret
  exact ⟨ret_int (by omega), rfl⟩

theorem size_pos (a : Int) (w : World) (ha : fits a) (h : ¬ a < 0) :
    Calls Try.prog 22 #[.int .i64 a] w fun e w' => e = .returned (.int .u64 a) ∧ w = w' := by
  unfold fits at ha
  go_enter Try.func22, Try.ntmps22
  go_wp2
  go_ret
  exact ⟨rfl, rfl⟩

end Go.Proofs.Ytmadggpoiklpfaa
