/- What each function of package num answers, for every two numbers of 64 bits: the walks. -/
import Derived.Test.YtmadggpoiklpfaaRows
import Derived.Test.YtmadggpoiklpfaaMath
import Derived.WalkKit
import Derived.ProofKit
import Derived.OpenShut
namespace Go.Proofs.Ytmadggpoiklpfaa
open Go.ChangeShapes Go.WideShapes Go.ChangeAt Go.RowKit

theorem add_yes (a b : Int) (w : World) (ha : fits a) (hb : fits b) (h : fits (a + b)) :
    Calls Try.prog 7 #[.int .i64 a, .int .i64 b] w fun e w' => e = .returned (.tuple #[.int .i64 (a + b), .bool true]) ∧ w = w' := by
  have ht := add_test a b ha hb
  rw [IntWalk.wrap64_in _ h] at ht
  have h2 : ¬ (bits .and .i64 (bits .xor .i64 a (a + b)) (bits .xor .i64 b (a + b)) < 0) := by rw [ht]; exact fun f => f h
  clear ht
  unfold fits at *
  go_enter Try.func7, Try.ntmps7
  go_wp2
  go_ret2
  exact ⟨rfl, rfl⟩

theorem add_no (a b : Int) (w : World) (ha : fits a) (hb : fits b) (h : ¬ fits (a + b)) :
    Calls Try.prog 7 #[.int .i64 a, .int .i64 b] w fun e w' => e = .returned (.tuple #[.int .i64 0, .bool false]) ∧ w = w' := by
  have ht := add_test a b ha hb
  have h2 : (bits .and .i64 (bits .xor .i64 a (wrap64 (a + b))) (bits .xor .i64 b (wrap64 (a + b))) < 0) := by rw [ht]; exact h
  clear ht h
  go_enter Try.func7, Try.ntmps7
  go_wp2
  go_ret2
  exact ⟨rfl, rfl⟩

theorem sub_yes (a b : Int) (w : World) (ha : fits a) (hb : fits b) (h : fits (a - b)) :
    Calls Try.prog 9 #[.int .i64 a, .int .i64 b] w fun e w' => e = .returned (.tuple #[.int .i64 (a - b), .bool true]) ∧ w = w' := by
  have ht := sub_test a b ha hb
  rw [IntWalk.wrap64_in _ h] at ht
  have h2 : ¬ (bits .and .i64 (bits .xor .i64 a b) (bits .xor .i64 a (a - b)) < 0) := by rw [ht]; exact fun f => f h
  clear ht
  unfold fits at *
  go_enter Try.func9, Try.ntmps9
  go_wp2
  go_ret2
  exact ⟨rfl, rfl⟩

theorem sub_no (a b : Int) (w : World) (ha : fits a) (hb : fits b) (h : ¬ fits (a - b)) :
    Calls Try.prog 9 #[.int .i64 a, .int .i64 b] w fun e w' => e = .returned (.tuple #[.int .i64 0, .bool false]) ∧ w = w' := by
  have ht := sub_test a b ha hb
  have h2 : (bits .and .i64 (bits .xor .i64 a b) (bits .xor .i64 a (wrap64 (a - b))) < 0) := by rw [ht]; exact h
  clear ht h
  go_enter Try.func9, Try.ntmps9
  go_wp2
  go_ret2
  exact ⟨rfl, rfl⟩

def okQ (a b : Int) : Bool := decide (b ≠ 0 ∧ ¬ (a = -9223372036854775808 ∧ b = -1))

theorem has_yes (a b : Int) (w : World) (h0 : b ≠ 0) (h1 : ¬ (a = -9223372036854775808 ∧ b = -1)) :
    Calls Try.prog 23 #[.int .i64 a, .int .i64 b] w fun e w' => e = .returned (.bool true) ∧ w = w' := by
  have hb : (b != 0) = true := by simpa using h0
  by_cases e : a = -9223372036854775808
  · have hn : (b != -1) = true := by simp; intro q; exact h1 ⟨e, q⟩
    have he : (a != -9223372036854775808) = false := by simpa using e
    clear h0 h1 e
    go_enter Try.func23, Try.ntmps23
    go_wp2
    go_ret
    exact ⟨rfl, rfl⟩
  · have he : (a != -9223372036854775808) = true := by simpa using e
    clear h0 h1 e
    go_enter Try.func23, Try.ntmps23
    go_wp2
    go_ret
    exact ⟨rfl, rfl⟩

theorem has_no (a b : Int) (w : World) (h : b = 0 ∨ (a = -9223372036854775808 ∧ b = -1)) :
    Calls Try.prog 23 #[.int .i64 a, .int .i64 b] w fun e w' => e = .returned (.bool false) ∧ w = w' := by
  rcases h with rfl | ⟨rfl, rfl⟩
  · go_enter Try.func23, Try.ntmps23
    go_wp2
    go_ret
    exact ⟨rfl, rfl⟩
  · go_enter Try.func23, Try.ntmps23
    go_wp2
    go_ret
    exact ⟨rfl, rfl⟩

end Go.Proofs.Ytmadggpoiklpfaa
