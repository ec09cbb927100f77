/- What Mul, Quo, Rem, Floor, Ceil of package num answer, for every two numbers of 64 bits: the walks. -/
import Derived.Test.YtmadggpoiklpfaaWalks
namespace Go.Proofs.Ytmadggpoiklpfaa
open Go.ChangeShapes Go.WideShapes Go.ChangeAt Go.RowKit

theorem mul_nought (a : Int) (w : World) :
    Calls Try.prog 11 #[.int .i64 a, .int .i64 0] w fun e w' => e = .returned (.tuple #[.int .i64 0, .bool true]) ∧ w = w' := by
  go_enter Try.func11, Try.ntmps11
  go_wp2
  go_ret2
  exact ⟨rfl, rfl⟩

theorem mul_minus_yes (a : Int) (w : World) (ha : fits a) (h : fits (0 - a)) :
    Calls Try.prog 11 #[.int .i64 a, .int .i64 (-1)] w fun e w' => e = .returned (.tuple #[.int .i64 (-a), .bool true]) ∧ w = w' := by
  go_enter Try.func11, Try.ntmps11
  go_wp2_with (go_at_call 9; refine (sub_yes 0 a _ (by unfold fits; omega) ha h).mono ?_; rintro e w' ⟨rfl, rfl⟩)
  go_ret2
  exact ⟨rfl, rfl⟩

theorem mul_minus_no (a : Int) (w : World) (ha : fits a) (h : ¬ fits (0 - a)) :
    Calls Try.prog 11 #[.int .i64 a, .int .i64 (-1)] w fun e w' => e = .returned (.tuple #[.int .i64 0, .bool false]) ∧ w = w' := by
  go_enter Try.func11, Try.ntmps11
  go_wp2_with (go_at_call 9; refine (sub_no 0 a _ (by unfold fits; omega) ha h).mono ?_; rintro e w' ⟨rfl, rfl⟩)
  go_ret2
  exact ⟨rfl, rfl⟩

theorem mul_far_yes (a b : Int) (w : World) (ha : fits a) (h0 : (b == 0) = false) (h1 : (b == -1) = false) (h : fits (a * b)) :
    Calls Try.prog 11 #[.int .i64 a, .int .i64 b] w fun e w' => e = .returned (.tuple #[.int .i64 (a * b), .bool true]) ∧ w = w' := by
  have hn : ¬ b = 0 := by simpa using h0
  unfold fits at *
  go_enter Try.func11, Try.ntmps11
  go_wp2
  go_ret2
  exact ⟨rfl, rfl⟩

theorem mul_far_no (a b : Int) (w : World) (hb : fits b) (h0 : (b == 0) = false) (h1 : (b == -1) = false) (h : ¬ fits (a * b)) :
    Calls Try.prog 11 #[.int .i64 a, .int .i64 b] w fun e w' => e = .returned (.tuple #[.int .i64 0, .bool false]) ∧ w = w' := by
  have ht := fun q => h ((wrap_mul_ne a b hb (by simpa using h0) (by simpa using h1)).1 q)
  have h2 : (wrap64 ((wrap64 (a * b)).tdiv b) != a) = true := by simpa using ht
  have hn : ¬ b = 0 := by simpa using h0
  clear ht h hb
  go_enter Try.func11, Try.ntmps11
  go_wp2
  go_ret2
  exact ⟨rfl, rfl⟩

theorem mul_yes (a b : Int) (w : World) (ha : fits a) (h : fits (a * b)) :
    Calls Try.prog 11 #[.int .i64 a, .int .i64 b] w fun e w' => e = .returned (.tuple #[.int .i64 (a * b), .bool true]) ∧ w = w' := by
  by_cases h0 : b = 0
  · subst h0; rw [Int.mul_zero]; exact mul_nought a w
  · by_cases h1 : b = -1
    · subst h1
      have e : a * -1 = -a := by omega
      rw [e] at h ⊢
      exact mul_minus_yes a w ha (by rw [Int.zero_sub]; exact h)
    · exact mul_far_yes a b w ha (by simpa using h0) (by simpa using h1) h

theorem mul_no (a b : Int) (w : World) (ha : fits a) (hb : fits b) (h : ¬ fits (a * b)) :
    Calls Try.prog 11 #[.int .i64 a, .int .i64 b] w fun e w' => e = .returned (.tuple #[.int .i64 0, .bool false]) ∧ w = w' := by
  by_cases h0 : b = 0
  · subst h0; exact absurd (by rw [Int.mul_zero]; decide) h
  · by_cases h1 : b = -1
    · subst h1
      have e : a * -1 = -a := by omega
      rw [e] at h
      exact mul_minus_no a w ha (by rw [Int.zero_sub]; exact h)
    · exact mul_far_no a b w hb (by simpa using h0) (by simpa using h1) h

theorem quo_no (a b : Int) (w : World) (h : b = 0 ∨ (a = -9223372036854775808 ∧ b = -1)) :
    Calls Try.prog 14 #[.int .i64 a, .int .i64 b] w fun e w' => e = .returned (.tuple #[.int .i64 0, .bool false]) ∧ w = w' := by
  go_enter Try.func14, Try.ntmps14
  go_wp2_with (go_at_call 23; refine (has_no a b _ h).mono ?_; rintro e w' ⟨rfl, rfl⟩)
  go_ret2
  exact ⟨rfl, rfl⟩

theorem rem_no (a b : Int) (w : World) (h : b = 0 ∨ (a = -9223372036854775808 ∧ b = -1)) :
    Calls Try.prog 16 #[.int .i64 a, .int .i64 b] w fun e w' => e = .returned (.tuple #[.int .i64 0, .bool false]) ∧ w = w' := by
  go_enter Try.func16, Try.ntmps16
  go_wp2_with (go_at_call 23; refine (has_no a b _ h).mono ?_; rintro e w' ⟨rfl, rfl⟩)
  go_ret2
  exact ⟨rfl, rfl⟩

theorem floor_no (a b : Int) (w : World) (h : b = 0 ∨ (a = -9223372036854775808 ∧ b = -1)) :
    Calls Try.prog 18 #[.int .i64 a, .int .i64 b] w fun e w' => e = .returned (.tuple #[.int .i64 0, .bool false]) ∧ w = w' := by
  go_enter Try.func18, Try.ntmps18
  go_wp2_with (go_at_call 23; refine (has_no a b _ h).mono ?_; rintro e w' ⟨rfl, rfl⟩)
  go_ret2
  exact ⟨rfl, rfl⟩

theorem ceil_no (a b : Int) (w : World) (h : b = 0 ∨ (a = -9223372036854775808 ∧ b = -1)) :
    Calls Try.prog 20 #[.int .i64 a, .int .i64 b] w fun e w' => e = .returned (.tuple #[.int .i64 0, .bool false]) ∧ w = w' := by
  go_enter Try.func20, Try.ntmps20
  go_wp2_with (go_at_call 23; refine (has_no a b _ h).mono ?_; rintro e w' ⟨rfl, rfl⟩)
  go_ret2
  exact ⟨rfl, rfl⟩

theorem quo_yes (a b : Int) (w : World) (ha : fits a) (h0 : b ≠ 0) (h1 : ¬ (a = -9223372036854775808 ∧ b = -1)) :
    Calls Try.prog 14 #[.int .i64 a, .int .i64 b] w fun e w' => e = .returned (.tuple #[.int .i64 (a.tdiv b), .bool true]) ∧ w = w' := by
  have hf := tdiv_fits a b ha h1
  have hz : (b == 0) = false := by simpa using h0
  unfold fits at hf
  go_enter Try.func14, Try.ntmps14
  go_wp2_with (go_at_call 23; refine (has_yes a b _ h0 h1).mono ?_; rintro e w' ⟨rfl, rfl⟩)
  go_ret2
  exact ⟨rfl, rfl⟩

theorem rem_yes (a b : Int) (w : World) (h0 : b ≠ 0) (h1 : ¬ (a = -9223372036854775808 ∧ b = -1)) :
    Calls Try.prog 16 #[.int .i64 a, .int .i64 b] w fun e w' => e = .returned (.tuple #[.int .i64 (a.tmod b), .bool true]) ∧ w = w' := by
  have hz : (b == 0) = false := by simpa using h0
  go_enter Try.func16, Try.ntmps16
  go_wp2_with (go_at_call 23; refine (has_yes a b _ h0 h1).mono ?_; rintro e w' ⟨rfl, rfl⟩)
  go_ret2
  exact ⟨rfl, rfl⟩

theorem half (a b : Int) (ha : fits a) (h0 : b ≠ 0) (hr : a.tmod b ≠ 0) : -4611686018427387904 ≤ a.tdiv b ∧ a.tdiv b ≤ 4611686018427387904 := by
  have h1 := tdiv_abs a b
  have h3 := natAbs_fits a ha
  by_cases hb : 2 ≤ b.natAbs
  · have : a.natAbs / b.natAbs ≤ a.natAbs / 2 := Nat.div_le_div_left hb (by decide)
    omega
  · exfalso
    apply hr
    have h6 : b = 1 ∨ b = -1 := by omega
    rcases h6 with rfl | rfl
    · simp
    · simp

theorem floor_same (a b : Int) (w : World) (ha : fits a) (h0 : b ≠ 0) (h1 : ¬ (a = -9223372036854775808 ∧ b = -1)) (hr : a.tmod b = 0) :
    Calls Try.prog 18 #[.int .i64 a, .int .i64 b] w fun e w' => e = .returned (.tuple #[.int .i64 (a.tdiv b), .bool true]) ∧ w = w' := by
  have hf := tdiv_fits a b ha h1
  have hz : (b == 0) = false := by simpa using h0
  have hrr : (a.tmod b != 0) = false := by simpa using hr
  unfold fits at hf
  clear hr
  go_enter Try.func18, Try.ntmps18
  go_wp2_with (go_at_call 23; refine (has_yes a b _ h0 h1).mono ?_; rintro e w' ⟨rfl, rfl⟩)
  go_ret2
  exact ⟨rfl, rfl⟩

theorem ceil_same (a b : Int) (w : World) (ha : fits a) (h0 : b ≠ 0) (h1 : ¬ (a = -9223372036854775808 ∧ b = -1)) (hr : a.tmod b = 0) :
    Calls Try.prog 20 #[.int .i64 a, .int .i64 b] w fun e w' => e = .returned (.tuple #[.int .i64 (a.tdiv b), .bool true]) ∧ w = w' := by
  have hf := tdiv_fits a b ha h1
  have hz : (b == 0) = false := by simpa using h0
  have hrr : (a.tmod b != 0) = false := by simpa using hr
  unfold fits at hf
  clear hr
  go_enter Try.func20, Try.ntmps20
  go_wp2_with (go_at_call 23; refine (has_yes a b _ h0 h1).mono ?_; rintro e w' ⟨rfl, rfl⟩)
  go_ret2
  exact ⟨rfl, rfl⟩

/-- Floor and Ceil where there is a remainder: a quotient of unlike signs was cut upwards, one of like signs downwards. -/
def lo (a b : Int) : Int := if (a < 0) = (b < 0) then a.tdiv b else a.tdiv b - 1
def hi (a b : Int) : Int := if (a < 0) = (b < 0) then a.tdiv b + 1 else a.tdiv b

theorem floor_rest (a b : Int) (w : World) (ha : fits a) (h0 : b ≠ 0) (h1 : ¬ (a = -9223372036854775808 ∧ b = -1)) (hr : a.tmod b ≠ 0) :
    Calls Try.prog 18 #[.int .i64 a, .int .i64 b] w fun e w' => e = .returned (.tuple #[.int .i64 (lo a b), .bool true]) ∧ w = w' := by
  have hf := half a b ha h0 hr
  have hz : (b == 0) = false := by simpa using h0
  have hrr : (a.tmod b != 0) = true := by simpa using hr
  clear hr
  by_cases p : a < 0 <;> by_cases q : b < 0
  · rw [show lo a b = a.tdiv b by simp [lo, p, q]]
    have pd : decide (a < 0) = true := by simpa using p
    have qd : decide (b < 0) = true := by simpa using q
    clear p q
    go_enter Try.func18, Try.ntmps18
    go_wp2_with (go_at_call 23; refine (has_yes a b _ h0 h1).mono ?_; rintro e w' ⟨rfl, rfl⟩)
    go_ret2
    exact ⟨rfl, rfl⟩
  · rw [show lo a b = a.tdiv b - 1 by simp [lo, p, q]]
    have pd : decide (a < 0) = true := by simpa using p
    have qd : decide (b < 0) = false := by simpa using q
    clear p q
    go_enter Try.func18, Try.ntmps18
    go_wp2_with (go_at_call 23; refine (has_yes a b _ h0 h1).mono ?_; rintro e w' ⟨rfl, rfl⟩)
    go_ret2
    exact ⟨rfl, rfl⟩
  · rw [show lo a b = a.tdiv b - 1 by simp [lo, p, q]]
    have pd : decide (a < 0) = false := by simpa using p
    have qd : decide (b < 0) = true := by simpa using q
    clear p q
    go_enter Try.func18, Try.ntmps18
    go_wp2_with (go_at_call 23; refine (has_yes a b _ h0 h1).mono ?_; rintro e w' ⟨rfl, rfl⟩)
    go_ret2
    exact ⟨rfl, rfl⟩
  · rw [show lo a b = a.tdiv b by simp [lo, p, q]]
    have pd : decide (a < 0) = false := by simpa using p
    have qd : decide (b < 0) = false := by simpa using q
    clear p q
    go_enter Try.func18, Try.ntmps18
    go_wp2_with (go_at_call 23; refine (has_yes a b _ h0 h1).mono ?_; rintro e w' ⟨rfl, rfl⟩)
    go_ret2
    exact ⟨rfl, rfl⟩

theorem ceil_rest (a b : Int) (w : World) (ha : fits a) (h0 : b ≠ 0) (h1 : ¬ (a = -9223372036854775808 ∧ b = -1)) (hr : a.tmod b ≠ 0) :
    Calls Try.prog 20 #[.int .i64 a, .int .i64 b] w fun e w' => e = .returned (.tuple #[.int .i64 (hi a b), .bool true]) ∧ w = w' := by
  have hf := half a b ha h0 hr
  have hz : (b == 0) = false := by simpa using h0
  have hrr : (a.tmod b != 0) = true := by simpa using hr
  clear hr
  by_cases p : a < 0 <;> by_cases q : b < 0
  · rw [show hi a b = a.tdiv b + 1 by simp [hi, p, q]]
    have pd : decide (a < 0) = true := by simpa using p
    have qd : decide (b < 0) = true := by simpa using q
    clear p q
    go_enter Try.func20, Try.ntmps20
    go_wp2_with (go_at_call 23; refine (has_yes a b _ h0 h1).mono ?_; rintro e w' ⟨rfl, rfl⟩)
    go_ret2
    exact ⟨rfl, rfl⟩
  · rw [show hi a b = a.tdiv b by simp [hi, p, q]]
    have pd : decide (a < 0) = true := by simpa using p
    have qd : decide (b < 0) = false := by simpa using q
    clear p q
    go_enter Try.func20, Try.ntmps20
    go_wp2_with (go_at_call 23; refine (has_yes a b _ h0 h1).mono ?_; rintro e w' ⟨rfl, rfl⟩)
    go_ret2
    exact ⟨rfl, rfl⟩
  · rw [show hi a b = a.tdiv b by simp [hi, p, q]]
    have pd : decide (a < 0) = false := by simpa using p
    have qd : decide (b < 0) = true := by simpa using q
    clear p q
    go_enter Try.func20, Try.ntmps20
    go_wp2_with (go_at_call 23; refine (has_yes a b _ h0 h1).mono ?_; rintro e w' ⟨rfl, rfl⟩)
    go_ret2
    exact ⟨rfl, rfl⟩
  · rw [show hi a b = a.tdiv b + 1 by simp [hi, p, q]]
    have pd : decide (a < 0) = false := by simpa using p
    have qd : decide (b < 0) = false := by simpa using q
    clear p q
    go_enter Try.func20, Try.ntmps20
    go_wp2_with (go_at_call 23; refine (has_yes a b _ h0 h1).mono ?_; rintro e w' ⟨rfl, rfl⟩)
    go_ret2
    exact ⟨rfl, rfl⟩

theorem wakes_true (w : World) : Calls Try.prog 13 #[] w fun e w' => e = .returned (.bool true) ∧ w = w' := by
  have f := floor_rest (-7) 2 w (by decide) (by decide) (by decide) (by decide)
  have c := ceil_rest (-7) 2 w (by decide) (by decide) (by decide) (by decide)
  have q := quo_yes (-7) 2 w (by decide) (by decide) (by decide)
  have r := rem_yes (-7) 2 w (by decide) (by decide)
  have s := add_no 9223372036854775807 1 w (by decide) (by decide) (by decide)
  rw [show lo (-7) 2 = -4 by decide] at f
  rw [show hi (-7) 2 = -3 by decide] at c
  rw [show (-7 : Int).tdiv 2 = -3 by decide] at q
  rw [show (-7 : Int).tmod 2 = -1 by decide] at r
  go_enter Try.func13, Try.ntmps13
  go_wp2_with (first | (go_at_call 18; refine f.mono ?_; clear f; rintro e w' ⟨rfl, rfl⟩) | (go_at_call 20; refine c.mono ?_; clear c; rintro e w' ⟨rfl, rfl⟩) | (go_at_call 14; refine q.mono ?_; clear q; rintro e w' ⟨rfl, rfl⟩) | (go_at_call 16; refine r.mono ?_; clear r; rintro e w' ⟨rfl, rfl⟩) | (go_at_call 7; refine s.mono ?_; clear s; rintro e w' ⟨rfl, rfl⟩))
  go_ret
  exact ⟨rfl, rfl⟩

end Go.Proofs.Ytmadggpoiklpfaa
