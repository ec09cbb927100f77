/- What Mul, Quo, Rem, Floor, Ceil of package jigsawref01 answer, for every two numbers of 64 bits: the walks. -/
import Derived.Test.YtmadggpoiklpfaaRef
namespace Go.Proofs.Ytmadggpoiklpfaa
open Go.ChangeShapes Go.WideShapes Go.ChangeAt Go.RowKit

/-- A number's size. -/
def sz (a : Int) : Int := a.natAbs

theorem size_any (a : Int) (w : World) (ha : fits a) :
    Calls Try.prog 22 #[.int .i64 a] w fun e w' => e = .returned (.int .u64 (sz a)) ∧ w = w' := by
  by_cases h : a < 0
  · rw [show sz a = -a by unfold sz; omega]; exact size_neg a w ha h
  · rw [show sz a = a by unfold sz; omega]; exact size_pos a w ha h

theorem sz_range (a : Int) (ha : fits a) : 0 ≤ sz a ∧ sz a ≤ 9223372036854775808 := by
  unfold sz; unfold fits at ha; omega

theorem over_iff (m x y : Int) (h : 0 < y) : m / y < x ↔ m < x * y := Int.ediv_lt_iff_lt_mul h

theorem sz_mul (a b : Int) : sz a * sz b = sz (a * b) := by
  unfold sz; rw [Int.natAbs_mul]; simp

theorem rmul_nought (a : Int) (w : World) (ha : fits a) :
    Calls Try.prog 12 #[.int .i64 a, .int .i64 0] w fun e w' => e = .returned (.tuple #[.int .i64 0, .bool true]) ∧ w = w' := by
  have hz : fits 0 := by decide
  have h1 := sz_range a ha
  have h2 : sz 0 = 0 := rfl
  by_cases p : a < 0
  · go_enter Try.func12, Try.ntmps12
    go_wp2_with (go_at_call 22; with_reducible refine (size_any _ _ (by assumption)).mono ?_; rintro e w' ⟨rfl, rfl⟩)
    go_ret2
    exact ⟨rfl, rfl⟩
  · go_enter Try.func12, Try.ntmps12
    go_wp2_with (go_at_call 22; with_reducible refine (size_any _ _ (by assumption)).mono ?_; rintro e w' ⟨rfl, rfl⟩)
    go_ret2
    exact ⟨rfl, rfl⟩

theorem sz_pos (b : Int) (h : b ≠ 0) : 0 < sz b := by unfold sz; omega

theorem like_fits (a b : Int) (hb : b ≠ 0) (s : (a < 0) = (b < 0)) : fits (a * b) ↔ ¬ 9223372036854775807 / sz b < sz a := by
  rw [over_iff _ _ _ (sz_pos b hb), sz_mul]
  have : 0 ≤ a * b := by
    by_cases q : b < 0
    · have p : a < 0 := by rw [s]; exact q
      have := Int.mul_nonneg (show 0 ≤ -a by omega) (show 0 ≤ -b by omega)
      rw [Int.neg_mul_neg] at this
      exact this
    · have p : ¬ a < 0 := by rw [s]; exact q
      exact Int.mul_nonneg (by omega) (by omega)
  unfold fits sz; omega

theorem unlike_fits (a b : Int) (hb : b ≠ 0) (s : (a < 0) ≠ (b < 0)) : fits (a * b) ↔ ¬ 9223372036854775808 / sz b < sz a := by
  rw [over_iff _ _ _ (sz_pos b hb), sz_mul]
  have : a * b ≤ 0 := by
    by_cases q : b < 0
    · have p : ¬ a < 0 := fun p => s (by simp [p, q])
      exact Int.mul_nonpos_of_nonneg_of_nonpos (by omega) (by omega)
    · have p : a < 0 := by
        apply Decidable.byContradiction
        intro p
        exact s (by simp [p, q])
      exact Int.mul_nonpos_of_nonpos_of_nonneg (by omega) (by omega)
  unfold fits sz; omega

theorem rmul_yes (a b : Int) (w : World) (ha : fits a) (hb : fits b) (h : fits (a * b)) :
    Calls Try.prog 12 #[.int .i64 a, .int .i64 b] w fun e w' => e = .returned (.tuple #[.int .i64 (a * b), .bool true]) ∧ w = w' := by
  by_cases h0 : b = 0
  · subst h0; rw [Int.mul_zero]; exact rmul_nought a w ha
  have r1 := sz_range a ha
  have r2 := sz_range b hb
  have r3 := sz_pos b h0
  have hf := h
  unfold fits at hf
  by_cases p : a < 0 <;> by_cases q : b < 0
  · have t := (like_fits a b h0 (by simp [p, q])).1 h
    have pd : decide (a < 0) = true := by simpa using p
    have qd : decide (b < 0) = true := by simpa using q
    go_enter Try.func12, Try.ntmps12
    go_wp2_with (go_at_call 22; with_reducible refine (size_any _ _ (by assumption)).mono ?_; rintro e w' ⟨rfl, rfl⟩)
    go_ret2
    exact ⟨rfl, rfl⟩
  · have t := (unlike_fits a b h0 (by simp [p, q])).1 h
    have pd : decide (a < 0) = true := by simpa using p
    have qd : decide (b < 0) = false := by simpa using q
    go_enter Try.func12, Try.ntmps12
    go_wp2_with (go_at_call 22; with_reducible refine (size_any _ _ (by assumption)).mono ?_; rintro e w' ⟨rfl, rfl⟩)
    go_ret2
    exact ⟨rfl, rfl⟩
  · have t := (unlike_fits a b h0 (by simp [p, q])).1 h
    have pd : decide (a < 0) = false := by simpa using p
    have qd : decide (b < 0) = true := by simpa using q
    go_enter Try.func12, Try.ntmps12
    go_wp2_with (go_at_call 22; with_reducible refine (size_any _ _ (by assumption)).mono ?_; rintro e w' ⟨rfl, rfl⟩)
    go_ret2
    exact ⟨rfl, rfl⟩
  · have t := (like_fits a b h0 (by simp [p, q])).1 h
    have pd : decide (a < 0) = false := by simpa using p
    have qd : decide (b < 0) = false := by simpa using q
    go_enter Try.func12, Try.ntmps12
    go_wp2_with (go_at_call 22; with_reducible refine (size_any _ _ (by assumption)).mono ?_; rintro e w' ⟨rfl, rfl⟩)
    go_ret2
    exact ⟨rfl, rfl⟩

theorem rmul_no (a b : Int) (w : World) (ha : fits a) (hb : fits b) (h : ¬ fits (a * b)) :
    Calls Try.prog 12 #[.int .i64 a, .int .i64 b] w fun e w' => e = .returned (.tuple #[.int .i64 0, .bool false]) ∧ w = w' := by
  by_cases h0 : b = 0
  · subst h0; exact absurd (by rw [Int.mul_zero]; decide) h
  have r1 := sz_range a ha
  have r2 := sz_range b hb
  have r3 := sz_pos b h0
  by_cases p : a < 0 <;> by_cases q : b < 0
  · have t := Decidable.byContradiction fun t => h ((like_fits a b h0 (by simp [p, q])).2 t)
    have pd : decide (a < 0) = true := by simpa using p
    have qd : decide (b < 0) = true := by simpa using q
    go_enter Try.func12, Try.ntmps12
    go_wp2_with (go_at_call 22; with_reducible refine (size_any _ _ (by assumption)).mono ?_; rintro e w' ⟨rfl, rfl⟩)
    go_ret2
    exact ⟨rfl, rfl⟩
  · have t := Decidable.byContradiction fun t => h ((unlike_fits a b h0 (by simp [p, q])).2 t)
    have pd : decide (a < 0) = true := by simpa using p
    have qd : decide (b < 0) = false := by simpa using q
    go_enter Try.func12, Try.ntmps12
    go_wp2_with (go_at_call 22; with_reducible refine (size_any _ _ (by assumption)).mono ?_; rintro e w' ⟨rfl, rfl⟩)
    go_ret2
    exact ⟨rfl, rfl⟩
  · have t := Decidable.byContradiction fun t => h ((unlike_fits a b h0 (by simp [p, q])).2 t)
    have pd : decide (a < 0) = false := by simpa using p
    have qd : decide (b < 0) = true := by simpa using q
    go_enter Try.func12, Try.ntmps12
    go_wp2_with (go_at_call 22; with_reducible refine (size_any _ _ (by assumption)).mono ?_; rintro e w' ⟨rfl, rfl⟩)
    go_ret2
    exact ⟨rfl, rfl⟩
  · have t := Decidable.byContradiction fun t => h ((like_fits a b h0 (by simp [p, q])).2 t)
    have pd : decide (a < 0) = false := by simpa using p
    have qd : decide (b < 0) = false := by simpa using q
    go_enter Try.func12, Try.ntmps12
    go_wp2_with (go_at_call 22; with_reducible refine (size_any _ _ (by assumption)).mono ?_; rintro e w' ⟨rfl, rfl⟩)
    go_ret2
    exact ⟨rfl, rfl⟩

end Go.Proofs.Ytmadggpoiklpfaa
