/-
  PROVED: for every two numbers of 64 bits the law jigsawlaw01.NumBack answers true: what is added can be taken away again, what is multiplied divided again, and a quotient and its remainder are the number (P1.1 to P1.3). No condition.
-/
import Derived.Test.YtmadggpoiklpfaaRows
import Derived.Test.YtmadggpoiklpfaaRefQuo
import Derived.WalkKit
import Derived.ProofKit
import Derived.OpenShut
namespace Go.Proofs.Ytmadggpoiklpfaa.numBack
open Go.ChangeShapes Go.WideShapes Go.ChangeAt Go.RowKit
set_option linter.unusedVariables false      -- a walk need not use every 'w<i>' (that an integer argument fits its kind)

theorem own : ownKnob Try.prog.godebug = none := by kernel_rfl

theorem fits_wf (a : Int) (h : (Lit.int .i64 a).wf = true) : fits a := by
  simp [Lit.wf, IntKind.min, IntKind.max, IntKind.signed, IntKind.bits] at h
  unfold fits; omega

theorem tmod_sign (a b : Int) : (0 ≤ a → 0 ≤ a.tmod b) ∧ (a ≤ 0 → a.tmod b ≤ 0) := by
  refine ⟨fun h => Int.tmod_nonneg b h, fun h => ?_⟩
  have h4 : (-a).tmod b = -(a.tmod b) := Int.neg_tmod a b
  have h5 := Int.tmod_nonneg b (show 0 ≤ -a by omega)
  omega

theorem sub_back (a b : Int) (w : World) (ha : fits a) (hb : fits b) (h : fits (a + b)) :
    Calls Try.prog 9 #[.int .i64 (a + b), .int .i64 b] w fun e w' => e = .returned (.tuple #[.int .i64 a, .bool true]) ∧ w = w' := by
  have e : a + b - b = a := by omega
  have s := sub_yes (a + b) b w h hb (by rw [e]; exact ha)
  rw [e] at s
  exact s

theorem not_least (a b : Int) (ha : fits a) : ¬ (a * b = -9223372036854775808 ∧ b = -1) := by
  rintro ⟨h, rfl⟩
  unfold fits at ha
  omega

theorem quo_back (a b : Int) (w : World) (ha : fits a) (h0 : b ≠ 0) (h : fits (a * b)) :
    Calls Try.prog 14 #[.int .i64 (a * b), .int .i64 b] w fun e w' => e = .returned (.tuple #[.int .i64 a, .bool true]) ∧ w = w' := by
  have s := quo_yes (a * b) b w h h0 (not_least a b ha)
  rw [Int.mul_tdiv_cancel a h0] at s
  exact s

theorem rem_back (a b : Int) (w : World) (ha : fits a) (h0 : b ≠ 0) :
    Calls Try.prog 16 #[.int .i64 (a * b), .int .i64 b] w fun e w' => e = .returned (.tuple #[.int .i64 0, .bool true]) ∧ w = w' := by
  have s := rem_yes (a * b) b w h0 (not_least a b ha)
  rw [Int.mul_tmod_left] at s
  exact s

theorem floor_back (a b : Int) (w : World) (ha : fits a) (h0 : b ≠ 0) (h : fits (a * b)) :
    Calls Try.prog 18 #[.int .i64 (a * b), .int .i64 b] w fun e w' => e = .returned (.tuple #[.int .i64 a, .bool true]) ∧ w = w' := by
  have s := floor_same (a * b) b w h h0 (not_least a b ha) (Int.mul_tmod_left a b)
  rw [Int.mul_tdiv_cancel a h0] at s
  exact s

set_option maxRecDepth 100000 in
theorem least_walk (w : World) :
    Calls Try.prog 5 #[.int .i64 (-9223372036854775808), .int .i64 (-1)] w fun e w' => e = .returned (.bool true) ∧ Grown w w' := by
  have A := add_no (-9223372036854775808) (-1) w (by decide) (by decide) (by decide)
  have M := mul_no (-9223372036854775808) (-1) w (by decide) (by decide) (by decide)
  have Q := quo_no (-9223372036854775808) (-1) w (Or.inr ⟨rfl, rfl⟩)
  have R := rem_no (-9223372036854775808) (-1) w (Or.inr ⟨rfl, rfl⟩)
  go_enter Try.func5, Try.ntmps5
  go_wp2_with (first | (go_at_call 7; with_reducible refine (A).mono ?_; rintro e w' ⟨rfl, rfl⟩) | (go_at_call 11; with_reducible refine (M).mono ?_; rintro e w' ⟨rfl, rfl⟩) | (go_at_call 14; with_reducible refine (Q).mono ?_; rintro e w' ⟨rfl, rfl⟩) | (go_at_call 16; with_reducible refine (R).mono ?_; rintro e w' ⟨rfl, rfl⟩) | (go_at_call 13; with_reducible refine (wakes_true _).mono ?_; rintro e w' ⟨rfl, rfl⟩))
  go_ret
  exact ⟨rfl, Grown.refl _⟩

theorem nought_walk (a : Int) (w : World) (ha : fits a) :
    Calls Try.prog 5 #[.int .i64 a, .int .i64 0] w fun e w' => e = .returned (.bool true) ∧ Grown w w' := by
  have A := add_yes a 0 w ha (by decide) (by rw [Int.add_zero]; exact ha)
  rw [Int.add_zero] at A
  have S := sub_yes a 0 w ha (by decide) (by rw [Int.sub_zero]; exact ha)
  rw [Int.sub_zero] at S
  have M := mul_nought a w
  have Q := quo_no a 0 w (Or.inl rfl)
  have R := rem_no a 0 w (Or.inl rfl)
  go_enter Try.func5, Try.ntmps5
  go_wp2_with (first | (go_at_call 7; with_reducible refine (A).mono ?_; rintro e w' ⟨rfl, rfl⟩) | (go_at_call 9; with_reducible refine (S).mono ?_; rintro e w' ⟨rfl, rfl⟩) | (go_at_call 11; with_reducible refine (M).mono ?_; rintro e w' ⟨rfl, rfl⟩) | (go_at_call 14; with_reducible refine (Q).mono ?_; rintro e w' ⟨rfl, rfl⟩) | (go_at_call 16; with_reducible refine (R).mono ?_; rintro e w' ⟨rfl, rfl⟩) | (go_at_call 13; with_reducible refine (wakes_true _).mono ?_; rintro e w' ⟨rfl, rfl⟩))
  go_ret
  exact ⟨rfl, Grown.refl _⟩

set_option maxRecDepth 100000 in
theorem same11 (a b : Int) (w : World) (ha : fits a) (hb : fits b) (h0 : b ≠ 0) (h1 : ¬ (a = -9223372036854775808 ∧ b = -1)) (hA : fits (a + b)) (hM : fits (a * b)) (hr : a.tmod b = 0) :
    Calls Try.prog 5 #[.int .i64 a, .int .i64 b] w fun e w' => e = .returned (.bool true) ∧ Grown w w' := by
  have hz : (b != 0) = true := by simpa using h0
  have hk := back_fits a b ha
  have hs : b * a.tdiv b + a.tmod b = a := Int.mul_tdiv_add_tmod a b
  have hl : (b * a.tdiv b + a.tmod b != a) = false := by simpa using hs
  have hg : -9223372036854775808 ≤ b * a.tdiv b + a.tmod b ∧ b * a.tdiv b + a.tmod b ≤ 9223372036854775807 := by rw [hs]; exact ha
  clear hs
  unfold fits at hk
  have hrr : (a.tmod b == 0) = true := by simpa using hr
  clear hr
  go_enter Try.func5, Try.ntmps5
  go_wp2_with (first | (go_at_call 7; with_reducible refine (add_yes _ _ _ ha hb hA).mono ?_; rintro e w' ⟨rfl, rfl⟩) | (go_at_call 9; with_reducible refine (sub_back _ _ _ ha hb hA).mono ?_; rintro e w' ⟨rfl, rfl⟩) | (go_at_call 11; with_reducible refine (mul_yes _ _ _ ha hM).mono ?_; rintro e w' ⟨rfl, rfl⟩) | (go_at_call 14; with_reducible refine (quo_back a b _ ha h0 hM).mono ?_; rintro e w' ⟨rfl, rfl⟩) | (go_at_call 18; with_reducible refine (floor_back a b _ ha h0 hM).mono ?_; rintro e w' ⟨rfl, rfl⟩) | (go_at_call 16; with_reducible refine (rem_back a b _ ha h0).mono ?_; rintro e w' ⟨rfl, rfl⟩) | (go_at_call 14; with_reducible refine (quo_yes a b _ ha h0 h1).mono ?_; rintro e w' ⟨rfl, rfl⟩) | (go_at_call 16; with_reducible refine (rem_yes a b _ h0 h1).mono ?_; rintro e w' ⟨rfl, rfl⟩) | (go_at_call 13; with_reducible refine (wakes_true _).mono ?_; rintro e w' ⟨rfl, rfl⟩))
  go_ret
  exact ⟨rfl, Grown.refl _⟩

set_option maxRecDepth 100000 in
theorem same10 (a b : Int) (w : World) (ha : fits a) (hb : fits b) (h0 : b ≠ 0) (h1 : ¬ (a = -9223372036854775808 ∧ b = -1)) (hA : fits (a + b)) (hM : ¬ fits (a * b)) (hr : a.tmod b = 0) :
    Calls Try.prog 5 #[.int .i64 a, .int .i64 b] w fun e w' => e = .returned (.bool true) ∧ Grown w w' := by
  have hz : (b != 0) = true := by simpa using h0
  have hk := back_fits a b ha
  have hs : b * a.tdiv b + a.tmod b = a := Int.mul_tdiv_add_tmod a b
  have hl : (b * a.tdiv b + a.tmod b != a) = false := by simpa using hs
  have hg : -9223372036854775808 ≤ b * a.tdiv b + a.tmod b ∧ b * a.tdiv b + a.tmod b ≤ 9223372036854775807 := by rw [hs]; exact ha
  clear hs
  unfold fits at hk
  have hrr : (a.tmod b == 0) = true := by simpa using hr
  clear hr
  go_enter Try.func5, Try.ntmps5
  go_wp2_with (first | (go_at_call 7; with_reducible refine (add_yes _ _ _ ha hb hA).mono ?_; rintro e w' ⟨rfl, rfl⟩) | (go_at_call 9; with_reducible refine (sub_back _ _ _ ha hb hA).mono ?_; rintro e w' ⟨rfl, rfl⟩) | (go_at_call 11; with_reducible refine (mul_no _ _ _ ha hb hM).mono ?_; rintro e w' ⟨rfl, rfl⟩) | (go_at_call 14; with_reducible refine (quo_yes a b _ ha h0 h1).mono ?_; rintro e w' ⟨rfl, rfl⟩) | (go_at_call 16; with_reducible refine (rem_yes a b _ h0 h1).mono ?_; rintro e w' ⟨rfl, rfl⟩) | (go_at_call 13; with_reducible refine (wakes_true _).mono ?_; rintro e w' ⟨rfl, rfl⟩))
  go_ret
  exact ⟨rfl, Grown.refl _⟩

set_option maxRecDepth 100000 in
theorem same01 (a b : Int) (w : World) (ha : fits a) (hb : fits b) (h0 : b ≠ 0) (h1 : ¬ (a = -9223372036854775808 ∧ b = -1)) (hA : ¬ fits (a + b)) (hM : fits (a * b)) (hr : a.tmod b = 0) :
    Calls Try.prog 5 #[.int .i64 a, .int .i64 b] w fun e w' => e = .returned (.bool true) ∧ Grown w w' := by
  have hz : (b != 0) = true := by simpa using h0
  have hk := back_fits a b ha
  have hs : b * a.tdiv b + a.tmod b = a := Int.mul_tdiv_add_tmod a b
  have hl : (b * a.tdiv b + a.tmod b != a) = false := by simpa using hs
  have hg : -9223372036854775808 ≤ b * a.tdiv b + a.tmod b ∧ b * a.tdiv b + a.tmod b ≤ 9223372036854775807 := by rw [hs]; exact ha
  clear hs
  unfold fits at hk
  have hrr : (a.tmod b == 0) = true := by simpa using hr
  clear hr
  go_enter Try.func5, Try.ntmps5
  go_wp2_with (first | (go_at_call 7; with_reducible refine (add_no _ _ _ ha hb hA).mono ?_; rintro e w' ⟨rfl, rfl⟩) | (go_at_call 11; with_reducible refine (mul_yes _ _ _ ha hM).mono ?_; rintro e w' ⟨rfl, rfl⟩) | (go_at_call 14; with_reducible refine (quo_back a b _ ha h0 hM).mono ?_; rintro e w' ⟨rfl, rfl⟩) | (go_at_call 18; with_reducible refine (floor_back a b _ ha h0 hM).mono ?_; rintro e w' ⟨rfl, rfl⟩) | (go_at_call 16; with_reducible refine (rem_back a b _ ha h0).mono ?_; rintro e w' ⟨rfl, rfl⟩) | (go_at_call 14; with_reducible refine (quo_yes a b _ ha h0 h1).mono ?_; rintro e w' ⟨rfl, rfl⟩) | (go_at_call 16; with_reducible refine (rem_yes a b _ h0 h1).mono ?_; rintro e w' ⟨rfl, rfl⟩) | (go_at_call 13; with_reducible refine (wakes_true _).mono ?_; rintro e w' ⟨rfl, rfl⟩))
  go_ret
  exact ⟨rfl, Grown.refl _⟩

set_option maxRecDepth 100000 in
theorem same00 (a b : Int) (w : World) (ha : fits a) (hb : fits b) (h0 : b ≠ 0) (h1 : ¬ (a = -9223372036854775808 ∧ b = -1)) (hA : ¬ fits (a + b)) (hM : ¬ fits (a * b)) (hr : a.tmod b = 0) :
    Calls Try.prog 5 #[.int .i64 a, .int .i64 b] w fun e w' => e = .returned (.bool true) ∧ Grown w w' := by
  have hz : (b != 0) = true := by simpa using h0
  have hk := back_fits a b ha
  have hs : b * a.tdiv b + a.tmod b = a := Int.mul_tdiv_add_tmod a b
  have hl : (b * a.tdiv b + a.tmod b != a) = false := by simpa using hs
  have hg : -9223372036854775808 ≤ b * a.tdiv b + a.tmod b ∧ b * a.tdiv b + a.tmod b ≤ 9223372036854775807 := by rw [hs]; exact ha
  clear hs
  unfold fits at hk
  have hrr : (a.tmod b == 0) = true := by simpa using hr
  clear hr
  go_enter Try.func5, Try.ntmps5
  go_wp2_with (first | (go_at_call 7; with_reducible refine (add_no _ _ _ ha hb hA).mono ?_; rintro e w' ⟨rfl, rfl⟩) | (go_at_call 11; with_reducible refine (mul_no _ _ _ ha hb hM).mono ?_; rintro e w' ⟨rfl, rfl⟩) | (go_at_call 14; with_reducible refine (quo_yes a b _ ha h0 h1).mono ?_; rintro e w' ⟨rfl, rfl⟩) | (go_at_call 16; with_reducible refine (rem_yes a b _ h0 h1).mono ?_; rintro e w' ⟨rfl, rfl⟩) | (go_at_call 13; with_reducible refine (wakes_true _).mono ?_; rintro e w' ⟨rfl, rfl⟩))
  go_ret
  exact ⟨rfl, Grown.refl _⟩

set_option maxRecDepth 100000 in
theorem rest1111 (a b : Int) (w : World) (ha : fits a) (hb : fits b) (h0 : b ≠ 0) (h1 : ¬ (a = -9223372036854775808 ∧ b = -1)) (hA : fits (a + b)) (hM : fits (a * b)) (hr : a.tmod b ≠ 0) (p : a < 0) (q : b < 0) :
    Calls Try.prog 5 #[.int .i64 a, .int .i64 b] w fun e w' => e = .returned (.bool true) ∧ Grown w w' := by
  have hz : (b != 0) = true := by simpa using h0
  have hk := back_fits a b ha
  have hs : b * a.tdiv b + a.tmod b = a := Int.mul_tdiv_add_tmod a b
  have hl : (b * a.tdiv b + a.tmod b != a) = false := by simpa using hs
  have hg : -9223372036854775808 ≤ b * a.tdiv b + a.tmod b ∧ b * a.tdiv b + a.tmod b ≤ 9223372036854775807 := by rw [hs]; exact ha
  clear hs
  unfold fits at hk
  have hrr : (a.tmod b == 0) = false := by simpa using hr
  have pd : decide (a < 0) = true := by simpa using p
  have qd : decide (b < 0) = true := by simpa using q
  have hm := tmod_abs_lt a b h0
  have hg2 := tmod_sign a b
  have r1 : a.tmod b < 0 := by omega
  have r0 : decide (a.tmod b < 0) = true := by simp; omega
  have r2 : b < a.tmod b := by omega
  have hbb := hb
  have hrb := tmod_fits a b ha
  unfold fits at hbb hrb
  clear hr hm hg2 p
  go_enter Try.func5, Try.ntmps5
  go_wp2_with (first | (go_at_call 7; with_reducible refine (add_yes _ _ _ ha hb hA).mono ?_; rintro e w' ⟨rfl, rfl⟩) | (go_at_call 9; with_reducible refine (sub_back _ _ _ ha hb hA).mono ?_; rintro e w' ⟨rfl, rfl⟩) | (go_at_call 11; with_reducible refine (mul_yes _ _ _ ha hM).mono ?_; rintro e w' ⟨rfl, rfl⟩) | (go_at_call 14; with_reducible refine (quo_back a b _ ha h0 hM).mono ?_; rintro e w' ⟨rfl, rfl⟩) | (go_at_call 18; with_reducible refine (floor_back a b _ ha h0 hM).mono ?_; rintro e w' ⟨rfl, rfl⟩) | (go_at_call 16; with_reducible refine (rem_back a b _ ha h0).mono ?_; rintro e w' ⟨rfl, rfl⟩) | (go_at_call 14; with_reducible refine (quo_yes a b _ ha h0 h1).mono ?_; rintro e w' ⟨rfl, rfl⟩) | (go_at_call 16; with_reducible refine (rem_yes a b _ h0 h1).mono ?_; rintro e w' ⟨rfl, rfl⟩) | (go_at_call 13; with_reducible refine (wakes_true _).mono ?_; rintro e w' ⟨rfl, rfl⟩))
  go_ret
  exact ⟨rfl, Grown.refl _⟩

set_option maxRecDepth 100000 in
theorem rest1110 (a b : Int) (w : World) (ha : fits a) (hb : fits b) (h0 : b ≠ 0) (h1 : ¬ (a = -9223372036854775808 ∧ b = -1)) (hA : fits (a + b)) (hM : fits (a * b)) (hr : a.tmod b ≠ 0) (p : a < 0) (q : ¬ b < 0) :
    Calls Try.prog 5 #[.int .i64 a, .int .i64 b] w fun e w' => e = .returned (.bool true) ∧ Grown w w' := by
  have hz : (b != 0) = true := by simpa using h0
  have hk := back_fits a b ha
  have hs : b * a.tdiv b + a.tmod b = a := Int.mul_tdiv_add_tmod a b
  have hl : (b * a.tdiv b + a.tmod b != a) = false := by simpa using hs
  have hg : -9223372036854775808 ≤ b * a.tdiv b + a.tmod b ∧ b * a.tdiv b + a.tmod b ≤ 9223372036854775807 := by rw [hs]; exact ha
  clear hs
  unfold fits at hk
  have hrr : (a.tmod b == 0) = false := by simpa using hr
  have pd : decide (a < 0) = true := by simpa using p
  have qd : decide (b < 0) = false := by simpa using q
  have hm := tmod_abs_lt a b h0
  have hg2 := tmod_sign a b
  have r1 : a.tmod b < 0 := by omega
  have r0 : decide (a.tmod b < 0) = true := by simp; omega
  have r2 : -b < a.tmod b := by omega
  have r3 : 0 < b := by omega
  have hbb := hb
  have hrb := tmod_fits a b ha
  unfold fits at hbb hrb
  clear hr hm hg2 p
  go_enter Try.func5, Try.ntmps5
  go_wp2_with (first | (go_at_call 7; with_reducible refine (add_yes _ _ _ ha hb hA).mono ?_; rintro e w' ⟨rfl, rfl⟩) | (go_at_call 9; with_reducible refine (sub_back _ _ _ ha hb hA).mono ?_; rintro e w' ⟨rfl, rfl⟩) | (go_at_call 11; with_reducible refine (mul_yes _ _ _ ha hM).mono ?_; rintro e w' ⟨rfl, rfl⟩) | (go_at_call 14; with_reducible refine (quo_back a b _ ha h0 hM).mono ?_; rintro e w' ⟨rfl, rfl⟩) | (go_at_call 18; with_reducible refine (floor_back a b _ ha h0 hM).mono ?_; rintro e w' ⟨rfl, rfl⟩) | (go_at_call 16; with_reducible refine (rem_back a b _ ha h0).mono ?_; rintro e w' ⟨rfl, rfl⟩) | (go_at_call 14; with_reducible refine (quo_yes a b _ ha h0 h1).mono ?_; rintro e w' ⟨rfl, rfl⟩) | (go_at_call 16; with_reducible refine (rem_yes a b _ h0 h1).mono ?_; rintro e w' ⟨rfl, rfl⟩) | (go_at_call 13; with_reducible refine (wakes_true _).mono ?_; rintro e w' ⟨rfl, rfl⟩))
  go_ret
  exact ⟨rfl, Grown.refl _⟩

set_option maxRecDepth 100000 in
theorem rest1101 (a b : Int) (w : World) (ha : fits a) (hb : fits b) (h0 : b ≠ 0) (h1 : ¬ (a = -9223372036854775808 ∧ b = -1)) (hA : fits (a + b)) (hM : fits (a * b)) (hr : a.tmod b ≠ 0) (p : ¬ a < 0) (q : b < 0) :
    Calls Try.prog 5 #[.int .i64 a, .int .i64 b] w fun e w' => e = .returned (.bool true) ∧ Grown w w' := by
  have hz : (b != 0) = true := by simpa using h0
  have hk := back_fits a b ha
  have hs : b * a.tdiv b + a.tmod b = a := Int.mul_tdiv_add_tmod a b
  have hl : (b * a.tdiv b + a.tmod b != a) = false := by simpa using hs
  have hg : -9223372036854775808 ≤ b * a.tdiv b + a.tmod b ∧ b * a.tdiv b + a.tmod b ≤ 9223372036854775807 := by rw [hs]; exact ha
  clear hs
  unfold fits at hk
  have hrr : (a.tmod b == 0) = false := by simpa using hr
  have pd : decide (a < 0) = false := by simpa using p
  have qd : decide (b < 0) = true := by simpa using q
  have hm := tmod_abs_lt a b h0
  have hg2 := tmod_sign a b
  have r1 : 0 < a.tmod b := by omega
  have r0 : decide (a.tmod b < 0) = false := by simp; omega
  have r2 : b < -(a.tmod b) := by omega
  have hbb := hb
  have hrb := tmod_fits a b ha
  unfold fits at hbb hrb
  clear hr hm hg2 p
  go_enter Try.func5, Try.ntmps5
  go_wp2_with (first | (go_at_call 7; with_reducible refine (add_yes _ _ _ ha hb hA).mono ?_; rintro e w' ⟨rfl, rfl⟩) | (go_at_call 9; with_reducible refine (sub_back _ _ _ ha hb hA).mono ?_; rintro e w' ⟨rfl, rfl⟩) | (go_at_call 11; with_reducible refine (mul_yes _ _ _ ha hM).mono ?_; rintro e w' ⟨rfl, rfl⟩) | (go_at_call 14; with_reducible refine (quo_back a b _ ha h0 hM).mono ?_; rintro e w' ⟨rfl, rfl⟩) | (go_at_call 18; with_reducible refine (floor_back a b _ ha h0 hM).mono ?_; rintro e w' ⟨rfl, rfl⟩) | (go_at_call 16; with_reducible refine (rem_back a b _ ha h0).mono ?_; rintro e w' ⟨rfl, rfl⟩) | (go_at_call 14; with_reducible refine (quo_yes a b _ ha h0 h1).mono ?_; rintro e w' ⟨rfl, rfl⟩) | (go_at_call 16; with_reducible refine (rem_yes a b _ h0 h1).mono ?_; rintro e w' ⟨rfl, rfl⟩) | (go_at_call 13; with_reducible refine (wakes_true _).mono ?_; rintro e w' ⟨rfl, rfl⟩))
  go_ret
  exact ⟨rfl, Grown.refl _⟩

set_option maxRecDepth 100000 in
theorem rest1100 (a b : Int) (w : World) (ha : fits a) (hb : fits b) (h0 : b ≠ 0) (h1 : ¬ (a = -9223372036854775808 ∧ b = -1)) (hA : fits (a + b)) (hM : fits (a * b)) (hr : a.tmod b ≠ 0) (p : ¬ a < 0) (q : ¬ b < 0) :
    Calls Try.prog 5 #[.int .i64 a, .int .i64 b] w fun e w' => e = .returned (.bool true) ∧ Grown w w' := by
  have hz : (b != 0) = true := by simpa using h0
  have hk := back_fits a b ha
  have hs : b * a.tdiv b + a.tmod b = a := Int.mul_tdiv_add_tmod a b
  have hl : (b * a.tdiv b + a.tmod b != a) = false := by simpa using hs
  have hg : -9223372036854775808 ≤ b * a.tdiv b + a.tmod b ∧ b * a.tdiv b + a.tmod b ≤ 9223372036854775807 := by rw [hs]; exact ha
  clear hs
  unfold fits at hk
  have hrr : (a.tmod b == 0) = false := by simpa using hr
  have pd : decide (a < 0) = false := by simpa using p
  have qd : decide (b < 0) = false := by simpa using q
  have hm := tmod_abs_lt a b h0
  have hg2 := tmod_sign a b
  have r1 : 0 < a.tmod b := by omega
  have r0 : decide (a.tmod b < 0) = false := by simp; omega
  have r2 : -b < -(a.tmod b) := by omega
  have r3 : 0 < b := by omega
  have hbb := hb
  have hrb := tmod_fits a b ha
  unfold fits at hbb hrb
  clear hr hm hg2 p
  go_enter Try.func5, Try.ntmps5
  go_wp2_with (first | (go_at_call 7; with_reducible refine (add_yes _ _ _ ha hb hA).mono ?_; rintro e w' ⟨rfl, rfl⟩) | (go_at_call 9; with_reducible refine (sub_back _ _ _ ha hb hA).mono ?_; rintro e w' ⟨rfl, rfl⟩) | (go_at_call 11; with_reducible refine (mul_yes _ _ _ ha hM).mono ?_; rintro e w' ⟨rfl, rfl⟩) | (go_at_call 14; with_reducible refine (quo_back a b _ ha h0 hM).mono ?_; rintro e w' ⟨rfl, rfl⟩) | (go_at_call 18; with_reducible refine (floor_back a b _ ha h0 hM).mono ?_; rintro e w' ⟨rfl, rfl⟩) | (go_at_call 16; with_reducible refine (rem_back a b _ ha h0).mono ?_; rintro e w' ⟨rfl, rfl⟩) | (go_at_call 14; with_reducible refine (quo_yes a b _ ha h0 h1).mono ?_; rintro e w' ⟨rfl, rfl⟩) | (go_at_call 16; with_reducible refine (rem_yes a b _ h0 h1).mono ?_; rintro e w' ⟨rfl, rfl⟩) | (go_at_call 13; with_reducible refine (wakes_true _).mono ?_; rintro e w' ⟨rfl, rfl⟩))
  go_ret
  exact ⟨rfl, Grown.refl _⟩

set_option maxRecDepth 100000 in
theorem rest1011 (a b : Int) (w : World) (ha : fits a) (hb : fits b) (h0 : b ≠ 0) (h1 : ¬ (a = -9223372036854775808 ∧ b = -1)) (hA : fits (a + b)) (hM : ¬ fits (a * b)) (hr : a.tmod b ≠ 0) (p : a < 0) (q : b < 0) :
    Calls Try.prog 5 #[.int .i64 a, .int .i64 b] w fun e w' => e = .returned (.bool true) ∧ Grown w w' := by
  have hz : (b != 0) = true := by simpa using h0
  have hk := back_fits a b ha
  have hs : b * a.tdiv b + a.tmod b = a := Int.mul_tdiv_add_tmod a b
  have hl : (b * a.tdiv b + a.tmod b != a) = false := by simpa using hs
  have hg : -9223372036854775808 ≤ b * a.tdiv b + a.tmod b ∧ b * a.tdiv b + a.tmod b ≤ 9223372036854775807 := by rw [hs]; exact ha
  clear hs
  unfold fits at hk
  have hrr : (a.tmod b == 0) = false := by simpa using hr
  have pd : decide (a < 0) = true := by simpa using p
  have qd : decide (b < 0) = true := by simpa using q
  have hm := tmod_abs_lt a b h0
  have hg2 := tmod_sign a b
  have r1 : a.tmod b < 0 := by omega
  have r0 : decide (a.tmod b < 0) = true := by simp; omega
  have r2 : b < a.tmod b := by omega
  have hbb := hb
  have hrb := tmod_fits a b ha
  unfold fits at hbb hrb
  clear hr hm hg2 p
  go_enter Try.func5, Try.ntmps5
  go_wp2_with (first | (go_at_call 7; with_reducible refine (add_yes _ _ _ ha hb hA).mono ?_; rintro e w' ⟨rfl, rfl⟩) | (go_at_call 9; with_reducible refine (sub_back _ _ _ ha hb hA).mono ?_; rintro e w' ⟨rfl, rfl⟩) | (go_at_call 11; with_reducible refine (mul_no _ _ _ ha hb hM).mono ?_; rintro e w' ⟨rfl, rfl⟩) | (go_at_call 14; with_reducible refine (quo_yes a b _ ha h0 h1).mono ?_; rintro e w' ⟨rfl, rfl⟩) | (go_at_call 16; with_reducible refine (rem_yes a b _ h0 h1).mono ?_; rintro e w' ⟨rfl, rfl⟩) | (go_at_call 13; with_reducible refine (wakes_true _).mono ?_; rintro e w' ⟨rfl, rfl⟩))
  go_ret
  exact ⟨rfl, Grown.refl _⟩

set_option maxRecDepth 100000 in
theorem rest1010 (a b : Int) (w : World) (ha : fits a) (hb : fits b) (h0 : b ≠ 0) (h1 : ¬ (a = -9223372036854775808 ∧ b = -1)) (hA : fits (a + b)) (hM : ¬ fits (a * b)) (hr : a.tmod b ≠ 0) (p : a < 0) (q : ¬ b < 0) :
    Calls Try.prog 5 #[.int .i64 a, .int .i64 b] w fun e w' => e = .returned (.bool true) ∧ Grown w w' := by
  have hz : (b != 0) = true := by simpa using h0
  have hk := back_fits a b ha
  have hs : b * a.tdiv b + a.tmod b = a := Int.mul_tdiv_add_tmod a b
  have hl : (b * a.tdiv b + a.tmod b != a) = false := by simpa using hs
  have hg : -9223372036854775808 ≤ b * a.tdiv b + a.tmod b ∧ b * a.tdiv b + a.tmod b ≤ 9223372036854775807 := by rw [hs]; exact ha
  clear hs
  unfold fits at hk
  have hrr : (a.tmod b == 0) = false := by simpa using hr
  have pd : decide (a < 0) = true := by simpa using p
  have qd : decide (b < 0) = false := by simpa using q
  have hm := tmod_abs_lt a b h0
  have hg2 := tmod_sign a b
  have r1 : a.tmod b < 0 := by omega
  have r0 : decide (a.tmod b < 0) = true := by simp; omega
  have r2 : -b < a.tmod b := by omega
  have r3 : 0 < b := by omega
  have hbb := hb
  have hrb := tmod_fits a b ha
  unfold fits at hbb hrb
  clear hr hm hg2 p
  go_enter Try.func5, Try.ntmps5
  go_wp2_with (first | (go_at_call 7; with_reducible refine (add_yes _ _ _ ha hb hA).mono ?_; rintro e w' ⟨rfl, rfl⟩) | (go_at_call 9; with_reducible refine (sub_back _ _ _ ha hb hA).mono ?_; rintro e w' ⟨rfl, rfl⟩) | (go_at_call 11; with_reducible refine (mul_no _ _ _ ha hb hM).mono ?_; rintro e w' ⟨rfl, rfl⟩) | (go_at_call 14; with_reducible refine (quo_yes a b _ ha h0 h1).mono ?_; rintro e w' ⟨rfl, rfl⟩) | (go_at_call 16; with_reducible refine (rem_yes a b _ h0 h1).mono ?_; rintro e w' ⟨rfl, rfl⟩) | (go_at_call 13; with_reducible refine (wakes_true _).mono ?_; rintro e w' ⟨rfl, rfl⟩))
  go_ret
  exact ⟨rfl, Grown.refl _⟩

set_option maxRecDepth 100000 in
theorem rest1001 (a b : Int) (w : World) (ha : fits a) (hb : fits b) (h0 : b ≠ 0) (h1 : ¬ (a = -9223372036854775808 ∧ b = -1)) (hA : fits (a + b)) (hM : ¬ fits (a * b)) (hr : a.tmod b ≠ 0) (p : ¬ a < 0) (q : b < 0) :
    Calls Try.prog 5 #[.int .i64 a, .int .i64 b] w fun e w' => e = .returned (.bool true) ∧ Grown w w' := by
  have hz : (b != 0) = true := by simpa using h0
  have hk := back_fits a b ha
  have hs : b * a.tdiv b + a.tmod b = a := Int.mul_tdiv_add_tmod a b
  have hl : (b * a.tdiv b + a.tmod b != a) = false := by simpa using hs
  have hg : -9223372036854775808 ≤ b * a.tdiv b + a.tmod b ∧ b * a.tdiv b + a.tmod b ≤ 9223372036854775807 := by rw [hs]; exact ha
  clear hs
  unfold fits at hk
  have hrr : (a.tmod b == 0) = false := by simpa using hr
  have pd : decide (a < 0) = false := by simpa using p
  have qd : decide (b < 0) = true := by simpa using q
  have hm := tmod_abs_lt a b h0
  have hg2 := tmod_sign a b
  have r1 : 0 < a.tmod b := by omega
  have r0 : decide (a.tmod b < 0) = false := by simp; omega
  have r2 : b < -(a.tmod b) := by omega
  have hbb := hb
  have hrb := tmod_fits a b ha
  unfold fits at hbb hrb
  clear hr hm hg2 p
  go_enter Try.func5, Try.ntmps5
  go_wp2_with (first | (go_at_call 7; with_reducible refine (add_yes _ _ _ ha hb hA).mono ?_; rintro e w' ⟨rfl, rfl⟩) | (go_at_call 9; with_reducible refine (sub_back _ _ _ ha hb hA).mono ?_; rintro e w' ⟨rfl, rfl⟩) | (go_at_call 11; with_reducible refine (mul_no _ _ _ ha hb hM).mono ?_; rintro e w' ⟨rfl, rfl⟩) | (go_at_call 14; with_reducible refine (quo_yes a b _ ha h0 h1).mono ?_; rintro e w' ⟨rfl, rfl⟩) | (go_at_call 16; with_reducible refine (rem_yes a b _ h0 h1).mono ?_; rintro e w' ⟨rfl, rfl⟩) | (go_at_call 13; with_reducible refine (wakes_true _).mono ?_; rintro e w' ⟨rfl, rfl⟩))
  go_ret
  exact ⟨rfl, Grown.refl _⟩

set_option maxRecDepth 100000 in
theorem rest1000 (a b : Int) (w : World) (ha : fits a) (hb : fits b) (h0 : b ≠ 0) (h1 : ¬ (a = -9223372036854775808 ∧ b = -1)) (hA : fits (a + b)) (hM : ¬ fits (a * b)) (hr : a.tmod b ≠ 0) (p : ¬ a < 0) (q : ¬ b < 0) :
    Calls Try.prog 5 #[.int .i64 a, .int .i64 b] w fun e w' => e = .returned (.bool true) ∧ Grown w w' := by
  have hz : (b != 0) = true := by simpa using h0
  have hk := back_fits a b ha
  have hs : b * a.tdiv b + a.tmod b = a := Int.mul_tdiv_add_tmod a b
  have hl : (b * a.tdiv b + a.tmod b != a) = false := by simpa using hs
  have hg : -9223372036854775808 ≤ b * a.tdiv b + a.tmod b ∧ b * a.tdiv b + a.tmod b ≤ 9223372036854775807 := by rw [hs]; exact ha
  clear hs
  unfold fits at hk
  have hrr : (a.tmod b == 0) = false := by simpa using hr
  have pd : decide (a < 0) = false := by simpa using p
  have qd : decide (b < 0) = false := by simpa using q
  have hm := tmod_abs_lt a b h0
  have hg2 := tmod_sign a b
  have r1 : 0 < a.tmod b := by omega
  have r0 : decide (a.tmod b < 0) = false := by simp; omega
  have r2 : -b < -(a.tmod b) := by omega
  have r3 : 0 < b := by omega
  have hbb := hb
  have hrb := tmod_fits a b ha
  unfold fits at hbb hrb
  clear hr hm hg2 p
  go_enter Try.func5, Try.ntmps5
  go_wp2_with (first | (go_at_call 7; with_reducible refine (add_yes _ _ _ ha hb hA).mono ?_; rintro e w' ⟨rfl, rfl⟩) | (go_at_call 9; with_reducible refine (sub_back _ _ _ ha hb hA).mono ?_; rintro e w' ⟨rfl, rfl⟩) | (go_at_call 11; with_reducible refine (mul_no _ _ _ ha hb hM).mono ?_; rintro e w' ⟨rfl, rfl⟩) | (go_at_call 14; with_reducible refine (quo_yes a b _ ha h0 h1).mono ?_; rintro e w' ⟨rfl, rfl⟩) | (go_at_call 16; with_reducible refine (rem_yes a b _ h0 h1).mono ?_; rintro e w' ⟨rfl, rfl⟩) | (go_at_call 13; with_reducible refine (wakes_true _).mono ?_; rintro e w' ⟨rfl, rfl⟩))
  go_ret
  exact ⟨rfl, Grown.refl _⟩

set_option maxRecDepth 100000 in
theorem rest0111 (a b : Int) (w : World) (ha : fits a) (hb : fits b) (h0 : b ≠ 0) (h1 : ¬ (a = -9223372036854775808 ∧ b = -1)) (hA : ¬ fits (a + b)) (hM : fits (a * b)) (hr : a.tmod b ≠ 0) (p : a < 0) (q : b < 0) :
    Calls Try.prog 5 #[.int .i64 a, .int .i64 b] w fun e w' => e = .returned (.bool true) ∧ Grown w w' := by
  have hz : (b != 0) = true := by simpa using h0
  have hk := back_fits a b ha
  have hs : b * a.tdiv b + a.tmod b = a := Int.mul_tdiv_add_tmod a b
  have hl : (b * a.tdiv b + a.tmod b != a) = false := by simpa using hs
  have hg : -9223372036854775808 ≤ b * a.tdiv b + a.tmod b ∧ b * a.tdiv b + a.tmod b ≤ 9223372036854775807 := by rw [hs]; exact ha
  clear hs
  unfold fits at hk
  have hrr : (a.tmod b == 0) = false := by simpa using hr
  have pd : decide (a < 0) = true := by simpa using p
  have qd : decide (b < 0) = true := by simpa using q
  have hm := tmod_abs_lt a b h0
  have hg2 := tmod_sign a b
  have r1 : a.tmod b < 0 := by omega
  have r0 : decide (a.tmod b < 0) = true := by simp; omega
  have r2 : b < a.tmod b := by omega
  have hbb := hb
  have hrb := tmod_fits a b ha
  unfold fits at hbb hrb
  clear hr hm hg2 p
  go_enter Try.func5, Try.ntmps5
  go_wp2_with (first | (go_at_call 7; with_reducible refine (add_no _ _ _ ha hb hA).mono ?_; rintro e w' ⟨rfl, rfl⟩) | (go_at_call 11; with_reducible refine (mul_yes _ _ _ ha hM).mono ?_; rintro e w' ⟨rfl, rfl⟩) | (go_at_call 14; with_reducible refine (quo_back a b _ ha h0 hM).mono ?_; rintro e w' ⟨rfl, rfl⟩) | (go_at_call 18; with_reducible refine (floor_back a b _ ha h0 hM).mono ?_; rintro e w' ⟨rfl, rfl⟩) | (go_at_call 16; with_reducible refine (rem_back a b _ ha h0).mono ?_; rintro e w' ⟨rfl, rfl⟩) | (go_at_call 14; with_reducible refine (quo_yes a b _ ha h0 h1).mono ?_; rintro e w' ⟨rfl, rfl⟩) | (go_at_call 16; with_reducible refine (rem_yes a b _ h0 h1).mono ?_; rintro e w' ⟨rfl, rfl⟩) | (go_at_call 13; with_reducible refine (wakes_true _).mono ?_; rintro e w' ⟨rfl, rfl⟩))
  go_ret
  exact ⟨rfl, Grown.refl _⟩

set_option maxRecDepth 100000 in
theorem rest0110 (a b : Int) (w : World) (ha : fits a) (hb : fits b) (h0 : b ≠ 0) (h1 : ¬ (a = -9223372036854775808 ∧ b = -1)) (hA : ¬ fits (a + b)) (hM : fits (a * b)) (hr : a.tmod b ≠ 0) (p : a < 0) (q : ¬ b < 0) :
    Calls Try.prog 5 #[.int .i64 a, .int .i64 b] w fun e w' => e = .returned (.bool true) ∧ Grown w w' := by
  have hz : (b != 0) = true := by simpa using h0
  have hk := back_fits a b ha
  have hs : b * a.tdiv b + a.tmod b = a := Int.mul_tdiv_add_tmod a b
  have hl : (b * a.tdiv b + a.tmod b != a) = false := by simpa using hs
  have hg : -9223372036854775808 ≤ b * a.tdiv b + a.tmod b ∧ b * a.tdiv b + a.tmod b ≤ 9223372036854775807 := by rw [hs]; exact ha
  clear hs
  unfold fits at hk
  have hrr : (a.tmod b == 0) = false := by simpa using hr
  have pd : decide (a < 0) = true := by simpa using p
  have qd : decide (b < 0) = false := by simpa using q
  have hm := tmod_abs_lt a b h0
  have hg2 := tmod_sign a b
  have r1 : a.tmod b < 0 := by omega
  have r0 : decide (a.tmod b < 0) = true := by simp; omega
  have r2 : -b < a.tmod b := by omega
  have r3 : 0 < b := by omega
  have hbb := hb
  have hrb := tmod_fits a b ha
  unfold fits at hbb hrb
  clear hr hm hg2 p
  go_enter Try.func5, Try.ntmps5
  go_wp2_with (first | (go_at_call 7; with_reducible refine (add_no _ _ _ ha hb hA).mono ?_; rintro e w' ⟨rfl, rfl⟩) | (go_at_call 11; with_reducible refine (mul_yes _ _ _ ha hM).mono ?_; rintro e w' ⟨rfl, rfl⟩) | (go_at_call 14; with_reducible refine (quo_back a b _ ha h0 hM).mono ?_; rintro e w' ⟨rfl, rfl⟩) | (go_at_call 18; with_reducible refine (floor_back a b _ ha h0 hM).mono ?_; rintro e w' ⟨rfl, rfl⟩) | (go_at_call 16; with_reducible refine (rem_back a b _ ha h0).mono ?_; rintro e w' ⟨rfl, rfl⟩) | (go_at_call 14; with_reducible refine (quo_yes a b _ ha h0 h1).mono ?_; rintro e w' ⟨rfl, rfl⟩) | (go_at_call 16; with_reducible refine (rem_yes a b _ h0 h1).mono ?_; rintro e w' ⟨rfl, rfl⟩) | (go_at_call 13; with_reducible refine (wakes_true _).mono ?_; rintro e w' ⟨rfl, rfl⟩))
  go_ret
  exact ⟨rfl, Grown.refl _⟩

set_option maxRecDepth 100000 in
theorem rest0101 (a b : Int) (w : World) (ha : fits a) (hb : fits b) (h0 : b ≠ 0) (h1 : ¬ (a = -9223372036854775808 ∧ b = -1)) (hA : ¬ fits (a + b)) (hM : fits (a * b)) (hr : a.tmod b ≠ 0) (p : ¬ a < 0) (q : b < 0) :
    Calls Try.prog 5 #[.int .i64 a, .int .i64 b] w fun e w' => e = .returned (.bool true) ∧ Grown w w' := by
  have hz : (b != 0) = true := by simpa using h0
  have hk := back_fits a b ha
  have hs : b * a.tdiv b + a.tmod b = a := Int.mul_tdiv_add_tmod a b
  have hl : (b * a.tdiv b + a.tmod b != a) = false := by simpa using hs
  have hg : -9223372036854775808 ≤ b * a.tdiv b + a.tmod b ∧ b * a.tdiv b + a.tmod b ≤ 9223372036854775807 := by rw [hs]; exact ha
  clear hs
  unfold fits at hk
  have hrr : (a.tmod b == 0) = false := by simpa using hr
  have pd : decide (a < 0) = false := by simpa using p
  have qd : decide (b < 0) = true := by simpa using q
  have hm := tmod_abs_lt a b h0
  have hg2 := tmod_sign a b
  have r1 : 0 < a.tmod b := by omega
  have r0 : decide (a.tmod b < 0) = false := by simp; omega
  have r2 : b < -(a.tmod b) := by omega
  have hbb := hb
  have hrb := tmod_fits a b ha
  unfold fits at hbb hrb
  clear hr hm hg2 p
  go_enter Try.func5, Try.ntmps5
  go_wp2_with (first | (go_at_call 7; with_reducible refine (add_no _ _ _ ha hb hA).mono ?_; rintro e w' ⟨rfl, rfl⟩) | (go_at_call 11; with_reducible refine (mul_yes _ _ _ ha hM).mono ?_; rintro e w' ⟨rfl, rfl⟩) | (go_at_call 14; with_reducible refine (quo_back a b _ ha h0 hM).mono ?_; rintro e w' ⟨rfl, rfl⟩) | (go_at_call 18; with_reducible refine (floor_back a b _ ha h0 hM).mono ?_; rintro e w' ⟨rfl, rfl⟩) | (go_at_call 16; with_reducible refine (rem_back a b _ ha h0).mono ?_; rintro e w' ⟨rfl, rfl⟩) | (go_at_call 14; with_reducible refine (quo_yes a b _ ha h0 h1).mono ?_; rintro e w' ⟨rfl, rfl⟩) | (go_at_call 16; with_reducible refine (rem_yes a b _ h0 h1).mono ?_; rintro e w' ⟨rfl, rfl⟩) | (go_at_call 13; with_reducible refine (wakes_true _).mono ?_; rintro e w' ⟨rfl, rfl⟩))
  go_ret
  exact ⟨rfl, Grown.refl _⟩

set_option maxRecDepth 100000 in
theorem rest0100 (a b : Int) (w : World) (ha : fits a) (hb : fits b) (h0 : b ≠ 0) (h1 : ¬ (a = -9223372036854775808 ∧ b = -1)) (hA : ¬ fits (a + b)) (hM : fits (a * b)) (hr : a.tmod b ≠ 0) (p : ¬ a < 0) (q : ¬ b < 0) :
    Calls Try.prog 5 #[.int .i64 a, .int .i64 b] w fun e w' => e = .returned (.bool true) ∧ Grown w w' := by
  have hz : (b != 0) = true := by simpa using h0
  have hk := back_fits a b ha
  have hs : b * a.tdiv b + a.tmod b = a := Int.mul_tdiv_add_tmod a b
  have hl : (b * a.tdiv b + a.tmod b != a) = false := by simpa using hs
  have hg : -9223372036854775808 ≤ b * a.tdiv b + a.tmod b ∧ b * a.tdiv b + a.tmod b ≤ 9223372036854775807 := by rw [hs]; exact ha
  clear hs
  unfold fits at hk
  have hrr : (a.tmod b == 0) = false := by simpa using hr
  have pd : decide (a < 0) = false := by simpa using p
  have qd : decide (b < 0) = false := by simpa using q
  have hm := tmod_abs_lt a b h0
  have hg2 := tmod_sign a b
  have r1 : 0 < a.tmod b := by omega
  have r0 : decide (a.tmod b < 0) = false := by simp; omega
  have r2 : -b < -(a.tmod b) := by omega
  have r3 : 0 < b := by omega
  have hbb := hb
  have hrb := tmod_fits a b ha
  unfold fits at hbb hrb
  clear hr hm hg2 p
  go_enter Try.func5, Try.ntmps5
  go_wp2_with (first | (go_at_call 7; with_reducible refine (add_no _ _ _ ha hb hA).mono ?_; rintro e w' ⟨rfl, rfl⟩) | (go_at_call 11; with_reducible refine (mul_yes _ _ _ ha hM).mono ?_; rintro e w' ⟨rfl, rfl⟩) | (go_at_call 14; with_reducible refine (quo_back a b _ ha h0 hM).mono ?_; rintro e w' ⟨rfl, rfl⟩) | (go_at_call 18; with_reducible refine (floor_back a b _ ha h0 hM).mono ?_; rintro e w' ⟨rfl, rfl⟩) | (go_at_call 16; with_reducible refine (rem_back a b _ ha h0).mono ?_; rintro e w' ⟨rfl, rfl⟩) | (go_at_call 14; with_reducible refine (quo_yes a b _ ha h0 h1).mono ?_; rintro e w' ⟨rfl, rfl⟩) | (go_at_call 16; with_reducible refine (rem_yes a b _ h0 h1).mono ?_; rintro e w' ⟨rfl, rfl⟩) | (go_at_call 13; with_reducible refine (wakes_true _).mono ?_; rintro e w' ⟨rfl, rfl⟩))
  go_ret
  exact ⟨rfl, Grown.refl _⟩

set_option maxRecDepth 100000 in
theorem rest0011 (a b : Int) (w : World) (ha : fits a) (hb : fits b) (h0 : b ≠ 0) (h1 : ¬ (a = -9223372036854775808 ∧ b = -1)) (hA : ¬ fits (a + b)) (hM : ¬ fits (a * b)) (hr : a.tmod b ≠ 0) (p : a < 0) (q : b < 0) :
    Calls Try.prog 5 #[.int .i64 a, .int .i64 b] w fun e w' => e = .returned (.bool true) ∧ Grown w w' := by
  have hz : (b != 0) = true := by simpa using h0
  have hk := back_fits a b ha
  have hs : b * a.tdiv b + a.tmod b = a := Int.mul_tdiv_add_tmod a b
  have hl : (b * a.tdiv b + a.tmod b != a) = false := by simpa using hs
  have hg : -9223372036854775808 ≤ b * a.tdiv b + a.tmod b ∧ b * a.tdiv b + a.tmod b ≤ 9223372036854775807 := by rw [hs]; exact ha
  clear hs
  unfold fits at hk
  have hrr : (a.tmod b == 0) = false := by simpa using hr
  have pd : decide (a < 0) = true := by simpa using p
  have qd : decide (b < 0) = true := by simpa using q
  have hm := tmod_abs_lt a b h0
  have hg2 := tmod_sign a b
  have r1 : a.tmod b < 0 := by omega
  have r0 : decide (a.tmod b < 0) = true := by simp; omega
  have r2 : b < a.tmod b := by omega
  have hbb := hb
  have hrb := tmod_fits a b ha
  unfold fits at hbb hrb
  clear hr hm hg2 p
  go_enter Try.func5, Try.ntmps5
  go_wp2_with (first | (go_at_call 7; with_reducible refine (add_no _ _ _ ha hb hA).mono ?_; rintro e w' ⟨rfl, rfl⟩) | (go_at_call 11; with_reducible refine (mul_no _ _ _ ha hb hM).mono ?_; rintro e w' ⟨rfl, rfl⟩) | (go_at_call 14; with_reducible refine (quo_yes a b _ ha h0 h1).mono ?_; rintro e w' ⟨rfl, rfl⟩) | (go_at_call 16; with_reducible refine (rem_yes a b _ h0 h1).mono ?_; rintro e w' ⟨rfl, rfl⟩) | (go_at_call 13; with_reducible refine (wakes_true _).mono ?_; rintro e w' ⟨rfl, rfl⟩))
  go_ret
  exact ⟨rfl, Grown.refl _⟩

set_option maxRecDepth 100000 in
theorem rest0010 (a b : Int) (w : World) (ha : fits a) (hb : fits b) (h0 : b ≠ 0) (h1 : ¬ (a = -9223372036854775808 ∧ b = -1)) (hA : ¬ fits (a + b)) (hM : ¬ fits (a * b)) (hr : a.tmod b ≠ 0) (p : a < 0) (q : ¬ b < 0) :
    Calls Try.prog 5 #[.int .i64 a, .int .i64 b] w fun e w' => e = .returned (.bool true) ∧ Grown w w' := by
  have hz : (b != 0) = true := by simpa using h0
  have hk := back_fits a b ha
  have hs : b * a.tdiv b + a.tmod b = a := Int.mul_tdiv_add_tmod a b
  have hl : (b * a.tdiv b + a.tmod b != a) = false := by simpa using hs
  have hg : -9223372036854775808 ≤ b * a.tdiv b + a.tmod b ∧ b * a.tdiv b + a.tmod b ≤ 9223372036854775807 := by rw [hs]; exact ha
  clear hs
  unfold fits at hk
  have hrr : (a.tmod b == 0) = false := by simpa using hr
  have pd : decide (a < 0) = true := by simpa using p
  have qd : decide (b < 0) = false := by simpa using q
  have hm := tmod_abs_lt a b h0
  have hg2 := tmod_sign a b
  have r1 : a.tmod b < 0 := by omega
  have r0 : decide (a.tmod b < 0) = true := by simp; omega
  have r2 : -b < a.tmod b := by omega
  have r3 : 0 < b := by omega
  have hbb := hb
  have hrb := tmod_fits a b ha
  unfold fits at hbb hrb
  clear hr hm hg2 p
  go_enter Try.func5, Try.ntmps5
  go_wp2_with (first | (go_at_call 7; with_reducible refine (add_no _ _ _ ha hb hA).mono ?_; rintro e w' ⟨rfl, rfl⟩) | (go_at_call 11; with_reducible refine (mul_no _ _ _ ha hb hM).mono ?_; rintro e w' ⟨rfl, rfl⟩) | (go_at_call 14; with_reducible refine (quo_yes a b _ ha h0 h1).mono ?_; rintro e w' ⟨rfl, rfl⟩) | (go_at_call 16; with_reducible refine (rem_yes a b _ h0 h1).mono ?_; rintro e w' ⟨rfl, rfl⟩) | (go_at_call 13; with_reducible refine (wakes_true _).mono ?_; rintro e w' ⟨rfl, rfl⟩))
  go_ret
  exact ⟨rfl, Grown.refl _⟩

set_option maxRecDepth 100000 in
theorem rest0001 (a b : Int) (w : World) (ha : fits a) (hb : fits b) (h0 : b ≠ 0) (h1 : ¬ (a = -9223372036854775808 ∧ b = -1)) (hA : ¬ fits (a + b)) (hM : ¬ fits (a * b)) (hr : a.tmod b ≠ 0) (p : ¬ a < 0) (q : b < 0) :
    Calls Try.prog 5 #[.int .i64 a, .int .i64 b] w fun e w' => e = .returned (.bool true) ∧ Grown w w' := by
  have hz : (b != 0) = true := by simpa using h0
  have hk := back_fits a b ha
  have hs : b * a.tdiv b + a.tmod b = a := Int.mul_tdiv_add_tmod a b
  have hl : (b * a.tdiv b + a.tmod b != a) = false := by simpa using hs
  have hg : -9223372036854775808 ≤ b * a.tdiv b + a.tmod b ∧ b * a.tdiv b + a.tmod b ≤ 9223372036854775807 := by rw [hs]; exact ha
  clear hs
  unfold fits at hk
  have hrr : (a.tmod b == 0) = false := by simpa using hr
  have pd : decide (a < 0) = false := by simpa using p
  have qd : decide (b < 0) = true := by simpa using q
  have hm := tmod_abs_lt a b h0
  have hg2 := tmod_sign a b
  have r1 : 0 < a.tmod b := by omega
  have r0 : decide (a.tmod b < 0) = false := by simp; omega
  have r2 : b < -(a.tmod b) := by omega
  have hbb := hb
  have hrb := tmod_fits a b ha
  unfold fits at hbb hrb
  clear hr hm hg2 p
  go_enter Try.func5, Try.ntmps5
  go_wp2_with (first | (go_at_call 7; with_reducible refine (add_no _ _ _ ha hb hA).mono ?_; rintro e w' ⟨rfl, rfl⟩) | (go_at_call 11; with_reducible refine (mul_no _ _ _ ha hb hM).mono ?_; rintro e w' ⟨rfl, rfl⟩) | (go_at_call 14; with_reducible refine (quo_yes a b _ ha h0 h1).mono ?_; rintro e w' ⟨rfl, rfl⟩) | (go_at_call 16; with_reducible refine (rem_yes a b _ h0 h1).mono ?_; rintro e w' ⟨rfl, rfl⟩) | (go_at_call 13; with_reducible refine (wakes_true _).mono ?_; rintro e w' ⟨rfl, rfl⟩))
  go_ret
  exact ⟨rfl, Grown.refl _⟩

set_option maxRecDepth 100000 in
theorem rest0000 (a b : Int) (w : World) (ha : fits a) (hb : fits b) (h0 : b ≠ 0) (h1 : ¬ (a = -9223372036854775808 ∧ b = -1)) (hA : ¬ fits (a + b)) (hM : ¬ fits (a * b)) (hr : a.tmod b ≠ 0) (p : ¬ a < 0) (q : ¬ b < 0) :
    Calls Try.prog 5 #[.int .i64 a, .int .i64 b] w fun e w' => e = .returned (.bool true) ∧ Grown w w' := by
  have hz : (b != 0) = true := by simpa using h0
  have hk := back_fits a b ha
  have hs : b * a.tdiv b + a.tmod b = a := Int.mul_tdiv_add_tmod a b
  have hl : (b * a.tdiv b + a.tmod b != a) = false := by simpa using hs
  have hg : -9223372036854775808 ≤ b * a.tdiv b + a.tmod b ∧ b * a.tdiv b + a.tmod b ≤ 9223372036854775807 := by rw [hs]; exact ha
  clear hs
  unfold fits at hk
  have hrr : (a.tmod b == 0) = false := by simpa using hr
  have pd : decide (a < 0) = false := by simpa using p
  have qd : decide (b < 0) = false := by simpa using q
  have hm := tmod_abs_lt a b h0
  have hg2 := tmod_sign a b
  have r1 : 0 < a.tmod b := by omega
  have r0 : decide (a.tmod b < 0) = false := by simp; omega
  have r2 : -b < -(a.tmod b) := by omega
  have r3 : 0 < b := by omega
  have hbb := hb
  have hrb := tmod_fits a b ha
  unfold fits at hbb hrb
  clear hr hm hg2 p
  go_enter Try.func5, Try.ntmps5
  go_wp2_with (first | (go_at_call 7; with_reducible refine (add_no _ _ _ ha hb hA).mono ?_; rintro e w' ⟨rfl, rfl⟩) | (go_at_call 11; with_reducible refine (mul_no _ _ _ ha hb hM).mono ?_; rintro e w' ⟨rfl, rfl⟩) | (go_at_call 14; with_reducible refine (quo_yes a b _ ha h0 h1).mono ?_; rintro e w' ⟨rfl, rfl⟩) | (go_at_call 16; with_reducible refine (rem_yes a b _ h0 h1).mono ?_; rintro e w' ⟨rfl, rfl⟩) | (go_at_call 13; with_reducible refine (wakes_true _).mono ?_; rintro e w' ⟨rfl, rfl⟩))
  go_ret
  exact ⟨rfl, Grown.refl _⟩

/-! ### STEP 1: THE WALK: the Go text returns true. 'Grown w w'': the world has at most new blocks (Derived/RowKit3.lean). Part the cases AHEAD of 'go_enter' where a test parts the walk; take each callee by a contract of your own. -/
theorem walk (a0 : Int) (a1 : Int) (w0 : (Lit.int .i64 a0).wf = true) (w1 : (Lit.int .i64 a1).wf = true) (w : World) :
    Calls Try.prog 5 #[.int .i64 a0, .int .i64 a1] w fun e w' => e = .returned (.bool true) ∧ Grown w w' := by
  have ha := fits_wf a0 w0
  have hb := fits_wf a1 w1
  by_cases h0 : a1 = 0
  · subst h0; exact nought_walk a0 w ha
  by_cases h1 : a0 = -9223372036854775808 ∧ a1 = -1
  · obtain ⟨rfl, rfl⟩ := h1; exact least_walk w
  by_cases hr : a0.tmod a1 = 0
  · by_cases hA : fits (a0 + a1) <;> by_cases hM : fits (a0 * a1)
    · exact same11 a0 a1 w ha hb h0 h1 hA hM hr
    · exact same10 a0 a1 w ha hb h0 h1 hA hM hr
    · exact same01 a0 a1 w ha hb h0 h1 hA hM hr
    · exact same00 a0 a1 w ha hb h0 h1 hA hM hr
  · by_cases p : a0 < 0 <;> by_cases q : a1 < 0
    · by_cases hA : fits (a0 + a1) <;> by_cases hM : fits (a0 * a1)
      · exact rest1111 a0 a1 w ha hb h0 h1 hA hM hr p q
      · exact rest1011 a0 a1 w ha hb h0 h1 hA hM hr p q
      · exact rest0111 a0 a1 w ha hb h0 h1 hA hM hr p q
      · exact rest0011 a0 a1 w ha hb h0 h1 hA hM hr p q
    · by_cases hA : fits (a0 + a1) <;> by_cases hM : fits (a0 * a1)
      · exact rest1110 a0 a1 w ha hb h0 h1 hA hM hr p q
      · exact rest1010 a0 a1 w ha hb h0 h1 hA hM hr p q
      · exact rest0110 a0 a1 w ha hb h0 h1 hA hM hr p q
      · exact rest0010 a0 a1 w ha hb h0 h1 hA hM hr p q
    · by_cases hA : fits (a0 + a1) <;> by_cases hM : fits (a0 * a1)
      · exact rest1101 a0 a1 w ha hb h0 h1 hA hM hr p q
      · exact rest1001 a0 a1 w ha hb h0 h1 hA hM hr p q
      · exact rest0101 a0 a1 w ha hb h0 h1 hA hM hr p q
      · exact rest0001 a0 a1 w ha hb h0 h1 hA hM hr p q
    · by_cases hA : fits (a0 + a1) <;> by_cases hM : fits (a0 * a1)
      · exact rest1100 a0 a1 w ha hb h0 h1 hA hM hr p q
      · exact rest1000 a0 a1 w ha hb h0 h1 hA hM hr p q
      · exact rest0100 a0 a1 w ha hb h0 h1 hA hM hr p q
      · exact rest0000 a0 a1 w ha hb h0 h1 hA hM hr p q

/-! ### THE ROW's STEP: WRITTEN OUT: LEAVE IT -/
set_option maxRecDepth 100000 in
theorem lifted (os : Os) (started : os.Started) (H : Type) (enc : TypeId × Value → H) :
    ReturnsInHanded {} Try.checked os 5 .any (Rows.numBackSpec.pre6 enc Try.prog Try.f5 Rows.numBackRow.domain false) (Rows.numBackSpec.post enc Try.prog Try.f5 false true false false) := by
  refine returnsInHanded_of_change (C := Try.checked) own started (by kernel_rfl) Try.func5
    (ChangeSpec.witness6 (enc := enc) (C := Try.checked) false ⟨#[], #[.int .i64 0, .int .i64 0], []⟩ 8 (by kernel_rfl) (by kernel_rfl) (by kernel_rfl) (by kernel_rfl)) ?_
  intro W base args ds gs before hval0 hW hcnd _
  have hval : ∀ (j : Nat) t v, Try.f5.params[j]? = some t → args[j]? = some v → Value.okWide Try.prog W .any base t v := hval0
  have hW' := hW
  obtain ⟨p, q, hA0, hV, rfl, hfz, hnd⟩ := hW
  have hA : DataW.TrodAll enc Try.prog W 0 (fun _ => true) true Try.f5.params.toList args.toList ds p := hA0
  rw [Try.params5] at hA hval
  obtain ⟨v0, vs0, d0, ds0, p0, q0, hargs, rfl, rfl, h0, r0⟩ := trodAll_cons hA
  obtain ⟨v1, vs1, d1, ds1, p1, q1, rfl, rfl, rfl, h1, r1⟩ := trodAll_cons r0
  obtain ⟨rfl, rfl, rfl⟩ := trodAll_nil r1
  obtain rfl : args = #[v0, v1] := by cases args; simp_all
  obtain ⟨rfl, rfl⟩ := trodVars_none hV
  obtain ⟨a0, rfl, rfl, rfl, w0⟩ := open_int Try.underlying3 (hval 0 3 v0 rfl rfl) h0
  obtain ⟨a1, rfl, rfl, rfl, w1⟩ := open_int Try.underlying3 (hval 1 3 v1 rfl rfl) h1
  clear hA0 hval0
  simp only [List.append_nil] at hW'
  refine (walk a0 a1 w0 w1 W).mono fun e W' ⟨he, hg⟩ => ?_
  subst he
  exact ⟨_, rfl, post_of_same (pa := []) (pv := []) hW' (fun _ _ _ => (trodAll_cons_mk (shut_bool Try.underlying4 _) trodAll_mk0)) (fun sp _ => (trodAll_cons_mk (shut_int Try.underlying3 w0) (trodAll_cons_mk (shut_int Try.underlying3 w1) trodAll_mk0))) (fun _ _ => rfl) rfl
    (hg.frame _) hg.2.1 (ok_one (by kernel_rfl) rfl (okWide_bool_mk Try.underlying4 _))⟩

theorem over : Rows.numBackRow.holds Try.pinned (OpenSpec.ofChange Rows.numBackSpec) :=
  OpenClaim.holds_of_wide 5 Try.f5 rfl rfl rfl rfl rfl rfl rfl ⟨rfl, rfl, rfl, rfl, rfl⟩ rfl rfl rfl rfl rfl (by kernel_rfl) Try.func5 (by kernel_rfl)
    (of_decide_eq_true (by kernel_rfl)) (by unfold Func.isWrapper; first | (rw [if_pos (by decide +kernel)]; kernel_rfl) | (rw [if_neg (by decide +kernel)]; exact ⟨rfl, rfl⟩))
    (fun os started H enc _ => lifted os started H enc)

/-- ████ THE STATEMENT ████ -/
theorem proved : Rows.NumBackSaid :=
  over
#print axioms proved
end Go.Proofs.Ytmadggpoiklpfaa.numBack
namespace Go.Proofs.Ytmadggpoiklpfaa
theorem numBack_holds : Rows.NumBackSaid := numBack.proved
end Go.Proofs.Ytmadggpoiklpfaa
