/- What Quo, Rem, Floor, Ceil of package jigsawref01 answer, for every two numbers of 64 bits: the walks. -/
import Derived.Test.YtmadggpoiklpfaaRefMore
namespace Go.Proofs.Ytmadggpoiklpfaa
open Go.ChangeShapes Go.WideShapes Go.ChangeAt Go.RowKit

theorem tdiv_like (a b : Int) (s : (a < 0) = (b < 0)) : a.tdiv b = sz a / sz b := by
  by_cases q : b < 0
  · have p : a < 0 := by rw [s]; exact q
    have e1 : sz a = -a := by unfold sz; omega
    have e2 : sz b = -b := by unfold sz; omega
    rw [e1, e2, ← Int.tdiv_eq_ediv_of_nonneg (by omega), Int.neg_tdiv, Int.tdiv_neg, Int.neg_neg]
  · have p : ¬ a < 0 := by rw [s]; exact q
    have e1 : sz a = a := by unfold sz; omega
    have e2 : sz b = b := by unfold sz; omega
    rw [e1, e2, ← Int.tdiv_eq_ediv_of_nonneg (by omega)]

theorem tdiv_unlike (a b : Int) (s : (a < 0) ≠ (b < 0)) : a.tdiv b = -(sz a / sz b) := by
  by_cases q : b < 0
  · have p : ¬ a < 0 := fun p => s (by simp [p, q])
    have e1 : sz a = a := by unfold sz; omega
    have e2 : sz b = -b := by unfold sz; omega
    rw [e1, e2, ← Int.tdiv_eq_ediv_of_nonneg (by omega), Int.tdiv_neg, Int.neg_neg]
  · have p : a < 0 := by
      apply Decidable.byContradiction
      intro p
      exact s (by simp [p, q])
    have e1 : sz a = -a := by unfold sz; omega
    have e2 : sz b = b := by unfold sz; omega
    rw [e1, e2, ← Int.tdiv_eq_ediv_of_nonneg (by omega), Int.neg_tdiv, Int.neg_neg]

theorem rquo_no (a b : Int) (w : World) (h : b = 0 ∨ (a = -9223372036854775808 ∧ b = -1)) :
    Calls Try.prog 15 #[.int .i64 a, .int .i64 b] w fun e w' => e = .returned (.tuple #[.int .i64 0, .bool false]) ∧ w = w' := by
  rcases h with rfl | ⟨rfl, rfl⟩
  · go_enter Try.func15, Try.ntmps15
    go_wp2
    go_ret2
    exact ⟨rfl, rfl⟩
  · go_enter Try.func15, Try.ntmps15
    go_wp2
    go_ret2
    exact ⟨rfl, rfl⟩

theorem rquo_least_wrapped (w : World) :
    Calls Try.prog 15 #[.int .i64 (-9223372036854775808), .int .i64 1] w fun e w' => e = .returned (.tuple #[.int .i64 (wrap64 (-wrap64 9223372036854775808)), .bool true]) ∧ w = w' := by
  have f1 : fits (-9223372036854775808) := by decide
  have f2 : fits 1 := by decide
  have z1 : sz (-9223372036854775808) = 9223372036854775808 := by decide
  have z2 : sz 1 = 1 := by decide
  go_enter Try.func15, Try.ntmps15
  go_wp2_with (go_at_call 22; with_reducible refine (size_any _ _ (by assumption)).mono ?_; rintro e w' ⟨rfl, rfl⟩)
  go_ret2
  exact ⟨rfl, rfl⟩

theorem rquo_least (w : World) :
    Calls Try.prog 15 #[.int .i64 (-9223372036854775808), .int .i64 1] w fun e w' => e = .returned (.tuple #[.int .i64 (-9223372036854775808), .bool true]) ∧ w = w' := by
  have h := rquo_least_wrapped w
  rw [show wrap64 (-wrap64 9223372036854775808) = -9223372036854775808 by unfold wrap64; rfl] at h
  exact h

theorem rquo_yes (a b : Int) (w : World) (ha : fits a) (hb : fits b) (h0 : b ≠ 0) (h1 : ¬ (a = -9223372036854775808 ∧ b = -1)) :
    Calls Try.prog 15 #[.int .i64 a, .int .i64 b] w fun e w' => e = .returned (.tuple #[.int .i64 (a.tdiv b), .bool true]) ∧ w = w' := by
  by_cases sp : a = -9223372036854775808 ∧ b = 1
  · obtain ⟨rfl, rfl⟩ := sp
    exact rquo_least w
  have r1 := sz_range a ha
  have r2 := sz_range b hb
  have r3 := sz_pos b h0
  have hq0 : 0 ≤ sz a / sz b := Int.ediv_nonneg r1.1 r2.1
  have hf := tdiv_fits a b ha h1
  have hz : (b == 0) = false := by simpa using h0
  have hq1 : sz a / sz b ≤ 9223372036854775807 := by
    by_cases s : (a < 0) = (b < 0)
    · rw [tdiv_like a b s] at hf; exact hf.2
    · have e := tdiv_unlike a b s
      have : sz a / sz b ≤ sz a := Int.ediv_le_self _ r1.1
      apply Decidable.byContradiction
      intro hn
      apply sp
      have ea : sz a = 9223372036854775808 := by omega
      have eq : sz a / sz b = 9223372036854775808 := by omega
      have eb : sz b = 1 := by
        apply Decidable.byContradiction
        intro hne
        have h2 : 2 ≤ sz b := by omega
        have h3 : sz a / sz b * sz b ≤ sz a := Int.ediv_mul_le _ (by omega)
        rw [eq, ea] at h3
        omega
      unfold sz at ea eb
      unfold fits at ha
      have ha2 : a = -9223372036854775808 := by omega
      exact ⟨ha2, by omega⟩
  have hl : (b == -1) = true → (a == -9223372036854775808) = false := by
    intro h; simp at h ⊢; intro h2; exact h1 ⟨h2, h⟩
  by_cases m : b = -1
  · have n1 : (b == -1) = true := by simpa using m
    have n2 := hl n1
    clear hl sp hf h1
    have q : b < 0 := by omega
    have qd : decide (b < 0) = true := by simpa using q
    by_cases p : a < 0
    · rw [tdiv_like a b (by simp [p, q])]
      have pd : decide (a < 0) = true := by simpa using p
      clear m
      go_enter Try.func15, Try.ntmps15
      go_wp2_with (go_at_call 22; with_reducible refine (size_any _ _ (by assumption)).mono ?_; rintro e w' ⟨rfl, rfl⟩)
      go_ret2
      exact ⟨rfl, rfl⟩
    · rw [tdiv_unlike a b (by simp [p, q])]
      have pd : decide (a < 0) = false := by simpa using p
      clear m
      go_enter Try.func15, Try.ntmps15
      go_wp2_with (go_at_call 22; with_reducible refine (size_any _ _ (by assumption)).mono ?_; rintro e w' ⟨rfl, rfl⟩)
      go_ret2
      exact ⟨rfl, rfl⟩
  · have n1 : (b == -1) = false := by simpa using m
    clear hl sp hf h1 m
    by_cases p : a < 0 <;> by_cases q : b < 0
    · rw [tdiv_like a b (by simp [p, q])]
      have pd : decide (a < 0) = true := by simpa using p
      have qd : decide (b < 0) = true := by simpa using q
      go_enter Try.func15, Try.ntmps15
      go_wp2_with (go_at_call 22; with_reducible refine (size_any _ _ (by assumption)).mono ?_; rintro e w' ⟨rfl, rfl⟩)
      go_ret2
      exact ⟨rfl, rfl⟩
    · rw [tdiv_unlike a b (by simp [p, q])]
      have pd : decide (a < 0) = true := by simpa using p
      have qd : decide (b < 0) = false := by simpa using q
      go_enter Try.func15, Try.ntmps15
      go_wp2_with (go_at_call 22; with_reducible refine (size_any _ _ (by assumption)).mono ?_; rintro e w' ⟨rfl, rfl⟩)
      go_ret2
      exact ⟨rfl, rfl⟩
    · rw [tdiv_unlike a b (by simp [p, q])]
      have pd : decide (a < 0) = false := by simpa using p
      have qd : decide (b < 0) = true := by simpa using q
      go_enter Try.func15, Try.ntmps15
      go_wp2_with (go_at_call 22; with_reducible refine (size_any _ _ (by assumption)).mono ?_; rintro e w' ⟨rfl, rfl⟩)
      go_ret2
      exact ⟨rfl, rfl⟩
    · rw [tdiv_like a b (by simp [p, q])]
      have pd : decide (a < 0) = false := by simpa using p
      have qd : decide (b < 0) = false := by simpa using q
      go_enter Try.func15, Try.ntmps15
      go_wp2_with (go_at_call 22; with_reducible refine (size_any _ _ (by assumption)).mono ?_; rintro e w' ⟨rfl, rfl⟩)
      go_ret2
      exact ⟨rfl, rfl⟩

theorem back_fits (a b : Int) (ha : fits a) : fits (b * a.tdiv b) := by
  have h := Int.mul_tdiv_add_tmod a b
  have h1 : (a.tmod b).natAbs = a.natAbs % b.natAbs := Int.natAbs_tmod a b
  have h2 : a.natAbs % b.natAbs ≤ a.natAbs := Nat.mod_le _ _
  have hs : (0 ≤ a → 0 ≤ a.tmod b) ∧ (a ≤ 0 → a.tmod b ≤ 0) := by
    refine ⟨fun h => Int.tmod_nonneg b h, fun h => ?_⟩
    have h4 : (-a).tmod b = -(a.tmod b) := Int.neg_tmod a b
    have h5 := Int.tmod_nonneg b (show 0 ≤ -a by omega)
    omega
  unfold fits at *
  omega

theorem rrem_no (a b : Int) (w : World) (h : b = 0 ∨ (a = -9223372036854775808 ∧ b = -1)) :
    Calls Try.prog 17 #[.int .i64 a, .int .i64 b] w fun e w' => e = .returned (.tuple #[.int .i64 0, .bool false]) ∧ w = w' := by
  go_enter Try.func17, Try.ntmps17
  go_wp2_with (go_at_call 15; with_reducible refine (rquo_no _ _ _ h).mono ?_; rintro e w' ⟨rfl, rfl⟩)
  go_ret2
  exact ⟨rfl, rfl⟩

theorem rfloor_no (a b : Int) (w : World) (h : b = 0 ∨ (a = -9223372036854775808 ∧ b = -1)) :
    Calls Try.prog 19 #[.int .i64 a, .int .i64 b] w fun e w' => e = .returned (.tuple #[.int .i64 0, .bool false]) ∧ w = w' := by
  go_enter Try.func19, Try.ntmps19
  go_wp2_with (go_at_call 15; with_reducible refine (rquo_no _ _ _ h).mono ?_; rintro e w' ⟨rfl, rfl⟩)
  go_ret2
  exact ⟨rfl, rfl⟩

theorem rceil_no (a b : Int) (w : World) (h : b = 0 ∨ (a = -9223372036854775808 ∧ b = -1)) :
    Calls Try.prog 21 #[.int .i64 a, .int .i64 b] w fun e w' => e = .returned (.tuple #[.int .i64 0, .bool false]) ∧ w = w' := by
  go_enter Try.func21, Try.ntmps21
  go_wp2_with (go_at_call 15; with_reducible refine (rquo_no _ _ _ h).mono ?_; rintro e w' ⟨rfl, rfl⟩)
  go_ret2
  exact ⟨rfl, rfl⟩

theorem rrem_yes (a b : Int) (w : World) (ha : fits a) (hb : fits b) (h0 : b ≠ 0) (h1 : ¬ (a = -9223372036854775808 ∧ b = -1)) :
    Calls Try.prog 17 #[.int .i64 a, .int .i64 b] w fun e w' => e = .returned (.tuple #[.int .i64 (a.tmod b), .bool true]) ∧ w = w' := by
  have hk := back_fits a b ha
  have hm : fits (a - b * a.tdiv b) := by
    have := tmod_fits a b ha
    rw [Int.tmod_def] at this
    exact this
  unfold fits at hk hm
  rw [Int.tmod_def]
  go_enter Try.func17, Try.ntmps17
  go_wp2_with (go_at_call 15; with_reducible refine (rquo_yes _ _ _ ha hb h0 h1).mono ?_; rintro e w' ⟨rfl, rfl⟩)
  go_ret2
  exact ⟨rfl, rfl⟩

theorem back_eq (a b : Int) : (b * a.tdiv b = a) ↔ a.tmod b = 0 := by
  have h := Int.mul_tdiv_add_tmod a b
  constructor <;> intro h2 <;> omega

theorem rfloor_same (a b : Int) (w : World) (ha : fits a) (hb : fits b) (h0 : b ≠ 0) (h1 : ¬ (a = -9223372036854775808 ∧ b = -1)) (hr : a.tmod b = 0) :
    Calls Try.prog 19 #[.int .i64 a, .int .i64 b] w fun e w' => e = .returned (.tuple #[.int .i64 (a.tdiv b), .bool true]) ∧ w = w' := by
  have hk := back_fits a b ha
  have he : (b * a.tdiv b != a) = false := by simpa using (back_eq a b).2 hr
  unfold fits at hk
  clear hr
  go_enter Try.func19, Try.ntmps19
  go_wp2_with (go_at_call 15; with_reducible refine (rquo_yes _ _ _ ha hb h0 h1).mono ?_; rintro e w' ⟨rfl, rfl⟩)
  go_ret2
  exact ⟨rfl, rfl⟩

theorem rceil_same (a b : Int) (w : World) (ha : fits a) (hb : fits b) (h0 : b ≠ 0) (h1 : ¬ (a = -9223372036854775808 ∧ b = -1)) (hr : a.tmod b = 0) :
    Calls Try.prog 21 #[.int .i64 a, .int .i64 b] w fun e w' => e = .returned (.tuple #[.int .i64 (a.tdiv b), .bool true]) ∧ w = w' := by
  have hk := back_fits a b ha
  have he : (b * a.tdiv b != a) = false := by simpa using (back_eq a b).2 hr
  unfold fits at hk
  clear hr
  go_enter Try.func21, Try.ntmps21
  go_wp2_with (go_at_call 15; with_reducible refine (rquo_yes _ _ _ ha hb h0 h1).mono ?_; rintro e w' ⟨rfl, rfl⟩)
  go_ret2
  exact ⟨rfl, rfl⟩

theorem rfloor_rest (a b : Int) (w : World) (ha : fits a) (hb : fits b) (h0 : b ≠ 0) (h1 : ¬ (a = -9223372036854775808 ∧ b = -1)) (hr : a.tmod b ≠ 0) :
    Calls Try.prog 19 #[.int .i64 a, .int .i64 b] w fun e w' => e = .returned (.tuple #[.int .i64 (lo a b), .bool true]) ∧ w = w' := by
  have hk := back_fits a b ha
  have hf := half a b ha h0 hr
  have he : (b * a.tdiv b != a) = true := by simpa using fun h => hr ((back_eq a b).1 h)
  unfold fits at hk
  clear hr
  by_cases p : a < 0 <;> by_cases q : b < 0
  · rw [show lo a b = a.tdiv b by simp [lo, p, q]]
    have pd : decide (a < 0) = true := by simpa using p
    have qd : decide (b < 0) = true := by simpa using q
    go_enter Try.func19, Try.ntmps19
    go_wp2_with (go_at_call 15; with_reducible refine (rquo_yes _ _ _ ha hb h0 h1).mono ?_; rintro e w' ⟨rfl, rfl⟩)
    go_ret2
    exact ⟨rfl, rfl⟩
  · rw [show lo a b = a.tdiv b - 1 by simp [lo, p, q]]
    have pd : decide (a < 0) = true := by simpa using p
    have qd : decide (b < 0) = false := by simpa using q
    go_enter Try.func19, Try.ntmps19
    go_wp2_with (go_at_call 15; with_reducible refine (rquo_yes _ _ _ ha hb h0 h1).mono ?_; rintro e w' ⟨rfl, rfl⟩)
    go_ret2
    exact ⟨rfl, rfl⟩
  · rw [show lo a b = a.tdiv b - 1 by simp [lo, p, q]]
    have pd : decide (a < 0) = false := by simpa using p
    have qd : decide (b < 0) = true := by simpa using q
    go_enter Try.func19, Try.ntmps19
    go_wp2_with (go_at_call 15; with_reducible refine (rquo_yes _ _ _ ha hb h0 h1).mono ?_; rintro e w' ⟨rfl, rfl⟩)
    go_ret2
    exact ⟨rfl, rfl⟩
  · rw [show lo a b = a.tdiv b by simp [lo, p, q]]
    have pd : decide (a < 0) = false := by simpa using p
    have qd : decide (b < 0) = false := by simpa using q
    go_enter Try.func19, Try.ntmps19
    go_wp2_with (go_at_call 15; with_reducible refine (rquo_yes _ _ _ ha hb h0 h1).mono ?_; rintro e w' ⟨rfl, rfl⟩)
    go_ret2
    exact ⟨rfl, rfl⟩

theorem rceil_rest (a b : Int) (w : World) (ha : fits a) (hb : fits b) (h0 : b ≠ 0) (h1 : ¬ (a = -9223372036854775808 ∧ b = -1)) (hr : a.tmod b ≠ 0) :
    Calls Try.prog 21 #[.int .i64 a, .int .i64 b] w fun e w' => e = .returned (.tuple #[.int .i64 (hi a b), .bool true]) ∧ w = w' := by
  have hk := back_fits a b ha
  have hf := half a b ha h0 hr
  have he : (b * a.tdiv b != a) = true := by simpa using fun h => hr ((back_eq a b).1 h)
  unfold fits at hk
  clear hr
  by_cases p : a < 0 <;> by_cases q : b < 0
  · rw [show hi a b = a.tdiv b + 1 by simp [hi, p, q]]
    have pd : decide (a < 0) = true := by simpa using p
    have qd : decide (b < 0) = true := by simpa using q
    go_enter Try.func21, Try.ntmps21
    go_wp2_with (go_at_call 15; with_reducible refine (rquo_yes _ _ _ ha hb h0 h1).mono ?_; rintro e w' ⟨rfl, rfl⟩)
    go_ret2
    exact ⟨rfl, rfl⟩
  · rw [show hi a b = a.tdiv b by simp [hi, p, q]]
    have pd : decide (a < 0) = true := by simpa using p
    have qd : decide (b < 0) = false := by simpa using q
    go_enter Try.func21, Try.ntmps21
    go_wp2_with (go_at_call 15; with_reducible refine (rquo_yes _ _ _ ha hb h0 h1).mono ?_; rintro e w' ⟨rfl, rfl⟩)
    go_ret2
    exact ⟨rfl, rfl⟩
  · rw [show hi a b = a.tdiv b by simp [hi, p, q]]
    have pd : decide (a < 0) = false := by simpa using p
    have qd : decide (b < 0) = true := by simpa using q
    go_enter Try.func21, Try.ntmps21
    go_wp2_with (go_at_call 15; with_reducible refine (rquo_yes _ _ _ ha hb h0 h1).mono ?_; rintro e w' ⟨rfl, rfl⟩)
    go_ret2
    exact ⟨rfl, rfl⟩
  · rw [show hi a b = a.tdiv b + 1 by simp [hi, p, q]]
    have pd : decide (a < 0) = false := by simpa using p
    have qd : decide (b < 0) = false := by simpa using q
    go_enter Try.func21, Try.ntmps21
    go_wp2_with (go_at_call 15; with_reducible refine (rquo_yes _ _ _ ha hb h0 h1).mono ?_; rintro e w' ⟨rfl, rfl⟩)
    go_ret2
    exact ⟨rfl, rfl⟩

end Go.Proofs.Ytmadggpoiklpfaa
