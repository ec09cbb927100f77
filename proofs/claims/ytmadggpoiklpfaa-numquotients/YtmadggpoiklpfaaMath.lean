/- Plain facts on numbers of 64 bits: when a wrapped sum, difference, product shows that it was wrapped. No condition but that the numbers are within 64 bits. -/
import Derived.WalkKit
import Derived.ProofKit
namespace Go.Proofs.Ytmadggpoiklpfaa
open Go.RowKit (wrap64 wrap32)

def fits (x : Int) : Prop := -9223372036854775808 ≤ x ∧ x ≤ 9223372036854775807

instance (x : Int) : Decidable (fits x) := inferInstanceAs (Decidable (_ ∧ _))

theorem fits_wrap (x : Int) : fits (wrap64 x) := by unfold fits wrap64; omega

theorem wrap_toInt (v : BitVec 64) : IntKind.i64.wrap (v.toNat : Int) = v.toInt := by
  rw [IntKind.wrap_i64, BitVec.toInt_eq_toNat_cond]
  have := v.isLt
  split <;> omega

theorem msb_ofInt (x : Int) (h : fits x) : (BitVec.ofInt 64 x).msb = decide (x < 0) := by
  rw [BitVec.msb_eq_toInt, BitVec.toInt_ofInt]
  unfold fits at h
  congr 1
  have : x.bmod (2 ^ 64) = x := by
    rw [Int.bmod_def]; split <;> omega
  rw [this]

theorem xor_neg (x y : Int) (hx : fits x) (hy : fits y) : (bits .xor .i64 x y < 0) = ((x < 0) ≠ (y < 0)) := by
  have e : bits .xor .i64 x y = (BitVec.ofInt 64 x ^^^ BitVec.ofInt 64 y).toInt := wrap_toInt _
  have m : (BitVec.ofInt 64 x ^^^ BitVec.ofInt 64 y).msb = decide ((BitVec.ofInt 64 x ^^^ BitVec.ofInt 64 y).toInt < 0) := BitVec.msb_eq_toInt
  rw [BitVec.msb_xor, msb_ofInt x hx, msb_ofInt y hy] at m
  rw [e]
  by_cases h1 : x < 0 <;> by_cases h2 : y < 0 <;> simp [h1, h2] at m ⊢ <;> omega

theorem and_neg (x y : Int) (hx : fits x) (hy : fits y) : (bits .and .i64 x y < 0) = ((x < 0) ∧ (y < 0)) := by
  have e : bits .and .i64 x y = (BitVec.ofInt 64 x &&& BitVec.ofInt 64 y).toInt := wrap_toInt _
  have m : (BitVec.ofInt 64 x &&& BitVec.ofInt 64 y).msb = decide ((BitVec.ofInt 64 x &&& BitVec.ofInt 64 y).toInt < 0) := BitVec.msb_eq_toInt
  rw [BitVec.msb_and, msb_ofInt x hx, msb_ofInt y hy] at m
  rw [e]
  by_cases h1 : x < 0 <;> by_cases h2 : y < 0 <;> simp [h1, h2] at m ⊢ <;> omega

theorem fits_bits (v : BitVec 64) : fits v.toInt := by
  have h1 := BitVec.toInt_lt (x := v)
  have h2 := BitVec.le_toInt v
  unfold fits
  omega

theorem fits_xor (x y : Int) : fits (bits .xor .i64 x y) := by
  have e : bits .xor .i64 x y = (BitVec.ofInt 64 x ^^^ BitVec.ofInt 64 y).toInt := wrap_toInt _
  rw [e]; exact fits_bits _

/-- The sum's test: both numbers have the sign that the wrapped sum hasn't. -/
theorem add_test (a b : Int) (ha : fits a) (hb : fits b) :
    (bits .and .i64 (bits .xor .i64 a (wrap64 (a + b))) (bits .xor .i64 b (wrap64 (a + b))) < 0) = ¬ fits (a + b) := by
  rw [and_neg _ _ (fits_xor _ _) (fits_xor _ _), xor_neg _ _ ha (fits_wrap _), xor_neg _ _ hb (fits_wrap _)]
  unfold fits at *
  unfold wrap64
  by_cases h1 : a < 0 <;> by_cases h2 : b < 0 <;> simp [h1, h2] <;> omega

/-- The difference's test. -/
theorem sub_test (a b : Int) (ha : fits a) (hb : fits b) :
    (bits .and .i64 (bits .xor .i64 a b) (bits .xor .i64 a (wrap64 (a - b))) < 0) = ¬ fits (a - b) := by
  rw [and_neg _ _ (fits_xor _ _) (fits_xor _ _), xor_neg _ _ ha hb, xor_neg _ _ ha (fits_wrap _)]
  unfold fits at *
  unfold wrap64
  by_cases h1 : a < 0 <;> by_cases h2 : b < 0 <;> simp [h1, h2] <;> omega

theorem tdiv_abs (p b : Int) : (p.tdiv b).natAbs = p.natAbs / b.natAbs := by
  rw [Int.natAbs_tdiv]; rfl

theorem natAbs_fits (x : Int) (h : fits x) : x.natAbs ≤ 9223372036854775808 := by unfold fits at h; omega

/-- A quotient of 64 bits is within them, but the least int by -1. -/
theorem tdiv_fits (p b : Int) (hp : fits p) (h : ¬ (p = -9223372036854775808 ∧ b = -1)) : fits (p.tdiv b) := by
  have h1 := tdiv_abs p b
  have h2 : p.natAbs / b.natAbs ≤ p.natAbs := Nat.div_le_self _ _
  have h3 := natAbs_fits p hp
  by_cases hm : p.tdiv b = 9223372036854775808
  · exfalso
    apply h
    have hb0 : b ≠ 0 := by intro e; subst e; simp at hm
    have h4 : p.natAbs / b.natAbs = 9223372036854775808 := by omega
    have h5 : b.natAbs = 1 := by
      apply Nat.le_antisymm
      · apply Nat.le_of_lt_succ
        apply Nat.lt_of_not_le
        intro h6
        have : p.natAbs / b.natAbs ≤ p.natAbs / 2 := Nat.div_le_div_left h6 (by decide)
        omega
      · omega
    have h6 : b = 1 ∨ b = -1 := by omega
    rcases h6 with rfl | rfl
    · simp at hm; unfold fits at hp; omega
    · rw [Int.tdiv_neg, Int.tdiv_one] at hm
      exact ⟨by omega, rfl⟩
  · unfold fits; omega

theorem tmod_fits (p b : Int) (hp : fits p) : fits (p.tmod b) := by
  have h1 : (p.tmod b).natAbs = p.natAbs % b.natAbs := Int.natAbs_tmod p b
  have h2 : p.natAbs % b.natAbs ≤ p.natAbs := Nat.mod_le _ _
  by_cases hn : p < 0
  · have h3 : p.tmod b ≤ 0 := by
      have h4 : (-p).tmod b = -(p.tmod b) := Int.neg_tmod p b
      have h5 := Int.tmod_nonneg b (show 0 ≤ -p by omega)
      omega
    unfold fits at *; omega
  · have h5 := Int.tmod_nonneg b (show 0 ≤ p by omega)
    unfold fits at *; omega

theorem tmod_abs_lt (p b : Int) (hb : b ≠ 0) : (p.tmod b).natAbs < b.natAbs := by
  rw [Int.natAbs_tmod]; exact Nat.mod_lt _ (by omega)

/-- The product's test: a wrapped product divided again is the other number just if it wasn't wrapped. -/
theorem mul_test (a b : Int) (hb : fits b) (h0 : b ≠ 0) : (wrap64 (a * b)).tdiv b = a ↔ fits (a * b) := by
  constructor
  · intro h
    have h1 := Int.mul_tdiv_add_tmod (wrap64 (a * b)) b
    rw [h] at h1
    have h2 := tmod_abs_lt (wrap64 (a * b)) b h0
    have h3 := natAbs_fits b hb
    have h4 := fits_wrap (a * b)
    rw [Int.mul_comm b a] at h1
    generalize (wrap64 (a * b)).tmod b = r at *
    have h5 : ∃ k : Int, wrap64 (a * b) = a * b + 18446744073709551616 * k := by
      unfold wrap64
      refine ⟨- ((a * b + 9223372036854775808) / 18446744073709551616), ?_⟩
      omega
    obtain ⟨k, hk⟩ := h5
    have : r = 18446744073709551616 * k := by omega
    have : k = 0 := by omega
    subst this
    rw [hk] at h4
    simpa using h4
  · intro h
    rw [IntWalk.wrap64_in _ h]
    exact Int.mul_tdiv_cancel a h0

theorem wrap_mul_ne (a b : Int) (hb : fits b) (h0 : b ≠ 0) (h1 : b ≠ -1) : (wrap64 ((wrap64 (a * b)).tdiv b) = a) ↔ fits (a * b) := by
  have h2 := tdiv_fits (wrap64 (a * b)) b (fits_wrap _) (by omega)
  rw [IntWalk.wrap64_in _ h2]
  exact mul_test a b hb h0

end Go.Proofs.Ytmadggpoiklpfaa
