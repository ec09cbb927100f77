/- Facts and contract of Range: all numbers between two, or its error. -/
import Derived.Test.YtegiaonlneamfaaDoorOf
namespace Go.Proofs.YtegiaonlneamfaaDoor
open Go.RowKit

/-- The numbers from low to high. -/
def rangeL (lo hi : Int) : List Int := (List.range (hi - lo + 1).toNat).map fun j : Nat => lo + (j : Int)
/-- The error of Range. -/
def rangeErr (lo hi : Int) : Int := if mayB lo = true ∧ mayB hi = true then (if hi < lo then 4 else if 65536 ≤ hi - lo then 5 else 0) else 3

theorem mem_rangeL (lo hi v : Int) : v ∈ rangeL lo hi ↔ lo ≤ v ∧ v ≤ hi := by
  unfold rangeL
  rw [List.mem_map]
  constructor
  · rintro ⟨j, hj, rfl⟩
    have := List.mem_range.1 hj
    omega
  · intro h
    exact ⟨(v - lo).toNat, List.mem_range.2 (by omega), by omega⟩

theorem rising_rangeL (lo hi : Int) : (rangeL lo hi).Pairwise (· < ·) := by
  unfold rangeL
  rw [List.pairwise_map]
  exact List.pairwise_lt_range.imp (by intro a b h; omega)

theorem len_rangeL (lo hi : Int) : (rangeL lo hi).length = (hi - lo + 1).toNat := by simp [rangeL]

/-- The words of a range. -/
def fullTo (m k : Nat) : List Nat := List.replicate k 18446744073709551615 ++ List.replicate (m - k) 0

theorem fullTo_set (m k : Nat) (hk : k < m) : (U (fullTo m k)).set k (.int .u64 18446744073709551615) = U (fullTo m (k + 1)) := by
  have : (fullTo m k).set k 18446744073709551615 = fullTo m (k + 1) := by
    unfold fullTo
    rw [show m - k = (m - (k + 1)) + 1 by omega, List.replicate_succ, List.set_append]
    simp [List.replicate_succ']
  rw [← this]
  unfold U
  rw [List.map_set]
  rfl

theorem full_all (m : Nat) : fullTo m m = List.replicate m 18446744073709551615 := by simp [fullTo]

def rangeWs (lo hi : Int) (m : Nat) : List Nat :=
  ((List.replicate m 18446744073709551615).set 0 (18446744073709551615 &&& upN lo)).set (m - 1) (((List.replicate m 18446744073709551615).set 0 (18446744073709551615 &&& upN lo)).getD (m - 1) 0 &&& downN hi)

theorem ones_bit (j : Nat) : (18446744073709551615 : Nat).testBit j = decide (j < 64) := by
  rw [show (18446744073709551615 : Nat) = 2 ^ 64 - 1 from rfl, Nat.testBit_two_pow_sub_one]

theorem getD_rep (m j : Nat) : (List.replicate m 18446744073709551615).getD j 0 = if j < m then 18446744073709551615 else 0 := by
  rw [List.getD_eq_getElem?_getD, List.getElem?_replicate]
  split <;> rfl

theorem range_get (lo hi : Int) (m : Nat) (hm : 0 < m) (j : Nat) : (rangeWs lo hi m).getD j 0 =
    if j < m then (if j = m - 1 then (if j = 0 then 18446744073709551615 &&& upN lo else 18446744073709551615) &&& downN hi else (if j = 0 then 18446744073709551615 &&& upN lo else 18446744073709551615)) else 0 := by
  unfold rangeWs
  rw [getD_set _ _ _ _ (by simp; omega), getD_set _ _ _ _ (by simp; omega), getD_set _ _ _ _ (by simp; omega), getD_rep, getD_rep]
  (repeat' split) <;> first | rfl | (exfalso; omega)

theorem range_form (lo hi : Int) (m : Nat) (hle : lo ≤ hi) (h1 : -1000000 ≤ lo) (h2 : hi ≤ 1000000) (hm : (m : Int) = hi / 64 - lo / 64 + 1) :
    (rangeWs lo hi m).length = m ∧ Form (lo / 64) (rangeWs lo hi m) ∧ listOf (lo / 64) (rangeWs lo hi m) = rangeL lo hi := by
  have hm0 : 0 < m := by omega
  have hlen : (rangeWs lo hi m).length = m := by simp [rangeWs]
  have hlt : ∀ j, (rangeWs lo hi m).getD j 0 < 18446744073709551616 := by
    intro j
    rw [range_get lo hi m hm0]
    split
    · split <;> split
      · exact and_lt _ _ (and_lt _ _ (by decide))
      · exact and_lt _ _ (by decide)
      · exact and_lt _ _ (by decide)
      · decide
    · decide
  have hhas : ∀ v, hasB (lo / 64) (rangeWs lo hi m) v = true ↔ lo ≤ v ∧ v ≤ hi := by
    intro v
    unfold hasB
    rw [range_get lo hi m hm0]
    by_cases hs : lo / 64 ≤ v / 64
    · by_cases hj : (v / 64 - lo / 64).toNat < m
      · rw [if_pos hj]
        have hb : (v % 64).toNat < 64 := by omega
        by_cases ha : (v / 64 - lo / 64).toNat = m - 1 <;> by_cases hz : (v / 64 - lo / 64).toNat = 0
        · rw [if_pos ha, if_pos hz, Nat.testBit_and, Nat.testBit_and, ones_bit, upN_bit, downN_bit]
          simp only [hs, hb, decide_true, Bool.true_and, Bool.and_eq_true, decide_eq_true_eq]
          omega
        · rw [if_pos ha, if_neg hz, Nat.testBit_and, ones_bit, downN_bit]
          simp only [hs, hb, decide_true, Bool.true_and, decide_eq_true_eq]
          omega
        · rw [if_neg ha, if_pos hz, Nat.testBit_and, ones_bit, upN_bit]
          simp only [hs, hb, decide_true, Bool.true_and, decide_eq_true_eq]
          omega
        · rw [if_neg ha, if_neg hz, ones_bit]
          simp only [hs, hb, decide_true, Bool.true_and, true_iff]
          omega
      · rw [if_neg hj]
        simp
        omega
    · simp only [hs, decide_false, Bool.false_and]
      constructor
      · intro q; cases q
      · intro q; omega
  refine ⟨hlen, ⟨hlt, fun _ e => ?_, fun _ e => ?_, fun e => by omega, by omega, by omega⟩, ?_⟩
  · have := (hhas lo).2 ⟨by omega, hle⟩
    unfold hasB at this
    rw [show (lo / 64 - lo / 64).toNat = 0 by omega, e] at this
    simp at this
  · have := (hhas hi).2 ⟨hle, by omega⟩
    unfold hasB at this
    rw [show (hi / 64 - lo / 64).toNat = (rangeWs lo hi m).length - 1 by omega, e] at this
    simp at this
  · apply eq_of_rising _ _ (rising_listOf _ _) (rising_rangeL _ _)
    intro v
    rw [mem_listOf, hhas, mem_rangeL]
end Go.Proofs.YtegiaonlneamfaaDoor
