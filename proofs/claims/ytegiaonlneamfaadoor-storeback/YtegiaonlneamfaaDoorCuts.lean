/- Contracts of the ways in which a domain is made less: Without, Only, AtLeast, AtMost, And, Minus. -/
import Derived.Test.YtegiaonlneamfaaDoorLess
namespace Go.Proofs.YtegiaonlneamfaaDoor
open Go.RowKit

def fWithout (v p : Int) (x : Nat) : Nat := if p = v / 64 then x &&& (18446744073709551615 - bitN v) else x
def fOnly (v p : Int) (x : Nat) : Nat := if p = v / 64 then x &&& bitN v else 0
def fLeast (v p : Int) (x : Nat) : Nat := if p < v / 64 then 0 else if v / 64 < p then x else x &&& upN v
def fMost (v p : Int) (x : Nat) : Nat := if v / 64 < p then 0 else if p < v / 64 then x else x &&& downN v
def fAnd (s : Int) (ws : List Nat) (p : Int) (x : Nat) : Nat := x &&& wordAt s ws p
def fMinus (s : Int) (ws : List Nat) (p : Int) (x : Nat) : Nat := x &&& (18446744073709551615 - wordAt s ws p)

theorem not_bit (b j : Nat) (hb : b < 18446744073709551616) (hj : j < 64) : (18446744073709551615 - b).testBit j = !b.testBit j := by
  have := Nat.testBit_two_pow_sub_succ (n := 64) hb j
  rw [show (2 : Nat) ^ 64 - (b + 1) = 18446744073709551615 - b by omega] at this
  rw [this]
  simp [hj]

theorem and_lt (x y : Nat) (hx : x < 18446744073709551616) : x &&& y < 18446744073709551616 := Nat.lt_of_le_of_lt Nat.and_le_left hx

theorem filters_without (v : Int) : Filters (fWithout v) (fun u => decide (u ≠ v)) := by
  refine ⟨fun pl x hx => ?_, fun pl x j hx hj => ?_⟩
  · unfold fWithout; split
    · exact and_lt _ _ hx
    · exact hx
  · unfold fWithout; split
    · rename_i e
      rw [Nat.testBit_and, not_bit _ _ (bitN_lt v) hj, bitN_bit]
      congr 1
      by_cases h : (v % 64).toNat = j
      · simp [h]; omega
      · simp [h]; omega
    · have : pl * 64 + (j : Int) ≠ v := by omega
      simp [this]

theorem filters_only (v : Int) : Filters (fOnly v) (fun u => decide (u = v)) := by
  refine ⟨fun pl x hx => ?_, fun pl x j hx hj => ?_⟩
  · unfold fOnly; split
    · exact and_lt _ _ hx
    · decide
  · unfold fOnly; split
    · rename_i e
      rw [Nat.testBit_and, bitN_bit]
      congr 1
      by_cases h : (v % 64).toNat = j
      · simp [h]; omega
      · simp [h]; omega
    · have : ¬ pl * 64 + (j : Int) = v := by omega
      simp [this]

theorem filters_least (v : Int) : Filters (fLeast v) (fun u => decide (v ≤ u)) := by
  refine ⟨fun pl x hx => ?_, fun pl x j hx hj => ?_⟩
  · unfold fLeast; split
    · decide
    · split
      · exact hx
      · exact and_lt _ _ hx
  · unfold fLeast; split
    · have : ¬ v ≤ pl * 64 + (j : Int) := by omega
      simp [this]
    · split
      · have : v ≤ pl * 64 + (j : Int) := by omega
        simp [this]
      · rw [Nat.testBit_and, upN_bit]
        congr 1
        simp only [hj, decide_true, Bool.true_and]
        congr 1
        rw [eq_iff_iff]; omega

theorem filters_most (v : Int) : Filters (fMost v) (fun u => decide (u ≤ v)) := by
  refine ⟨fun pl x hx => ?_, fun pl x j hx hj => ?_⟩
  · unfold fMost; split
    · decide
    · split
      · exact hx
      · exact and_lt _ _ hx
  · unfold fMost; split
    · have : ¬ pl * 64 + (j : Int) ≤ v := by omega
      simp [this]
    · split
      · have : pl * 64 + (j : Int) ≤ v := by omega
        simp [this]
      · rw [Nat.testBit_and, downN_bit]
        congr 1
        congr 1
        rw [eq_iff_iff]; omega

theorem filters_and (s : Int) (ws : List Nat) : Filters (fAnd s ws) (fun u => decide (u ∈ listOf s ws)) := by
  refine ⟨fun pl x hx => and_lt _ _ hx, fun pl x j hx hj => ?_⟩
  unfold fAnd
  rw [Nat.testBit_and]
  congr 1
  rw [Bool.eq_iff_iff, word_bit _ j hj]
  simp

theorem filters_minus (s : Int) (ws : List Nat) (hF : Form s ws) : Filters (fMinus s ws) (fun u => decide (u ∉ listOf s ws)) := by
  refine ⟨fun pl x hx => and_lt _ _ hx, fun pl x j hx hj => ?_⟩
  unfold fMinus
  rw [Nat.testBit_and, not_bit _ _ (wordAt_lt hF pl) hj]
  congr 1
  rw [Bool.eq_iff_iff, Bool.not_eq_true', ← Bool.not_eq_true, word_bit _ j hj]
  simp

/-! ### The closures -/
theorem and_cut (s z : Int) (A : Option Addr) (ws : List Nat) (c b : Nat) (w : World) (hF : Form s ws) (hl : Lies w A ws.length (u64f ws)) (h0 : w.cell? ⟨b, 0, none⟩ = some (.int .i64 s)) (h1 : w.cell? ⟨b, 1, none⟩ = some (.slice A ws.length c)) (h2 : w.cell? ⟨b, 2, none⟩ = some (.int .i64 z))
    (p : Int) (x : Nat) (hx : x < 18446744073709551616) (hp : -100000 ≤ p) (hp2 : p ≤ 100000) :
    Calls Tryd.prog 52 #[.int .i64 p, .int .u64 (x : Nat), .pointer (some ⟨b, 0, none⟩)] w fun e w' => e = .returned (.int .u64 (fAnd s ws p x : Nat)) ∧ Below w.heap.size w w' := by
  have e := u64_and_nat x (wordAt s ws p) hx (wordAt_lt hF p)
  have Wd := word_any s p A ws c z w hF hl (by omega) (by omega)
  unfold fAnd
  clear hx hF hl
  go_enter Tryd.func52, Tryd.ntmps52
  go_wp2_with (first | (go_at_call 48; with_reducible refine Wd.mono ?_; rintro e w1 ⟨rfl, hb1⟩))
  go_ret
  exact ⟨rfl, hb1⟩

theorem minus_cut (s z : Int) (A : Option Addr) (ws : List Nat) (c b : Nat) (w : World) (hF : Form s ws) (hl : Lies w A ws.length (u64f ws)) (h0 : w.cell? ⟨b, 0, none⟩ = some (.int .i64 s)) (h1 : w.cell? ⟨b, 1, none⟩ = some (.slice A ws.length c)) (h2 : w.cell? ⟨b, 2, none⟩ = some (.int .i64 z))
    (p : Int) (x : Nat) (hx : x < 18446744073709551616) (hp : -100000 ≤ p) (hp2 : p ≤ 100000) :
    Calls Tryd.prog 47 #[.int .i64 p, .int .u64 (x : Nat), .pointer (some ⟨b, 0, none⟩)] w fun e w' => e = .returned (.int .u64 (fMinus s ws p x : Nat)) ∧ Below w.heap.size w w' := by
  have e := u64_andNot_nat x (wordAt s ws p) hx (wordAt_lt hF p)
  have Wd := word_any s p A ws c z w hF hl (by omega) (by omega)
  unfold fMinus
  clear hx hF hl
  go_enter Tryd.func47, Tryd.ntmps47
  go_wp2_with (first | (go_at_call 48; with_reducible refine Wd.mono ?_; rintro e w1 ⟨rfl, hb1⟩))
  go_ret
  exact ⟨rfl, hb1⟩
end Go.Proofs.YtegiaonlneamfaaDoor
