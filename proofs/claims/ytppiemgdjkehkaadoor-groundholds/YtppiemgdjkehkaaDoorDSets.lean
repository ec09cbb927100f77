/- Plain mathematics: a row of words as a rising list of numbers. No program. -/
import Derived.Test.YtppiemgdjkehkaaDoorDMath
namespace Go.Proofs.YtppiemgdjkehkaaDoor

/-- The places of a word's bits, rising. -/
def bitsUp (x : Nat) : List Nat := (List.range 64).filter fun j => x.testBit j

theorem len_filter : ∀ n x, ((List.range n).filter fun j => x.testBit j).length = fsum 1 n x
  | 0, _ => rfl
  | n + 1, x => by
    rw [List.range_succ_eq_map, List.filter_cons, List.filter_map]
    have ih := len_filter n (x / 2)
    have e : ((fun j => x.testBit j) ∘ Nat.succ) = fun j => (x / 2).testBit j := by
      funext j; simp [Nat.testBit_succ]
    rw [e]
    simp only [fsum]
    rw [show (2 : Nat) ^ 1 = 2 from rfl]
    rcases Nat.mod_two_eq_zero_or_one x with h | h
    · have hb : x.testBit 0 = false := by simp [Nat.testBit_zero, h]
      simp only [hb]
      simp
      omega
    · have hb : x.testBit 0 = true := by simp [Nat.testBit_zero, h]
      simp only [hb]
      simp
      omega

theorem len_bitsUp (x : Nat) : (bitsUp x).length = ones x := len_filter 64 x

theorem mem_bitsUp (x j : Nat) : j ∈ bitsUp x ↔ j < 64 ∧ x.testBit j = true := by simp [bitsUp]

theorem sorted_bitsUp (x : Nat) : (bitsUp x).Pairwise (· < ·) := List.Pairwise.filter _ List.pairwise_lt_range

/-- Two lists that rise strictly and have the same numbers are the same. -/
theorem eq_of_rising : ∀ (l m : List Int), l.Pairwise (· < ·) → m.Pairwise (· < ·) → (∀ v, v ∈ l ↔ v ∈ m) → l = m
  | [], [], _, _, _ => rfl
  | [], b :: m, _, _, h => absurd ((h b).2 (List.mem_cons_self)) (by simp)
  | a :: l, [], _, _, h => absurd ((h a).1 (List.mem_cons_self)) (by simp)
  | a :: l, b :: m, hl, hm, h => by
    have hl' := List.pairwise_cons.1 hl
    have hm' := List.pairwise_cons.1 hm
    have e : a = b := by
      rcases List.mem_cons.1 ((h a).1 List.mem_cons_self) with h1 | h1
      · exact h1
      · rcases List.mem_cons.1 ((h b).2 List.mem_cons_self) with h2 | h2
        · exact h2.symm
        · have := hl'.1 b h2; have := hm'.1 a h1; omega
    subst e
    rw [eq_of_rising l m hl'.2 hm'.2 fun v => ⟨fun hv => ?_, fun hv => ?_⟩]
    · rcases List.mem_cons.1 ((h v).1 (List.mem_cons_of_mem _ hv)) with h1 | h1
      · have := hl'.1 v hv; omega
      · exact h1
    · rcases List.mem_cons.1 ((h v).2 (List.mem_cons_of_mem _ hv)) with h1 | h1
      · have := hm'.1 v hv; omega
      · exact h1

/-- The numbers of a row of words whose first one is at a place. -/
def listOf (s : Int) : List Nat → List Int
  | [] => []
  | x :: r => (bitsUp x).map (fun j : Nat => s * 64 + (j : Int)) ++ listOf (s + 1) r

/-- Is a number's bit set? -/
def hasB (s : Int) (ws : List Nat) (v : Int) : Bool := decide (s ≤ v / 64) && (ws.getD (v / 64 - s).toNat 0).testBit (v % 64).toNat

theorem mem_listOf : ∀ (ws : List Nat) (s v : Int), v ∈ listOf s ws ↔ hasB s ws v = true
  | [], s, v => by simp [listOf, hasB]
  | x :: r, s, v => by
    rw [listOf, List.mem_append, mem_listOf r (s + 1) v, List.mem_map]
    unfold hasB
    constructor
    · rintro (⟨j, hj, rfl⟩ | h)
      · obtain ⟨h1, h2⟩ := (mem_bitsUp x j).1 hj
        have e1 : (s * 64 + (j : Int)) / 64 = s := by omega
        have e2 : ((s * 64 + (j : Int)) % 64).toNat = j := by omega
        rw [e1, e2]
        simp [h2]
      · simp only [Bool.and_eq_true, decide_eq_true_eq] at h ⊢
        refine ⟨by omega, ?_⟩
        rw [show (v / 64 - s).toNat = (v / 64 - (s + 1)).toNat + 1 by omega, List.getD_cons_succ]
        exact h.2
    · intro h
      simp only [Bool.and_eq_true, decide_eq_true_eq] at h
      by_cases he : v / 64 = s
      · left
        rw [he, Int.sub_self] at h
        refine ⟨(v % 64).toNat, (mem_bitsUp _ _).2 ⟨by omega, by simpa using h.2⟩, by omega⟩
      · right
        simp only [Bool.and_eq_true, decide_eq_true_eq]
        refine ⟨by omega, ?_⟩
        have h2 := h.2
        rw [show (v / 64 - s).toNat = (v / 64 - (s + 1)).toNat + 1 by omega, List.getD_cons_succ] at h2
        exact h2

theorem ge_listOf (ws : List Nat) (s v : Int) (h : v ∈ listOf s ws) : s * 64 ≤ v := by
  have := (mem_listOf ws s v).1 h
  simp only [hasB, Bool.and_eq_true, decide_eq_true_eq] at this
  omega

theorem rising_listOf : ∀ (ws : List Nat) (s : Int), (listOf s ws).Pairwise (· < ·)
  | [], _ => List.Pairwise.nil
  | x :: r, s => by
    rw [listOf, List.pairwise_append]
    refine ⟨?_, rising_listOf r (s + 1), ?_⟩
    · rw [List.pairwise_map]
      exact (sorted_bitsUp x).imp (by intro a b h; omega)
    · intro a ha b hb
      obtain ⟨j, hj, rfl⟩ := List.mem_map.1 ha
      have := ge_listOf r (s + 1) b hb
      have := ((mem_bitsUp x j).1 hj).1
      omega

theorem listOf_append : ∀ (a b : List Nat) (s : Int), listOf s (a ++ b) = listOf s a ++ listOf (s + a.length) b
  | [], b, s => by simp [listOf]
  | x :: r, b, s => by
    rw [List.cons_append, listOf, listOf, listOf_append r b (s + 1), List.append_assoc]
    congr 3
    simp; omega

theorem len_listOf_cons (s : Int) (x : Nat) (r : List Nat) : (listOf s (x :: r)).length = ones x + (listOf (s + 1) r).length := by
  rw [listOf, List.length_append, List.length_map, len_bitsUp]

theorem ones_le (x : Nat) : ones x ≤ 64 := by
  rw [← len_bitsUp]
  exact Nat.le_trans (List.length_filter_le _ _) (by simp)

theorem ones_pos (x : Nat) (h : x ≠ 0) (hx : x < 18446744073709551616) : 0 < ones x := by
  rw [← len_bitsUp]
  apply List.length_pos_iff.2
  intro e
  apply h
  apply Nat.eq_of_testBit_eq
  intro j
  rw [Nat.zero_testBit]
  by_cases hj : j < 64
  · cases hb : x.testBit j with
    | false => rfl
    | true =>
      have := (mem_bitsUp x j).2 ⟨hj, hb⟩
      rw [e] at this
      simp at this
  · apply Nat.testBit_lt_two_pow
    exact Nat.lt_of_lt_of_le hx (by
      have : (2 : Nat) ^ 64 ≤ 2 ^ j := Nat.pow_le_pow_right (by decide) (by omega)
      exact this)

/-! ### The lowest and the highest bit -/

/-- The lowest bit's place. -/
theorem ctz_spec (x : Nat) (h : x ≠ 0) (hx : x < 18446744073709551616) :
    ∃ m, x = 2 ^ Lib.ctz 64 x * (2 * m + 1) ∧ Lib.ctz 64 x < 64 := by
  unfold Lib.ctz
  rw [if_neg h]
  exact Lib.ctzFrom_spec 64 x (by omega) hx

theorem odd_bit (k m j : Nat) : (2 ^ k * (2 * m + 1)).testBit j = (decide (j = k) || (2 ^ k * (2 * m)).testBit j) := by
  rw [Nat.mul_comm (2 ^ k), Nat.mul_comm (2 ^ k), Nat.testBit_mul_two_pow, Nat.testBit_mul_two_pow]
  by_cases h : k ≤ j
  · by_cases e : j = k
    · subst e; simp [Nat.testBit_zero]
    · obtain ⟨i, rfl⟩ : ∃ i, j = k + (i + 1) := ⟨j - k - 1, by omega⟩
      rw [show k + (i + 1) - k = i + 1 by omega, Nat.testBit_succ, Nat.testBit_succ]
      rw [show (2 * m + 1) / 2 = m by omega, show 2 * m / 2 = m by omega]
      simp
  · simp [h]; omega

theorem even_low (k m j : Nat) (h : j ≤ k) : (2 ^ k * (2 * m)).testBit j = false := by
  rw [Nat.mul_comm (2 ^ k), Nat.testBit_mul_two_pow]
  by_cases e : j = k
  · subst e; simp [Nat.testBit_zero]
  · have : ¬ k ≤ j := by omega
    simp [this]

/-- A word without its lowest bit. -/
theorem and_pred (x : Nat) (h : x ≠ 0) (hx : x < 18446744073709551616) :
    ∃ y, x &&& (x - 1) = y ∧ y < x ∧ bitsUp x = Lib.ctz 64 x :: bitsUp y := by
  obtain ⟨m, hm, hk⟩ := ctz_spec x h hx
  refine ⟨_, rfl, ?_⟩
  generalize Lib.ctz 64 x = k at *
  have hp : 0 < 2 ^ k := Nat.pow_pos (by decide)
  have hy : x &&& (x - 1) = 2 ^ k * (2 * m) := by
    have e1 : x - 1 = 2 ^ k * (2 * m) + (2 ^ k - 1) := by rw [hm, Nat.mul_add, Nat.mul_one]; omega
    apply Nat.eq_of_testBit_eq
    intro j
    rw [Nat.testBit_and, e1, hm, odd_bit]
    by_cases hj : j < k
    · have a1 := even_low k m j (by omega)
      have a2 : ¬ j = k := by omega
      simp [a1, a2]
    · rw [Nat.testBit_two_pow_mul_add _ (by omega)]
      have : ¬ j < k := hj
      simp only [this, if_false]
      rw [Nat.mul_comm (2 ^ k), Nat.testBit_mul_two_pow]
      have hkj : k ≤ j := by omega
      simp only [hkj, decide_true, Bool.true_and]
      by_cases e : j = k
      · subst e; simp [Nat.testBit_zero]
      · simp [e]
  rw [hy]
  refine ⟨by rw [hm, Nat.mul_add]; omega, ?_⟩
  have hs1 := sorted_bitsUp x
  have key : ∀ l m' : List Nat, l.Pairwise (· < ·) → m'.Pairwise (· < ·) → (∀ v, v ∈ l ↔ v ∈ m') → l = m' := by
    intro l m' hl hm' hv
    have := eq_of_rising (l.map fun j : Nat => (j : Int)) (m'.map fun j : Nat => (j : Int)) (by rw [List.pairwise_map]; exact hl.imp (by intro a b h; omega)) (by rw [List.pairwise_map]; exact hm'.imp (by intro a b h; omega))
      (by intro v; simp only [List.mem_map, hv])
    exact List.map_inj_right (by intro a b h; omega) |>.1 this
  apply key _ _ hs1
  · rw [List.pairwise_cons]
    refine ⟨fun j hj => ?_, sorted_bitsUp _⟩
    have := ((mem_bitsUp _ j).1 hj).2
    apply Nat.lt_of_not_le
    intro hle
    rw [even_low k m j hle] at this
    cases this
  · intro j
    rw [List.mem_cons, mem_bitsUp, mem_bitsUp, hm, odd_bit]
    simp only [Bool.or_eq_true, decide_eq_true_eq]
    constructor
    · rintro ⟨h1, h2 | h2⟩
      · exact .inl h2
      · exact .inr ⟨h1, h2⟩
    · rintro (h1 | ⟨h1, h2⟩)
      · exact ⟨by omega, .inl h1⟩
      · exact ⟨h1, .inr h2⟩
end Go.Proofs.YtppiemgdjkehkaaDoor
