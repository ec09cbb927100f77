/- Plain mathematics of bit words as sets of numbers: how many bits a word has, its lowest, its highest, the rising list of a row of words. No program, no condition but the words' width. -/
import Derived.Lib.TrailingZeros
import Derived.Lib.BitFns
namespace Go.Proofs.YtkhmocbfkpbpfaaGreatDoor

/-! ### Counting bits, by fields that get wider -/

/-- The sum of the first n fields of w bits. -/
def fsum (w : Nat) : Nat → Nat → Nat
  | 0, _ => 0
  | n + 1, x => x % 2 ^ w + fsum w n (x / 2 ^ w)

/-- Each of the first n fields is at most m. -/
def digs (w m : Nat) : Nat → Nat → Prop
  | 0, _ => True
  | n + 1, x => x % 2 ^ w ≤ m ∧ digs w m n (x / 2 ^ w)

/-- Every second field whole. -/
def mask (w : Nat) : Nat → Nat
  | 0 => 0
  | n + 1 => (2 ^ w - 1) + 2 ^ (2 * w) * mask w n

theorem and_mask (w n z : Nat) : z &&& mask w (n + 1) = z % 2 ^ w + 2 ^ (2 * w) * ((z / 2 ^ (2 * w)) &&& mask w n) := by
  have hp : 2 ^ w ≤ 2 ^ (2 * w) := Nat.pow_le_pow_right (by decide) (by omega)
  have h1 : 0 < 2 ^ w := Nat.pow_pos (by decide)
  have hm : mask w (n + 1) % 2 ^ (2 * w) = 2 ^ w - 1 := by
    show ((2 ^ w - 1) + 2 ^ (2 * w) * mask w n) % 2 ^ (2 * w) = _
    rw [Nat.add_mul_mod_self_left, Nat.mod_eq_of_lt (by omega)]
  have hd : mask w (n + 1) / 2 ^ (2 * w) = mask w n := by
    show ((2 ^ w - 1) + 2 ^ (2 * w) * mask w n) / 2 ^ (2 * w) = _
    rw [Nat.add_mul_div_left _ _ (by omega), Nat.div_eq_of_lt (by omega), Nat.zero_add]
  have e := Nat.mod_add_div (z &&& mask w (n + 1)) (2 ^ (2 * w))
  rw [Nat.and_mod_two_pow, Nat.and_div_two_pow, hm, hd, Nat.and_two_pow_sub_one_eq_mod] at e
  rw [← e]
  congr 1
  rw [Nat.mul_comm 2 w, Nat.pow_mul, Nat.pow_two]
  exact Nat.mod_mul_left_mod _ _ _

/-- Neighbours added: fields of twice the width. -/
def pair (w n x : Nat) : Nat := (x / 2 ^ w &&& mask w n) + (x &&& mask w n)

theorem pair_succ (w n x : Nat) : pair w (n + 1) x = (x / 2 ^ w % 2 ^ w + x % 2 ^ w) + 2 ^ (2 * w) * pair w n (x / 2 ^ (2 * w)) := by
  unfold pair
  rw [and_mask, and_mask, Nat.mul_add, Nat.div_div_eq_div_mul, Nat.div_div_eq_div_mul, Nat.mul_comm (2 ^ w) (2 ^ (2 * w))]
  omega

theorem two_fields (w a b : Nat) (hw : 0 < w) (ha : a < 2 ^ w) (hb : b < 2 ^ w) : a + b < 2 ^ (2 * w) := by
  have h2 : 2 ≤ 2 ^ w := by
    have := Nat.pow_le_pow_right (n := 2) (by decide) hw
    simpa using this
  have e : 2 ^ (2 * w) = 2 ^ w * 2 ^ w := by rw [Nat.mul_comm 2 w, Nat.pow_mul, Nat.pow_two]
  have : 2 * 2 ^ w ≤ 2 ^ w * 2 ^ w := Nat.mul_le_mul_right _ h2
  omega

theorem pair_mod (w n x : Nat) (hw : 0 < w) : pair w (n + 1) x % 2 ^ (2 * w) = x / 2 ^ w % 2 ^ w + x % 2 ^ w := by
  rw [pair_succ, Nat.add_mul_mod_self_left, Nat.mod_eq_of_lt (two_fields w _ _ hw (Nat.mod_lt _ (Nat.pow_pos (by decide))) (Nat.mod_lt _ (Nat.pow_pos (by decide))))]

theorem pair_div (w n x : Nat) (hw : 0 < w) : pair w (n + 1) x / 2 ^ (2 * w) = pair w n (x / 2 ^ (2 * w)) := by
  rw [pair_succ, Nat.add_mul_div_left _ _ (Nat.pow_pos (by decide)), Nat.div_eq_of_lt (two_fields w _ _ hw (Nat.mod_lt _ (Nat.pow_pos (by decide))) (Nat.mod_lt _ (Nat.pow_pos (by decide)))), Nat.zero_add]

theorem fsum_pair (w : Nat) (hw : 0 < w) : ∀ n x, fsum (2 * w) n (pair w n x) = fsum w (2 * n) x
  | 0, _ => rfl
  | n + 1, x => by
    rw [show 2 * (n + 1) = 2 * n + 1 + 1 by omega]
    simp only [fsum]
    rw [pair_mod w n x hw, pair_div w n x hw, fsum_pair w hw n, Nat.div_div_eq_div_mul, ← Nat.pow_add, show w + w = 2 * w by omega]
    omega

theorem digs_pair (w m : Nat) (hw : 0 < w) : ∀ n x, digs w m (2 * n) x → digs (2 * w) (m + m) n (pair w n x)
  | 0, _, _ => trivial
  | n + 1, x, h => by
    rw [show 2 * (n + 1) = 2 * n + 1 + 1 by omega] at h
    simp only [digs] at h ⊢
    rw [pair_mod w n x hw, pair_div w n x hw]
    refine ⟨by omega, digs_pair w m hw n _ ?_⟩
    have := h.2.2
    rwa [Nat.div_div_eq_div_mul, ← Nat.pow_add, show w + w = 2 * w by omega] at this

theorem pair_lt (w : Nat) (hw : 0 < w) : ∀ n x, pair w n x < 2 ^ (2 * w * n)
  | 0, x => by simp [pair, mask]
  | n + 1, x => by
    have h1 := pair_lt w hw n (x / 2 ^ (2 * w))
    have h2 := pair_div w n x hw
    rw [show 2 * w * (n + 1) = 2 * w * n + 2 * w by rw [Nat.mul_add]; omega, Nat.pow_add]
    rw [← h2] at h1
    exact (Nat.div_lt_iff_lt_mul (Nat.pow_pos (by decide))).1 h1

theorem digs_one : ∀ n x, digs 1 1 n x
  | 0, _ => trivial
  | n + 1, x => ⟨by omega, digs_one n _⟩

theorem carry16 (x : Nat) (h0 : x % 16 ≤ 4) (h1 : x / 16 % 16 ≤ 4) (h2 : x / 256 % 16 ≤ 4) : (x / 16 + x) / 256 = x / 256 / 16 + x / 256 := by
  obtain ⟨c, hc⟩ : ∃ c, c = x / 4096 := ⟨_, rfl⟩
  obtain ⟨d0, hd0⟩ : ∃ d, d = x % 16 := ⟨_, rfl⟩
  obtain ⟨d1, hd1⟩ : ∃ d, d = x / 16 % 16 := ⟨_, rfl⟩
  obtain ⟨d2, hd2⟩ : ∃ d, d = x / 256 % 16 := ⟨_, rfl⟩
  have e : x = d0 + 16 * d1 + 256 * d2 + 4096 * c := by omega
  rw [← hd0] at h0; rw [← hd1] at h1; rw [← hd2] at h2
  clear hc hd0 hd1 hd2
  have e1 : x / 16 = d1 + 16 * d2 + 256 * c := by omega
  have e2 : x / 256 = d2 + 16 * c := by omega
  have e3 : x / 256 / 16 = c := by omega
  rw [e1, e3, e2, e]
  omega

/-- The third step: neighbours added first, then masked: no field runs over. -/
theorem pair16 : ∀ n x, digs 4 4 (2 * n) x → x < 2 ^ (8 * n) → (x / 16 + x) &&& mask 4 n = pair 4 n x
  | 0, x, _, _ => by simp [pair, mask]
  | n + 1, x, h, hx => by
    rw [show 2 * (n + 1) = 2 * n + 1 + 1 by omega] at h
    simp only [digs] at h
    have h3 := h.2.2
    rw [Nat.div_div_eq_div_mul] at h3
    have e8 : (2 : Nat) ^ (8 * (n + 1)) = 2 ^ (8 * n) * 256 := by rw [Nat.mul_add, Nat.pow_add]
    have ih := pair16 n (x / 256) h3 (by omega)
    rw [and_mask, pair_succ]
    show (x / 16 + x) % 16 + 256 * ((x / 16 + x) / 256 &&& mask 4 n) = x / 16 % 16 + x % 16 + 256 * pair 4 n (x / 256)
    have a1 : x % 16 ≤ 4 := h.1
    have a2 : x / 16 % 16 ≤ 4 := h.2.1
    have e1 : (x / 16 + x) % 16 = x / 16 % 16 + x % 16 := by omega
    have a3 : n = 0 ∨ x / 256 % 16 ≤ 4 := by
      cases n with
      | zero => exact .inl rfl
      | succ n => rw [show 2 * (n + 1) = 2 * n + 1 + 1 by omega] at h3; exact .inr h3.1
    have e2 : (x / 16 + x) / 256 = x / 256 / 16 + x / 256 := carry16 x a1 a2 (by
      rcases a3 with rfl | a3
      · simp at hx; omega
      · exact a3)
    rw [e1, e2, ih]

theorem digits8 (z : Nat) (h : digs 8 8 8 z) (hz : z < 18446744073709551616) :
    ∃ d0 d1 d2 d3 d4 d5 d6 d7 : Nat, d0 ≤ 8 ∧ d1 ≤ 8 ∧ d2 ≤ 8 ∧ d3 ≤ 8 ∧ d4 ≤ 8 ∧ d5 ≤ 8 ∧ d6 ≤ 8 ∧ d7 ≤ 8 ∧
      z = d0 + 256 * d1 + 65536 * d2 + 16777216 * d3 + 4294967296 * d4 + 1099511627776 * d5 + 281474976710656 * d6 + 72057594037927936 * d7 ∧
      fsum 8 8 z = d0 + d1 + d2 + d3 + d4 + d5 + d6 + d7 := by
  simp only [digs, fsum, Nat.div_div_eq_div_mul, Nat.reducePow, Nat.reduceMul] at h ⊢
  obtain ⟨h0, h1, h2, h3, h4, h5, h6, h7, _⟩ := h
  exact ⟨_, _, _, _, _, _, _, _, h0, h1, h2, h3, h4, h5, h6, h7, by omega, by omega⟩

/-- The last steps of OnesCount64: the fields are gathered in the lowest one. -/
theorem ones_last (z : Nat) (h : digs 8 8 8 z) (hz : z < 18446744073709551616) :
    ∃ a b c : Nat, z + z / 256 = a ∧ a + a / 65536 = b ∧ b + b / 4294967296 = c ∧ a < 18446744073709551616 ∧ b < 18446744073709551616 ∧ c < 9223372036854775808 ∧ c % 128 = fsum 8 8 z := by
  obtain ⟨d0, d1, d2, d3, d4, d5, d6, d7, h0, h1, h2, h3, h4, h5, h6, h7, e, f⟩ := digits8 z h hz
  rw [f]
  clear f h
  have e1 : z / 256 = d1 + 256 * d2 + 65536 * d3 + 16777216 * d4 + 4294967296 * d5 + 1099511627776 * d6 + 281474976710656 * d7 := by omega
  refine ⟨_, _, _, rfl, rfl, rfl, ?_⟩
  have e2 : (z + z / 256) / 65536 = (d2 + d3) + 256 * (d3 + d4) + 65536 * (d4 + d5) + 16777216 * (d5 + d6) + 4294967296 * (d6 + d7) + 1099511627776 * d7 := by rw [e1, e]; omega
  rw [e2, e1]
  have e3 : (z + (d1 + 256 * d2 + 65536 * d3 + 16777216 * d4 + 4294967296 * d5 + 1099511627776 * d6 + 281474976710656 * d7) +
      (d2 + d3 + 256 * (d3 + d4) + 65536 * (d4 + d5) + 16777216 * (d5 + d6) + 4294967296 * (d6 + d7) + 1099511627776 * d7)) / 4294967296 =
      (d4 + d5 + d6 + d7) + 256 * (d5 + d6 + d7) + 65536 * (d6 + d7) + 16777216 * d7 := by rw [e]; omega
  rw [e3, e]
  clear e1 e2 e3 e
  omega

/-- How many bits a word of 64 has. -/
def ones (x : Nat) : Nat := fsum 1 64 x

theorem ones_steps (x : Nat) :
    ∃ p q r a b c : Nat, (x / 2 &&& 6148914691236517205) + (x &&& 6148914691236517205) = p ∧ (p / 4 &&& 3689348814741910323) + (p &&& 3689348814741910323) = q ∧
      (q / 16 + q) &&& 1085102592571150095 = r ∧ r + r / 256 = a ∧ a + a / 65536 = b ∧ b + b / 4294967296 = c ∧
      p < 18446744073709551616 ∧ q / 16 + q < 18446744073709551616 ∧ q < 18446744073709551616 ∧ r < 18446744073709551616 ∧ a < 18446744073709551616 ∧ b < 18446744073709551616 ∧ c < 9223372036854775808 ∧ c % 128 = ones x := by
  have m0 : mask 1 32 = 6148914691236517205 := by decide +kernel
  have m1 : mask 2 16 = 3689348814741910323 := by decide +kernel
  have m2 : mask 4 8 = 1085102592571150095 := by decide +kernel
  have s1 := fsum_pair 1 (by decide) 32 x
  have g1 := digs_pair 1 1 (by decide) 32 x (digs_one _ _)
  have l1 := pair_lt 1 (by decide) 32 x
  have s2 := fsum_pair 2 (by decide) 16 (pair 1 32 x)
  have g2 := digs_pair 2 2 (by decide) 16 (pair 1 32 x) g1
  have l2 := pair_lt 2 (by decide) 16 (pair 1 32 x)
  have s3 := fsum_pair 4 (by decide) 8 (pair 2 16 (pair 1 32 x))
  have g3 := digs_pair 4 4 (by decide) 8 (pair 2 16 (pair 1 32 x)) g2
  have l3 := pair_lt 4 (by decide) 8 (pair 2 16 (pair 1 32 x))
  have e3 := pair16 8 (pair 2 16 (pair 1 32 x)) g2 l2
  have d : ∃ t, pair 2 16 (pair 1 32 x) / 16 + pair 2 16 (pair 1 32 x) = t ∧ t < 18446744073709551616 := by
    refine ⟨_, rfl, ?_⟩
    have h15 : digs 4 4 16 (pair 2 16 (pair 1 32 x)) := g2
    have : pair 2 16 (pair 1 32 x) < 18446744073709551616 := l2
    have h : pair 2 16 (pair 1 32 x) / 1152921504606846976 % 16 ≤ 4 := by
      have := h15
      simp only [digs, Nat.div_div_eq_div_mul, Nat.reducePow, Nat.reduceMul] at this
      exact this.2.2.2.2.2.2.2.2.2.2.2.2.2.2.2.1
    omega
  obtain ⟨t, ht, htl⟩ := d
  obtain ⟨a, b, c, ha, hb, hc, la, lb, lc, hf⟩ := ones_last _ g3 l3
  refine ⟨_, _, _, a, b, c, rfl, rfl, rfl, ?_⟩
  rw [m2] at e3
  have p1 : pair 1 32 x = (x / 2 &&& 6148914691236517205) + (x &&& 6148914691236517205) := by rw [← m0]; rfl
  have p2 : ∀ y, pair 2 16 y = (y / 4 &&& 3689348814741910323) + (y &&& 3689348814741910323) := by intro y; rw [← m1]; rfl
  rw [← p1, ← p2, e3]
  refine ⟨ha, hb, hc, l1, by rw [ht]; exact htl, l2, l3, la, lb, lc, ?_⟩
  rw [hf, s3, s2, s1]
  rfl
end Go.Proofs.YtkhmocbfkpbpfaaGreatDoor

/- Plain mathematics: a row of words as a rising list of numbers. No program. -/
namespace Go.Proofs.YtkhmocbfkpbpfaaGreatDoor

/-- The places of a word's bits, rising. -/
def bitsUp (x : Nat) : List Nat := (List.range 64).filter fun j => x.testBit j

theorem len_filter : ∀ n x, ((List.range n).filter fun j => x.testBit j).length = fsum 1 n x
  | 0, _ => rfl
  | n + 1, x => by
    rw [List.range_succ_eq_map, List.filter_cons, List.filter_map]
    have ih := len_filter n (x / 2)
    have e : ((fun j => x.testBit j) ∘ Nat.succ) = fun j => (x / 2).testBit j := by
      funext j; simp [Nat.testBit_succ]
    rw [e]
    simp only [fsum]
    rw [show (2 : Nat) ^ 1 = 2 from rfl]
    rcases Nat.mod_two_eq_zero_or_one x with h | h
    · have hb : x.testBit 0 = false := by simp [Nat.testBit_zero, h]
      simp only [hb]
      simp
      omega
    · have hb : x.testBit 0 = true := by simp [Nat.testBit_zero, h]
      simp only [hb]
      simp
      omega

theorem len_bitsUp (x : Nat) : (bitsUp x).length = ones x := len_filter 64 x

theorem mem_bitsUp (x j : Nat) : j ∈ bitsUp x ↔ j < 64 ∧ x.testBit j = true := by simp [bitsUp]

theorem sorted_bitsUp (x : Nat) : (bitsUp x).Pairwise (· < ·) := List.Pairwise.filter _ List.pairwise_lt_range

/-- Two lists that rise strictly and have the same numbers are the same. -/
theorem eq_of_rising : ∀ (l m : List Int), l.Pairwise (· < ·) → m.Pairwise (· < ·) → (∀ v, v ∈ l ↔ v ∈ m) → l = m
  | [], [], _, _, _ => rfl
  | [], b :: m, _, _, h => absurd ((h b).2 (List.mem_cons_self)) (by simp)
  | a :: l, [], _, _, h => absurd ((h a).1 (List.mem_cons_self)) (by simp)
  | a :: l, b :: m, hl, hm, h => by
    have hl' := List.pairwise_cons.1 hl
    have hm' := List.pairwise_cons.1 hm
    have e : a = b := by
      rcases List.mem_cons.1 ((h a).1 List.mem_cons_self) with h1 | h1
      · exact h1
      · rcases List.mem_cons.1 ((h b).2 List.mem_cons_self) with h2 | h2
        · exact h2.symm
        · have := hl'.1 b h2; have := hm'.1 a h1; omega
    subst e
    rw [eq_of_rising l m hl'.2 hm'.2 fun v => ⟨fun hv => ?_, fun hv => ?_⟩]
    · rcases List.mem_cons.1 ((h v).1 (List.mem_cons_of_mem _ hv)) with h1 | h1
      · have := hl'.1 v hv; omega
      · exact h1
    · rcases List.mem_cons.1 ((h v).2 (List.mem_cons_of_mem _ hv)) with h1 | h1
      · have := hm'.1 v hv; omega
      · exact h1

/-- The numbers of a row of words whose first one is at a place. -/
def listOf (s : Int) : List Nat → List Int
  | [] => []
  | x :: r => (bitsUp x).map (fun j : Nat => s * 64 + (j : Int)) ++ listOf (s + 1) r

/-- Is a number's bit set? -/
def hasB (s : Int) (ws : List Nat) (v : Int) : Bool := decide (s ≤ v / 64) && (ws.getD (v / 64 - s).toNat 0).testBit (v % 64).toNat

theorem mem_listOf : ∀ (ws : List Nat) (s v : Int), v ∈ listOf s ws ↔ hasB s ws v = true
  | [], s, v => by simp [listOf, hasB]
  | x :: r, s, v => by
    rw [listOf, List.mem_append, mem_listOf r (s + 1) v, List.mem_map]
    unfold hasB
    constructor
    · rintro (⟨j, hj, rfl⟩ | h)
      · obtain ⟨h1, h2⟩ := (mem_bitsUp x j).1 hj
        have e1 : (s * 64 + (j : Int)) / 64 = s := by omega
        have e2 : ((s * 64 + (j : Int)) % 64).toNat = j := by omega
        rw [e1, e2]
        simp [h2]
      · simp only [Bool.and_eq_true, decide_eq_true_eq] at h ⊢
        refine ⟨by omega, ?_⟩
        rw [show (v / 64 - s).toNat = (v / 64 - (s + 1)).toNat + 1 by omega, List.getD_cons_succ]
        exact h.2
    · intro h
      simp only [Bool.and_eq_true, decide_eq_true_eq] at h
      by_cases he : v / 64 = s
      · left
        rw [he, Int.sub_self] at h
        refine ⟨(v % 64).toNat, (mem_bitsUp _ _).2 ⟨by omega, by simpa using h.2⟩, by omega⟩
      · right
        simp only [Bool.and_eq_true, decide_eq_true_eq]
        refine ⟨by omega, ?_⟩
        have h2 := h.2
        rw [show (v / 64 - s).toNat = (v / 64 - (s + 1)).toNat + 1 by omega, List.getD_cons_succ] at h2
        exact h2

theorem ge_listOf (ws : List Nat) (s v : Int) (h : v ∈ listOf s ws) : s * 64 ≤ v := by
  have := (mem_listOf ws s v).1 h
  simp only [hasB, Bool.and_eq_true, decide_eq_true_eq] at this
  omega

theorem rising_listOf : ∀ (ws : List Nat) (s : Int), (listOf s ws).Pairwise (· < ·)
  | [], _ => List.Pairwise.nil
  | x :: r, s => by
    rw [listOf, List.pairwise_append]
    refine ⟨?_, rising_listOf r (s + 1), ?_⟩
    · rw [List.pairwise_map]
      exact (sorted_bitsUp x).imp (by intro a b h; omega)
    · intro a ha b hb
      obtain ⟨j, hj, rfl⟩ := List.mem_map.1 ha
      have := ge_listOf r (s + 1) b hb
      have := ((mem_bitsUp x j).1 hj).1
      omega

theorem listOf_append : ∀ (a b : List Nat) (s : Int), listOf s (a ++ b) = listOf s a ++ listOf (s + a.length) b
  | [], b, s => by simp [listOf]
  | x :: r, b, s => by
    rw [List.cons_append, listOf, listOf, listOf_append r b (s + 1), List.append_assoc]
    congr 3
    simp; omega

theorem len_listOf_cons (s : Int) (x : Nat) (r : List Nat) : (listOf s (x :: r)).length = ones x + (listOf (s + 1) r).length := by
  rw [listOf, List.length_append, List.length_map, len_bitsUp]

theorem ones_le (x : Nat) : ones x ≤ 64 := by
  rw [← len_bitsUp]
  exact Nat.le_trans (List.length_filter_le _ _) (by simp)

theorem ones_pos (x : Nat) (h : x ≠ 0) (hx : x < 18446744073709551616) : 0 < ones x := by
  rw [← len_bitsUp]
  apply List.length_pos_iff.2
  intro e
  apply h
  apply Nat.eq_of_testBit_eq
  intro j
  rw [Nat.zero_testBit]
  by_cases hj : j < 64
  · cases hb : x.testBit j with
    | false => rfl
    | true =>
      have := (mem_bitsUp x j).2 ⟨hj, hb⟩
      rw [e] at this
      simp at this
  · apply Nat.testBit_lt_two_pow
    exact Nat.lt_of_lt_of_le hx (by
      have : (2 : Nat) ^ 64 ≤ 2 ^ j := Nat.pow_le_pow_right (by decide) (by omega)
      exact this)

/-! ### The lowest and the highest bit -/

/-- The lowest bit's place. -/
theorem ctz_spec (x : Nat) (h : x ≠ 0) (hx : x < 18446744073709551616) :
    ∃ m, x = 2 ^ Lib.ctz 64 x * (2 * m + 1) ∧ Lib.ctz 64 x < 64 := by
  unfold Lib.ctz
  rw [if_neg h]
  exact Lib.ctzFrom_spec 64 x (by omega) hx

theorem odd_bit (k m j : Nat) : (2 ^ k * (2 * m + 1)).testBit j = (decide (j = k) || (2 ^ k * (2 * m)).testBit j) := by
  rw [Nat.mul_comm (2 ^ k), Nat.mul_comm (2 ^ k), Nat.testBit_mul_two_pow, Nat.testBit_mul_two_pow]
  by_cases h : k ≤ j
  · by_cases e : j = k
    · subst e; simp [Nat.testBit_zero]
    · obtain ⟨i, rfl⟩ : ∃ i, j = k + (i + 1) := ⟨j - k - 1, by omega⟩
      rw [show k + (i + 1) - k = i + 1 by omega, Nat.testBit_succ, Nat.testBit_succ]
      rw [show (2 * m + 1) / 2 = m by omega, show 2 * m / 2 = m by omega]
      simp
  · simp [h]; omega

theorem even_low (k m j : Nat) (h : j ≤ k) : (2 ^ k * (2 * m)).testBit j = false := by
  rw [Nat.mul_comm (2 ^ k), Nat.testBit_mul_two_pow]
  by_cases e : j = k
  · subst e; simp [Nat.testBit_zero]
  · have : ¬ k ≤ j := by omega
    simp [this]

/-- A word without its lowest bit. -/
theorem and_pred (x : Nat) (h : x ≠ 0) (hx : x < 18446744073709551616) :
    ∃ y, x &&& (x - 1) = y ∧ y < x ∧ bitsUp x = Lib.ctz 64 x :: bitsUp y := by
  obtain ⟨m, hm, hk⟩ := ctz_spec x h hx
  refine ⟨_, rfl, ?_⟩
  generalize Lib.ctz 64 x = k at *
  have hp : 0 < 2 ^ k := Nat.pow_pos (by decide)
  have hy : x &&& (x - 1) = 2 ^ k * (2 * m) := by
    have e1 : x - 1 = 2 ^ k * (2 * m) + (2 ^ k - 1) := by rw [hm, Nat.mul_add, Nat.mul_one]; omega
    apply Nat.eq_of_testBit_eq
    intro j
    rw [Nat.testBit_and, e1, hm, odd_bit]
    by_cases hj : j < k
    · have a1 := even_low k m j (by omega)
      have a2 : ¬ j = k := by omega
      simp [a1, a2]
    · rw [Nat.testBit_two_pow_mul_add _ (by omega)]
      have : ¬ j < k := hj
      simp only [this, if_false]
      rw [Nat.mul_comm (2 ^ k), Nat.testBit_mul_two_pow]
      have hkj : k ≤ j := by omega
      simp only [hkj, decide_true, Bool.true_and]
      by_cases e : j = k
      · subst e; simp [Nat.testBit_zero]
      · simp [e]
  rw [hy]
  refine ⟨by rw [hm, Nat.mul_add]; omega, ?_⟩
  have hs1 := sorted_bitsUp x
  have key : ∀ l m' : List Nat, l.Pairwise (· < ·) → m'.Pairwise (· < ·) → (∀ v, v ∈ l ↔ v ∈ m') → l = m' := by
    intro l m' hl hm' hv
    have := eq_of_rising (l.map fun j : Nat => (j : Int)) (m'.map fun j : Nat => (j : Int)) (by rw [List.pairwise_map]; exact hl.imp (by intro a b h; omega)) (by rw [List.pairwise_map]; exact hm'.imp (by intro a b h; omega))
      (by intro v; simp only [List.mem_map, hv])
    exact List.map_inj_right (by intro a b h; omega) |>.1 this
  apply key _ _ hs1
  · rw [List.pairwise_cons]
    refine ⟨fun j hj => ?_, sorted_bitsUp _⟩
    have := ((mem_bitsUp _ j).1 hj).2
    apply Nat.lt_of_not_le
    intro hle
    rw [even_low k m j hle] at this
    cases this
  · intro j
    rw [List.mem_cons, mem_bitsUp, mem_bitsUp, hm, odd_bit]
    simp only [Bool.or_eq_true, decide_eq_true_eq]
    constructor
    · rintro ⟨h1, h2 | h2⟩
      · exact .inl h2
      · exact .inr ⟨h1, h2⟩
    · rintro (h1 | ⟨h1, h2⟩)
      · exact ⟨by omega, .inl h1⟩
      · exact ⟨h1, .inr h2⟩
end Go.Proofs.YtkhmocbfkpbpfaaGreatDoor
