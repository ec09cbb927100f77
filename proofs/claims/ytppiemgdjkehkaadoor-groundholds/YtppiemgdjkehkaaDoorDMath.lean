/- Plain mathematics of bit words as sets of numbers: how many bits a word has, its lowest, its highest, the rising list of a row of words. No program, no condition but the words' width. -/
import Derived.Lib.TrailingZeros
import Derived.Lib.BitFns
namespace Go.Proofs.YtppiemgdjkehkaaDoor

/-! ### Counting bits, by fields that get wider -/

/-- The sum of the first n fields of w bits. -/
def fsum (w : Nat) : Nat → Nat → Nat
  | 0, _ => 0
  | n + 1, x => x % 2 ^ w + fsum w n (x / 2 ^ w)

/-- Each of the first n fields is at most m. -/
def digs (w m : Nat) : Nat → Nat → Prop
  | 0, _ => True
  | n + 1, x => x % 2 ^ w ≤ m ∧ digs w m n (x / 2 ^ w)

/-- Every second field whole. -/
def mask (w : Nat) : Nat → Nat
  | 0 => 0
  | n + 1 => (2 ^ w - 1) + 2 ^ (2 * w) * mask w n

theorem and_mask (w n z : Nat) : z &&& mask w (n + 1) = z % 2 ^ w + 2 ^ (2 * w) * ((z / 2 ^ (2 * w)) &&& mask w n) := by
  have hp : 2 ^ w ≤ 2 ^ (2 * w) := Nat.pow_le_pow_right (by decide) (by omega)
  have h1 : 0 < 2 ^ w := Nat.pow_pos (by decide)
  have hm : mask w (n + 1) % 2 ^ (2 * w) = 2 ^ w - 1 := by
    show ((2 ^ w - 1) + 2 ^ (2 * w) * mask w n) % 2 ^ (2 * w) = _
    rw [Nat.add_mul_mod_self_left, Nat.mod_eq_of_lt (by omega)]
  have hd : mask w (n + 1) / 2 ^ (2 * w) = mask w n := by
    show ((2 ^ w - 1) + 2 ^ (2 * w) * mask w n) / 2 ^ (2 * w) = _
    rw [Nat.add_mul_div_left _ _ (by omega), Nat.div_eq_of_lt (by omega), Nat.zero_add]
  have e := Nat.mod_add_div (z &&& mask w (n + 1)) (2 ^ (2 * w))
  rw [Nat.and_mod_two_pow, Nat.and_div_two_pow, hm, hd, Nat.and_two_pow_sub_one_eq_mod] at e
  rw [← e]
  congr 1
  rw [Nat.mul_comm 2 w, Nat.pow_mul, Nat.pow_two]
  exact Nat.mod_mul_left_mod _ _ _

/-- Neighbours added: fields of twice the width. -/
def pair (w n x : Nat) : Nat := (x / 2 ^ w &&& mask w n) + (x &&& mask w n)

theorem pair_succ (w n x : Nat) : pair w (n + 1) x = (x / 2 ^ w % 2 ^ w + x % 2 ^ w) + 2 ^ (2 * w) * pair w n (x / 2 ^ (2 * w)) := by
  unfold pair
  rw [and_mask, and_mask, Nat.mul_add, Nat.div_div_eq_div_mul, Nat.div_div_eq_div_mul, Nat.mul_comm (2 ^ w) (2 ^ (2 * w))]
  omega

theorem two_fields (w a b : Nat) (hw : 0 < w) (ha : a < 2 ^ w) (hb : b < 2 ^ w) : a + b < 2 ^ (2 * w) := by
  have h2 : 2 ≤ 2 ^ w := by
    have := Nat.pow_le_pow_right (n := 2) (by decide) hw
    simpa using this
  have e : 2 ^ (2 * w) = 2 ^ w * 2 ^ w := by rw [Nat.mul_comm 2 w, Nat.pow_mul, Nat.pow_two]
  have : 2 * 2 ^ w ≤ 2 ^ w * 2 ^ w := Nat.mul_le_mul_right _ h2
  omega

theorem pair_mod (w n x : Nat) (hw : 0 < w) : pair w (n + 1) x % 2 ^ (2 * w) = x / 2 ^ w % 2 ^ w + x % 2 ^ w := by
  rw [pair_succ, Nat.add_mul_mod_self_left, Nat.mod_eq_of_lt (two_fields w _ _ hw (Nat.mod_lt _ (Nat.pow_pos (by decide))) (Nat.mod_lt _ (Nat.pow_pos (by decide))))]

theorem pair_div (w n x : Nat) (hw : 0 < w) : pair w (n + 1) x / 2 ^ (2 * w) = pair w n (x / 2 ^ (2 * w)) := by
  rw [pair_succ, Nat.add_mul_div_left _ _ (Nat.pow_pos (by decide)), Nat.div_eq_of_lt (two_fields w _ _ hw (Nat.mod_lt _ (Nat.pow_pos (by decide))) (Nat.mod_lt _ (Nat.pow_pos (by decide)))), Nat.zero_add]

theorem fsum_pair (w : Nat) (hw : 0 < w) : ∀ n x, fsum (2 * w) n (pair w n x) = fsum w (2 * n) x
  | 0, _ => rfl
  | n + 1, x => by
    rw [show 2 * (n + 1) = 2 * n + 1 + 1 by omega]
    simp only [fsum]
    rw [pair_mod w n x hw, pair_div w n x hw, fsum_pair w hw n, Nat.div_div_eq_div_mul, ← Nat.pow_add, show w + w = 2 * w by omega]
    omega

theorem digs_pair (w m : Nat) (hw : 0 < w) : ∀ n x, digs w m (2 * n) x → digs (2 * w) (m + m) n (pair w n x)
  | 0, _, _ => trivial
  | n + 1, x, h => by
    rw [show 2 * (n + 1) = 2 * n + 1 + 1 by omega] at h
    simp only [digs] at h ⊢
    rw [pair_mod w n x hw, pair_div w n x hw]
    refine ⟨by omega, digs_pair w m hw n _ ?_⟩
    have := h.2.2
    rwa [Nat.div_div_eq_div_mul, ← Nat.pow_add, show w + w = 2 * w by omega] at this

theorem pair_lt (w : Nat) (hw : 0 < w) : ∀ n x, pair w n x < 2 ^ (2 * w * n)
  | 0, x => by simp [pair, mask]
  | n + 1, x => by
    have h1 := pair_lt w hw n (x / 2 ^ (2 * w))
    have h2 := pair_div w n x hw
    rw [show 2 * w * (n + 1) = 2 * w * n + 2 * w by rw [Nat.mul_add]; omega, Nat.pow_add]
    rw [← h2] at h1
    exact (Nat.div_lt_iff_lt_mul (Nat.pow_pos (by decide))).1 h1

theorem digs_one : ∀ n x, digs 1 1 n x
  | 0, _ => trivial
  | n + 1, x => ⟨by omega, digs_one n _⟩

theorem carry16 (x : Nat) (h0 : x % 16 ≤ 4) (h1 : x / 16 % 16 ≤ 4) (h2 : x / 256 % 16 ≤ 4) : (x / 16 + x) / 256 = x / 256 / 16 + x / 256 := by
  obtain ⟨c, hc⟩ : ∃ c, c = x / 4096 := ⟨_, rfl⟩
  obtain ⟨d0, hd0⟩ : ∃ d, d = x % 16 := ⟨_, rfl⟩
  obtain ⟨d1, hd1⟩ : ∃ d, d = x / 16 % 16 := ⟨_, rfl⟩
  obtain ⟨d2, hd2⟩ : ∃ d, d = x / 256 % 16 := ⟨_, rfl⟩
  have e : x = d0 + 16 * d1 + 256 * d2 + 4096 * c := by omega
  rw [← hd0] at h0; rw [← hd1] at h1; rw [← hd2] at h2
  clear hc hd0 hd1 hd2
  have e1 : x / 16 = d1 + 16 * d2 + 256 * c := by omega
  have e2 : x / 256 = d2 + 16 * c := by omega
  have e3 : x / 256 / 16 = c := by omega
  rw [e1, e3, e2, e]
  omega

/-- The third step: neighbours added first, then masked: no field runs over. -/
theorem pair16 : ∀ n x, digs 4 4 (2 * n) x → x < 2 ^ (8 * n) → (x / 16 + x) &&& mask 4 n = pair 4 n x
  | 0, x, _, _ => by simp [pair, mask]
  | n + 1, x, h, hx => by
    rw [show 2 * (n + 1) = 2 * n + 1 + 1 by omega] at h
    simp only [digs] at h
    have h3 := h.2.2
    rw [Nat.div_div_eq_div_mul] at h3
    have e8 : (2 : Nat) ^ (8 * (n + 1)) = 2 ^ (8 * n) * 256 := by rw [Nat.mul_add, Nat.pow_add]
    have ih := pair16 n (x / 256) h3 (by omega)
    rw [and_mask, pair_succ]
    show (x / 16 + x) % 16 + 256 * ((x / 16 + x) / 256 &&& mask 4 n) = x / 16 % 16 + x % 16 + 256 * pair 4 n (x / 256)
    have a1 : x % 16 ≤ 4 := h.1
    have a2 : x / 16 % 16 ≤ 4 := h.2.1
    have e1 : (x / 16 + x) % 16 = x / 16 % 16 + x % 16 := by omega
    have a3 : n = 0 ∨ x / 256 % 16 ≤ 4 := by
      cases n with
      | zero => exact .inl rfl
      | succ n => rw [show 2 * (n + 1) = 2 * n + 1 + 1 by omega] at h3; exact .inr h3.1
    have e2 : (x / 16 + x) / 256 = x / 256 / 16 + x / 256 := carry16 x a1 a2 (by
      rcases a3 with rfl | a3
      · simp at hx; omega
      · exact a3)
    rw [e1, e2, ih]

theorem digits8 (z : Nat) (h : digs 8 8 8 z) (hz : z < 18446744073709551616) :
    ∃ d0 d1 d2 d3 d4 d5 d6 d7 : Nat, d0 ≤ 8 ∧ d1 ≤ 8 ∧ d2 ≤ 8 ∧ d3 ≤ 8 ∧ d4 ≤ 8 ∧ d5 ≤ 8 ∧ d6 ≤ 8 ∧ d7 ≤ 8 ∧
      z = d0 + 256 * d1 + 65536 * d2 + 16777216 * d3 + 4294967296 * d4 + 1099511627776 * d5 + 281474976710656 * d6 + 72057594037927936 * d7 ∧
      fsum 8 8 z = d0 + d1 + d2 + d3 + d4 + d5 + d6 + d7 := by
  simp only [digs, fsum, Nat.div_div_eq_div_mul, Nat.reducePow, Nat.reduceMul] at h ⊢
  obtain ⟨h0, h1, h2, h3, h4, h5, h6, h7, _⟩ := h
  exact ⟨_, _, _, _, _, _, _, _, h0, h1, h2, h3, h4, h5, h6, h7, by omega, by omega⟩

/-- The last steps of OnesCount64: the fields are gathered in the lowest one. -/
theorem ones_last (z : Nat) (h : digs 8 8 8 z) (hz : z < 18446744073709551616) :
    ∃ a b c : Nat, z + z / 256 = a ∧ a + a / 65536 = b ∧ b + b / 4294967296 = c ∧ a < 18446744073709551616 ∧ b < 18446744073709551616 ∧ c < 9223372036854775808 ∧ c % 128 = fsum 8 8 z := by
  obtain ⟨d0, d1, d2, d3, d4, d5, d6, d7, h0, h1, h2, h3, h4, h5, h6, h7, e, f⟩ := digits8 z h hz
  rw [f]
  clear f h
  have e1 : z / 256 = d1 + 256 * d2 + 65536 * d3 + 16777216 * d4 + 4294967296 * d5 + 1099511627776 * d6 + 281474976710656 * d7 := by omega
  refine ⟨_, _, _, rfl, rfl, rfl, ?_⟩
  have e2 : (z + z / 256) / 65536 = (d2 + d3) + 256 * (d3 + d4) + 65536 * (d4 + d5) + 16777216 * (d5 + d6) + 4294967296 * (d6 + d7) + 1099511627776 * d7 := by rw [e1, e]; omega
  rw [e2, e1]
  have e3 : (z + (d1 + 256 * d2 + 65536 * d3 + 16777216 * d4 + 4294967296 * d5 + 1099511627776 * d6 + 281474976710656 * d7) +
      (d2 + d3 + 256 * (d3 + d4) + 65536 * (d4 + d5) + 16777216 * (d5 + d6) + 4294967296 * (d6 + d7) + 1099511627776 * d7)) / 4294967296 =
      (d4 + d5 + d6 + d7) + 256 * (d5 + d6 + d7) + 65536 * (d6 + d7) + 16777216 * d7 := by rw [e]; omega
  rw [e3, e]
  clear e1 e2 e3 e
  omega

/-- How many bits a word of 64 has. -/
def ones (x : Nat) : Nat := fsum 1 64 x

theorem ones_steps (x : Nat) :
    ∃ p q r a b c : Nat, (x / 2 &&& 6148914691236517205) + (x &&& 6148914691236517205) = p ∧ (p / 4 &&& 3689348814741910323) + (p &&& 3689348814741910323) = q ∧
      (q / 16 + q) &&& 1085102592571150095 = r ∧ r + r / 256 = a ∧ a + a / 65536 = b ∧ b + b / 4294967296 = c ∧
      p < 18446744073709551616 ∧ q / 16 + q < 18446744073709551616 ∧ q < 18446744073709551616 ∧ r < 18446744073709551616 ∧ a < 18446744073709551616 ∧ b < 18446744073709551616 ∧ c < 9223372036854775808 ∧ c % 128 = ones x := by
  have m0 : mask 1 32 = 6148914691236517205 := by decide +kernel
  have m1 : mask 2 16 = 3689348814741910323 := by decide +kernel
  have m2 : mask 4 8 = 1085102592571150095 := by decide +kernel
  have s1 := fsum_pair 1 (by decide) 32 x
  have g1 := digs_pair 1 1 (by decide) 32 x (digs_one _ _)
  have l1 := pair_lt 1 (by decide) 32 x
  have s2 := fsum_pair 2 (by decide) 16 (pair 1 32 x)
  have g2 := digs_pair 2 2 (by decide) 16 (pair 1 32 x) g1
  have l2 := pair_lt 2 (by decide) 16 (pair 1 32 x)
  have s3 := fsum_pair 4 (by decide) 8 (pair 2 16 (pair 1 32 x))
  have g3 := digs_pair 4 4 (by decide) 8 (pair 2 16 (pair 1 32 x)) g2
  have l3 := pair_lt 4 (by decide) 8 (pair 2 16 (pair 1 32 x))
  have e3 := pair16 8 (pair 2 16 (pair 1 32 x)) g2 l2
  have d : ∃ t, pair 2 16 (pair 1 32 x) / 16 + pair 2 16 (pair 1 32 x) = t ∧ t < 18446744073709551616 := by
    refine ⟨_, rfl, ?_⟩
    have h15 : digs 4 4 16 (pair 2 16 (pair 1 32 x)) := g2
    have : pair 2 16 (pair 1 32 x) < 18446744073709551616 := l2
    have h : pair 2 16 (pair 1 32 x) / 1152921504606846976 % 16 ≤ 4 := by
      have := h15
      simp only [digs, Nat.div_div_eq_div_mul, Nat.reducePow, Nat.reduceMul] at this
      exact this.2.2.2.2.2.2.2.2.2.2.2.2.2.2.2.1
    omega
  obtain ⟨t, ht, htl⟩ := d
  obtain ⟨a, b, c, ha, hb, hc, la, lb, lc, hf⟩ := ones_last _ g3 l3
  refine ⟨_, _, _, a, b, c, rfl, rfl, rfl, ?_⟩
  rw [m2] at e3
  have p1 : pair 1 32 x = (x / 2 &&& 6148914691236517205) + (x &&& 6148914691236517205) := by rw [← m0]; rfl
  have p2 : ∀ y, pair 2 16 y = (y / 4 &&& 3689348814741910323) + (y &&& 3689348814741910323) := by intro y; rw [← m1]; rfl
  rw [← p1, ← p2, e3]
  refine ⟨ha, hb, hc, l1, by rw [ht]; exact htl, l2, l3, la, lb, lc, ?_⟩
  rw [hf, s3, s2, s1]
  rfl
end Go.Proofs.YtppiemgdjkehkaaDoor
