/- Contracts of math/bits.TrailingZeros64 and Len64, and of dom's lowest and highest, by the rising list of a word's bits. Conditions: the word has 64 bits and isn't 0; the table of math/bits is laid as its text says. -/
import Derived.Test.YtegiaonlneamfaaDoorSmall
import Derived.Below
import Derived.Lib.Walk
import Derived.Lib.Hide
namespace Go.Proofs.YtegiaonlneamfaaDoor
open Go.RowKit

/-- The table of math/bits lies in its variable. -/
def Tab (w : World) : Prop := 0 < w.heap.size ∧ ∀ j, j < 64 → w.cell? ⟨0, j, none⟩ = some (.int .u8 ((Lib.deBruijn64tab.getD j 0 : Nat) : Int))

theorem Tab.below {w w' : World} (h : Tab w) (hb : Below w.heap.size w w') : Tab w' :=
  ⟨Nat.lt_of_lt_of_le h.1 hb.size, fun j hj => (hb.cell (p := ⟨0, j, none⟩) h.1).trans (h.2 j hj)⟩

theorem tz_key (x a : Nat) (hx : x < 18446744073709551616) (hx0 : x ≠ 0) (hlow : x &&& (18446744073709551616 - x) = a) :
    IntKind.u64.wrap (bits BinOp.and IntKind.u64 (x : Int) (IntKind.u64.wrap (-(x : Int))) * 285870213051353865) / 288230376151711744 = ((a * 285870213051353865 % 18446744073709551616 / 288230376151711744 : Nat) : Int) := by
  have e1 : IntKind.u64.wrap (-(x : Int)) = ((18446744073709551616 - x : Nat) : Int) := by rw [IntKind.wrap_u64]; omega
  rw [e1, u64_and_nat x _ hx (by omega), hlow, IntKind.wrap_u64]
  omega

theorem tz_core (x k idx : Nat) (w : World) (hx0 : ((x : Int) == 0) = false)
    (key : IntKind.u64.wrap (bits BinOp.and IntKind.u64 (x : Int) (IntKind.u64.wrap (-(x : Int))) * 285870213051353865) / 288230376151711744 = (idx : Int))
    (hi : idx < 64) (hk : k < 64) (hcell : w.cell? ⟨0, idx, none⟩ = some (.int .u8 k)) :
    Calls Tryd.prog 56 #[.int .u64 x] w fun e w' => e = .returned (.int .i64 k) ∧ w = w' := by
  go_enter Tryd.func56, Tryd.ntmps56
  go_wp2_with (simp only [key])
  go_ret
  exact ⟨rfl, rfl⟩

theorem tz_any (x : Nat) (w : World) (hx : x < 18446744073709551616) (hx0 : x ≠ 0) (hT : Tab w) :
    Calls Tryd.prog 56 #[.int .u64 x] w fun e w' => e = .returned (.int .i64 (Lib.ctz 64 x : Nat)) ∧ w = w' := by
  obtain ⟨hlow, hk⟩ := Lib.lowest_bit 64 x hx0 hx
  obtain ⟨hi, htab⟩ := Lib.deBruijn64_at _ hk
  have hc := hT.2 _ hi
  rw [htab] at hc
  exact tz_core x _ _ w (by simpa using hx0) (tz_key x _ hx hx0 hlow) hi hk hc

set_option maxRecDepth 100000 in
theorem lowest_any (p : Int) (x : Nat) (w : World) (hx : x < 18446744073709551616) (hx0 : x ≠ 0) (hT : Tab w) (h1 : -100000 ≤ p) (h2 : p ≤ 100000) :
    Calls Tryd.prog 54 #[.int .i64 p, .int .u64 x] w fun e w' => e = .returned (.int .i64 (p * 64 + (Lib.ctz 64 x : Nat))) ∧ w = w' := by
  have hk : Lib.ctz 64 x < 64 := by obtain ⟨_, _, h⟩ := ctz_spec x hx0 hx; exact h
  have T := tz_any x w hx hx0 hT
  clear hx hx0 hT
  go_enter Tryd.func54, Tryd.ntmps54
  go_wp2_with (go_at_call 56; with_reducible refine T.mono ?_; rintro e w' ⟨rfl, rfl⟩)
  go_ret
  exact ⟨rfl, rfl⟩

theorem len8_get (i : Int) (h0 : 0 ≤ i) (h1 : i ≤ 255) (h : i.toNat < Lib.len8tab.size) : ((Lib.len8tab[i.toNat]'h).toNat : Int) = (Lib.bitLen i.toNat : Nat) ∧ Lib.bitLen i.toNat ≤ 8 := by
  have e := Lib.len8_of i h0 h1
  refine ⟨?_, Lib.bitLen_le8' i h0 h1⟩
  rw [← e]
  simp only [Lib.len8]
  rw [ByteArray.getElem?_lt' _ _ h]
  simp

set_option maxRecDepth 100000 in
theorem len_part0 (x : Int) (w : World) (h0 : 0 ≤ x) (h1 : x < 256) :
    Calls Tryd.prog 59 #[.int .u64 x] w fun e w' => e = .returned (.int .i64 (Lib.bitLen x.toNat)) ∧ w = w' := by
  have hs : x < (Lib.len8tab.size : Int) := by rw [Lib.len8tab_size]; omega
  have hq : x.toNat < Lib.len8tab.size := by rw [Lib.len8tab_size]; omega
  obtain ⟨L1, L2⟩ := len8_get x (by omega) (by omega) hq
  have H1 := Lib.hid L1
  clear L1
  go_enter Tryd.func59, Tryd.ntmps59
  go_wp2
  go_ret
  refine ⟨congrArg Ending.returned (congrArg (Value.int IntKind.i64) ?_), rfl⟩
  have L1 := H1.out
  simp only [wrap64] at *
  omega

set_option maxRecDepth 100000 in
theorem len_part1 (x : Int) (w : World) (h0 : 256 ≤ x) (h1 : x < 65536) :
    Calls Tryd.prog 59 #[.int .u64 x] w fun e w' => e = .returned (.int .i64 (Lib.bitLen x.toNat)) ∧ w = w' := by
  have hs : (x / 256) < (Lib.len8tab.size : Int) := by rw [Lib.len8tab_size]; omega
  have hq : (x / 256).toNat < Lib.len8tab.size := by rw [Lib.len8tab_size]; omega
  obtain ⟨L1, L2⟩ := len8_get (x / 256) (by omega) (by omega) hq
  have H1 := Lib.hid L1
  clear L1
  go_enter Tryd.func59, Tryd.ntmps59
  go_wp2
  go_ret
  refine ⟨congrArg Ending.returned (congrArg (Value.int IntKind.i64) ?_), rfl⟩
  have L1 := H1.out
  have s := Lib.bitLen_shift8 x.toNat (by omega) (by omega)
  rw [show x.toNat / 256 = (x / 256).toNat by omega] at s
  simp only [wrap64] at *
  omega

set_option maxRecDepth 100000 in
theorem len_part2 (x : Int) (w : World) (h0 : 65536 ≤ x) (h1 : x < 16777216) :
    Calls Tryd.prog 59 #[.int .u64 x] w fun e w' => e = .returned (.int .i64 (Lib.bitLen x.toNat)) ∧ w = w' := by
  have hs : (x / 65536) < (Lib.len8tab.size : Int) := by rw [Lib.len8tab_size]; omega
  have hq : (x / 65536).toNat < Lib.len8tab.size := by rw [Lib.len8tab_size]; omega
  obtain ⟨L1, L2⟩ := len8_get (x / 65536) (by omega) (by omega) hq
  have H1 := Lib.hid L1
  clear L1
  go_enter Tryd.func59, Tryd.ntmps59
  go_wp2
  go_ret
  refine ⟨congrArg Ending.returned (congrArg (Value.int IntKind.i64) ?_), rfl⟩
  have L1 := H1.out
  have s := Lib.bitLen_shift16 x.toNat (by omega) (by omega)
  rw [show x.toNat / 65536 = (x / 65536).toNat by omega] at s
  simp only [wrap64] at *
  omega

set_option maxRecDepth 100000 in
theorem len_part3 (x : Int) (w : World) (h0 : 16777216 ≤ x) (h1 : x < 4294967296) :
    Calls Tryd.prog 59 #[.int .u64 x] w fun e w' => e = .returned (.int .i64 (Lib.bitLen x.toNat)) ∧ w = w' := by
  have hs : (x / 65536 / 256) < (Lib.len8tab.size : Int) := by rw [Lib.len8tab_size]; omega
  have hq : (x / 65536 / 256).toNat < Lib.len8tab.size := by rw [Lib.len8tab_size]; omega
  obtain ⟨L1, L2⟩ := len8_get (x / 65536 / 256) (by omega) (by omega) hq
  have H1 := Lib.hid L1
  clear L1
  go_enter Tryd.func59, Tryd.ntmps59
  go_wp2
  go_ret
  refine ⟨congrArg Ending.returned (congrArg (Value.int IntKind.i64) ?_), rfl⟩
  have L1 := H1.out
  have s := Lib.bitLen_shift24 x.toNat (by omega) (by omega)
  rw [show x.toNat / 16777216 = (x / 65536 / 256).toNat by omega] at s
  simp only [wrap64] at *
  omega

set_option maxRecDepth 100000 in
theorem len_part4 (x : Int) (w : World) (h0 : 4294967296 ≤ x) (h1 : x < 1099511627776) :
    Calls Tryd.prog 59 #[.int .u64 x] w fun e w' => e = .returned (.int .i64 (Lib.bitLen x.toNat)) ∧ w = w' := by
  have hs : (x / 4294967296) < (Lib.len8tab.size : Int) := by rw [Lib.len8tab_size]; omega
  have hq : (x / 4294967296).toNat < Lib.len8tab.size := by rw [Lib.len8tab_size]; omega
  obtain ⟨L1, L2⟩ := len8_get (x / 4294967296) (by omega) (by omega) hq
  have H1 := Lib.hid L1
  clear L1
  go_enter Tryd.func59, Tryd.ntmps59
  go_wp2
  go_ret
  refine ⟨congrArg Ending.returned (congrArg (Value.int IntKind.i64) ?_), rfl⟩
  have L1 := H1.out
  have s := Lib.bitLen_shift32 x.toNat (by omega) (by omega)
  rw [show x.toNat / 4294967296 = (x / 4294967296).toNat by omega] at s
  simp only [wrap64] at *
  omega

set_option maxRecDepth 100000 in
theorem len_part5 (x : Int) (w : World) (h0 : 1099511627776 ≤ x) (h1 : x < 281474976710656) :
    Calls Tryd.prog 59 #[.int .u64 x] w fun e w' => e = .returned (.int .i64 (Lib.bitLen x.toNat)) ∧ w = w' := by
  have hs : (x / 4294967296 / 256) < (Lib.len8tab.size : Int) := by rw [Lib.len8tab_size]; omega
  have hq : (x / 4294967296 / 256).toNat < Lib.len8tab.size := by rw [Lib.len8tab_size]; omega
  obtain ⟨L1, L2⟩ := len8_get (x / 4294967296 / 256) (by omega) (by omega) hq
  have H1 := Lib.hid L1
  clear L1
  go_enter Tryd.func59, Tryd.ntmps59
  go_wp2
  go_ret
  refine ⟨congrArg Ending.returned (congrArg (Value.int IntKind.i64) ?_), rfl⟩
  have L1 := H1.out
  have s := Lib.bitLen_shift40 x.toNat (by omega) (by omega)
  rw [show x.toNat / 1099511627776 = (x / 4294967296 / 256).toNat by omega] at s
  simp only [wrap64] at *
  omega

set_option maxRecDepth 100000 in
theorem len_part6 (x : Int) (w : World) (h0 : 281474976710656 ≤ x) (h1 : x < 72057594037927936) :
    Calls Tryd.prog 59 #[.int .u64 x] w fun e w' => e = .returned (.int .i64 (Lib.bitLen x.toNat)) ∧ w = w' := by
  have hs : (x / 4294967296 / 65536) < (Lib.len8tab.size : Int) := by rw [Lib.len8tab_size]; omega
  have hq : (x / 4294967296 / 65536).toNat < Lib.len8tab.size := by rw [Lib.len8tab_size]; omega
  obtain ⟨L1, L2⟩ := len8_get (x / 4294967296 / 65536) (by omega) (by omega) hq
  have H1 := Lib.hid L1
  clear L1
  go_enter Tryd.func59, Tryd.ntmps59
  go_wp2
  go_ret
  refine ⟨congrArg Ending.returned (congrArg (Value.int IntKind.i64) ?_), rfl⟩
  have L1 := H1.out
  have s := Lib.bitLen_shift48 x.toNat (by omega) (by omega)
  rw [show x.toNat / 281474976710656 = (x / 4294967296 / 65536).toNat by omega] at s
  simp only [wrap64] at *
  omega

theorem part7_end (x t : Int) (h0 : 72057594037927936 ≤ x) (h1 : x < 18446744073709551616) (ht : t = ((Lib.bitLen (x / 4294967296 / 65536 / 256).toNat : Nat) : Int)) (h8 : Lib.bitLen (x / 4294967296 / 65536 / 256).toNat ≤ 8) :
    wrap64 (56 + wrap64 t) = ((Lib.bitLen x.toNat : Nat) : Int) := by
  obtain ⟨n, rfl⟩ := Int.eq_ofNat_of_zero_le (show 0 ≤ x by omega)
  have g1 : 72057594037927936 ≤ n := by omega
  have g2 : n < 18446744073709551616 := by omega
  have s := Lib.bitLen_shift56 n g1 g2
  have e : ((n : Int) / 4294967296 / 65536 / 256).toNat = n / 72057594037927936 := by omega
  rw [e] at ht h8
  rw [Int.toNat_natCast, s]
  clear s e g1 g2 h0 h1
  generalize Lib.bitLen (n / 72057594037927936) = b at *
  subst ht
  unfold wrap64
  omega

set_option maxRecDepth 100000 in
theorem len_part7 (x : Int) (w : World) (h0 : 72057594037927936 ≤ x) (h1 : x < 18446744073709551616) :
    Calls Tryd.prog 59 #[.int .u64 x] w fun e w' => e = .returned (.int .i64 (Lib.bitLen x.toNat)) ∧ w = w' := by
  have hs : (x / 4294967296 / 65536 / 256) < (Lib.len8tab.size : Int) := by rw [Lib.len8tab_size]; omega
  have hq : (x / 4294967296 / 65536 / 256).toNat < Lib.len8tab.size := by rw [Lib.len8tab_size]; omega
  obtain ⟨L1, L2⟩ := len8_get (x / 4294967296 / 65536 / 256) (by omega) (by omega) hq
  have H1 := Lib.hid L1
  clear L1
  have g1 : x / 4294967296 / 65536 / 256 ≤ 255 := by omega
  have g2 : 4294967296 ≤ x := by omega
  have g3 : 65536 ≤ x / 4294967296 := by omega
  have g4 : 256 ≤ x / 4294967296 / 65536 := by omega
  have H2 := Lib.hid h1
  have H3 := Lib.hid h0
  clear h1 L2 h0
  go_enter Tryd.func59, Tryd.ntmps59
  go_wp2
  go_ret
  refine ⟨congrArg Ending.returned (congrArg (Value.int IntKind.i64) ?_), rfl⟩
  exact part7_end x _ H3.out H2.out H1.out (len8_get (x / 4294967296 / 65536 / 256) (by omega) (by omega) hq).2

theorem len_any' (x : Int) (w : World) (h0 : 0 ≤ x) (h1 : x < 18446744073709551616) :
    Calls Tryd.prog 59 #[.int .u64 x] w fun e w' => e = .returned (.int .i64 (Lib.bitLen x.toNat)) ∧ w = w' := by
  by_cases c0 : x < 256
  · exact len_part0 x w (by omega) c0
  by_cases c1 : x < 65536
  · exact len_part1 x w (by omega) c1
  by_cases c2 : x < 16777216
  · exact len_part2 x w (by omega) c2
  by_cases c3 : x < 4294967296
  · exact len_part3 x w (by omega) c3
  by_cases c4 : x < 1099511627776
  · exact len_part4 x w (by omega) c4
  by_cases c5 : x < 281474976710656
  · exact len_part5 x w (by omega) c5
  by_cases c6 : x < 72057594037927936
  · exact len_part6 x w (by omega) c6
  exact len_part7 x w (by omega) h1

theorem bitLen_aux : ∀ f x, x < 2 ^ f → x < 2 ^ Lib.bitLenAux f x ∧ (x ≠ 0 → 2 ^ Lib.bitLenAux f x ≤ 2 * x) ∧ Lib.bitLenAux f x ≤ f
  | 0, x, h => by simp [Lib.bitLenAux] at *; omega
  | f + 1, x, h => by
    unfold Lib.bitLenAux
    split
    · rename_i e; subst e; simp
    · rename_i e
      obtain ⟨a, b, c⟩ := bitLen_aux f (x / 2) (by rw [Nat.pow_succ] at h; omega)
      rw [Nat.add_comm 1, Nat.pow_succ]
      refine ⟨by omega, fun _ => ?_, by omega⟩
      by_cases h2 : x / 2 = 0
      · have : x = 1 := by omega
        subst this
        have : Lib.bitLenAux f 0 = 0 := by cases f <;> simp [Lib.bitLenAux]
        simp [this]
      · have := b h2; omega

theorem bitLen_spec (x : Nat) (h : x ≠ 0) (hx : x < 18446744073709551616) :
    1 ≤ Lib.bitLen x ∧ Lib.bitLen x ≤ 64 ∧ x.testBit (Lib.bitLen x - 1) = true ∧ ∀ j, Lib.bitLen x ≤ j → x.testBit j = false := by
  obtain ⟨a, b, c⟩ := bitLen_aux 64 x hx
  have b := b h
  change x < 2 ^ Lib.bitLen x at a
  change 2 ^ Lib.bitLen x ≤ 2 * x at b
  change Lib.bitLen x ≤ 64 at c
  generalize Lib.bitLen x = n at *
  have h1 : 1 ≤ n := by
    cases n with
    | zero => simp at a; omega
    | succ n => omega
  refine ⟨h1, c, ?_, fun j hj => Nat.testBit_lt_two_pow (Nat.lt_of_lt_of_le a (Nat.pow_le_pow_right (by decide) hj))⟩
  obtain ⟨m, rfl⟩ : ∃ m, n = m + 1 := ⟨n - 1, by omega⟩
  rw [Nat.pow_succ] at a b
  rw [Nat.testBit_eq_decide_div_mod_eq, Nat.add_sub_cancel]
  have : x / 2 ^ m = 1 := by
    apply Nat.div_eq_of_lt_le <;> omega
  simp [this]

set_option maxRecDepth 100000 in
theorem highest_any (p : Int) (x : Nat) (w : World) (hx : x < 18446744073709551616) (hx0 : x ≠ 0) (h1 : -100000 ≤ p) (h2 : p ≤ 100000) :
    Calls Tryd.prog 58 #[.int .i64 p, .int .u64 x] w fun e w' => e = .returned (.int .i64 (p * 64 + (Lib.bitLen x : Nat) - 1)) ∧ w = w' := by
  have hk := (bitLen_spec x hx0 hx).2.1
  have L := len_any' (x : Int) w (by omega) (by omega)
  rw [Int.toNat_natCast] at L
  go_enter Tryd.func58, Tryd.ntmps58
  go_wp2_with (go_at_call 59; with_reducible refine L.mono ?_; rintro e w' ⟨rfl, rfl⟩)
  go_ret
  exact ⟨rfl, rfl⟩
end Go.Proofs.YtegiaonlneamfaaDoor
