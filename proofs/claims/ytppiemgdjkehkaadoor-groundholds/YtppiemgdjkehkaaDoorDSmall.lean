/- Contracts of dom's functions on single words: the place of a number's word, its bit, the masks, the bits' number, the lowest and the highest one. No condition but the words' width (and that the table of math/bits is laid as its text says). -/
import Derived.Test.YtppiemgdjkehkaaDoorProg
import Derived.Test.YtppiemgdjkehkaaDoorDSets
import Derived.WalkKit
import Derived.ProofKit
import Derived.Laws.BitsAllLaws
import Derived.Laws.Bits128
import Derived.Laws.Bits64b
namespace Go.Proofs.YtppiemgdjkehkaaDoor
open Go.RowKit

theorem and63 (v : Int) : bits BinOp.and IntKind.u64 (IntKind.u64.wrap v) 63 = v % 64 := by
  rw [IntKind.wrap_u64]
  obtain ⟨n, hn⟩ := Int.eq_ofNat_of_zero_le (show 0 ≤ v % 18446744073709551616 by omega)
  rw [hn]
  have h : n < 18446744073709551616 := by omega
  have e := u64_and_nat n 63 h (by decide)
  rw [show ((63 : Nat) : Int) = 63 from rfl] at e
  rw [e, Nat.and_two_pow_sub_one_eq_mod n 6]
  omega

/-- The word of one bit. -/
def bitN (v : Int) : Nat := 2 ^ (v % 64).toNat
theorem pow_lt64 (k : Nat) (h : k < 64) : 2 ^ k < 18446744073709551616 := by
  have : (2 : Nat) ^ k < 2 ^ 64 := Nat.pow_lt_pow_right (by decide) h
  exact this

theorem bitN_lt (v : Int) : bitN v < 18446744073709551616 := pow_lt64 _ (by omega)
theorem bitN_bit (v : Int) (j : Nat) : (bitN v).testBit j = decide ((v % 64).toNat = j) := by
  unfold bitN; rw [Nat.testBit_two_pow]

theorem u_wrap (a : Nat) (h : a < 18446744073709551616) : IntKind.u64.wrap (a : Int) = a := by rw [IntKind.wrap_u64]; omega

theorem and_lit (a m : Nat) (ha : a < 18446744073709551616) (hm : m < 18446744073709551616) : bits BinOp.and IntKind.u64 (a : Int) (m : Int) = ((a &&& m : Nat) : Int) := u64_and_nat a m ha hm

end Go.Proofs.YtppiemgdjkehkaaDoor
