/- Contracts of dom's functions on single words: the place of a number's word, its bit, the masks, the bits' number, the lowest and the highest one. No condition but the words' width (and that the table of math/bits is laid as its text says). -/
import Derived.Test.YtkhmocbfkpbpfaaGreatDoorProg
import Derived.Test.YtkhmocbfkpbpfaaGreatDoorDSets
import Derived.WalkKit
import Derived.ProofKit
import Derived.Laws.BitsAllLaws
import Derived.Laws.Bits128
import Derived.Laws.Bits64b
namespace Go.Proofs.YtkhmocbfkpbpfaaGreatDoor
open Go.RowKit

theorem and63 (v : Int) : bits BinOp.and IntKind.u64 (IntKind.u64.wrap v) 63 = v % 64 := by
  rw [IntKind.wrap_u64]
  obtain ⟨n, hn⟩ := Int.eq_ofNat_of_zero_le (show 0 ≤ v % 18446744073709551616 by omega)
  rw [hn]
  have h : n < 18446744073709551616 := by omega
  have e := u64_and_nat n 63 h (by decide)
  rw [show ((63 : Nat) : Int) = 63 from rfl] at e
  rw [e, Nat.and_two_pow_sub_one_eq_mod n 6]
  omega

/-- The word of one bit. -/
def bitN (v : Int) : Nat := 2 ^ (v % 64).toNat
theorem pow_lt64 (k : Nat) (h : k < 64) : 2 ^ k < 18446744073709551616 := by
  have : (2 : Nat) ^ k < 2 ^ 64 := Nat.pow_lt_pow_right (by decide) h
  exact this

theorem bitN_lt (v : Int) : bitN v < 18446744073709551616 := pow_lt64 _ (by omega)
theorem bitN_bit (v : Int) (j : Nat) : (bitN v).testBit j = decide ((v % 64).toNat = j) := by
  unfold bitN; rw [Nat.testBit_two_pow]

theorem u_wrap (a : Nat) (h : a < 18446744073709551616) : IntKind.u64.wrap (a : Int) = a := by rw [IntKind.wrap_u64]; omega

theorem place_any (v : Int) (w : World) :
    Calls Tryz.prog 70 #[.int .i64 v] w fun e w' => e = .returned (.int .i64 (v / 64)) ∧ w = w' := by
  go_enter Tryz.func70, Tryz.ntmps70
  go_wp2
  go_ret
  exact ⟨rfl, rfl⟩

theorem bit_any (v : Int) (w : World) :
    Calls Tryz.prog 71 #[.int .i64 v] w fun e w' => e = .returned (.int .u64 (bitN v : Nat)) ∧ w = w' := by
  have h := and63 v
  have h1 : 0 ≤ v % 64 := by omega
  have h2 : v % 64 < 64 := by omega
  have hn : IntKind.u64.wrap (2 ^ (v % 64).toNat) = ((bitN v : Nat) : Int) := by
    have h3 := u_wrap (bitN v) (bitN_lt v)
    rw [← h3]
    unfold bitN
    simp
  go_enter Tryz.func71, Tryz.ntmps71
  go_wp2
  go_ret
  exact ⟨rfl, rfl⟩

theorem and_lit (a m : Nat) (ha : a < 18446744073709551616) (hm : m < 18446744073709551616) : bits BinOp.and IntKind.u64 (a : Int) (m : Int) = ((a &&& m : Nat) : Int) := u64_and_nat a m ha hm

set_option maxRecDepth 100000 in
theorem ones_any (x : Nat) (w : World) (hx : x < 18446744073709551616) :
    Calls Tryz.prog 123 #[.int .u64 x] w fun e w' => e = .returned (.int .i64 (ones x : Nat)) ∧ w = w' := by
  obtain ⟨p, q, r, a, b, c, h1, h2, h3, h4, h5, h6, lp, lq', lq, lr, la, lb, lc, hf⟩ := ones_steps x
  have k1 : IntKind.u64.wrap (bits BinOp.and IntKind.u64 ((x : Int) / 2) 6148914691236517205 + bits BinOp.and IntKind.u64 (x : Int) 6148914691236517205) = (p : Int) := by
    have e1 := and_lit (x / 2) 6148914691236517205 (by omega) (by decide)
    have e2 := and_lit x 6148914691236517205 hx (by decide)
    rw [show ((x / 2 : Nat) : Int) = (x : Int) / 2 by omega, show ((6148914691236517205 : Nat) : Int) = 6148914691236517205 from rfl] at e1
    rw [show ((6148914691236517205 : Nat) : Int) = 6148914691236517205 from rfl] at e2
    rw [e1, e2, ← Int.natCast_add, h1]
    exact u_wrap p lp
  have k2 : IntKind.u64.wrap (bits BinOp.and IntKind.u64 ((p : Int) / 4) 3689348814741910323 + bits BinOp.and IntKind.u64 (p : Int) 3689348814741910323) = (q : Int) := by
    have e1 := and_lit (p / 4) 3689348814741910323 (by omega) (by decide)
    have e2 := and_lit p 3689348814741910323 lp (by decide)
    rw [show ((p / 4 : Nat) : Int) = (p : Int) / 4 by omega, show ((3689348814741910323 : Nat) : Int) = 3689348814741910323 from rfl] at e1
    rw [show ((3689348814741910323 : Nat) : Int) = 3689348814741910323 from rfl] at e2
    rw [e1, e2, ← Int.natCast_add, h2]
    exact u_wrap q lq
  have k3 : bits BinOp.and IntKind.u64 (IntKind.u64.wrap ((q : Int) / 16 + (q : Int))) 1085102592571150095 = (r : Int) := by
    have e0 := u_wrap (q / 16 + q) lq'
    rw [show ((q / 16 + q : Nat) : Int) = (q : Int) / 16 + (q : Int) by omega] at e0
    rw [e0]
    have e1 := and_lit (q / 16 + q) 1085102592571150095 lq' (by decide)
    rw [show ((q / 16 + q : Nat) : Int) = (q : Int) / 16 + (q : Int) by omega, show ((1085102592571150095 : Nat) : Int) = 1085102592571150095 from rfl] at e1
    rw [e1, h3]
  have k4 : IntKind.u64.wrap ((r : Int) + (r : Int) / 256) = (a : Int) := by rw [IntKind.wrap_u64]; omega
  have k5 : IntKind.u64.wrap ((a : Int) + (a : Int) / 65536) = (b : Int) := by rw [IntKind.wrap_u64]; omega
  have k6 : IntKind.u64.wrap ((b : Int) + (b : Int) / 4294967296) = (c : Int) := by rw [IntKind.wrap_u64]; omega
  have k7 : IntKind.i64.wrap (c : Int) = (c : Int) := by rw [IntKind.wrap_i64]; omega
  have k8 : bits BinOp.and IntKind.i64 (c : Int) 127 = ((ones x : Nat) : Int) := by rw [i64_and127]; omega
  clear h1 h2 h3 h4 h5 h6 lp lq' lq lr la lb lc hf hx
  go_enter Tryz.func123, Tryz.ntmps123
  go_wp2
  go_ret
  exact ⟨rfl, rfl⟩

end Go.Proofs.YtkhmocbfkpbpfaaGreatDoor
