/- Contracts: strings.Contains, strings.Index and strings.Count at a text of one byte. -/
import Derived.Test.YtppiemgdjkehkaaDoorChecked
import Derived.Test.YtppiemgdjkehkaaDoorLexr
import Derived.WalkKit
import Derived.Lib.Hide
import Derived.Lib.Bytealg
import Derived.Lib.Walk
namespace Go.Proofs.YtppiemgdjkehkaaDoor
open Go.RowKit

/-- Is a byte in a text? -/
def hasC (s : ByteArray) (c : UInt8) : Bool := decide (0 ≤ Lib.indexByte (bl s) c)

set_option maxRecDepth 100000 in
theorem indexByte_one (s : ByteArray) (c : UInt8) (w : World) : Calls Tryd.prog 96 #[.string s, .int .u8 ((c.toNat : Nat) : Int)] w fun e w' => e = .returned (.int .i64 (Lib.indexByte (bl s) c)) ∧ w = w' := by
  go_enter Tryd.func96, Tryd.ntmps96
  go_wp2
  rw [run_callFunc_extern Tryd.func100 (by kernel_rfl) (by kernel_rfl) (by kernel_rfl) (e := Extern.BytealgIndexByte.indexByte) (by kernel_rfl), Lib.run_indexByteString]
  simp only [Result.andThen]
  rw [Oper.upon_value]
  go_wp2
  go_ret
  refine ⟨?_, rfl⟩
  simp [bl]

set_option maxRecDepth 100000 in
theorem count_one (s : ByteArray) (c : UInt8) (w : World) : Calls Tryd.prog 85 #[.string s, .string ⟨#[c]⟩] w fun e w' => e = .returned (.int .i64 (((bl s).count c : Nat) : Int)) ∧ w = w' := by
  go_enter Tryd.func85, Tryd.ntmps85
  go_wp2
  rw [run_callFunc_extern Tryd.func94 (by kernel_rfl) (by kernel_rfl) (by kernel_rfl) (e := Extern.BytealgCount.count) (by kernel_rfl), Lib.run_countString]
  simp only [Result.andThen]
  rw [Oper.upon_value]
  go_wp2
  go_ret
  refine ⟨?_, rfl⟩
  simp [bl, Lib.countByte]
  rfl

set_option maxRecDepth 100000 in
theorem index_one (s : ByteArray) (c : UInt8) (w : World) : Calls Tryd.prog 95 #[.string s, .string ⟨#[c]⟩] w fun e w' => e = .returned (.int .i64 (Lib.indexByte (bl s) c)) ∧ w = w' := by
  have C := Lib.hid (indexByte_one s c w)
  have hb : s.toList = bl s := ByteArray.toList_eq _
  by_cases hs : ([c] == s.toList) = true
  · have e : bl s = [c] := by rw [← hb]; exact (beq_iff_eq.1 hs).symm
    rw [e]
    clear C hb e
    go_enter Tryd.func95, Tryd.ntmps95
    go_wp2
    go_ret
    refine ⟨?_, rfl⟩
    simp [Lib.indexByte]
  · have hs' : ([c] == s.toList) = false := by simpa using hs
    clear hs hb
    go_enter Tryd.func95, Tryd.ntmps95
    go_wp2_with (go_at_call 96; refine C.out.mono ?_; rintro e w' ⟨rfl, rfl⟩)
    go_ret
    exact ⟨rfl, rfl⟩

theorem contains_one (s : ByteArray) (c : UInt8) (w : World) : Calls Tryd.prog 75 #[.string s, .string ⟨#[c]⟩] w fun e w' => e = .returned (.bool (hasC s c)) ∧ w = w' := by
  have C := Lib.hid (index_one s c w)
  have C2 : Hid (∀ W, Calls Tryd.prog 89 #[.string s, .string ⟨#[c]⟩] W fun e w' => e = .returned (.int .i64 (Lib.indexByte (bl s) c)) ∧ W = w') := Lib.hid (fun W => by
    have C := Lib.hid (index_one s c W)
    go_enter Tryd.func89, Tryd.ntmps89
    go_wp2_with (go_at_call 95; refine C.out.mono ?_; rintro e w' ⟨rfl, rfl⟩)
    go_ret
    exact ⟨rfl, rfl⟩)
  unfold hasC
  go_enter Tryd.func75, Tryd.ntmps75
  go_wp2_with (go_at_call 89; refine (C2.out _).mono ?_; rintro e w' ⟨rfl, rfl⟩)
  go_ret
  exact ⟨rfl, rfl⟩
end Go.Proofs.YtppiemgdjkehkaaDoor
