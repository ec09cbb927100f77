/- Contracts: strings.Contains, strings.Index and strings.Count at a text of one byte. -/
import Derived.Test.YtkhmocbfkpbpfaaGreatDoorChecked
import Derived.Test.YtkhmocbfkpbpfaaGreatDoorLexg
import Derived.WalkKit
import Derived.Lib.Hide
import Derived.Lib.Bytealg
import Derived.Lib.Walk
namespace Go.Proofs.YtkhmocbfkpbpfaaGreatDoor
open Go.RowKit

/-- Is a byte in a text? -/
def hasC (s : ByteArray) (c : UInt8) : Bool := decide (0 ≤ Lib.indexByte (bl s) c)

set_option maxRecDepth 100000 in
theorem indexByte_one (s : ByteArray) (c : UInt8) (w : World) : Calls Tryz.prog 259 #[.string s, .int .u8 ((c.toNat : Nat) : Int)] w fun e w' => e = .returned (.int .i64 (Lib.indexByte (bl s) c)) ∧ w = w' := by
  go_enter Tryz.func259, Tryz.ntmps259
  go_wp2
  rw [run_callFunc_extern Tryz.func264 (by kernel_rfl) (by kernel_rfl) (by kernel_rfl) (e := Extern.BytealgIndexByte.indexByte) (by kernel_rfl), Lib.run_indexByteString]
  simp only [Result.andThen]
  rw [Oper.upon_value]
  go_wp2
  go_ret
  refine ⟨?_, rfl⟩
  simp [bl]

set_option maxRecDepth 100000 in
theorem count_one (s : ByteArray) (c : UInt8) (w : World) : Calls Tryz.prog 245 #[.string s, .string ⟨#[c]⟩] w fun e w' => e = .returned (.int .i64 (((bl s).count c : Nat) : Int)) ∧ w = w' := by
  go_enter Tryz.func245, Tryz.ntmps245
  go_wp2
  rw [run_callFunc_extern Tryz.func254 (by kernel_rfl) (by kernel_rfl) (by kernel_rfl) (e := Extern.BytealgCount.count) (by kernel_rfl), Lib.run_countString]
  simp only [Result.andThen]
  rw [Oper.upon_value]
  go_wp2
  go_ret
  refine ⟨?_, rfl⟩
  simp [bl, Lib.countByte]
  rfl

set_option maxRecDepth 100000 in
theorem index_one (s : ByteArray) (c : UInt8) (w : World) : Calls Tryz.prog 255 #[.string s, .string ⟨#[c]⟩] w fun e w' => e = .returned (.int .i64 (Lib.indexByte (bl s) c)) ∧ w = w' := by
  have C := Lib.hid (indexByte_one s c w)
  have hb : s.toList = bl s := ByteArray.toList_eq _
  by_cases hs : ([c] == s.toList) = true
  · have e : bl s = [c] := by rw [← hb]; exact (beq_iff_eq.1 hs).symm
    rw [e]
    clear C hb e
    go_enter Tryz.func255, Tryz.ntmps255
    go_wp2
    go_ret
    refine ⟨?_, rfl⟩
    simp [Lib.indexByte]
  · have hs' : ([c] == s.toList) = false := by simpa using hs
    clear hs hb
    go_enter Tryz.func255, Tryz.ntmps255
    go_wp2_with (go_at_call 259; refine C.out.mono ?_; rintro e w' ⟨rfl, rfl⟩)
    go_ret
    exact ⟨rfl, rfl⟩

theorem contains_one (s : ByteArray) (c : UInt8) (w : World) : Calls Tryz.prog 226 #[.string s, .string ⟨#[c]⟩] w fun e w' => e = .returned (.bool (hasC s c)) ∧ w = w' := by
  have C := Lib.hid (index_one s c w)
  have C2 : Hid (∀ W, Calls Tryz.prog 249 #[.string s, .string ⟨#[c]⟩] W fun e w' => e = .returned (.int .i64 (Lib.indexByte (bl s) c)) ∧ W = w') := Lib.hid (fun W => by
    have C := Lib.hid (index_one s c W)
    go_enter Tryz.func249, Tryz.ntmps249
    go_wp2_with (go_at_call 255; refine C.out.mono ?_; rintro e w' ⟨rfl, rfl⟩)
    go_ret
    exact ⟨rfl, rfl⟩)
  unfold hasC
  go_enter Tryz.func226, Tryz.ntmps226
  go_wp2_with (go_at_call 249; refine (C2.out _).mono ?_; rintro e w' ⟨rfl, rfl⟩)
  go_ret
  exact ⟨rfl, rfl⟩
end Go.Proofs.YtkhmocbfkpbpfaaGreatDoor
