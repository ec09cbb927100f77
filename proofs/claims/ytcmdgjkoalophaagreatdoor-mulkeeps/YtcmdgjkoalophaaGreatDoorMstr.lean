/- Contracts: strings.Contains, strings.Index and strings.Count at a text of one byte. -/
import Derived.Test.YtcmdgjkoalophaaGreatDoorChecked
import Derived.Test.YtcmdgjkoalophaaGreatDoorLexg
import Derived.WalkKit
import Derived.Lib.Hide
import Derived.Lib.Bytealg
import Derived.Lib.Walk
namespace Go.Proofs.YtcmdgjkoalophaaGreatDoor
open Go.RowKit

/-- Is a byte in a text? -/
def hasC (s : ByteArray) (c : UInt8) : Bool := decide (0 ≤ Lib.indexByte (bl s) c)

set_option maxRecDepth 100000 in
theorem indexByte_one (s : ByteArray) (c : UInt8) (w : World) : Calls Tryz.prog 243 #[.string s, .int .u8 ((c.toNat : Nat) : Int)] w fun e w' => e = .returned (.int .i64 (Lib.indexByte (bl s) c)) ∧ w = w' := by
  go_enter Tryz.func243, Tryz.ntmps243
  go_wp2
  rw [run_callFunc_extern Tryz.func248 (by kernel_rfl) (by kernel_rfl) (by kernel_rfl) (e := Extern.BytealgIndexByte.indexByte) (by kernel_rfl), Lib.run_indexByteString]
  simp only [Result.andThen]
  rw [Oper.upon_value]
  go_wp2
  go_ret
  refine ⟨?_, rfl⟩
  simp [bl]

set_option maxRecDepth 100000 in
theorem count_one (s : ByteArray) (c : UInt8) (w : World) : Calls Tryz.prog 229 #[.string s, .string ⟨#[c]⟩] w fun e w' => e = .returned (.int .i64 (((bl s).count c : Nat) : Int)) ∧ w = w' := by
  go_enter Tryz.func229, Tryz.ntmps229
  go_wp2
  rw [run_callFunc_extern Tryz.func238 (by kernel_rfl) (by kernel_rfl) (by kernel_rfl) (e := Extern.BytealgCount.count) (by kernel_rfl), Lib.run_countString]
  simp only [Result.andThen]
  rw [Oper.upon_value]
  go_wp2
  go_ret
  refine ⟨?_, rfl⟩
  simp [bl, Lib.countByte]
  rfl

set_option maxRecDepth 100000 in
theorem index_one (s : ByteArray) (c : UInt8) (w : World) : Calls Tryz.prog 239 #[.string s, .string ⟨#[c]⟩] w fun e w' => e = .returned (.int .i64 (Lib.indexByte (bl s) c)) ∧ w = w' := by
  have C := Lib.hid (indexByte_one s c w)
  have hb : s.toList = bl s := ByteArray.toList_eq _
  by_cases hs : ([c] == s.toList) = true
  · have e : bl s = [c] := by rw [← hb]; exact (beq_iff_eq.1 hs).symm
    rw [e]
    clear C hb e
    go_enter Tryz.func239, Tryz.ntmps239
    go_wp2
    go_ret
    refine ⟨?_, rfl⟩
    simp [Lib.indexByte]
  · have hs' : ([c] == s.toList) = false := by simpa using hs
    clear hs hb
    go_enter Tryz.func239, Tryz.ntmps239
    go_wp2_with (go_at_call 243; refine C.out.mono ?_; rintro e w' ⟨rfl, rfl⟩)
    go_ret
    exact ⟨rfl, rfl⟩

theorem contains_one (s : ByteArray) (c : UInt8) (w : World) : Calls Tryz.prog 210 #[.string s, .string ⟨#[c]⟩] w fun e w' => e = .returned (.bool (hasC s c)) ∧ w = w' := by
  have C := Lib.hid (index_one s c w)
  have C2 : Hid (∀ W, Calls Tryz.prog 233 #[.string s, .string ⟨#[c]⟩] W fun e w' => e = .returned (.int .i64 (Lib.indexByte (bl s) c)) ∧ W = w') := Lib.hid (fun W => by
    have C := Lib.hid (index_one s c W)
    go_enter Tryz.func233, Tryz.ntmps233
    go_wp2_with (go_at_call 239; refine C.out.mono ?_; rintro e w' ⟨rfl, rfl⟩)
    go_ret
    exact ⟨rfl, rfl⟩)
  unfold hasC
  go_enter Tryz.func210, Tryz.ntmps210
  go_wp2_with (go_at_call 233; refine (C2.out _).mono ?_; rintro e w' ⟨rfl, rfl⟩)
  go_ret
  exact ⟨rfl, rfl⟩
end Go.Proofs.YtcmdgjkoalophaaGreatDoor
