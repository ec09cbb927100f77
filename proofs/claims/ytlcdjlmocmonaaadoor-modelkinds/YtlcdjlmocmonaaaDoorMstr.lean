/- Contracts: strings.Contains, strings.Index and strings.Count at a text of one byte. -/
import Derived.Test.YtlcdjlmocmonaaaDoorChecked
import Derived.Test.YtlcdjlmocmonaaaDoorLexr
import Derived.WalkKit
import Derived.Lib.Hide
import Derived.Lib.Bytealg
import Derived.Lib.Walk
namespace Go.Proofs.YtlcdjlmocmonaaaDoor
open Go.RowKit

/-- Is a byte in a text? -/
def hasC (s : ByteArray) (c : UInt8) : Bool := decide (0 ≤ Lib.indexByte (bl s) c)

theorem indexByte_one (s : ByteArray) (c : UInt8) (w : World) : Calls Tryd.prog 78 #[.string s, .int .u8 ((c.toNat : Nat) : Int)] w fun e w' => e = .returned (.int .i64 (Lib.indexByte (bl s) c)) ∧ w = w' := by
  go_enter Tryd.func78, Tryd.ntmps78
  go_wp2
  rw [run_callFunc_extern Tryd.func83 (by kernel_rfl) (by kernel_rfl) (by kernel_rfl) (e := Extern.BytealgIndexByte.indexByte) (by kernel_rfl), Lib.run_indexByteString]
  simp only [Result.andThen]
  rw [Oper.upon_value]
  go_wp2
  go_ret
  refine ⟨?_, rfl⟩
  simp [bl]

theorem count_one (s : ByteArray) (c : UInt8) (w : World) : Calls Tryd.prog 53 #[.string s, .string ⟨#[c]⟩] w fun e w' => e = .returned (.int .i64 (((bl s).count c : Nat) : Int)) ∧ w = w' := by
  go_enter Tryd.func53, Tryd.ntmps53
  go_wp2
  rw [run_callFunc_extern Tryd.func71 (by kernel_rfl) (by kernel_rfl) (by kernel_rfl) (e := Extern.BytealgCount.count) (by kernel_rfl), Lib.run_countString]
  simp only [Result.andThen]
  rw [Oper.upon_value]
  go_wp2
  go_ret
  refine ⟨?_, rfl⟩
  simp [bl, Lib.countByte]
  rfl

set_option maxRecDepth 100000 in
theorem index_one (s : ByteArray) (c : UInt8) (w : World) : Calls Tryd.prog 73 #[.string s, .string ⟨#[c]⟩] w fun e w' => e = .returned (.int .i64 (Lib.indexByte (bl s) c)) ∧ w = w' := by
  have C := Lib.hid (indexByte_one s c w)
  have hb : s.toList = bl s := ByteArray.toList_eq _
  by_cases hs : ([c] == s.toList) = true
  · have e : bl s = [c] := by rw [← hb]; exact (beq_iff_eq.1 hs).symm
    rw [e]
    clear C hb e
    go_enter Tryd.func73, Tryd.ntmps73
    go_wp2
    go_ret
    refine ⟨?_, rfl⟩
    simp [Lib.indexByte]
  · have hs' : ([c] == s.toList) = false := by simpa using hs
    clear hs hb
    go_enter Tryd.func73, Tryd.ntmps73
    go_wp2_with (go_at_call 78; refine C.out.mono ?_; rintro e w' ⟨rfl, rfl⟩)
    go_ret
    exact ⟨rfl, rfl⟩

theorem contains_one (s : ByteArray) (c : UInt8) (w : World) : Calls Tryd.prog 42 #[.string s, .string ⟨#[c]⟩] w fun e w' => e = .returned (.bool (hasC s c)) ∧ w = w' := by
  have C := Lib.hid (index_one s c w)
  have C2 : Hid (∀ W, Calls Tryd.prog 58 #[.string s, .string ⟨#[c]⟩] W fun e w' => e = .returned (.int .i64 (Lib.indexByte (bl s) c)) ∧ W = w') := Lib.hid (fun W => by
    have C := Lib.hid (index_one s c W)
    go_enter Tryd.func58, Tryd.ntmps58
    go_wp2_with (go_at_call 73; refine C.out.mono ?_; rintro e w' ⟨rfl, rfl⟩)
    go_ret
    exact ⟨rfl, rfl⟩)
  unfold hasC
  go_enter Tryd.func42, Tryd.ntmps42
  go_wp2_with (go_at_call 58; refine (C2.out _).mono ?_; rintro e w' ⟨rfl, rfl⟩)
  go_ret
  exact ⟨rfl, rfl⟩
end Go.Proofs.YtlcdjlmocmonaaaDoor
