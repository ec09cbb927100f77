/- Contracts: what a rune is; a run of runes that are all of one sort; gaps. -/
import Derived.Test.YtppiemgdjkehkaaDoorChecked
import Derived.Test.YtppiemgdjkehkaaDoorLexg
import Derived.WalkKit
import Derived.Lib.Hide
import Derived.Lib.OthersKept
import Derived.Deep.LoopGhost
namespace Go.Proofs.YtppiemgdjkehkaaDoor
open Go.RowKit

/-- A rune as it is handed on. -/
abbrev rn (n : Nat) : Value := .int .i32 (n : Int)

theorem ret_bool {a b : Bool} (h : a = b) : Ending.returned (Value.bool a) = Ending.returned (Value.bool b) := by rw [h]

theorem int_eq {a b : Int} (h : a = b) : Ending.returned (Value.int .i64 a) = Ending.returned (Value.int .i64 b) := by rw [h]

end Go.Proofs.YtppiemgdjkehkaaDoor
