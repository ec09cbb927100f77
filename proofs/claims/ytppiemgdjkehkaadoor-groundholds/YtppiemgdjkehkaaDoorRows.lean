/-
  NARROWER THAN 'FOR EVERY INPUT', by the rows' own cells (each row's printed sentence says how): GroundHolds: laid · GroundOrder: laid.
  DERIVED. THE GIVEN ROWS OF THIS SEAT. 2 by the template 'for every input the law returns true; each argument reads behind the call as it read before'; 0 by the template 'total and deterministic' (their statements: YtppiemgdjkehkaaDoorTotals.lean).
  GIVEN WITH THE SEED: the statements are not yours to turn. If you find one false, say at which input.
  Laid BY PROGRAM, IN A SANDBOX (cutbox-rows.mjs): the forced cells as the released guide's own fill.sh prints them over the translation 2b1053eb1003fef5… (all of the seat's roots in one cut). By AI agents, Wed Nov 11 2026. No macro, syntax, notation, axiom, sorry.
-/
import Derived.Test.YtppiemgdjkehkaaDoorChecked
import GoSem.Claim
import GoSem.ClaimJoined
import GoSem.ClaimMapViews
import Derived.JoinedTies
import Derived.KernelRfl
namespace Go.Proofs.YtppiemgdjkehkaaDoor
/- THE CELL 'sum', in the pinned program and in every row, IS THE sha256 OF THE DUMP (.gsa) THAT YtppiemgdjkehkaaDoorProg.lean LOADS. Nothing in Lean hashes anything: it is a label: what it is worth is what the hold of that sum in a sandbox is worth. -/
noncomputable def Tryd.pinned : Pinned := { name := "ytppiemgdjkehkaadoor", sum := "2b1053eb1003fef5e86d2fb47f87c2431dcd3dbf3951a4793e3d710600f5b0a2", checked := Tryd.checked }
namespace Rows
def none {H : Type} : Left H := { results := [], args := [] }

/- WHAT THE LISTED PACKAGE-LEVEL VARIABLES READ AS WHEN THE CALL BEGINS. Each datum BY PROGRAM (the guide's laid-datum.mjs) off the statement by which the dump's own 'gosem.cut.vars' lays the variable. In a bare row this is a premise. The card (YtppiemgdjkehkaaDoorCards.lean) ties it to the program's text. -/
def laid_jigsaw_model_entries {H : Type} : DataW H := .agg [.agg [.lit (.int .i64 1), .lit (.string [108, 105, 110, 95, 101, 113]), .lit (.string [99, 86, 107])], .agg [.lit (.int .i64 2), .lit (.string [108, 105, 110, 95, 108, 101]), .lit (.string [99, 86, 107])], .agg [.lit (.int .i64 3), .lit (.string [108, 105, 110, 95, 110, 101]), .lit (.string [99, 86, 107])], .agg [.lit (.int .i64 4), .lit (.string [108, 105, 110, 95, 114, 101, 105, 102]), .lit (.string [99, 86, 107, 119])], .agg [.lit (.int .i64 5), .lit (.string [116, 105, 109, 101, 115]), .lit (.string [118, 118, 118])], .agg [.lit (.int .i64 6), .lit (.string [100, 105, 118]), .lit (.string [118, 118, 118])], .agg [.lit (.int .i64 7), .lit (.string [109, 111, 100]), .lit (.string [118, 118, 118])], .agg [.lit (.int .i64 8), .lit (.string [97, 98, 115]), .lit (.string [118, 118])], .agg [.lit (.int .i64 9), .lit (.string [109, 105, 110]), .lit (.string [118, 118, 118])], .agg [.lit (.int .i64 10), .lit (.string [109, 97, 120]), .lit (.string [118, 118, 118])], .agg [.lit (.int .i64 11), .lit (.string [101, 108, 101, 109, 101, 110, 116]), .lit (.string [118, 99, 118])], .agg [.lit (.int .i64 12), .lit (.string [99, 108, 97, 117, 115, 101]), .lit (.string [86, 87])], .agg [.lit (.int .i64 13), .lit (.string [101, 113, 95, 114, 101, 105, 102]), .lit (.string [118, 107, 119])], .agg [.lit (.int .i64 14), .lit (.string [108, 101, 95, 114, 101, 105, 102]), .lit (.string [118, 107, 119])], .agg [.lit (.int .i64 15), .lit (.string [101, 113, 95, 105, 109, 112]), .lit (.string [118, 107, 119])], .agg [.lit (.int .i64 16), .lit (.string [108, 101, 95, 105, 109, 112]), .lit (.string [118, 107, 119])], .agg [.lit (.int .i64 17), .lit (.string [97, 108, 108, 95, 100, 105, 102, 102, 101, 114, 101, 110, 116]), .lit (.string [86])], .agg [.lit (.int .i64 18), .lit (.string [116, 97, 98, 108, 101]), .lit (.string [86, 114])], .agg [.lit (.int .i64 19), .lit (.string [99, 117, 109, 117, 108, 97, 116, 105, 118, 101]), .lit (.string [86, 99, 100, 107])], .agg [.lit (.int .i64 20), .lit (.string [99, 105, 114, 99, 117, 105, 116]), .lit (.string [86])], .agg [.lit (.int .i64 21), .lit (.string [103, 99, 99]), .lit (.string [86, 99, 100, 101])], .agg [.lit (.int .i64 22), .lit (.string [108, 101, 120, 95, 108, 101]), .lit (.string [86, 87])], .agg [.lit (.int .i64 23), .lit (.string [105, 110, 118, 101, 114, 115, 101]), .lit (.string [86, 87])]]

/-- 'jigsawlaw09.GroundHolds': WHATEVER THE INPUT: true; the input reads as it did. -/
def groundHoldsSpec : ChangeSpec := { name := "groundHolds", fn := fun _ => fun
  | [d1, d2, d3] => { results := [.lit (.bool true)], args := [d1, d2, d3] }
  | _ => none }
def groundHoldsRow : OpenClaim := { program := "ytppiemgdjkehkaadoor", sum := "2b1053eb1003fef5e86d2fb47f87c2431dcd3dbf3951a4793e3d710600f5b0a2", func := "jigsaw/jigsawlaw09.GroundHolds", spec := "groundHolds", inPlace := ["internal/bytealg.CountString", "internal/bytealg.IndexByteString", "internal/bytealg.IndexString"], unfollowed := true, recurses := true, named := ["jigsaw/model.entries", "internal/bytealg.MaxLen"], apart := false, laid := [("jigsaw/model.entries", laid_jigsaw_model_entries)] }
def GroundHoldsSaid : Prop := groundHoldsRow.holds Tryd.pinned (OpenSpec.ofChange groundHoldsSpec)

/-- ITS FALSE NEIGHBOUR: 'it returns false'. Refute it at one input. -/
def groundHoldsWrong : ChangeSpec := { name := "groundHolds", fn := fun _ => fun
  | [d1, d2, d3] => { results := [.lit (.bool false)], args := [d1, d2, d3] }
  | _ => none }
def GroundHoldsWrongFalsely : Prop := groundHoldsRow.holds Tryd.pinned (OpenSpec.ofChange groundHoldsWrong)

/-- 'jigsawlaw09.GroundOrder': WHATEVER THE INPUT: true; the input reads as it did. -/
def groundOrderSpec : ChangeSpec := { name := "groundOrder", fn := fun _ => fun
  | [d1, d2] => { results := [.lit (.bool true)], args := [d1, d2] }
  | _ => none }
def groundOrderRow : OpenClaim := { program := "ytppiemgdjkehkaadoor", sum := "2b1053eb1003fef5e86d2fb47f87c2431dcd3dbf3951a4793e3d710600f5b0a2", func := "jigsaw/jigsawlaw09.GroundOrder", spec := "groundOrder", inPlace := ["internal/bytealg.CountString", "internal/bytealg.IndexByteString", "internal/bytealg.IndexString"], unfollowed := true, recurses := true, named := ["jigsaw/model.entries", "internal/bytealg.MaxLen"], apart := false, laid := [("jigsaw/model.entries", laid_jigsaw_model_entries)] }
def GroundOrderSaid : Prop := groundOrderRow.holds Tryd.pinned (OpenSpec.ofChange groundOrderSpec)

/-- ITS FALSE NEIGHBOUR: 'it returns false'. Refute it at one input. -/
def groundOrderWrong : ChangeSpec := { name := "groundOrder", fn := fun _ => fun
  | [d1, d2] => { results := [.lit (.bool false)], args := [d1, d2] }
  | _ => none }
def GroundOrderWrongFalsely : Prop := groundOrderRow.holds Tryd.pinned (OpenSpec.ofChange groundOrderWrong)

/- THE SECOND FORM. 'bulk': how many values and letters a reading holds, each counted each time it is reached (what is shared counts as often as it is met; a slice's spare places count too). A statement '..UptoSaid' is the law's where the arguments, and the package variables that the reading takes, are together of bulk at most 1048576: NARROWER than '..Said'. Prove '..Said' where nothing that the law and all that it calls make is longer than what came in: it says more and counts as full. Else prove '..UptoSaid'. A law counts once. -/
mutual
def uptoBulk {H : Type} : DataW H → Nat
  | .lit (.string bytes) => bytes.length + 1
  | .lit _ => 1
  | .nil => 1
  | .ptr d => uptoBulk d + 1
  | .slice elems spare => uptoBulkAll elems + uptoBulkAll spare + 1
  | .agg parts => uptoBulkAll parts + 1
  | .iface _ d => uptoBulk d + 1
  | .map entries => uptoBulkEntries entries + 1
  | .held _ => 1
def uptoBulkAll {H : Type} : List (DataW H) → Nat
  | [] => 0
  | d :: r => uptoBulk d + uptoBulkAll r
def uptoBulkEntries {H : Type} : List (Lit × DataW H) → Nat
  | [] => 0
  | x :: r => uptoBulkEntry x + uptoBulkEntries r
def uptoBulkEntry {H : Type} : Lit × DataW H → Nat
  | (.string bytes, d) => bytes.length + uptoBulk d + 1
  | (_, d) => uptoBulk d + 1
 end
def uptoSmall : (H : Type) → List (DataW H) → Bool := fun _ ds => decide (uptoBulkAll ds ≤ 1048576)
def OpenSpec.upto (s : _root_.Go.ChangeSpec) : _root_.Go.OpenSpec := { _root_.Go.OpenSpec.ofChange s with cond := some uptoSmall }

/-- 'jigsawlaw09.GroundHolds', WHERE WHAT IT READS IS OF BULK AT MOST 1048576: true; the input reads as it did. -/
def groundHoldsUptoRow : OpenClaim := { program := "ytppiemgdjkehkaadoor", sum := "2b1053eb1003fef5e86d2fb47f87c2431dcd3dbf3951a4793e3d710600f5b0a2", func := "jigsaw/jigsawlaw09.GroundHolds", spec := "groundHolds", inPlace := ["internal/bytealg.CountString", "internal/bytealg.IndexByteString", "internal/bytealg.IndexString"], unfollowed := true, recurses := true, named := ["jigsaw/model.entries", "internal/bytealg.MaxLen"], apart := false, laid := [("jigsaw/model.entries", laid_jigsaw_model_entries)], narrowed := true }
def GroundHoldsUptoSaid : Prop := groundHoldsUptoRow.holds Tryd.pinned (OpenSpec.upto groundHoldsSpec)

/-- 'jigsawlaw09.GroundOrder', WHERE WHAT IT READS IS OF BULK AT MOST 1048576: true; the input reads as it did. -/
def groundOrderUptoRow : OpenClaim := { program := "ytppiemgdjkehkaadoor", sum := "2b1053eb1003fef5e86d2fb47f87c2431dcd3dbf3951a4793e3d710600f5b0a2", func := "jigsaw/jigsawlaw09.GroundOrder", spec := "groundOrder", inPlace := ["internal/bytealg.CountString", "internal/bytealg.IndexByteString", "internal/bytealg.IndexString"], unfollowed := true, recurses := true, named := ["jigsaw/model.entries", "internal/bytealg.MaxLen"], apart := false, laid := [("jigsaw/model.entries", laid_jigsaw_model_entries)], narrowed := true }
def GroundOrderUptoSaid : Prop := groundOrderUptoRow.holds Tryd.pinned (OpenSpec.upto groundOrderSpec)

end Rows
end Go.Proofs.YtppiemgdjkehkaaDoor
