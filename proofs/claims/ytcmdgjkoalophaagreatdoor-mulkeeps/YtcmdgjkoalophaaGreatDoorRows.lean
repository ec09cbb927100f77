/-
  NARROWER THAN 'FOR EVERY INPUT', by the rows' own cells (each row's printed sentence says how): GroundSolves: laid · GroundTurns: laid · LinFilters: laid · LinWide: laid · LinRefuses: laid · LinKeeps: laid · LinFixed: laid · MulFilters: laid · MulRefuses: laid · MulKeeps: laid · MulFixed: laid · MulWide: laid.
  DERIVED. THE GIVEN ROWS OF THIS SEAT. 12 by the template 'for every input the law returns true; each argument reads behind the call as it read before'; 0 by the template 'total and deterministic' (their statements: YtcmdgjkoalophaaGreatDoorTotals.lean).
  GIVEN WITH THE SEED: the statements are not yours to turn. If you find one false, say at which input.
  Laid BY PROGRAM, IN A SANDBOX (cutbox-rows.mjs): the forced cells as the released guide's own fill.sh prints them over the translation 362dc7e3d451e849… (all of the seat's roots in one cut). By AI agents, Wed Nov 11 2026. No macro, syntax, notation, axiom, sorry.
-/
import Derived.Test.YtcmdgjkoalophaaGreatDoorChecked
import GoSem.Claim
import GoSem.ClaimJoined
import GoSem.ClaimMapViews
import Derived.JoinedTies
import Derived.KernelRfl
namespace Go.Proofs.YtcmdgjkoalophaaGreatDoor
/- THE CELL 'sum', in the pinned program and in every row, IS THE sha256 OF THE DUMP (.gsa) THAT YtcmdgjkoalophaaGreatDoorProg.lean LOADS. Nothing in Lean hashes anything: it is a label: what it is worth is what the hold of that sum in a sandbox is worth. -/
noncomputable def Tryz.pinned : Pinned := { name := "ytcmdgjkoalophaagreatdoor", sum := "362dc7e3d451e849624bde3b75b3c38a1905cf7fb276830f770512d08e320a25", checked := Tryz.checked }
namespace Rows
def none {H : Type} : Left H := { results := [], args := [] }

/- WHAT THE LISTED PACKAGE-LEVEL VARIABLES READ AS WHEN THE CALL BEGINS. Each datum BY PROGRAM (the guide's laid-datum.mjs) off the statement by which the dump's own 'gosem.cut.vars' lays the variable. In a bare row this is a premise. The card (YtcmdgjkoalophaaGreatDoorCards.lean) ties it to the program's text. -/
def laid_jigsaw_model_entries {H : Type} : DataW H := .agg [.agg [.lit (.int .i64 1), .lit (.string [108, 105, 110, 95, 101, 113]), .lit (.string [99, 86, 107])], .agg [.lit (.int .i64 2), .lit (.string [108, 105, 110, 95, 108, 101]), .lit (.string [99, 86, 107])], .agg [.lit (.int .i64 3), .lit (.string [108, 105, 110, 95, 110, 101]), .lit (.string [99, 86, 107])], .agg [.lit (.int .i64 4), .lit (.string [108, 105, 110, 95, 114, 101, 105, 102]), .lit (.string [99, 86, 107, 119])], .agg [.lit (.int .i64 5), .lit (.string [116, 105, 109, 101, 115]), .lit (.string [118, 118, 118])], .agg [.lit (.int .i64 6), .lit (.string [100, 105, 118]), .lit (.string [118, 118, 118])], .agg [.lit (.int .i64 7), .lit (.string [109, 111, 100]), .lit (.string [118, 118, 118])], .agg [.lit (.int .i64 8), .lit (.string [97, 98, 115]), .lit (.string [118, 118])], .agg [.lit (.int .i64 9), .lit (.string [109, 105, 110]), .lit (.string [118, 118, 118])], .agg [.lit (.int .i64 10), .lit (.string [109, 97, 120]), .lit (.string [118, 118, 118])], .agg [.lit (.int .i64 11), .lit (.string [101, 108, 101, 109, 101, 110, 116]), .lit (.string [118, 99, 118])], .agg [.lit (.int .i64 12), .lit (.string [99, 108, 97, 117, 115, 101]), .lit (.string [86, 87])], .agg [.lit (.int .i64 13), .lit (.string [101, 113, 95, 114, 101, 105, 102]), .lit (.string [118, 107, 119])], .agg [.lit (.int .i64 14), .lit (.string [108, 101, 95, 114, 101, 105, 102]), .lit (.string [118, 107, 119])], .agg [.lit (.int .i64 15), .lit (.string [101, 113, 95, 105, 109, 112]), .lit (.string [118, 107, 119])], .agg [.lit (.int .i64 16), .lit (.string [108, 101, 95, 105, 109, 112]), .lit (.string [118, 107, 119])], .agg [.lit (.int .i64 17), .lit (.string [97, 108, 108, 95, 100, 105, 102, 102, 101, 114, 101, 110, 116]), .lit (.string [86])], .agg [.lit (.int .i64 18), .lit (.string [116, 97, 98, 108, 101]), .lit (.string [86, 114])], .agg [.lit (.int .i64 19), .lit (.string [99, 117, 109, 117, 108, 97, 116, 105, 118, 101]), .lit (.string [86, 99, 100, 107])], .agg [.lit (.int .i64 20), .lit (.string [99, 105, 114, 99, 117, 105, 116]), .lit (.string [86])], .agg [.lit (.int .i64 21), .lit (.string [103, 99, 99]), .lit (.string [86, 99, 100, 101])], .agg [.lit (.int .i64 22), .lit (.string [108, 101, 120, 95, 108, 101]), .lit (.string [86, 87])], .agg [.lit (.int .i64 23), .lit (.string [105, 110, 118, 101, 114, 115, 101]), .lit (.string [86, 87])]]
def laid_math_bits_deBruijn64tab {H : Type} : DataW H := .agg [.lit (.int .u8 0), .lit (.int .u8 1), .lit (.int .u8 56), .lit (.int .u8 2), .lit (.int .u8 57), .lit (.int .u8 49), .lit (.int .u8 28), .lit (.int .u8 3), .lit (.int .u8 61), .lit (.int .u8 58), .lit (.int .u8 42), .lit (.int .u8 50), .lit (.int .u8 38), .lit (.int .u8 29), .lit (.int .u8 17), .lit (.int .u8 4), .lit (.int .u8 62), .lit (.int .u8 47), .lit (.int .u8 59), .lit (.int .u8 36), .lit (.int .u8 45), .lit (.int .u8 43), .lit (.int .u8 51), .lit (.int .u8 22), .lit (.int .u8 53), .lit (.int .u8 39), .lit (.int .u8 33), .lit (.int .u8 30), .lit (.int .u8 24), .lit (.int .u8 18), .lit (.int .u8 12), .lit (.int .u8 5), .lit (.int .u8 63), .lit (.int .u8 55), .lit (.int .u8 48), .lit (.int .u8 27), .lit (.int .u8 60), .lit (.int .u8 41), .lit (.int .u8 37), .lit (.int .u8 16), .lit (.int .u8 46), .lit (.int .u8 35), .lit (.int .u8 44), .lit (.int .u8 21), .lit (.int .u8 52), .lit (.int .u8 32), .lit (.int .u8 23), .lit (.int .u8 11), .lit (.int .u8 54), .lit (.int .u8 26), .lit (.int .u8 40), .lit (.int .u8 15), .lit (.int .u8 34), .lit (.int .u8 20), .lit (.int .u8 31), .lit (.int .u8 10), .lit (.int .u8 25), .lit (.int .u8 14), .lit (.int .u8 19), .lit (.int .u8 9), .lit (.int .u8 13), .lit (.int .u8 8), .lit (.int .u8 7), .lit (.int .u8 6)]

/-- 'jigsawlaw09.GroundSolves': WHATEVER THE INPUT: true; the input reads as it did. -/
def groundSolvesSpec : ChangeSpec := { name := "groundSolves", fn := fun _ => fun
  | [d1, d2, d3] => { results := [.lit (.bool true)], args := [d1, d2, d3] }
  | _ => none }
def groundSolvesRow : OpenClaim := { program := "ytcmdgjkoalophaagreatdoor", sum := "362dc7e3d451e849624bde3b75b3c38a1905cf7fb276830f770512d08e320a25", func := "jigsaw/jigsawlaw09.GroundSolves", spec := "groundSolves", inPlace := ["internal/bytealg.CountString", "internal/bytealg.IndexByteString", "internal/bytealg.IndexString"], unfollowed := true, recurses := true, named := ["jigsaw/model.entries", "internal/bytealg.MaxLen"], apart := false, laid := [("jigsaw/model.entries", laid_jigsaw_model_entries)] }
def GroundSolvesSaid : Prop := groundSolvesRow.holds Tryz.pinned (OpenSpec.ofChange groundSolvesSpec)

/-- ITS FALSE NEIGHBOUR: 'it returns false'. Refute it at one input. -/
def groundSolvesWrong : ChangeSpec := { name := "groundSolves", fn := fun _ => fun
  | [d1, d2, d3] => { results := [.lit (.bool false)], args := [d1, d2, d3] }
  | _ => none }
def GroundSolvesWrongFalsely : Prop := groundSolvesRow.holds Tryz.pinned (OpenSpec.ofChange groundSolvesWrong)

/-- 'jigsawlaw09.GroundTurns': WHATEVER THE INPUT: true; the input reads as it did. -/
def groundTurnsSpec : ChangeSpec := { name := "groundTurns", fn := fun _ => fun
  | [d1, d2] => { results := [.lit (.bool true)], args := [d1, d2] }
  | _ => none }
def groundTurnsRow : OpenClaim := { program := "ytcmdgjkoalophaagreatdoor", sum := "362dc7e3d451e849624bde3b75b3c38a1905cf7fb276830f770512d08e320a25", func := "jigsaw/jigsawlaw09.GroundTurns", spec := "groundTurns", inPlace := ["internal/bytealg.CountString", "internal/bytealg.IndexByteString", "internal/bytealg.IndexString"], unfollowed := true, recurses := true, named := ["jigsaw/model.entries", "internal/bytealg.MaxLen"], apart := false, laid := [("jigsaw/model.entries", laid_jigsaw_model_entries)] }
def GroundTurnsSaid : Prop := groundTurnsRow.holds Tryz.pinned (OpenSpec.ofChange groundTurnsSpec)

/-- ITS FALSE NEIGHBOUR: 'it returns false'. Refute it at one input. -/
def groundTurnsWrong : ChangeSpec := { name := "groundTurns", fn := fun _ => fun
  | [d1, d2] => { results := [.lit (.bool false)], args := [d1, d2] }
  | _ => none }
def GroundTurnsWrongFalsely : Prop := groundTurnsRow.holds Tryz.pinned (OpenSpec.ofChange groundTurnsWrong)

/-- 'jigsawlaw10.LinFilters': WHATEVER THE INPUT: true; the input reads as it did. -/
def linFiltersSpec : ChangeSpec := { name := "linFilters", fn := fun _ => fun
  | [d1, d2] => { results := [.lit (.bool true)], args := [d1, d2] }
  | _ => none }
def linFiltersRow : OpenClaim := { program := "ytcmdgjkoalophaagreatdoor", sum := "362dc7e3d451e849624bde3b75b3c38a1905cf7fb276830f770512d08e320a25", func := "jigsaw/jigsawlaw10.LinFilters", spec := "linFilters", inPlace := ["internal/bytealg.CountString", "internal/bytealg.IndexByteString", "internal/bytealg.IndexString"], unfollowed := true, recurses := true, named := ["jigsaw/model.entries", "internal/bytealg.MaxLen", "math/bits.deBruijn64tab"], apart := false, laid := [("math/bits.deBruijn64tab", laid_math_bits_deBruijn64tab), ("jigsaw/model.entries", laid_jigsaw_model_entries)] }
def LinFiltersSaid : Prop := linFiltersRow.holds Tryz.pinned (OpenSpec.ofChange linFiltersSpec)

/-- ITS FALSE NEIGHBOUR: 'it returns false'. Refute it at one input. -/
def linFiltersWrong : ChangeSpec := { name := "linFilters", fn := fun _ => fun
  | [d1, d2] => { results := [.lit (.bool false)], args := [d1, d2] }
  | _ => none }
def LinFiltersWrongFalsely : Prop := linFiltersRow.holds Tryz.pinned (OpenSpec.ofChange linFiltersWrong)

/-- 'jigsawlaw10.LinWide': WHATEVER THE INPUT: true; the input reads as it did. -/
def linWideSpec : ChangeSpec := { name := "linWide", fn := fun _ => fun
  | [d] => { results := [.lit (.bool true)], args := [d] }
  | _ => none }
def linWideRow : OpenClaim := { program := "ytcmdgjkoalophaagreatdoor", sum := "362dc7e3d451e849624bde3b75b3c38a1905cf7fb276830f770512d08e320a25", func := "jigsaw/jigsawlaw10.LinWide", spec := "linWide", inPlace := ["internal/bytealg.CountString", "internal/bytealg.IndexByteString", "internal/bytealg.IndexString"], unfollowed := true, recurses := true, named := ["jigsaw/model.entries", "internal/bytealg.MaxLen", "math/bits.deBruijn64tab"], apart := false, laid := [("math/bits.deBruijn64tab", laid_math_bits_deBruijn64tab), ("jigsaw/model.entries", laid_jigsaw_model_entries)] }
def LinWideSaid : Prop := linWideRow.holds Tryz.pinned (OpenSpec.ofChange linWideSpec)

/-- ITS FALSE NEIGHBOUR: 'it returns false'. Refute it at one input. -/
def linWideWrong : ChangeSpec := { name := "linWide", fn := fun _ => fun
  | [d] => { results := [.lit (.bool false)], args := [d] }
  | _ => none }
def LinWideWrongFalsely : Prop := linWideRow.holds Tryz.pinned (OpenSpec.ofChange linWideWrong)

/-- 'jigsawlaw10.LinRefuses': WHATEVER THE INPUT: true; the input reads as it did. -/
def linRefusesSpec : ChangeSpec := { name := "linRefuses", fn := fun _ => fun
  | [d1, d2, d3] => { results := [.lit (.bool true)], args := [d1, d2, d3] }
  | _ => none }
def linRefusesRow : OpenClaim := { program := "ytcmdgjkoalophaagreatdoor", sum := "362dc7e3d451e849624bde3b75b3c38a1905cf7fb276830f770512d08e320a25", func := "jigsaw/jigsawlaw10.LinRefuses", spec := "linRefuses", inPlace := ["internal/bytealg.CountString", "internal/bytealg.IndexByteString", "internal/bytealg.IndexString"], unfollowed := true, recurses := true, named := ["jigsaw/model.entries", "internal/bytealg.MaxLen", "math/bits.deBruijn64tab"], apart := false, laid := [("math/bits.deBruijn64tab", laid_math_bits_deBruijn64tab), ("jigsaw/model.entries", laid_jigsaw_model_entries)] }
def LinRefusesSaid : Prop := linRefusesRow.holds Tryz.pinned (OpenSpec.ofChange linRefusesSpec)

/-- ITS FALSE NEIGHBOUR: 'it returns false'. Refute it at one input. -/
def linRefusesWrong : ChangeSpec := { name := "linRefuses", fn := fun _ => fun
  | [d1, d2, d3] => { results := [.lit (.bool false)], args := [d1, d2, d3] }
  | _ => none }
def LinRefusesWrongFalsely : Prop := linRefusesRow.holds Tryz.pinned (OpenSpec.ofChange linRefusesWrong)

/-- 'jigsawlaw10.LinKeeps': WHATEVER THE INPUT: true; the input reads as it did. -/
def linKeepsSpec : ChangeSpec := { name := "linKeeps", fn := fun _ => fun
  | [d1, d2] => { results := [.lit (.bool true)], args := [d1, d2] }
  | _ => none }
def linKeepsRow : OpenClaim := { program := "ytcmdgjkoalophaagreatdoor", sum := "362dc7e3d451e849624bde3b75b3c38a1905cf7fb276830f770512d08e320a25", func := "jigsaw/jigsawlaw10.LinKeeps", spec := "linKeeps", inPlace := ["internal/bytealg.CountString", "internal/bytealg.IndexByteString", "internal/bytealg.IndexString"], unfollowed := true, recurses := true, named := ["jigsaw/model.entries", "internal/bytealg.MaxLen", "math/bits.deBruijn64tab"], apart := false, laid := [("math/bits.deBruijn64tab", laid_math_bits_deBruijn64tab), ("jigsaw/model.entries", laid_jigsaw_model_entries)] }
def LinKeepsSaid : Prop := linKeepsRow.holds Tryz.pinned (OpenSpec.ofChange linKeepsSpec)

/-- ITS FALSE NEIGHBOUR: 'it returns false'. Refute it at one input. -/
def linKeepsWrong : ChangeSpec := { name := "linKeeps", fn := fun _ => fun
  | [d1, d2] => { results := [.lit (.bool false)], args := [d1, d2] }
  | _ => none }
def LinKeepsWrongFalsely : Prop := linKeepsRow.holds Tryz.pinned (OpenSpec.ofChange linKeepsWrong)

/-- 'jigsawlaw10.LinFixed': WHATEVER THE INPUT: true; the input reads as it did. -/
def linFixedSpec : ChangeSpec := { name := "linFixed", fn := fun _ => fun
  | [d1, d2, d3] => { results := [.lit (.bool true)], args := [d1, d2, d3] }
  | _ => none }
def linFixedRow : OpenClaim := { program := "ytcmdgjkoalophaagreatdoor", sum := "362dc7e3d451e849624bde3b75b3c38a1905cf7fb276830f770512d08e320a25", func := "jigsaw/jigsawlaw10.LinFixed", spec := "linFixed", inPlace := ["internal/bytealg.CountString", "internal/bytealg.IndexByteString", "internal/bytealg.IndexString"], unfollowed := true, recurses := true, named := ["jigsaw/model.entries", "internal/bytealg.MaxLen", "math/bits.deBruijn64tab"], apart := false, laid := [("math/bits.deBruijn64tab", laid_math_bits_deBruijn64tab), ("jigsaw/model.entries", laid_jigsaw_model_entries)] }
def LinFixedSaid : Prop := linFixedRow.holds Tryz.pinned (OpenSpec.ofChange linFixedSpec)

/-- ITS FALSE NEIGHBOUR: 'it returns false'. Refute it at one input. -/
def linFixedWrong : ChangeSpec := { name := "linFixed", fn := fun _ => fun
  | [d1, d2, d3] => { results := [.lit (.bool false)], args := [d1, d2, d3] }
  | _ => none }
def LinFixedWrongFalsely : Prop := linFixedRow.holds Tryz.pinned (OpenSpec.ofChange linFixedWrong)

/-- 'jigsawlaw11.MulFilters': WHATEVER THE INPUT: true; the input reads as it did. -/
def mulFiltersSpec : ChangeSpec := { name := "mulFilters", fn := fun _ => fun
  | [d1, d2] => { results := [.lit (.bool true)], args := [d1, d2] }
  | _ => none }
def mulFiltersRow : OpenClaim := { program := "ytcmdgjkoalophaagreatdoor", sum := "362dc7e3d451e849624bde3b75b3c38a1905cf7fb276830f770512d08e320a25", func := "jigsaw/jigsawlaw11.MulFilters", spec := "mulFilters", inPlace := ["internal/bytealg.CountString", "internal/bytealg.IndexByteString", "internal/bytealg.IndexString"], unfollowed := true, recurses := true, named := ["jigsaw/model.entries", "internal/bytealg.MaxLen", "math/bits.deBruijn64tab"], apart := false, laid := [("math/bits.deBruijn64tab", laid_math_bits_deBruijn64tab), ("jigsaw/model.entries", laid_jigsaw_model_entries)] }
def MulFiltersSaid : Prop := mulFiltersRow.holds Tryz.pinned (OpenSpec.ofChange mulFiltersSpec)

/-- ITS FALSE NEIGHBOUR: 'it returns false'. Refute it at one input. -/
def mulFiltersWrong : ChangeSpec := { name := "mulFilters", fn := fun _ => fun
  | [d1, d2] => { results := [.lit (.bool false)], args := [d1, d2] }
  | _ => none }
def MulFiltersWrongFalsely : Prop := mulFiltersRow.holds Tryz.pinned (OpenSpec.ofChange mulFiltersWrong)

/-- 'jigsawlaw11.MulRefuses': WHATEVER THE INPUT: true; the input reads as it did. -/
def mulRefusesSpec : ChangeSpec := { name := "mulRefuses", fn := fun _ => fun
  | [d1, d2, d3] => { results := [.lit (.bool true)], args := [d1, d2, d3] }
  | _ => none }
def mulRefusesRow : OpenClaim := { program := "ytcmdgjkoalophaagreatdoor", sum := "362dc7e3d451e849624bde3b75b3c38a1905cf7fb276830f770512d08e320a25", func := "jigsaw/jigsawlaw11.MulRefuses", spec := "mulRefuses", inPlace := ["internal/bytealg.CountString", "internal/bytealg.IndexByteString", "internal/bytealg.IndexString"], unfollowed := true, recurses := true, named := ["jigsaw/model.entries", "internal/bytealg.MaxLen", "math/bits.deBruijn64tab"], apart := false, laid := [("math/bits.deBruijn64tab", laid_math_bits_deBruijn64tab), ("jigsaw/model.entries", laid_jigsaw_model_entries)] }
def MulRefusesSaid : Prop := mulRefusesRow.holds Tryz.pinned (OpenSpec.ofChange mulRefusesSpec)

/-- ITS FALSE NEIGHBOUR: 'it returns false'. Refute it at one input. -/
def mulRefusesWrong : ChangeSpec := { name := "mulRefuses", fn := fun _ => fun
  | [d1, d2, d3] => { results := [.lit (.bool false)], args := [d1, d2, d3] }
  | _ => none }
def MulRefusesWrongFalsely : Prop := mulRefusesRow.holds Tryz.pinned (OpenSpec.ofChange mulRefusesWrong)

/-- 'jigsawlaw11.MulKeeps': WHATEVER THE INPUT: true; the input reads as it did. -/
def mulKeepsSpec : ChangeSpec := { name := "mulKeeps", fn := fun _ => fun
  | [d1, d2] => { results := [.lit (.bool true)], args := [d1, d2] }
  | _ => none }
def mulKeepsRow : OpenClaim := { program := "ytcmdgjkoalophaagreatdoor", sum := "362dc7e3d451e849624bde3b75b3c38a1905cf7fb276830f770512d08e320a25", func := "jigsaw/jigsawlaw11.MulKeeps", spec := "mulKeeps", inPlace := ["internal/bytealg.CountString", "internal/bytealg.IndexByteString", "internal/bytealg.IndexString"], unfollowed := true, recurses := true, named := ["jigsaw/model.entries", "internal/bytealg.MaxLen", "math/bits.deBruijn64tab"], apart := false, laid := [("math/bits.deBruijn64tab", laid_math_bits_deBruijn64tab), ("jigsaw/model.entries", laid_jigsaw_model_entries)] }
def MulKeepsSaid : Prop := mulKeepsRow.holds Tryz.pinned (OpenSpec.ofChange mulKeepsSpec)

/-- ITS FALSE NEIGHBOUR: 'it returns false'. Refute it at one input. -/
def mulKeepsWrong : ChangeSpec := { name := "mulKeeps", fn := fun _ => fun
  | [d1, d2] => { results := [.lit (.bool false)], args := [d1, d2] }
  | _ => none }
def MulKeepsWrongFalsely : Prop := mulKeepsRow.holds Tryz.pinned (OpenSpec.ofChange mulKeepsWrong)

/-- 'jigsawlaw11.MulFixed': WHATEVER THE INPUT: true; the input reads as it did. -/
def mulFixedSpec : ChangeSpec := { name := "mulFixed", fn := fun _ => fun
  | [d1, d2, d3] => { results := [.lit (.bool true)], args := [d1, d2, d3] }
  | _ => none }
def mulFixedRow : OpenClaim := { program := "ytcmdgjkoalophaagreatdoor", sum := "362dc7e3d451e849624bde3b75b3c38a1905cf7fb276830f770512d08e320a25", func := "jigsaw/jigsawlaw11.MulFixed", spec := "mulFixed", inPlace := ["internal/bytealg.CountString", "internal/bytealg.IndexByteString", "internal/bytealg.IndexString"], unfollowed := true, recurses := true, named := ["jigsaw/model.entries", "internal/bytealg.MaxLen", "math/bits.deBruijn64tab"], apart := false, laid := [("math/bits.deBruijn64tab", laid_math_bits_deBruijn64tab), ("jigsaw/model.entries", laid_jigsaw_model_entries)] }
def MulFixedSaid : Prop := mulFixedRow.holds Tryz.pinned (OpenSpec.ofChange mulFixedSpec)

/-- ITS FALSE NEIGHBOUR: 'it returns false'. Refute it at one input. -/
def mulFixedWrong : ChangeSpec := { name := "mulFixed", fn := fun _ => fun
  | [d1, d2, d3] => { results := [.lit (.bool false)], args := [d1, d2, d3] }
  | _ => none }
def MulFixedWrongFalsely : Prop := mulFixedRow.holds Tryz.pinned (OpenSpec.ofChange mulFixedWrong)

/-- 'jigsawlaw11.MulWide': WHATEVER THE INPUT: true; the input reads as it did. -/
def mulWideSpec : ChangeSpec := { name := "mulWide", fn := fun _ => fun
  | [d1, d2, d3] => { results := [.lit (.bool true)], args := [d1, d2, d3] }
  | _ => none }
def mulWideRow : OpenClaim := { program := "ytcmdgjkoalophaagreatdoor", sum := "362dc7e3d451e849624bde3b75b3c38a1905cf7fb276830f770512d08e320a25", func := "jigsaw/jigsawlaw11.MulWide", spec := "mulWide", inPlace := ["internal/bytealg.CountString", "internal/bytealg.IndexByteString", "internal/bytealg.IndexString"], unfollowed := true, recurses := true, named := ["jigsaw/model.entries", "internal/bytealg.MaxLen", "math/bits.deBruijn64tab"], apart := false, laid := [("math/bits.deBruijn64tab", laid_math_bits_deBruijn64tab), ("jigsaw/model.entries", laid_jigsaw_model_entries)] }
def MulWideSaid : Prop := mulWideRow.holds Tryz.pinned (OpenSpec.ofChange mulWideSpec)

/-- ITS FALSE NEIGHBOUR: 'it returns false'. Refute it at one input. -/
def mulWideWrong : ChangeSpec := { name := "mulWide", fn := fun _ => fun
  | [d1, d2, d3] => { results := [.lit (.bool false)], args := [d1, d2, d3] }
  | _ => none }
def MulWideWrongFalsely : Prop := mulWideRow.holds Tryz.pinned (OpenSpec.ofChange mulWideWrong)

/- THE SECOND FORM. 'bulk': how many values and letters a reading holds, each counted each time it is reached (what is shared counts as often as it is met; a slice's spare places count too). A statement '..UptoSaid' is the law's where the arguments, and the package variables that the reading takes, are together of bulk at most 1048576: NARROWER than '..Said'. Prove '..Said' where nothing that the law and all that it calls make is longer than what came in: it says more and counts as full. Else prove '..UptoSaid'. A law counts once. -/
mutual
def uptoBulk {H : Type} : DataW H → Nat
  | .lit (.string bytes) => bytes.length + 1
  | .lit _ => 1
  | .nil => 1
  | .ptr d => uptoBulk d + 1
  | .slice elems spare => uptoBulkAll elems + uptoBulkAll spare + 1
  | .agg parts => uptoBulkAll parts + 1
  | .iface _ d => uptoBulk d + 1
  | .map entries => uptoBulkEntries entries + 1
  | .held _ => 1
def uptoBulkAll {H : Type} : List (DataW H) → Nat
  | [] => 0
  | d :: r => uptoBulk d + uptoBulkAll r
def uptoBulkEntries {H : Type} : List (Lit × DataW H) → Nat
  | [] => 0
  | x :: r => uptoBulkEntry x + uptoBulkEntries r
def uptoBulkEntry {H : Type} : Lit × DataW H → Nat
  | (.string bytes, d) => bytes.length + uptoBulk d + 1
  | (_, d) => uptoBulk d + 1
 end
def uptoSmall : (H : Type) → List (DataW H) → Bool := fun _ ds => decide (uptoBulkAll ds ≤ 1048576)
def OpenSpec.upto (s : _root_.Go.ChangeSpec) : _root_.Go.OpenSpec := { _root_.Go.OpenSpec.ofChange s with cond := some uptoSmall }

/-- 'jigsawlaw09.GroundSolves', WHERE WHAT IT READS IS OF BULK AT MOST 1048576: true; the input reads as it did. -/
def groundSolvesUptoRow : OpenClaim := { program := "ytcmdgjkoalophaagreatdoor", sum := "362dc7e3d451e849624bde3b75b3c38a1905cf7fb276830f770512d08e320a25", func := "jigsaw/jigsawlaw09.GroundSolves", spec := "groundSolves", inPlace := ["internal/bytealg.CountString", "internal/bytealg.IndexByteString", "internal/bytealg.IndexString"], unfollowed := true, recurses := true, named := ["jigsaw/model.entries", "internal/bytealg.MaxLen"], apart := false, laid := [("jigsaw/model.entries", laid_jigsaw_model_entries)], narrowed := true }
def GroundSolvesUptoSaid : Prop := groundSolvesUptoRow.holds Tryz.pinned (OpenSpec.upto groundSolvesSpec)

/-- 'jigsawlaw09.GroundTurns', WHERE WHAT IT READS IS OF BULK AT MOST 1048576: true; the input reads as it did. -/
def groundTurnsUptoRow : OpenClaim := { program := "ytcmdgjkoalophaagreatdoor", sum := "362dc7e3d451e849624bde3b75b3c38a1905cf7fb276830f770512d08e320a25", func := "jigsaw/jigsawlaw09.GroundTurns", spec := "groundTurns", inPlace := ["internal/bytealg.CountString", "internal/bytealg.IndexByteString", "internal/bytealg.IndexString"], unfollowed := true, recurses := true, named := ["jigsaw/model.entries", "internal/bytealg.MaxLen"], apart := false, laid := [("jigsaw/model.entries", laid_jigsaw_model_entries)], narrowed := true }
def GroundTurnsUptoSaid : Prop := groundTurnsUptoRow.holds Tryz.pinned (OpenSpec.upto groundTurnsSpec)

/-- 'jigsawlaw10.LinFilters', WHERE WHAT IT READS IS OF BULK AT MOST 1048576: true; the input reads as it did. -/
def linFiltersUptoRow : OpenClaim := { program := "ytcmdgjkoalophaagreatdoor", sum := "362dc7e3d451e849624bde3b75b3c38a1905cf7fb276830f770512d08e320a25", func := "jigsaw/jigsawlaw10.LinFilters", spec := "linFilters", inPlace := ["internal/bytealg.CountString", "internal/bytealg.IndexByteString", "internal/bytealg.IndexString"], unfollowed := true, recurses := true, named := ["jigsaw/model.entries", "internal/bytealg.MaxLen", "math/bits.deBruijn64tab"], apart := false, laid := [("math/bits.deBruijn64tab", laid_math_bits_deBruijn64tab), ("jigsaw/model.entries", laid_jigsaw_model_entries)], narrowed := true }
def LinFiltersUptoSaid : Prop := linFiltersUptoRow.holds Tryz.pinned (OpenSpec.upto linFiltersSpec)

/-- 'jigsawlaw10.LinWide', WHERE WHAT IT READS IS OF BULK AT MOST 1048576: true; the input reads as it did. -/
def linWideUptoRow : OpenClaim := { program := "ytcmdgjkoalophaagreatdoor", sum := "362dc7e3d451e849624bde3b75b3c38a1905cf7fb276830f770512d08e320a25", func := "jigsaw/jigsawlaw10.LinWide", spec := "linWide", inPlace := ["internal/bytealg.CountString", "internal/bytealg.IndexByteString", "internal/bytealg.IndexString"], unfollowed := true, recurses := true, named := ["jigsaw/model.entries", "internal/bytealg.MaxLen", "math/bits.deBruijn64tab"], apart := false, laid := [("math/bits.deBruijn64tab", laid_math_bits_deBruijn64tab), ("jigsaw/model.entries", laid_jigsaw_model_entries)], narrowed := true }
def LinWideUptoSaid : Prop := linWideUptoRow.holds Tryz.pinned (OpenSpec.upto linWideSpec)

/-- 'jigsawlaw10.LinRefuses', WHERE WHAT IT READS IS OF BULK AT MOST 1048576: true; the input reads as it did. -/
def linRefusesUptoRow : OpenClaim := { program := "ytcmdgjkoalophaagreatdoor", sum := "362dc7e3d451e849624bde3b75b3c38a1905cf7fb276830f770512d08e320a25", func := "jigsaw/jigsawlaw10.LinRefuses", spec := "linRefuses", inPlace := ["internal/bytealg.CountString", "internal/bytealg.IndexByteString", "internal/bytealg.IndexString"], unfollowed := true, recurses := true, named := ["jigsaw/model.entries", "internal/bytealg.MaxLen", "math/bits.deBruijn64tab"], apart := false, laid := [("math/bits.deBruijn64tab", laid_math_bits_deBruijn64tab), ("jigsaw/model.entries", laid_jigsaw_model_entries)], narrowed := true }
def LinRefusesUptoSaid : Prop := linRefusesUptoRow.holds Tryz.pinned (OpenSpec.upto linRefusesSpec)

/-- 'jigsawlaw10.LinKeeps', WHERE WHAT IT READS IS OF BULK AT MOST 1048576: true; the input reads as it did. -/
def linKeepsUptoRow : OpenClaim := { program := "ytcmdgjkoalophaagreatdoor", sum := "362dc7e3d451e849624bde3b75b3c38a1905cf7fb276830f770512d08e320a25", func := "jigsaw/jigsawlaw10.LinKeeps", spec := "linKeeps", inPlace := ["internal/bytealg.CountString", "internal/bytealg.IndexByteString", "internal/bytealg.IndexString"], unfollowed := true, recurses := true, named := ["jigsaw/model.entries", "internal/bytealg.MaxLen", "math/bits.deBruijn64tab"], apart := false, laid := [("math/bits.deBruijn64tab", laid_math_bits_deBruijn64tab), ("jigsaw/model.entries", laid_jigsaw_model_entries)], narrowed := true }
def LinKeepsUptoSaid : Prop := linKeepsUptoRow.holds Tryz.pinned (OpenSpec.upto linKeepsSpec)

/-- 'jigsawlaw10.LinFixed', WHERE WHAT IT READS IS OF BULK AT MOST 1048576: true; the input reads as it did. -/
def linFixedUptoRow : OpenClaim := { program := "ytcmdgjkoalophaagreatdoor", sum := "362dc7e3d451e849624bde3b75b3c38a1905cf7fb276830f770512d08e320a25", func := "jigsaw/jigsawlaw10.LinFixed", spec := "linFixed", inPlace := ["internal/bytealg.CountString", "internal/bytealg.IndexByteString", "internal/bytealg.IndexString"], unfollowed := true, recurses := true, named := ["jigsaw/model.entries", "internal/bytealg.MaxLen", "math/bits.deBruijn64tab"], apart := false, laid := [("math/bits.deBruijn64tab", laid_math_bits_deBruijn64tab), ("jigsaw/model.entries", laid_jigsaw_model_entries)], narrowed := true }
def LinFixedUptoSaid : Prop := linFixedUptoRow.holds Tryz.pinned (OpenSpec.upto linFixedSpec)

/-- 'jigsawlaw11.MulFilters', WHERE WHAT IT READS IS OF BULK AT MOST 1048576: true; the input reads as it did. -/
def mulFiltersUptoRow : OpenClaim := { program := "ytcmdgjkoalophaagreatdoor", sum := "362dc7e3d451e849624bde3b75b3c38a1905cf7fb276830f770512d08e320a25", func := "jigsaw/jigsawlaw11.MulFilters", spec := "mulFilters", inPlace := ["internal/bytealg.CountString", "internal/bytealg.IndexByteString", "internal/bytealg.IndexString"], unfollowed := true, recurses := true, named := ["jigsaw/model.entries", "internal/bytealg.MaxLen", "math/bits.deBruijn64tab"], apart := false, laid := [("math/bits.deBruijn64tab", laid_math_bits_deBruijn64tab), ("jigsaw/model.entries", laid_jigsaw_model_entries)], narrowed := true }
def MulFiltersUptoSaid : Prop := mulFiltersUptoRow.holds Tryz.pinned (OpenSpec.upto mulFiltersSpec)

/-- 'jigsawlaw11.MulRefuses', WHERE WHAT IT READS IS OF BULK AT MOST 1048576: true; the input reads as it did. -/
def mulRefusesUptoRow : OpenClaim := { program := "ytcmdgjkoalophaagreatdoor", sum := "362dc7e3d451e849624bde3b75b3c38a1905cf7fb276830f770512d08e320a25", func := "jigsaw/jigsawlaw11.MulRefuses", spec := "mulRefuses", inPlace := ["internal/bytealg.CountString", "internal/bytealg.IndexByteString", "internal/bytealg.IndexString"], unfollowed := true, recurses := true, named := ["jigsaw/model.entries", "internal/bytealg.MaxLen", "math/bits.deBruijn64tab"], apart := false, laid := [("math/bits.deBruijn64tab", laid_math_bits_deBruijn64tab), ("jigsaw/model.entries", laid_jigsaw_model_entries)], narrowed := true }
def MulRefusesUptoSaid : Prop := mulRefusesUptoRow.holds Tryz.pinned (OpenSpec.upto mulRefusesSpec)

/-- 'jigsawlaw11.MulKeeps', WHERE WHAT IT READS IS OF BULK AT MOST 1048576: true; the input reads as it did. -/
def mulKeepsUptoRow : OpenClaim := { program := "ytcmdgjkoalophaagreatdoor", sum := "362dc7e3d451e849624bde3b75b3c38a1905cf7fb276830f770512d08e320a25", func := "jigsaw/jigsawlaw11.MulKeeps", spec := "mulKeeps", inPlace := ["internal/bytealg.CountString", "internal/bytealg.IndexByteString", "internal/bytealg.IndexString"], unfollowed := true, recurses := true, named := ["jigsaw/model.entries", "internal/bytealg.MaxLen", "math/bits.deBruijn64tab"], apart := false, laid := [("math/bits.deBruijn64tab", laid_math_bits_deBruijn64tab), ("jigsaw/model.entries", laid_jigsaw_model_entries)], narrowed := true }
def MulKeepsUptoSaid : Prop := mulKeepsUptoRow.holds Tryz.pinned (OpenSpec.upto mulKeepsSpec)

/-- 'jigsawlaw11.MulFixed', WHERE WHAT IT READS IS OF BULK AT MOST 1048576: true; the input reads as it did. -/
def mulFixedUptoRow : OpenClaim := { program := "ytcmdgjkoalophaagreatdoor", sum := "362dc7e3d451e849624bde3b75b3c38a1905cf7fb276830f770512d08e320a25", func := "jigsaw/jigsawlaw11.MulFixed", spec := "mulFixed", inPlace := ["internal/bytealg.CountString", "internal/bytealg.IndexByteString", "internal/bytealg.IndexString"], unfollowed := true, recurses := true, named := ["jigsaw/model.entries", "internal/bytealg.MaxLen", "math/bits.deBruijn64tab"], apart := false, laid := [("math/bits.deBruijn64tab", laid_math_bits_deBruijn64tab), ("jigsaw/model.entries", laid_jigsaw_model_entries)], narrowed := true }
def MulFixedUptoSaid : Prop := mulFixedUptoRow.holds Tryz.pinned (OpenSpec.upto mulFixedSpec)

/-- 'jigsawlaw11.MulWide', WHERE WHAT IT READS IS OF BULK AT MOST 1048576: true; the input reads as it did. -/
def mulWideUptoRow : OpenClaim := { program := "ytcmdgjkoalophaagreatdoor", sum := "362dc7e3d451e849624bde3b75b3c38a1905cf7fb276830f770512d08e320a25", func := "jigsaw/jigsawlaw11.MulWide", spec := "mulWide", inPlace := ["internal/bytealg.CountString", "internal/bytealg.IndexByteString", "internal/bytealg.IndexString"], unfollowed := true, recurses := true, named := ["jigsaw/model.entries", "internal/bytealg.MaxLen", "math/bits.deBruijn64tab"], apart := false, laid := [("math/bits.deBruijn64tab", laid_math_bits_deBruijn64tab), ("jigsaw/model.entries", laid_jigsaw_model_entries)], narrowed := true }
def MulWideUptoSaid : Prop := mulWideUptoRow.holds Tryz.pinned (OpenSpec.upto mulWideSpec)

end Rows
end Go.Proofs.YtcmdgjkoalophaaGreatDoor
