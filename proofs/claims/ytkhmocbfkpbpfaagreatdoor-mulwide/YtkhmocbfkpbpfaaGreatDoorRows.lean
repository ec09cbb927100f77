/-
  NARROWER THAN 'FOR EVERY INPUT', by the rows' own cells (each row's printed sentence says how): ExtFilters: laid · ExtRefuses: laid · ExtKeeps: laid · ExtFixed: laid · ExtWide: laid · MulWide: laid · LinFilters: laid · LinWide: laid · LinRefuses: laid · LinKeeps: laid · LinFixed: laid · GroundSolves: laid.
  DERIVED. THE GIVEN ROWS OF THIS SEAT. 12 by the template 'for every input the law returns true; each argument reads behind the call as it read before'; 0 by the template 'total and deterministic' (their statements: YtkhmocbfkpbpfaaGreatDoorTotals.lean).
  GIVEN WITH THE SEED: the statements are not yours to turn. If you find one false, say at which input.
  Laid BY PROGRAM, IN A SANDBOX (cutbox-rows.mjs): the forced cells as the released guide's own fill.sh prints them over the translation 9369d69516519d31… (all of the seat's roots in one cut). By AI agents, Wed Nov 11 2026. No macro, syntax, notation, axiom, sorry.
-/
import Derived.Test.YtkhmocbfkpbpfaaGreatDoorChecked
import GoSem.Claim
import GoSem.ClaimJoined
import GoSem.ClaimMapViews
import Derived.JoinedTies
import Derived.KernelRfl
namespace Go.Proofs.YtkhmocbfkpbpfaaGreatDoor
/- THE CELL 'sum', in the pinned program and in every row, IS THE sha256 OF THE DUMP (.gsa) THAT YtkhmocbfkpbpfaaGreatDoorProg.lean LOADS. Nothing in Lean hashes anything: it is a label: what it is worth is what the hold of that sum in a sandbox is worth. -/
noncomputable def Tryz.pinned : Pinned := { name := "ytkhmocbfkpbpfaagreatdoor", sum := "9369d69516519d31fdb73446fe53e0bd595dcab9b133a8d53bde4ba10f56dea7", checked := Tryz.checked }
namespace Rows
def none {H : Type} : Left H := { results := [], args := [] }

/- WHAT THE LISTED PACKAGE-LEVEL VARIABLES READ AS WHEN THE CALL BEGINS. Each datum BY PROGRAM (the guide's laid-datum.mjs) off the statement by which the dump's own 'gosem.cut.vars' lays the variable. In a bare row this is a premise. The card (YtkhmocbfkpbpfaaGreatDoorCards.lean) ties it to the program's text. -/
def laid_math_bits_deBruijn64tab {H : Type} : DataW H := .agg [.lit (.int .u8 0), .lit (.int .u8 1), .lit (.int .u8 56), .lit (.int .u8 2), .lit (.int .u8 57), .lit (.int .u8 49), .lit (.int .u8 28), .lit (.int .u8 3), .lit (.int .u8 61), .lit (.int .u8 58), .lit (.int .u8 42), .lit (.int .u8 50), .lit (.int .u8 38), .lit (.int .u8 29), .lit (.int .u8 17), .lit (.int .u8 4), .lit (.int .u8 62), .lit (.int .u8 47), .lit (.int .u8 59), .lit (.int .u8 36), .lit (.int .u8 45), .lit (.int .u8 43), .lit (.int .u8 51), .lit (.int .u8 22), .lit (.int .u8 53), .lit (.int .u8 39), .lit (.int .u8 33), .lit (.int .u8 30), .lit (.int .u8 24), .lit (.int .u8 18), .lit (.int .u8 12), .lit (.int .u8 5), .lit (.int .u8 63), .lit (.int .u8 55), .lit (.int .u8 48), .lit (.int .u8 27), .lit (.int .u8 60), .lit (.int .u8 41), .lit (.int .u8 37), .lit (.int .u8 16), .lit (.int .u8 46), .lit (.int .u8 35), .lit (.int .u8 44), .lit (.int .u8 21), .lit (.int .u8 52), .lit (.int .u8 32), .lit (.int .u8 23), .lit (.int .u8 11), .lit (.int .u8 54), .lit (.int .u8 26), .lit (.int .u8 40), .lit (.int .u8 15), .lit (.int .u8 34), .lit (.int .u8 20), .lit (.int .u8 31), .lit (.int .u8 10), .lit (.int .u8 25), .lit (.int .u8 14), .lit (.int .u8 19), .lit (.int .u8 9), .lit (.int .u8 13), .lit (.int .u8 8), .lit (.int .u8 7), .lit (.int .u8 6)]
def laid_jigsaw_model_entries {H : Type} : DataW H := .agg [.agg [.lit (.int .i64 1), .lit (.string [108, 105, 110, 95, 101, 113]), .lit (.string [99, 86, 107])], .agg [.lit (.int .i64 2), .lit (.string [108, 105, 110, 95, 108, 101]), .lit (.string [99, 86, 107])], .agg [.lit (.int .i64 3), .lit (.string [108, 105, 110, 95, 110, 101]), .lit (.string [99, 86, 107])], .agg [.lit (.int .i64 4), .lit (.string [108, 105, 110, 95, 114, 101, 105, 102]), .lit (.string [99, 86, 107, 119])], .agg [.lit (.int .i64 5), .lit (.string [116, 105, 109, 101, 115]), .lit (.string [118, 118, 118])], .agg [.lit (.int .i64 6), .lit (.string [100, 105, 118]), .lit (.string [118, 118, 118])], .agg [.lit (.int .i64 7), .lit (.string [109, 111, 100]), .lit (.string [118, 118, 118])], .agg [.lit (.int .i64 8), .lit (.string [97, 98, 115]), .lit (.string [118, 118])], .agg [.lit (.int .i64 9), .lit (.string [109, 105, 110]), .lit (.string [118, 118, 118])], .agg [.lit (.int .i64 10), .lit (.string [109, 97, 120]), .lit (.string [118, 118, 118])], .agg [.lit (.int .i64 11), .lit (.string [101, 108, 101, 109, 101, 110, 116]), .lit (.string [118, 99, 118])], .agg [.lit (.int .i64 12), .lit (.string [99, 108, 97, 117, 115, 101]), .lit (.string [86, 87])], .agg [.lit (.int .i64 13), .lit (.string [101, 113, 95, 114, 101, 105, 102]), .lit (.string [118, 107, 119])], .agg [.lit (.int .i64 14), .lit (.string [108, 101, 95, 114, 101, 105, 102]), .lit (.string [118, 107, 119])], .agg [.lit (.int .i64 15), .lit (.string [101, 113, 95, 105, 109, 112]), .lit (.string [118, 107, 119])], .agg [.lit (.int .i64 16), .lit (.string [108, 101, 95, 105, 109, 112]), .lit (.string [118, 107, 119])], .agg [.lit (.int .i64 17), .lit (.string [97, 108, 108, 95, 100, 105, 102, 102, 101, 114, 101, 110, 116]), .lit (.string [86])], .agg [.lit (.int .i64 18), .lit (.string [116, 97, 98, 108, 101]), .lit (.string [86, 114])], .agg [.lit (.int .i64 19), .lit (.string [99, 117, 109, 117, 108, 97, 116, 105, 118, 101]), .lit (.string [86, 99, 100, 107])], .agg [.lit (.int .i64 20), .lit (.string [99, 105, 114, 99, 117, 105, 116]), .lit (.string [86])], .agg [.lit (.int .i64 21), .lit (.string [103, 99, 99]), .lit (.string [86, 99, 100, 101])], .agg [.lit (.int .i64 22), .lit (.string [108, 101, 120, 95, 108, 101]), .lit (.string [86, 87])], .agg [.lit (.int .i64 23), .lit (.string [105, 110, 118, 101, 114, 115, 101]), .lit (.string [86, 87])]]

/-- 'jigsawlaw12.ExtFilters': WHATEVER THE INPUT: true; the input reads as it did. -/
def extFiltersSpec : ChangeSpec := { name := "extFilters", fn := fun _ => fun
  | [d1, d2] => { results := [.lit (.bool true)], args := [d1, d2] }
  | _ => none }
def extFiltersRow : OpenClaim := { program := "ytkhmocbfkpbpfaagreatdoor", sum := "9369d69516519d31fdb73446fe53e0bd595dcab9b133a8d53bde4ba10f56dea7", func := "jigsaw/jigsawlaw12.ExtFilters", spec := "extFilters", inPlace := ["internal/bytealg.CountString", "internal/bytealg.IndexByteString", "internal/bytealg.IndexString"], unfollowed := true, recurses := true, named := ["jigsaw/model.entries", "internal/bytealg.MaxLen", "math/bits.deBruijn64tab"], apart := false, laid := [("math/bits.deBruijn64tab", laid_math_bits_deBruijn64tab), ("jigsaw/model.entries", laid_jigsaw_model_entries)] }
def ExtFiltersSaid : Prop := extFiltersRow.holds Tryz.pinned (OpenSpec.ofChange extFiltersSpec)

/-- ITS FALSE NEIGHBOUR: 'it returns false'. Refute it at one input. -/
def extFiltersWrong : ChangeSpec := { name := "extFilters", fn := fun _ => fun
  | [d1, d2] => { results := [.lit (.bool false)], args := [d1, d2] }
  | _ => none }
def ExtFiltersWrongFalsely : Prop := extFiltersRow.holds Tryz.pinned (OpenSpec.ofChange extFiltersWrong)

/-- 'jigsawlaw12.ExtRefuses': WHATEVER THE INPUT: true; the input reads as it did. -/
def extRefusesSpec : ChangeSpec := { name := "extRefuses", fn := fun _ => fun
  | [d1, d2, d3] => { results := [.lit (.bool true)], args := [d1, d2, d3] }
  | _ => none }
def extRefusesRow : OpenClaim := { program := "ytkhmocbfkpbpfaagreatdoor", sum := "9369d69516519d31fdb73446fe53e0bd595dcab9b133a8d53bde4ba10f56dea7", func := "jigsaw/jigsawlaw12.ExtRefuses", spec := "extRefuses", inPlace := ["internal/bytealg.CountString", "internal/bytealg.IndexByteString", "internal/bytealg.IndexString"], unfollowed := true, recurses := true, named := ["jigsaw/model.entries", "internal/bytealg.MaxLen", "math/bits.deBruijn64tab"], apart := false, laid := [("math/bits.deBruijn64tab", laid_math_bits_deBruijn64tab), ("jigsaw/model.entries", laid_jigsaw_model_entries)] }
def ExtRefusesSaid : Prop := extRefusesRow.holds Tryz.pinned (OpenSpec.ofChange extRefusesSpec)

/-- ITS FALSE NEIGHBOUR: 'it returns false'. Refute it at one input. -/
def extRefusesWrong : ChangeSpec := { name := "extRefuses", fn := fun _ => fun
  | [d1, d2, d3] => { results := [.lit (.bool false)], args := [d1, d2, d3] }
  | _ => none }
def ExtRefusesWrongFalsely : Prop := extRefusesRow.holds Tryz.pinned (OpenSpec.ofChange extRefusesWrong)

/-- 'jigsawlaw12.ExtKeeps': WHATEVER THE INPUT: true; the input reads as it did. -/
def extKeepsSpec : ChangeSpec := { name := "extKeeps", fn := fun _ => fun
  | [d1, d2] => { results := [.lit (.bool true)], args := [d1, d2] }
  | _ => none }
def extKeepsRow : OpenClaim := { program := "ytkhmocbfkpbpfaagreatdoor", sum := "9369d69516519d31fdb73446fe53e0bd595dcab9b133a8d53bde4ba10f56dea7", func := "jigsaw/jigsawlaw12.ExtKeeps", spec := "extKeeps", inPlace := ["internal/bytealg.CountString", "internal/bytealg.IndexByteString", "internal/bytealg.IndexString"], unfollowed := true, recurses := true, named := ["jigsaw/model.entries", "internal/bytealg.MaxLen", "math/bits.deBruijn64tab"], apart := false, laid := [("math/bits.deBruijn64tab", laid_math_bits_deBruijn64tab), ("jigsaw/model.entries", laid_jigsaw_model_entries)] }
def ExtKeepsSaid : Prop := extKeepsRow.holds Tryz.pinned (OpenSpec.ofChange extKeepsSpec)

/-- ITS FALSE NEIGHBOUR: 'it returns false'. Refute it at one input. -/
def extKeepsWrong : ChangeSpec := { name := "extKeeps", fn := fun _ => fun
  | [d1, d2] => { results := [.lit (.bool false)], args := [d1, d2] }
  | _ => none }
def ExtKeepsWrongFalsely : Prop := extKeepsRow.holds Tryz.pinned (OpenSpec.ofChange extKeepsWrong)

/-- 'jigsawlaw12.ExtFixed': WHATEVER THE INPUT: true; the input reads as it did. -/
def extFixedSpec : ChangeSpec := { name := "extFixed", fn := fun _ => fun
  | [d1, d2, d3] => { results := [.lit (.bool true)], args := [d1, d2, d3] }
  | _ => none }
def extFixedRow : OpenClaim := { program := "ytkhmocbfkpbpfaagreatdoor", sum := "9369d69516519d31fdb73446fe53e0bd595dcab9b133a8d53bde4ba10f56dea7", func := "jigsaw/jigsawlaw12.ExtFixed", spec := "extFixed", inPlace := ["internal/bytealg.CountString", "internal/bytealg.IndexByteString", "internal/bytealg.IndexString"], unfollowed := true, recurses := true, named := ["jigsaw/model.entries", "internal/bytealg.MaxLen", "math/bits.deBruijn64tab"], apart := false, laid := [("math/bits.deBruijn64tab", laid_math_bits_deBruijn64tab), ("jigsaw/model.entries", laid_jigsaw_model_entries)] }
def ExtFixedSaid : Prop := extFixedRow.holds Tryz.pinned (OpenSpec.ofChange extFixedSpec)

/-- ITS FALSE NEIGHBOUR: 'it returns false'. Refute it at one input. -/
def extFixedWrong : ChangeSpec := { name := "extFixed", fn := fun _ => fun
  | [d1, d2, d3] => { results := [.lit (.bool false)], args := [d1, d2, d3] }
  | _ => none }
def ExtFixedWrongFalsely : Prop := extFixedRow.holds Tryz.pinned (OpenSpec.ofChange extFixedWrong)

/-- 'jigsawlaw12.ExtWide': WHATEVER THE INPUT: true; the input reads as it did. -/
def extWideSpec : ChangeSpec := { name := "extWide", fn := fun _ => fun
  | [d1, d2, d3] => { results := [.lit (.bool true)], args := [d1, d2, d3] }
  | _ => none }
def extWideRow : OpenClaim := { program := "ytkhmocbfkpbpfaagreatdoor", sum := "9369d69516519d31fdb73446fe53e0bd595dcab9b133a8d53bde4ba10f56dea7", func := "jigsaw/jigsawlaw12.ExtWide", spec := "extWide", inPlace := ["internal/bytealg.CountString", "internal/bytealg.IndexByteString", "internal/bytealg.IndexString"], unfollowed := true, recurses := true, named := ["jigsaw/model.entries", "internal/bytealg.MaxLen", "math/bits.deBruijn64tab"], apart := false, laid := [("math/bits.deBruijn64tab", laid_math_bits_deBruijn64tab), ("jigsaw/model.entries", laid_jigsaw_model_entries)] }
def ExtWideSaid : Prop := extWideRow.holds Tryz.pinned (OpenSpec.ofChange extWideSpec)

/-- ITS FALSE NEIGHBOUR: 'it returns false'. Refute it at one input. -/
def extWideWrong : ChangeSpec := { name := "extWide", fn := fun _ => fun
  | [d1, d2, d3] => { results := [.lit (.bool false)], args := [d1, d2, d3] }
  | _ => none }
def ExtWideWrongFalsely : Prop := extWideRow.holds Tryz.pinned (OpenSpec.ofChange extWideWrong)

/-- 'jigsawlaw11.MulWide': WHATEVER THE INPUT: true; the input reads as it did. -/
def mulWideSpec : ChangeSpec := { name := "mulWide", fn := fun _ => fun
  | [d1, d2, d3] => { results := [.lit (.bool true)], args := [d1, d2, d3] }
  | _ => none }
def mulWideRow : OpenClaim := { program := "ytkhmocbfkpbpfaagreatdoor", sum := "9369d69516519d31fdb73446fe53e0bd595dcab9b133a8d53bde4ba10f56dea7", func := "jigsaw/jigsawlaw11.MulWide", spec := "mulWide", inPlace := ["internal/bytealg.CountString", "internal/bytealg.IndexByteString", "internal/bytealg.IndexString"], unfollowed := true, recurses := true, named := ["jigsaw/model.entries", "internal/bytealg.MaxLen", "math/bits.deBruijn64tab"], apart := false, laid := [("math/bits.deBruijn64tab", laid_math_bits_deBruijn64tab), ("jigsaw/model.entries", laid_jigsaw_model_entries)] }
def MulWideSaid : Prop := mulWideRow.holds Tryz.pinned (OpenSpec.ofChange mulWideSpec)

/-- ITS FALSE NEIGHBOUR: 'it returns false'. Refute it at one input. -/
def mulWideWrong : ChangeSpec := { name := "mulWide", fn := fun _ => fun
  | [d1, d2, d3] => { results := [.lit (.bool false)], args := [d1, d2, d3] }
  | _ => none }
def MulWideWrongFalsely : Prop := mulWideRow.holds Tryz.pinned (OpenSpec.ofChange mulWideWrong)

/-- 'jigsawlaw10.LinFilters': WHATEVER THE INPUT: true; the input reads as it did. -/
def linFiltersSpec : ChangeSpec := { name := "linFilters", fn := fun _ => fun
  | [d1, d2] => { results := [.lit (.bool true)], args := [d1, d2] }
  | _ => none }
def linFiltersRow : OpenClaim := { program := "ytkhmocbfkpbpfaagreatdoor", sum := "9369d69516519d31fdb73446fe53e0bd595dcab9b133a8d53bde4ba10f56dea7", func := "jigsaw/jigsawlaw10.LinFilters", spec := "linFilters", inPlace := ["internal/bytealg.CountString", "internal/bytealg.IndexByteString", "internal/bytealg.IndexString"], unfollowed := true, recurses := true, named := ["jigsaw/model.entries", "internal/bytealg.MaxLen", "math/bits.deBruijn64tab"], apart := false, laid := [("math/bits.deBruijn64tab", laid_math_bits_deBruijn64tab), ("jigsaw/model.entries", laid_jigsaw_model_entries)] }
def LinFiltersSaid : Prop := linFiltersRow.holds Tryz.pinned (OpenSpec.ofChange linFiltersSpec)

/-- ITS FALSE NEIGHBOUR: 'it returns false'. Refute it at one input. -/
def linFiltersWrong : ChangeSpec := { name := "linFilters", fn := fun _ => fun
  | [d1, d2] => { results := [.lit (.bool false)], args := [d1, d2] }
  | _ => none }
def LinFiltersWrongFalsely : Prop := linFiltersRow.holds Tryz.pinned (OpenSpec.ofChange linFiltersWrong)

/-- 'jigsawlaw10.LinWide': WHATEVER THE INPUT: true; the input reads as it did. -/
def linWideSpec : ChangeSpec := { name := "linWide", fn := fun _ => fun
  | [d] => { results := [.lit (.bool true)], args := [d] }
  | _ => none }
def linWideRow : OpenClaim := { program := "ytkhmocbfkpbpfaagreatdoor", sum := "9369d69516519d31fdb73446fe53e0bd595dcab9b133a8d53bde4ba10f56dea7", func := "jigsaw/jigsawlaw10.LinWide", spec := "linWide", inPlace := ["internal/bytealg.CountString", "internal/bytealg.IndexByteString", "internal/bytealg.IndexString"], unfollowed := true, recurses := true, named := ["jigsaw/model.entries", "internal/bytealg.MaxLen", "math/bits.deBruijn64tab"], apart := false, laid := [("math/bits.deBruijn64tab", laid_math_bits_deBruijn64tab), ("jigsaw/model.entries", laid_jigsaw_model_entries)] }
def LinWideSaid : Prop := linWideRow.holds Tryz.pinned (OpenSpec.ofChange linWideSpec)

/-- ITS FALSE NEIGHBOUR: 'it returns false'. Refute it at one input. -/
def linWideWrong : ChangeSpec := { name := "linWide", fn := fun _ => fun
  | [d] => { results := [.lit (.bool false)], args := [d] }
  | _ => none }
def LinWideWrongFalsely : Prop := linWideRow.holds Tryz.pinned (OpenSpec.ofChange linWideWrong)

/-- 'jigsawlaw10.LinRefuses': WHATEVER THE INPUT: true; the input reads as it did. -/
def linRefusesSpec : ChangeSpec := { name := "linRefuses", fn := fun _ => fun
  | [d1, d2, d3] => { results := [.lit (.bool true)], args := [d1, d2, d3] }
  | _ => none }
def linRefusesRow : OpenClaim := { program := "ytkhmocbfkpbpfaagreatdoor", sum := "9369d69516519d31fdb73446fe53e0bd595dcab9b133a8d53bde4ba10f56dea7", func := "jigsaw/jigsawlaw10.LinRefuses", spec := "linRefuses", inPlace := ["internal/bytealg.CountString", "internal/bytealg.IndexByteString", "internal/bytealg.IndexString"], unfollowed := true, recurses := true, named := ["jigsaw/model.entries", "internal/bytealg.MaxLen", "math/bits.deBruijn64tab"], apart := false, laid := [("math/bits.deBruijn64tab", laid_math_bits_deBruijn64tab), ("jigsaw/model.entries", laid_jigsaw_model_entries)] }
def LinRefusesSaid : Prop := linRefusesRow.holds Tryz.pinned (OpenSpec.ofChange linRefusesSpec)

/-- ITS FALSE NEIGHBOUR: 'it returns false'. Refute it at one input. -/
def linRefusesWrong : ChangeSpec := { name := "linRefuses", fn := fun _ => fun
  | [d1, d2, d3] => { results := [.lit (.bool false)], args := [d1, d2, d3] }
  | _ => none }
def LinRefusesWrongFalsely : Prop := linRefusesRow.holds Tryz.pinned (OpenSpec.ofChange linRefusesWrong)

/-- 'jigsawlaw10.LinKeeps': WHATEVER THE INPUT: true; the input reads as it did. -/
def linKeepsSpec : ChangeSpec := { name := "linKeeps", fn := fun _ => fun
  | [d1, d2] => { results := [.lit (.bool true)], args := [d1, d2] }
  | _ => none }
def linKeepsRow : OpenClaim := { program := "ytkhmocbfkpbpfaagreatdoor", sum := "9369d69516519d31fdb73446fe53e0bd595dcab9b133a8d53bde4ba10f56dea7", func := "jigsaw/jigsawlaw10.LinKeeps", spec := "linKeeps", inPlace := ["internal/bytealg.CountString", "internal/bytealg.IndexByteString", "internal/bytealg.IndexString"], unfollowed := true, recurses := true, named := ["jigsaw/model.entries", "internal/bytealg.MaxLen", "math/bits.deBruijn64tab"], apart := false, laid := [("math/bits.deBruijn64tab", laid_math_bits_deBruijn64tab), ("jigsaw/model.entries", laid_jigsaw_model_entries)] }
def LinKeepsSaid : Prop := linKeepsRow.holds Tryz.pinned (OpenSpec.ofChange linKeepsSpec)

/-- ITS FALSE NEIGHBOUR: 'it returns false'. Refute it at one input. -/
def linKeepsWrong : ChangeSpec := { name := "linKeeps", fn := fun _ => fun
  | [d1, d2] => { results := [.lit (.bool false)], args := [d1, d2] }
  | _ => none }
def LinKeepsWrongFalsely : Prop := linKeepsRow.holds Tryz.pinned (OpenSpec.ofChange linKeepsWrong)

/-- 'jigsawlaw10.LinFixed': WHATEVER THE INPUT: true; the input reads as it did. -/
def linFixedSpec : ChangeSpec := { name := "linFixed", fn := fun _ => fun
  | [d1, d2, d3] => { results := [.lit (.bool true)], args := [d1, d2, d3] }
  | _ => none }
def linFixedRow : OpenClaim := { program := "ytkhmocbfkpbpfaagreatdoor", sum := "9369d69516519d31fdb73446fe53e0bd595dcab9b133a8d53bde4ba10f56dea7", func := "jigsaw/jigsawlaw10.LinFixed", spec := "linFixed", inPlace := ["internal/bytealg.CountString", "internal/bytealg.IndexByteString", "internal/bytealg.IndexString"], unfollowed := true, recurses := true, named := ["jigsaw/model.entries", "internal/bytealg.MaxLen", "math/bits.deBruijn64tab"], apart := false, laid := [("math/bits.deBruijn64tab", laid_math_bits_deBruijn64tab), ("jigsaw/model.entries", laid_jigsaw_model_entries)] }
def LinFixedSaid : Prop := linFixedRow.holds Tryz.pinned (OpenSpec.ofChange linFixedSpec)

/-- ITS FALSE NEIGHBOUR: 'it returns false'. Refute it at one input. -/
def linFixedWrong : ChangeSpec := { name := "linFixed", fn := fun _ => fun
  | [d1, d2, d3] => { results := [.lit (.bool false)], args := [d1, d2, d3] }
  | _ => none }
def LinFixedWrongFalsely : Prop := linFixedRow.holds Tryz.pinned (OpenSpec.ofChange linFixedWrong)

/-- 'jigsawlaw09.GroundSolves': WHATEVER THE INPUT: true; the input reads as it did. -/
def groundSolvesSpec : ChangeSpec := { name := "groundSolves", fn := fun _ => fun
  | [d1, d2, d3] => { results := [.lit (.bool true)], args := [d1, d2, d3] }
  | _ => none }
def groundSolvesRow : OpenClaim := { program := "ytkhmocbfkpbpfaagreatdoor", sum := "9369d69516519d31fdb73446fe53e0bd595dcab9b133a8d53bde4ba10f56dea7", func := "jigsaw/jigsawlaw09.GroundSolves", spec := "groundSolves", inPlace := ["internal/bytealg.CountString", "internal/bytealg.IndexByteString", "internal/bytealg.IndexString"], unfollowed := true, recurses := true, named := ["jigsaw/model.entries", "internal/bytealg.MaxLen"], apart := false, laid := [("jigsaw/model.entries", laid_jigsaw_model_entries)] }
def GroundSolvesSaid : Prop := groundSolvesRow.holds Tryz.pinned (OpenSpec.ofChange groundSolvesSpec)

/-- ITS FALSE NEIGHBOUR: 'it returns false'. Refute it at one input. -/
def groundSolvesWrong : ChangeSpec := { name := "groundSolves", fn := fun _ => fun
  | [d1, d2, d3] => { results := [.lit (.bool false)], args := [d1, d2, d3] }
  | _ => none }
def GroundSolvesWrongFalsely : Prop := groundSolvesRow.holds Tryz.pinned (OpenSpec.ofChange groundSolvesWrong)

/- THE SECOND FORM. 'bulk': how many values and letters a reading holds, each counted each time it is reached (what is shared counts as often as it is met; a slice's spare places count too). A statement '..UptoSaid' is the law's where the arguments, and the package variables that the reading takes, are together of bulk at most 1048576: NARROWER than '..Said'. Prove '..Said' where nothing that the law and all that it calls make is longer than what came in: it says more and counts as full. Else prove '..UptoSaid'. A law counts once. -/
mutual
def uptoBulk {H : Type} : DataW H → Nat
  | .lit (.string bytes) => bytes.length + 1
  | .lit _ => 1
  | .nil => 1
  | .ptr d => uptoBulk d + 1
  | .slice elems spare => uptoBulkAll elems + uptoBulkAll spare + 1
  | .agg parts => uptoBulkAll parts + 1
  | .iface _ d => uptoBulk d + 1
  | .map entries => uptoBulkEntries entries + 1
  | .held _ => 1
def uptoBulkAll {H : Type} : List (DataW H) → Nat
  | [] => 0
  | d :: r => uptoBulk d + uptoBulkAll r
def uptoBulkEntries {H : Type} : List (Lit × DataW H) → Nat
  | [] => 0
  | x :: r => uptoBulkEntry x + uptoBulkEntries r
def uptoBulkEntry {H : Type} : Lit × DataW H → Nat
  | (.string bytes, d) => bytes.length + uptoBulk d + 1
  | (_, d) => uptoBulk d + 1
 end
def uptoSmall : (H : Type) → List (DataW H) → Bool := fun _ ds => decide (uptoBulkAll ds ≤ 1048576)
def OpenSpec.upto (s : _root_.Go.ChangeSpec) : _root_.Go.OpenSpec := { _root_.Go.OpenSpec.ofChange s with cond := some uptoSmall }

/-- 'jigsawlaw12.ExtFilters', WHERE WHAT IT READS IS OF BULK AT MOST 1048576: true; the input reads as it did. -/
def extFiltersUptoRow : OpenClaim := { program := "ytkhmocbfkpbpfaagreatdoor", sum := "9369d69516519d31fdb73446fe53e0bd595dcab9b133a8d53bde4ba10f56dea7", func := "jigsaw/jigsawlaw12.ExtFilters", spec := "extFilters", inPlace := ["internal/bytealg.CountString", "internal/bytealg.IndexByteString", "internal/bytealg.IndexString"], unfollowed := true, recurses := true, named := ["jigsaw/model.entries", "internal/bytealg.MaxLen", "math/bits.deBruijn64tab"], apart := false, laid := [("math/bits.deBruijn64tab", laid_math_bits_deBruijn64tab), ("jigsaw/model.entries", laid_jigsaw_model_entries)], narrowed := true }
def ExtFiltersUptoSaid : Prop := extFiltersUptoRow.holds Tryz.pinned (OpenSpec.upto extFiltersSpec)

/-- 'jigsawlaw12.ExtRefuses', WHERE WHAT IT READS IS OF BULK AT MOST 1048576: true; the input reads as it did. -/
def extRefusesUptoRow : OpenClaim := { program := "ytkhmocbfkpbpfaagreatdoor", sum := "9369d69516519d31fdb73446fe53e0bd595dcab9b133a8d53bde4ba10f56dea7", func := "jigsaw/jigsawlaw12.ExtRefuses", spec := "extRefuses", inPlace := ["internal/bytealg.CountString", "internal/bytealg.IndexByteString", "internal/bytealg.IndexString"], unfollowed := true, recurses := true, named := ["jigsaw/model.entries", "internal/bytealg.MaxLen", "math/bits.deBruijn64tab"], apart := false, laid := [("math/bits.deBruijn64tab", laid_math_bits_deBruijn64tab), ("jigsaw/model.entries", laid_jigsaw_model_entries)], narrowed := true }
def ExtRefusesUptoSaid : Prop := extRefusesUptoRow.holds Tryz.pinned (OpenSpec.upto extRefusesSpec)

/-- 'jigsawlaw12.ExtKeeps', WHERE WHAT IT READS IS OF BULK AT MOST 1048576: true; the input reads as it did. -/
def extKeepsUptoRow : OpenClaim := { program := "ytkhmocbfkpbpfaagreatdoor", sum := "9369d69516519d31fdb73446fe53e0bd595dcab9b133a8d53bde4ba10f56dea7", func := "jigsaw/jigsawlaw12.ExtKeeps", spec := "extKeeps", inPlace := ["internal/bytealg.CountString", "internal/bytealg.IndexByteString", "internal/bytealg.IndexString"], unfollowed := true, recurses := true, named := ["jigsaw/model.entries", "internal/bytealg.MaxLen", "math/bits.deBruijn64tab"], apart := false, laid := [("math/bits.deBruijn64tab", laid_math_bits_deBruijn64tab), ("jigsaw/model.entries", laid_jigsaw_model_entries)], narrowed := true }
def ExtKeepsUptoSaid : Prop := extKeepsUptoRow.holds Tryz.pinned (OpenSpec.upto extKeepsSpec)

/-- 'jigsawlaw12.ExtFixed', WHERE WHAT IT READS IS OF BULK AT MOST 1048576: true; the input reads as it did. -/
def extFixedUptoRow : OpenClaim := { program := "ytkhmocbfkpbpfaagreatdoor", sum := "9369d69516519d31fdb73446fe53e0bd595dcab9b133a8d53bde4ba10f56dea7", func := "jigsaw/jigsawlaw12.ExtFixed", spec := "extFixed", inPlace := ["internal/bytealg.CountString", "internal/bytealg.IndexByteString", "internal/bytealg.IndexString"], unfollowed := true, recurses := true, named := ["jigsaw/model.entries", "internal/bytealg.MaxLen", "math/bits.deBruijn64tab"], apart := false, laid := [("math/bits.deBruijn64tab", laid_math_bits_deBruijn64tab), ("jigsaw/model.entries", laid_jigsaw_model_entries)], narrowed := true }
def ExtFixedUptoSaid : Prop := extFixedUptoRow.holds Tryz.pinned (OpenSpec.upto extFixedSpec)

/-- 'jigsawlaw12.ExtWide', WHERE WHAT IT READS IS OF BULK AT MOST 1048576: true; the input reads as it did. -/
def extWideUptoRow : OpenClaim := { program := "ytkhmocbfkpbpfaagreatdoor", sum := "9369d69516519d31fdb73446fe53e0bd595dcab9b133a8d53bde4ba10f56dea7", func := "jigsaw/jigsawlaw12.ExtWide", spec := "extWide", inPlace := ["internal/bytealg.CountString", "internal/bytealg.IndexByteString", "internal/bytealg.IndexString"], unfollowed := true, recurses := true, named := ["jigsaw/model.entries", "internal/bytealg.MaxLen", "math/bits.deBruijn64tab"], apart := false, laid := [("math/bits.deBruijn64tab", laid_math_bits_deBruijn64tab), ("jigsaw/model.entries", laid_jigsaw_model_entries)], narrowed := true }
def ExtWideUptoSaid : Prop := extWideUptoRow.holds Tryz.pinned (OpenSpec.upto extWideSpec)

/-- 'jigsawlaw11.MulWide', WHERE WHAT IT READS IS OF BULK AT MOST 1048576: true; the input reads as it did. -/
def mulWideUptoRow : OpenClaim := { program := "ytkhmocbfkpbpfaagreatdoor", sum := "9369d69516519d31fdb73446fe53e0bd595dcab9b133a8d53bde4ba10f56dea7", func := "jigsaw/jigsawlaw11.MulWide", spec := "mulWide", inPlace := ["internal/bytealg.CountString", "internal/bytealg.IndexByteString", "internal/bytealg.IndexString"], unfollowed := true, recurses := true, named := ["jigsaw/model.entries", "internal/bytealg.MaxLen", "math/bits.deBruijn64tab"], apart := false, laid := [("math/bits.deBruijn64tab", laid_math_bits_deBruijn64tab), ("jigsaw/model.entries", laid_jigsaw_model_entries)], narrowed := true }
def MulWideUptoSaid : Prop := mulWideUptoRow.holds Tryz.pinned (OpenSpec.upto mulWideSpec)

/-- 'jigsawlaw10.LinFilters', WHERE WHAT IT READS IS OF BULK AT MOST 1048576: true; the input reads as it did. -/
def linFiltersUptoRow : OpenClaim := { program := "ytkhmocbfkpbpfaagreatdoor", sum := "9369d69516519d31fdb73446fe53e0bd595dcab9b133a8d53bde4ba10f56dea7", func := "jigsaw/jigsawlaw10.LinFilters", spec := "linFilters", inPlace := ["internal/bytealg.CountString", "internal/bytealg.IndexByteString", "internal/bytealg.IndexString"], unfollowed := true, recurses := true, named := ["jigsaw/model.entries", "internal/bytealg.MaxLen", "math/bits.deBruijn64tab"], apart := false, laid := [("math/bits.deBruijn64tab", laid_math_bits_deBruijn64tab), ("jigsaw/model.entries", laid_jigsaw_model_entries)], narrowed := true }
def LinFiltersUptoSaid : Prop := linFiltersUptoRow.holds Tryz.pinned (OpenSpec.upto linFiltersSpec)

/-- 'jigsawlaw10.LinWide', WHERE WHAT IT READS IS OF BULK AT MOST 1048576: true; the input reads as it did. -/
def linWideUptoRow : OpenClaim := { program := "ytkhmocbfkpbpfaagreatdoor", sum := "9369d69516519d31fdb73446fe53e0bd595dcab9b133a8d53bde4ba10f56dea7", func := "jigsaw/jigsawlaw10.LinWide", spec := "linWide", inPlace := ["internal/bytealg.CountString", "internal/bytealg.IndexByteString", "internal/bytealg.IndexString"], unfollowed := true, recurses := true, named := ["jigsaw/model.entries", "internal/bytealg.MaxLen", "math/bits.deBruijn64tab"], apart := false, laid := [("math/bits.deBruijn64tab", laid_math_bits_deBruijn64tab), ("jigsaw/model.entries", laid_jigsaw_model_entries)], narrowed := true }
def LinWideUptoSaid : Prop := linWideUptoRow.holds Tryz.pinned (OpenSpec.upto linWideSpec)

/-- 'jigsawlaw10.LinRefuses', WHERE WHAT IT READS IS OF BULK AT MOST 1048576: true; the input reads as it did. -/
def linRefusesUptoRow : OpenClaim := { program := "ytkhmocbfkpbpfaagreatdoor", sum := "9369d69516519d31fdb73446fe53e0bd595dcab9b133a8d53bde4ba10f56dea7", func := "jigsaw/jigsawlaw10.LinRefuses", spec := "linRefuses", inPlace := ["internal/bytealg.CountString", "internal/bytealg.IndexByteString", "internal/bytealg.IndexString"], unfollowed := true, recurses := true, named := ["jigsaw/model.entries", "internal/bytealg.MaxLen", "math/bits.deBruijn64tab"], apart := false, laid := [("math/bits.deBruijn64tab", laid_math_bits_deBruijn64tab), ("jigsaw/model.entries", laid_jigsaw_model_entries)], narrowed := true }
def LinRefusesUptoSaid : Prop := linRefusesUptoRow.holds Tryz.pinned (OpenSpec.upto linRefusesSpec)

/-- 'jigsawlaw10.LinKeeps', WHERE WHAT IT READS IS OF BULK AT MOST 1048576: true; the input reads as it did. -/
def linKeepsUptoRow : OpenClaim := { program := "ytkhmocbfkpbpfaagreatdoor", sum := "9369d69516519d31fdb73446fe53e0bd595dcab9b133a8d53bde4ba10f56dea7", func := "jigsaw/jigsawlaw10.LinKeeps", spec := "linKeeps", inPlace := ["internal/bytealg.CountString", "internal/bytealg.IndexByteString", "internal/bytealg.IndexString"], unfollowed := true, recurses := true, named := ["jigsaw/model.entries", "internal/bytealg.MaxLen", "math/bits.deBruijn64tab"], apart := false, laid := [("math/bits.deBruijn64tab", laid_math_bits_deBruijn64tab), ("jigsaw/model.entries", laid_jigsaw_model_entries)], narrowed := true }
def LinKeepsUptoSaid : Prop := linKeepsUptoRow.holds Tryz.pinned (OpenSpec.upto linKeepsSpec)

/-- 'jigsawlaw10.LinFixed', WHERE WHAT IT READS IS OF BULK AT MOST 1048576: true; the input reads as it did. -/
def linFixedUptoRow : OpenClaim := { program := "ytkhmocbfkpbpfaagreatdoor", sum := "9369d69516519d31fdb73446fe53e0bd595dcab9b133a8d53bde4ba10f56dea7", func := "jigsaw/jigsawlaw10.LinFixed", spec := "linFixed", inPlace := ["internal/bytealg.CountString", "internal/bytealg.IndexByteString", "internal/bytealg.IndexString"], unfollowed := true, recurses := true, named := ["jigsaw/model.entries", "internal/bytealg.MaxLen", "math/bits.deBruijn64tab"], apart := false, laid := [("math/bits.deBruijn64tab", laid_math_bits_deBruijn64tab), ("jigsaw/model.entries", laid_jigsaw_model_entries)], narrowed := true }
def LinFixedUptoSaid : Prop := linFixedUptoRow.holds Tryz.pinned (OpenSpec.upto linFixedSpec)

/-- 'jigsawlaw09.GroundSolves', WHERE WHAT IT READS IS OF BULK AT MOST 1048576: true; the input reads as it did. -/
def groundSolvesUptoRow : OpenClaim := { program := "ytkhmocbfkpbpfaagreatdoor", sum := "9369d69516519d31fdb73446fe53e0bd595dcab9b133a8d53bde4ba10f56dea7", func := "jigsaw/jigsawlaw09.GroundSolves", spec := "groundSolves", inPlace := ["internal/bytealg.CountString", "internal/bytealg.IndexByteString", "internal/bytealg.IndexString"], unfollowed := true, recurses := true, named := ["jigsaw/model.entries", "internal/bytealg.MaxLen"], apart := false, laid := [("jigsaw/model.entries", laid_jigsaw_model_entries)], narrowed := true }
def GroundSolvesUptoSaid : Prop := groundSolvesUptoRow.holds Tryz.pinned (OpenSpec.upto groundSolvesSpec)

end Rows
end Go.Proofs.YtkhmocbfkpbpfaaGreatDoor
