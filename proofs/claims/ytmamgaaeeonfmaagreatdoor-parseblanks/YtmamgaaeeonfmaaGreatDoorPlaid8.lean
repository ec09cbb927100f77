/- What ParseBlanks' row lists, and a start that lays it, one great table too. -/
import Derived.Test.YtmamgaaeeonfmaaGreatDoorPlaid
import Derived.Test.YtmamgaaeeonfmaaGreatDoorPblankw
import Derived.Shelf.Vars
namespace Go.Proofs.YtmamgaaeeonfmaaGreatDoor
open Go.ChangeShapes Go.WideShapes Go.ChangeAt Go.RowKit

/-- The eight listed variables. -/
def laid8 : List (String × DataW Unit) := [("math/bits.deBruijn32tab", Rows.laid_math_bits_deBruijn32tab), ("math/bits.deBruijn64tab", Rows.laid_math_bits_deBruijn64tab), ("internal/strconv.uint64pow10", Rows.laid_internal_strconv_uint64pow10), ("unicode/utf8.acceptRanges", Rows.laid_unicode_utf8_acceptRanges), ("strconv.ErrRange", Rows.laid_strconv_ErrRange), ("strconv.ErrSyntax", Rows.laid_strconv_ErrSyntax), ("jigsaw/model.entries", Rows.laid_jigsaw_model_entries), ("unicode/utf8.first", Rows.laid_unicode_utf8_first)]

/-- A start with the great table laid, too. -/
def layFirst (W : World) : World :=
  { W with heap := W.heap.modify 2 fun
      | .cells _ t fr => .cells (Go.Pinned.utf8FirstZ.map fun n : Nat => Value.int .u8 (n : Int)).toArray t fr
      | o => o }

set_option maxRecDepth 100000 in
theorem door_met8 (os : Os) (args : Array Value) : laidMetH Tryz.prog laid8 ((layFirst (World.doorLaid Tryz.prog 1000 os)).forCall (fun _ _ => 0) ⟨#[], args, []⟩).memory :=
  laidMetH_of_parts3 (fuel := 8) (laidMet_of_run' 8 (by kernel_rfl) (by kernel_rfl)) (by kernel_rfl) (by kernel_rfl)
theorem ent_of8 {W : World} (h : laidMetH Tryz.prog laid8 W) : EntIn W := ent_of_any h (by kernel_rfl)
theorem tab_of8 {W : World} (h : laidMetH Tryz.prog laid8 W) : TabZ W := tab_of_any h (by kernel_rfl)
/-- The one variable that is named and not listed holds some number. -/
theorem maxC_of {W : World} (h : W.ShapedOpen Tryz.prog) : MaxC W :=
  cell_of_shapedOpen_int (t := 3) (zero := #[.int .i64 0]) h (of_decide_eq_true (by kernel_rfl)) (by kernel_rfl) rfl (by kernel_rfl) (by kernel_rfl) Tryz.underlying3
end Go.Proofs.YtmamgaaeeonfmaaGreatDoor
