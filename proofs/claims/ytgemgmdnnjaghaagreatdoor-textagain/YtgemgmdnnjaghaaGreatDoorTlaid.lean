/- The listed powers of ten are the library's table. -/
import Derived.Test.YtgemgmdnnjaghaaGreatDoorPlaid
import Derived.Test.YtgemgmdnnjaghaaGreatDoorTfn2
import Derived.Lib.LaidTab
namespace Go.Proofs.YtgemgmdnnjaghaaGreatDoor
open Go.ChangeShapes Go.WideShapes Go.ChangeAt Go.RowKit

def laidP : List (String × DataW Unit) := [("internal/strconv.uint64pow10", Rows.laid_internal_strconv_uint64pow10)]
theorem pow_data : (Rows.laid_internal_strconv_uint64pow10 : DataW Unit) = Lib.tabData .u64 Lib.pow10Tab := by kernel_rfl
theorem pow_of_any {W : World} {l : List (String × DataW Unit)} (h : laidMetH Tryz.prog l W) (hl : l.filter (fun x => x.1 == "internal/strconv.uint64pow10") = laidP) : PowIn W := by
  have h1 : laidMetH Tryz.prog laidP W := hl ▸ h.filter _
  have h2 : laidMet Tryz.prog laidP W := h1
  unfold laidP at h2
  rw [pow_data] at h2
  exact Lib.tabIs_of_head (g := 2) (t := 193) (e := 178) (n := 20) (by kernel_rfl) (by kernel_rfl) Tryz.underlying193 Tryz.underlying178 (by kernel_rfl) (by kernel_rfl) h2
theorem pow_of6 {W : World} (h : laidMetH Tryz.prog laid6 W) : PowIn W := pow_of_any h (by kernel_rfl)
end Go.Proofs.YtgemgmdnnjaghaaGreatDoor
