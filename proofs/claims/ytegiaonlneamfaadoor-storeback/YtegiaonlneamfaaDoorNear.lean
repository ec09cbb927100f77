/- Contracts of the law's own near and wakes. -/
import Derived.Test.YtegiaonlneamfaaDoorRange
namespace Go.Proofs.YtegiaonlneamfaaDoor
open Go.RowKit

/-- The numbers of which a domain is made. -/
def nearL (zs : List Int) : List Int := (zs.take 40).map fun z => z.tmod 3000

theorem near_len (zs : List Int) : (nearL zs).length = min 40 zs.length := by simp [nearL]

def nearTo (zs : List Int) (k : Nat) : List Int := (zs.take k).map fun z => z.tmod 3000
theorem nearTo_step (zs : List Int) (k : Nat) (h : k < zs.length) : nearTo zs (k + 1) = nearTo zs k ++ [(zs.getD k 0).tmod 3000] := by
  unfold nearTo
  rw [List.take_succ_eq_append_getElem h, List.map_append, List.getD_eq_getElem?_getD, List.getElem?_eq_getElem h]
  rfl
theorem nearTo_len (zs : List Int) (k : Nat) : (nearTo zs k).length ≤ k := by simp [nearTo]; omega

end Go.Proofs.YtegiaonlneamfaaDoor
