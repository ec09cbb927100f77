/- What the rows of layers 10 to 22 list: the table of math/bits and the table of kinds; a start that lays both. -/
import Derived.Test.YtkhmocbfkpbpfaaGreatDoorMlaid
import Derived.Test.YtkhmocbfkpbpfaaGreatDoorDMore
import Derived.LaidSub
namespace Go.Proofs.YtkhmocbfkpbpfaaGreatDoor
open Go.ChangeShapes Go.WideShapes Go.ChangeAt Go.RowKit

/-- The two listed variables. -/
def laid2 : List (String × DataW Unit) := [("math/bits.deBruijn64tab", Rows.laid_math_bits_deBruijn64tab), ("jigsaw/model.entries", Rows.laid_jigsaw_model_entries)]

set_option maxRecDepth 100000 in
theorem door_met2 (os : Os) (args : Array Value) : laidMetH Tryz.prog laid2 ((World.doorLaid Tryz.prog 1000 os).forCall (fun _ _ => 0) ⟨#[], args, []⟩).memory :=
  laidMetH_of_parts3 (fuel := 8) (laidMet_of_run' 8 (by kernel_rfl) (by kernel_rfl)) (by kernel_rfl) (by kernel_rfl)

def laidT : List (String × DataW Unit) := [("math/bits.deBruijn64tab", Rows.laid_math_bits_deBruijn64tab)]
theorem gTab : Tryz.prog.globalNamed "math/bits.deBruijn64tab" = some 0 := by kernel_rfl
theorem tTab : (Tryz.prog.globals[0]?).map (·.type) = some 174 := by kernel_rfl
theorem cellsU8t : Tryz.prog.cellsOf 5 = 1 := by kernel_rfl
theorem cellsT64 : Tryz.prog.cellsOf 174 = 64 := by kernel_rfl
theorem tab_data : (Rows.laid_math_bits_deBruijn64tab : DataW Unit) = .agg (Lib.deBruijn64tab.map fun n : Nat => .lit (.int .u8 (n : Int))) := by kernel_rfl

theorem tab_of_laid {W : World} (h0 : laidMetH Tryz.prog laidT W) : TabZ W := by
  have h : laidMet Tryz.prog laidT W := h0
  obtain ⟨ps, ⟨g0, t0, cs0, f0, p0, q0, hg0, ht0, hv0, hd0, _, _⟩, _, _⟩ := h
  obtain rfl := Option.some.inj (gTab.symm.trans hg0)
  obtain rfl := Option.some.inj (tTab.symm.trans ht0)
  obtain ⟨xs, m1, rfl, hx1, hlen, hn3, hel⟩ := DataW.trod_array Tryz.underlying174 hd0
  rw [tab_data] at hx1
  simp only [Prod.mk.injEq, DataW.agg.injEq] at hx1
  have hsz : 0 < W.heap.size := by
    have hc : W.cell? ⟨0, 0, none⟩ = cs0[0]? := World.var?_cell hg0 hv0 0
    have hl : 0 < cs0.size := by
      have : cs0.toList.length = Tryz.prog.cellsOf 174 := hlen
      rw [cellsT64] at this
      simpa using (show 0 < cs0.toList.length by omega)
    rw [Array.getElem?_eq_getElem hl] at hc
    exact World.block_lt_of_cell? W _ hc
  refine ⟨hsz, fun j hj => ?_⟩
  have hj' := hel j hj
  have hjx : j < xs.length := by omega
  rw [List.getElem?_eq_getElem hjx] at hj'
  obtain ⟨k, e1, e2, _⟩ := DataW.trod_int Tryz.underlying5 hj'
  have h3 : (xs.map (·.1))[j]? = some (.lit (.int .u8 k)) := by
    rw [List.getElem?_map, List.getElem?_eq_getElem hjx, e2]; rfl
  rw [← hx1.1] at h3
  have htl : j < Lib.deBruijn64tab.length := hj
  rw [List.getElem?_map, List.getElem?_eq_getElem htl] at h3
  simp only [Option.map_some, Option.some.injEq, DataW.lit.injEq, Lit.int.injEq, true_and] at h3
  have hc : W.cell? ⟨0, j, none⟩ = cs0[j]? := World.var?_cell hg0 hv0 j
  rw [hc]
  rw [cellsU8t, Nat.mul_one] at e1
  have h4 : cs0.toList[j]? = some (.int .u8 k) := by
    have := congrArg (fun l => l[0]?) e1
    simpa using this
  rw [← Array.getElem?_toList, h4, ← h3]
  simp [List.getD_eq_getElem?_getD, List.getElem?_eq_getElem htl]

/-- Any list that has the two. -/
theorem ent_of2 {W : World} (h : laidMetH Tryz.prog laid2 W) : EntIn W := ent_of_laid ((show laid2.filter (fun x => x.1 == "jigsaw/model.entries") = laid1 by kernel_rfl) ▸ h.filter _)
theorem tab_of2 {W : World} (h : laidMetH Tryz.prog laid2 W) : TabZ W := tab_of_laid ((show laid2.filter (fun x => x.1 == "math/bits.deBruijn64tab") = laidT by kernel_rfl) ▸ h.filter _)
end Go.Proofs.YtkhmocbfkpbpfaaGreatDoor
