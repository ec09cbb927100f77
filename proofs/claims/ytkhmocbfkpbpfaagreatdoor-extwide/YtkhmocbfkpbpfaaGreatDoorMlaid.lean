/- The listed table is the table of kinds; a start that lays it. -/
import Derived.Test.YtkhmocbfkpbpfaaGreatDoorRows
import Derived.Test.YtkhmocbfkpbpfaaGreatDoorMkind
import Derived.WalkKit
import Derived.ProofKit
import Derived.LaidMore
import Derived.OpenShut
import Derived.SizedLaws
import Derived.Carry
import Derived.Stop.Joined
import Derived.ChangeArms
namespace Go.Proofs.YtkhmocbfkpbpfaaGreatDoor
open Go.ChangeShapes Go.WideShapes Go.ChangeAt Go.RowKit

theorem own : ownKnob Tryz.prog.godebug = none := by kernel_rfl
theorem laidOut : laidOutB Tryz.prog = true := by kernel_rfl

def laid1 : List (String × DataW Unit) := [("jigsaw/model.entries", Rows.laid_jigsaw_model_entries)]

set_option maxRecDepth 100000 in
theorem door_met (os : Os) (args : Array Value) : laidMetH Tryz.prog laid1 ((World.doorLaid Tryz.prog 1000 os).forCall (fun _ _ => 0) ⟨#[], args, []⟩).memory :=
  laidMetH_of_parts3 (fuel := 8) (laidMet_of_run' 8 (by kernel_rfl) (by kernel_rfl)) (by kernel_rfl) (by kernel_rfl)

def Ent.dat (e : Ent) : DataW Unit := .agg [.lit (.int .i64 ((e.k : Nat) : Int)), .lit (.string e.word), .lit (.string e.shape)]
theorem laid_is : (Rows.laid_jigsaw_model_entries : DataW Unit) = .agg (ents.map Ent.dat) := by kernel_rfl

theorem cellsE : Tryz.prog.cellsOf 168 = 3 := by kernel_rfl
theorem cellsA : Tryz.prog.cellsOf 211 = 69 := by kernel_rfl
theorem cellsI : Tryz.prog.cellsOf 3 = 1 := by kernel_rfl
theorem cellsS : Tryz.prog.cellsOf 9 = 1 := by kernel_rfl
theorem entG : Tryz.prog.globalNamed "jigsaw/model.entries" = some 1 := by kernel_rfl
theorem entT : (Tryz.prog.globals[1]?).map (·.type) = some 211 := by kernel_rfl

theorem three_of {cs : List Value} (h : cs.length = 3) : ∃ a b c, cs = [a, b, c] := by
  match cs, h with
  | [a, b, c], _ => exact ⟨a, b, c, rfl⟩

set_option maxRecDepth 100000 in
theorem ent_cells {enc : TypeId × Value → Unit} {w : World} {base : Nat} {sp : Nat → Bool} {held : Bool} {fuel : Nat} {cs : List Value} {en : Ent} {p : List MemPlace}
    (h : DataW.trod enc Tryz.prog w base sp held fuel 168 cs = some (en.dat, p)) : cs = en.vals := by
  cases fuel with
  | zero => simp [DataW.trod] at h
  | succ fuel =>
    simp only [DataW.trod, Tryz.underlying168, cellsE] at h
    split at h
    · rename_i hl
      obtain ⟨c0, c1, c2, rfl⟩ := three_of hl
      simp only [List.mapM_cons, List.mapM_nil, Option.map_eq_some_iff, Option.bind_eq_bind, Option.bind_eq_some_iff, Option.pure_def, Option.some.injEq] at h
      obtain ⟨xs, ⟨y0, h0, _, ⟨y1, h1, _, ⟨y2, h2, _, rfl, rfl⟩, rfl⟩, rfl⟩, hx⟩ := h
      simp only [cellsI, cellsS, List.drop_zero, List.drop_succ_cons, List.take_succ_cons, List.take_zero] at h0 h1 h2
      obtain ⟨n, e0, rfl, -⟩ := DataW.trod_int Tryz.underlying3 h0
      obtain ⟨s1, e1, rfl, -⟩ := DataW.trod_string Tryz.underlying9 h1
      obtain ⟨s2, e2, rfl, -⟩ := DataW.trod_string Tryz.underlying9 h2
      cases e0
      cases e1
      cases e2
      simp only [Ent.dat, List.map_cons, List.map_nil, Prod.mk.injEq, DataW.agg.injEq, List.cons.injEq, DataW.lit.injEq, Lit.int.injEq, Lit.string.injEq, true_and, and_true] at hx
      obtain ⟨⟨rfl, hw, hs⟩, -⟩ := hx
      unfold Ent.vals
      rw [← hw, ← hs]
    · cases h

theorem ent_of_laid {W : World} (h : laidMetH Tryz.prog laid1 W) : EntIn W := by
  have h' : laidMet Tryz.prog laid1 W := h
  obtain ⟨ps, ⟨g, t, cs, fuel, p, q, hg, ht, hvar, hd, _, _⟩, _⟩ := h'
  obtain rfl := Option.some.inj (entG.symm.trans hg)
  obtain rfl := Option.some.inj (entT.symm.trans ht)
  rw [laid_is] at hd
  have hcell : ∀ j v, entCells[j]? = some v → W.cell? ⟨1, j, none⟩ = some v := by
    intro j v hj
    rw [World.var?_cell hg hvar j]
    cases fuel with
    | zero => simp [DataW.trod] at hd
    | succ fuel =>
      simp only [DataW.trod, Tryz.underlying211, cellsE, cellsA] at hd
      split at hd
      · rename_i hl
        obtain ⟨xs, hm, hx⟩ := Option.map_eq_some_iff.1 hd
        have hxs : xs.map (·.1) = ents.map Ent.dat := by
          have := congrArg Prod.fst hx
          simpa using this
        have hj69 : j < 69 := by
          have := (List.getElem?_eq_some_iff.1 hj).1
          exact this
        obtain ⟨b, hb, hf⟩ := Lib.mapM_at hm (j / 3) (j / 3) (by rw [List.getElem?_range (by omega)])
        have h2 : (xs.map (·.1))[j / 3]? = some b.1 := by simp [hb]
        rw [hxs, List.getElem?_map] at h2
        obtain ⟨en, hen, hbe⟩ := Option.map_eq_some_iff.1 h2
        obtain ⟨b1, b2⟩ := b
        simp only at hbe
        subst hbe
        have hc := ent_cells hf
        have h3 : cs.toList[j]? = en.vals[j % 3]? := by
          rw [← hc, List.getElem?_take, if_pos (by omega), List.getElem?_drop, show j / 3 * 3 + j % 3 = j by omega]
        have h4 : entCells[j]? = en.vals[j % 3]? := by
          have hj3 : j / 3 < 23 := by omega
          have ee : en = ents.getD (j / 3) noEnt := by rw [List.getD_eq_getElem?_getD, hen]; rfl
          have hall : ((List.range 69).map fun j : Nat => entCells[j]?) = (List.range 69).map fun j => (ents.getD (j / 3) noEnt).vals[j % 3]? := by kernel_rfl
          rw [ee]
          exact List.map_inj_left.1 hall j (List.mem_range.2 hj69)
        rw [← Array.getElem?_toList, h3, ← h4]
        exact hj
      · cases hd
  refine ⟨?_, hcell⟩
  have h0 := hcell 0 _ (show entCells[0]? = some (.int .i64 1) from rfl)
  exact block_lt_of_cell h0
end Go.Proofs.YtkhmocbfkpbpfaaGreatDoor
