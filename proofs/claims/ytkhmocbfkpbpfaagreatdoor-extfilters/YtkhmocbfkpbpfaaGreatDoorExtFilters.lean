/-
  PROVED: for every plain data of a constraint with domains and every kind's number the law jigsawlaw12.ExtFilters answers true: what is left of any domains, of an absolute value, a minimum or a maximum, is the document's, or nothing is (P12.1). The card's condition: the two listed variables (the table of kinds, math/bits' table) are laid as the program's text says (tied).
-/
import Derived.Test.YtkhmocbfkpbpfaaGreatDoorRows
import Derived.Test.YtkhmocbfkpbpfaaGreatDoorCards
import Derived.Test.YtkhmocbfkpbpfaaGreatDoorTie
import Derived.Test.YtkhmocbfkpbpfaaGreatDoorExtq
import Derived.Test.YtkhmocbfkpbpfaaGreatDoorCaopen
import Derived.Test.YtkhmocbfkpbpfaaGreatDoorLlaid
import Derived.Below
import Derived.SevenTiedAt
import Derived.ChangeMaps5
namespace Go.Proofs.YtkhmocbfkpbpfaaGreatDoor.extFilters
open Go.ChangeShapes Go.WideShapes Go.ChangeAt Go.RowKit Go.ChangeMaps

set_option maxRecDepth 100000 in
theorem lifted (os : Os) (started : os.Started) (H : Type) (enc : TypeId × Value → H) :
    ReturnsInHanded {} Tryz.checked os 3 .any (fun w args => (Rows.extFiltersSpec.pre enc Tryz.prog Tryz.f3 [] false w args ∧ laidMetH Tryz.prog laid2 w) ∧ sizedMet enc Tryz.prog Tryz.f3 (OpenSpec.ofChange Rows.extFiltersSpec) false w args)
      (Rows.extFiltersSpec.post enc Tryz.prog Tryz.f3 false true false false) := by
  refine returnsInHanded_of_change_and (C := Tryz.checked) (X := fun w _ => laidMetH Tryz.prog laid2 w) (fun _ _ _ hh h => h.of_heap hh) own started (by kernel_rfl) Tryz.func3
    (ChangeSpec.witness_shaped (enc := enc) (C := Tryz.checked) (os := os) (X := fun w _ => laidMetH Tryz.prog laid2 w) false (World.doorLaid Tryz.prog 1000 os) #[.agg #[.int .u8 0, .slice none 0 0, .slice none 0 0, .slice none 0 0, .int .i16 0, .int .u8 0, .slice none 0 0], .int .u8 0] 8 rfl (World.shaped_of_RefB (by kernel_rfl) (by kernel_rfl)) (by kernel_rfl) (by kernel_rfl) (by kernel_rfl) (door_met2 os _)) ?_
  intro W base args ds gs before hval0 hW _ _ hL _
  have hval : ∀ (j : Nat) t v, Tryz.f3.params[j]? = some t → args[j]? = some v → Value.okWide Tryz.prog W .any base t v := hval0
  have hW' := hW
  obtain ⟨p, q, hA0, hV, rfl, hfz, hnd⟩ := hW
  have hA : DataW.TrodAll enc Tryz.prog W 0 (fun _ => true) true Tryz.f3.params.toList args.toList ds p := hA0
  rw [Tryz.params3] at hA hval
  obtain ⟨v0, v1, d0, d1, p0, p1, rfl, rfl, rfl, h0, h1⟩ := trodAll_two hA
  obtain ⟨rfl, rfl⟩ := trodVars_none hV
  have h0k := h0
  obtain ⟨zA, zB, zC, zx, k, K, ch, la, lb, lc, DD, rfl, hz, hzx⟩ := case_view (hval 0 29 v0 rfl rfl) h0
  obtain ⟨n1, rfl, rfl, rfl, w1⟩ := open_int Tryz.underlying5 (hval 1 5 v1 rfl rfl) h1
  clear hA0 hval0
  simp only [List.append_nil] at hW'
  have hlt0 : ∀ y ∈ p0, y.block < W.heap.size := fun y hy => hW'.lt y (by simp [hy])
  refine (extFilters_walk zA zB zC zx la lb lc DD k n1 K ch W hz.a hz.b hz.c hz.ba hz.bb hz.bc (u8_wf w1) hz.K hz.ch hzx (ent_of2 hL) (tab_of2 hL)).mono ?_
  rintro e W' ⟨rfl, hnx⟩
  refine ⟨_, rfl, _, _, _, [], _, [], hW', ?_, trodAll_mk2 (Below.trod laidOut (by kernel_rfl) (of_decide_eq_true (by kernel_rfl)) h0k hnx hlt0) (shut_int Tryz.underlying5 w1), rfl, hnx.frame _, fun h => by cases h⟩
  exact trodAll_mk1 (shut_bool Tryz.underlying4 _)

theorem said : Rows.ExtFiltersSaid :=
  OpenClaim.holds_of_wide 3 Tryz.f3 rfl rfl rfl rfl rfl rfl rfl ⟨rfl, rfl, rfl, rfl, rfl⟩ rfl rfl rfl rfl rfl (by kernel_rfl) Tryz.func3 (by kernel_rfl)
    (of_decide_eq_true (by kernel_rfl)) (by unfold Func.isWrapper; first | (rw [if_pos (by decide +kernel)]; kernel_rfl) | (rw [if_neg (by decide +kernel)]; exact ⟨rfl, rfl⟩))
    (fun os started H enc _ => lifted os started H enc)

end Go.Proofs.YtkhmocbfkpbpfaaGreatDoor.extFilters
namespace Go.Proofs.YtkhmocbfkpbpfaaGreatDoor
open Go
theorem extFilters_holds : Rows.ExtFiltersCardSaid :=
  Claim7.holds_tied_plain_at .later [] [.data, .data] true (true, "b57abb680df54703d4d84127f8ad82709f9fb725f12f7fab0dddca3fba911323") false
    extFilters.said (fun _ h => by cases h) (by kernel_rfl) (fun _ h => by cases h) extFilters_row_tie rfl ⟨rfl, rfl⟩ (by kernel_rfl) rfl
    (fun f fn hf hfn => by
      obtain rfl : f = 3 := Option.some.inj ((show Tryz.prog.funcNamed "jigsaw/jigsawlaw12.ExtFilters" = some 3 by kernel_rfl).symm.trans hf) |>.symm
      obtain rfl : fn = Tryz.f3 := (Option.some.inj (Tryz.func3.symm.trans hfn)).symm
      exact ⟨by kernel_rfl, fun j t ht => by
        rw [Tryz.params3] at ht
        have hm : t ∈ [29, 5] := by simpa using Array.mem_of_getElem? ht
        have hall : ([29, 5].all fun u => !Tryz.prog.wantsStandIn u) = true := by kernel_rfl
        exact (show Tryz.prog.wantsStandIn t = false by simpa using List.all_eq_true.1 hall t hm)⟩)
    (by kernel_rfl)
#print axioms extFilters_holds
end Go.Proofs.YtkhmocbfkpbpfaaGreatDoor
