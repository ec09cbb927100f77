/-
  PROVED: for every kind's number and every three small numbers to begin with and to tell sizes the law jigsawlaw12.ExtWide answers true: what is left of great domains, of an absolute value, a minimum or a maximum, with more pairs than are looked at and with just as many, is the document's (P12.1). The card's condition: the two listed variables (the table of kinds, math/bits' table) are laid as the program's text says (tied).
-/
import Derived.Test.YtkhmocbfkpbpfaaGreatDoorRows
import Derived.Test.YtkhmocbfkpbpfaaGreatDoorCards
import Derived.Test.YtkhmocbfkpbpfaaGreatDoorTie
import Derived.Test.YtkhmocbfkpbpfaaGreatDoorExtz
import Derived.Test.YtkhmocbfkpbpfaaGreatDoorThree
import Derived.Test.YtkhmocbfkpbpfaaGreatDoorSmopen
import Derived.Test.YtkhmocbfkpbpfaaGreatDoorLlaid
import Derived.Below
import Derived.SevenTiedAt
import Derived.ChangeMaps5
namespace Go.Proofs.YtkhmocbfkpbpfaaGreatDoor.extWide
open Go.ChangeShapes Go.WideShapes Go.ChangeAt Go.RowKit Go.ChangeMaps

set_option maxRecDepth 100000 in
theorem lifted (os : Os) (started : os.Started) (H : Type) (enc : TypeId × Value → H) :
    ReturnsInHanded {} Tryz.checked os 7 .any (fun w args => (Rows.extWideSpec.pre enc Tryz.prog Tryz.f7 [] false w args ∧ laidMetH Tryz.prog laid2 w) ∧ sizedMet enc Tryz.prog Tryz.f7 (OpenSpec.ofChange Rows.extWideSpec) false w args)
      (Rows.extWideSpec.post enc Tryz.prog Tryz.f7 false true false false) := by
  refine returnsInHanded_of_change_and (C := Tryz.checked) (X := fun w _ => laidMetH Tryz.prog laid2 w) (fun _ _ _ hh h => h.of_heap hh) own started (by kernel_rfl) Tryz.func7
    (ChangeSpec.witness_shaped (enc := enc) (C := Tryz.checked) (os := os) (X := fun w _ => laidMetH Tryz.prog laid2 w) false (World.doorLaid Tryz.prog 1000 os) #[.int .u8 0, .agg #[.int .i16 0, .int .i16 0, .int .i16 0], .agg #[.int .i16 0, .int .i16 0, .int .i16 0]] 8 rfl (World.shaped_of_RefB (by kernel_rfl) (by kernel_rfl)) (by kernel_rfl) (by kernel_rfl) (by kernel_rfl) (door_met2 os _)) ?_
  intro W base args ds gs before hval0 hW _ _ hL _
  have hval : ∀ (j : Nat) t v, Tryz.f7.params[j]? = some t → args[j]? = some v → Value.okWide Tryz.prog W .any base t v := hval0
  have hW' := hW
  obtain ⟨p, q, hA0, hV, rfl, hfz, hnd⟩ := hW
  have hA : DataW.TrodAll enc Tryz.prog W 0 (fun _ => true) true Tryz.f7.params.toList args.toList ds p := hA0
  rw [Tryz.params7] at hA hval
  obtain ⟨v0, v1, v2, d0, d1, d2, p0, p1, p2, rfl, rfl, rfl, h0, h1, h2⟩ := trodAll_three hA
  obtain ⟨rfl, rfl⟩ := trodVars_none hV
  have h1k := h1
  have h2k := h2
  obtain ⟨n0, rfl, rfl, rfl, w0⟩ := open_int Tryz.underlying5 (hval 0 5 v0 rfl rfl) h0
  obtain ⟨i1, j1, k1, rfl, q1⟩ := three_view (hval 1 62 v1 rfl rfl) h1
  obtain ⟨i2, j2, k2, rfl, q2⟩ := three_view (hval 2 62 v2 rfl rfl) h2
  clear hA0 hval0
  simp only [List.append_nil] at hW'
  have hlt1 : ∀ y ∈ p1, y.block < W.heap.size := fun y hy => hW'.lt y (by simp [hy])
  have hlt2 : ∀ y ∈ p2, y.block < W.heap.size := fun y hy => hW'.lt y (by simp [hy])
  refine (extWide_walk n0 i1 j1 k1 i2 j2 k2 W (u8_wf w0) q1 q2 (ent_of2 hL) (tab_of2 hL)).mono ?_
  rintro e W' ⟨rfl, hnx⟩
  refine ⟨_, rfl, _, _, _, [], _, [], hW', ?_, trodAll_mk3 (shut_int Tryz.underlying5 w0) (Below.trod laidOut (by kernel_rfl) (of_decide_eq_true (by kernel_rfl)) h1k hnx hlt1) (Below.trod laidOut (by kernel_rfl) (of_decide_eq_true (by kernel_rfl)) h2k hnx hlt2), rfl, hnx.frame _, fun h => by cases h⟩
  exact trodAll_mk1 (shut_bool Tryz.underlying4 _)

theorem said : Rows.ExtWideSaid :=
  OpenClaim.holds_of_wide 7 Tryz.f7 rfl rfl rfl rfl rfl rfl rfl ⟨rfl, rfl, rfl, rfl, rfl⟩ rfl rfl rfl rfl rfl (by kernel_rfl) Tryz.func7 (by kernel_rfl)
    (of_decide_eq_true (by kernel_rfl)) (by unfold Func.isWrapper; first | (rw [if_pos (by decide +kernel)]; kernel_rfl) | (rw [if_neg (by decide +kernel)]; exact ⟨rfl, rfl⟩))
    (fun os started H enc _ => lifted os started H enc)

end Go.Proofs.YtkhmocbfkpbpfaaGreatDoor.extWide
namespace Go.Proofs.YtkhmocbfkpbpfaaGreatDoor
open Go
theorem extWide_holds : Rows.ExtWideCardSaid :=
  Claim7.holds_tied_plain_at .later [] [.data, .data] true (true, "b57abb680df54703d4d84127f8ad82709f9fb725f12f7fab0dddca3fba911323") false
    extWide.said (fun _ h => by cases h) (by kernel_rfl) (fun _ h => by cases h) extWide_row_tie rfl ⟨rfl, rfl⟩ (by kernel_rfl) rfl
    (fun f fn hf hfn => by
      obtain rfl : f = 7 := Option.some.inj ((show Tryz.prog.funcNamed "jigsaw/jigsawlaw12.ExtWide" = some 7 by kernel_rfl).symm.trans hf) |>.symm
      obtain rfl : fn = Tryz.f7 := (Option.some.inj (Tryz.func7.symm.trans hfn)).symm
      exact ⟨by kernel_rfl, fun j t ht => by
        rw [Tryz.params7] at ht
        have hm : t ∈ [5, 62, 62] := by simpa using Array.mem_of_getElem? ht
        have hall : ([5, 62, 62].all fun u => !Tryz.prog.wantsStandIn u) = true := by kernel_rfl
        exact (show Tryz.prog.wantsStandIn t = false by simpa using List.all_eq_true.1 hall t hm)⟩)
    (by kernel_rfl)
#print axioms extWide_holds
end Go.Proofs.YtkhmocbfkpbpfaaGreatDoor
