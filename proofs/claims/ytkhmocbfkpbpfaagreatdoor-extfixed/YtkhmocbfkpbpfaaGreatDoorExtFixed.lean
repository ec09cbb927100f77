/-
  PROVED: for every plain data of a constraint, every kind's number and every values the law jigsawlaw12.ExtFixed answers true: whatever values are fixed, an absolute value, a minimum or a maximum is filtered to them just if it holds of them (P12.2). The card's condition: the two listed variables (the table of kinds, math/bits' table) are laid as the program's text says (tied).
-/
import Derived.Test.YtkhmocbfkpbpfaaGreatDoorRows
import Derived.Test.YtkhmocbfkpbpfaaGreatDoorCards
import Derived.Test.YtkhmocbfkpbpfaaGreatDoorTie
import Derived.Test.YtkhmocbfkpbpfaaGreatDoorExtfw
import Derived.Test.YtkhmocbfkpbpfaaGreatDoorSmopen
import Derived.Below
import Derived.Test.YtkhmocbfkpbpfaaGreatDoorLlaid
import Derived.SevenTiedAt
import Derived.ChangeMaps5
namespace Go.Proofs.YtkhmocbfkpbpfaaGreatDoor.extFixed
open Go.ChangeShapes Go.WideShapes Go.ChangeAt Go.RowKit Go.ChangeMaps

set_option maxRecDepth 100000 in
theorem lifted (os : Os) (started : os.Started) (H : Type) (enc : TypeId × Value → H) :
    ReturnsInHanded {} Tryz.checked os 6 .any (fun w args => (Rows.extFixedSpec.pre enc Tryz.prog Tryz.f6 [] false w args ∧ laidMetH Tryz.prog laid2 w) ∧ sizedMet enc Tryz.prog Tryz.f6 (OpenSpec.ofChange Rows.extFixedSpec) false w args)
      (Rows.extFixedSpec.post enc Tryz.prog Tryz.f6 false true false false) := by
  refine returnsInHanded_of_change_and (C := Tryz.checked) (X := fun w _ => laidMetH Tryz.prog laid2 w) (fun _ _ _ hh h => h.of_heap hh) own started (by kernel_rfl) Tryz.func6
    (ChangeSpec.witness_shaped (enc := enc) (C := Tryz.checked) (os := os) (X := fun w _ => laidMetH Tryz.prog laid2 w) false (World.doorLaid Tryz.prog 1000 os) #[.agg #[.int .u8 0, .slice none 0 0, .slice none 0 0, .slice none 0 0, .int .i16 0, .int .u8 0], .int .u8 0, .slice none 0 0] 8 rfl (World.shaped_of_RefB (by kernel_rfl) (by kernel_rfl)) (by kernel_rfl) (by kernel_rfl) (by kernel_rfl) (door_met2 os _)) ?_
  intro W base args ds gs before hval0 hW _ _ hL _
  have hval : ∀ (j : Nat) t v, Tryz.f6.params[j]? = some t → args[j]? = some v → Value.okWide Tryz.prog W .any base t v := hval0
  have hW' := hW
  obtain ⟨p, q, hA0, hV, rfl, hfz, hnd⟩ := hW
  have hA : DataW.TrodAll enc Tryz.prog W 0 (fun _ => true) true Tryz.f6.params.toList args.toList ds p := hA0
  rw [Tryz.params6] at hA hval
  obtain ⟨v0, v1, v2, d0, d1, d2, p0, p1, p2, rfl, rfl, rfl, h0, h1, h2⟩ := trodAll_three hA
  obtain ⟨rfl, rfl⟩ := trodVars_none hV
  have h0k := h0
  have h2k := h2
  obtain ⟨zA, zB, zC, k, K, ch, la, lb, lc, rfl, hz⟩ := small_view (hval 0 26 v0 rfl rfl) h0
  obtain ⟨n1, rfl, rfl, rfl, w1⟩ := open_int Tryz.underlying5 (hval 1 5 v1 rfl rfl) h1
  obtain ⟨a2, l2, c2, rfl⟩ := okWide_slice Tryz.underlying23 (hval 2 23 v2 rfl rfl)
  obtain ⟨f2, hf2⟩ := h2
  obtain ⟨x2, L2, ex2, hx2, wx2⟩ := ns_view Tryz.underlying23 Tryz.underlying59 cellsI8 (v := .slice a2 l2 c2) (by simpa [Value.cells] using hf2)
  simp only [Value.slice.injEq] at ex2
  obtain ⟨rfl, rfl, rfl⟩ := ex2
  clear hA0 hval0
  simp only [List.append_nil] at hW'
  have hlt0 : ∀ y ∈ p0, y.block < W.heap.size := fun y hy => hW'.lt y (by simp [hy])
  have hlt2 : ∀ y ∈ p2, y.block < W.heap.size := fun y hy => hW'.lt y (by simp [hy])
  refine (extFixed_walk zA zB zC x2 la lb lc L2 k n1 K ch W hz.a hz.b hz.c hz.ba hz.bb hz.bc (u8_wf w1) hz.K hz.ch hx2 (fun v hv => i8_wf (wx2 v hv)) (ent_of2 hL) (tab_of2 hL)).mono ?_
  rintro e W' ⟨rfl, hnx⟩
  refine ⟨_, rfl, _, _, _, [], _, [], hW', ?_, trodAll_mk3 (Below.trod laidOut (by kernel_rfl) (of_decide_eq_true (by kernel_rfl)) h0k hnx hlt0) (shut_int Tryz.underlying5 w1) (Below.trod laidOut (by kernel_rfl) (of_decide_eq_true (by kernel_rfl)) h2k hnx hlt2), rfl, hnx.frame _, fun h => by cases h⟩
  exact trodAll_mk1 (shut_bool Tryz.underlying4 _)

theorem said : Rows.ExtFixedSaid :=
  OpenClaim.holds_of_wide 6 Tryz.f6 rfl rfl rfl rfl rfl rfl rfl ⟨rfl, rfl, rfl, rfl, rfl⟩ rfl rfl rfl rfl rfl (by kernel_rfl) Tryz.func6 (by kernel_rfl)
    (of_decide_eq_true (by kernel_rfl)) (by unfold Func.isWrapper; first | (rw [if_pos (by decide +kernel)]; kernel_rfl) | (rw [if_neg (by decide +kernel)]; exact ⟨rfl, rfl⟩))
    (fun os started H enc _ => lifted os started H enc)

end Go.Proofs.YtkhmocbfkpbpfaaGreatDoor.extFixed
namespace Go.Proofs.YtkhmocbfkpbpfaaGreatDoor
open Go
theorem extFixed_holds : Rows.ExtFixedCardSaid :=
  Claim7.holds_tied_plain_at .later [] [.data, .data] true (true, "b57abb680df54703d4d84127f8ad82709f9fb725f12f7fab0dddca3fba911323") false
    extFixed.said (fun _ h => by cases h) (by kernel_rfl) (fun _ h => by cases h) extFixed_row_tie rfl ⟨rfl, rfl⟩ (by kernel_rfl) rfl
    (fun f fn hf hfn => by
      obtain rfl : f = 6 := Option.some.inj ((show Tryz.prog.funcNamed "jigsaw/jigsawlaw12.ExtFixed" = some 6 by kernel_rfl).symm.trans hf) |>.symm
      obtain rfl : fn = Tryz.f6 := (Option.some.inj (Tryz.func6.symm.trans hfn)).symm
      exact ⟨by kernel_rfl, fun j t ht => by
        rw [Tryz.params6] at ht
        have hm : t ∈ [26, 5, 23] := by simpa using Array.mem_of_getElem? ht
        have hall : ([26, 5, 23].all fun u => !Tryz.prog.wantsStandIn u) = true := by kernel_rfl
        exact (show Tryz.prog.wantsStandIn t = false by simpa using List.all_eq_true.1 hall t hm)⟩)
    (by kernel_rfl)
#print axioms extFixed_holds
end Go.Proofs.YtkhmocbfkpbpfaaGreatDoor
