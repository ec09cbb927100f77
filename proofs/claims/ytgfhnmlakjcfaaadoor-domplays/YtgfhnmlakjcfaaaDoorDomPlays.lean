/-
  PROVED: for every list of numbers and every list of acts the law jigsawlaw02.DomPlays answers true: act by act Without, Only, AtLeast, AtMost, And and Minus leave what the reference keeps and tell the change that it tells; the domain that was there before reads as it did (P2.2, P2.3). The card's condition: the one listed table of math/bits is laid as the program's text says (tied).
-/
import Derived.Test.YtgfhnmlakjcfaaaDoorRows
import Derived.Test.YtgfhnmlakjcfaaaDoorCards
import Derived.Test.YtgfhnmlakjcfaaaDoorTie
import Derived.Test.YtgfhnmlakjcfaaaDoorActs
import Derived.Test.YtgfhnmlakjcfaaaDoorLaid
import Derived.SevenTiedAt
namespace Go.Proofs.YtgfhnmlakjcfaaaDoor.domPlays
open Go.ChangeShapes Go.WideShapes Go.ChangeAt Go.RowKit

set_option maxRecDepth 100000 in
theorem lifted (os : Os) (started : os.Started) (H : Type) (enc : TypeId × Value → H) :
    ReturnsInHanded {} Tryd.checked os 4 .any (fun w args => (Rows.domPlaysSpec.pre enc Tryd.prog Tryd.f4 [] false w args ∧ laidMetH Tryd.prog laid1 w) ∧ sizedMet enc Tryd.prog Tryd.f4 (OpenSpec.ofChange Rows.domPlaysSpec) false w args)
      (Rows.domPlaysSpec.post enc Tryd.prog Tryd.f4 false true false false) := by
  refine returnsInHanded_of_change_and (C := Tryd.checked) (X := fun w _ => laidMetH Tryd.prog laid1 w) (fun _ _ _ hh h => h.of_heap hh) own started (by kernel_rfl) Tryd.func4
    (ChangeSpec.witness_shaped (enc := enc) (C := Tryd.checked) (os := os) (X := fun w _ => laidMetH Tryd.prog laid1 w) false (World.doorLaid Tryd.prog 400 os) #[.slice none 0 0, .slice none 0 0] 8 rfl (World.shaped_of_RefB (by kernel_rfl) (by kernel_rfl)) (by kernel_rfl) (by kernel_rfl) (by kernel_rfl) (door_met os _)) ?_
  intro W base args ds gs before hval0 hW _ _ hL _
  have hval : ∀ (j : Nat) t v, Tryd.f4.params[j]? = some t → args[j]? = some v → Value.okWide Tryd.prog W .any base t v := hval0
  have hW' := hW
  obtain ⟨p, q, hA0, hV, rfl, hfz, hnd⟩ := hW
  have hA : DataW.TrodAll enc Tryd.prog W 0 (fun _ => true) true Tryd.f4.params.toList args.toList ds p := hA0
  rw [Tryd.params4] at hA hval
  obtain ⟨v0, v1, d0, d1, p0, p1, rfl, rfl, rfl, h0, h1⟩ := trodAll_two hA
  obtain ⟨rfl, rfl⟩ := trodVars_none hV
  obtain ⟨a0, la, ca, rfl⟩ := okWide_slice Tryd.underlying22 (hval 0 22 v0 rfl rfl)
  obtain ⟨b0, lb, cb, rfl⟩ := okWide_slice Tryd.underlying42 (hval 1 42 v1 rfl rfl)
  have h0k := h0
  have h1k := h1
  obtain ⟨fa, hfa⟩ := h0
  obtain ⟨fb, hfb⟩ := h1
  clear hA0 hval0
  simp only [List.append_nil] at hW'
  have hlt : ∀ x ∈ p0 ++ p1, x.block < W.heap.size := fun x hx => by simpa using hW'.lt x hx
  obtain ⟨A, hAl, hlca, hA1, -⟩ := view hfa
  have hcall : Calls Tryd.prog 4 #[.slice a0 la ca, .slice b0 lb cb] W fun e w' => e = .returned (.bool true) ∧ Below W.heap.size W w' := by
    rcases view_acts hfb with h | ⟨a, rfl, hp, hcb, hacts⟩
    · rw [h]
      exact plays_none a0 b0 A ca la cb W (of_laid hL) hAl.symm hA1 hlca
    · exact plays_some a0 A ca la lb cb (min lb 12) a W (of_laid hL) hAl.symm hA1 hlca hp hcb hacts (by omega)
  refine hcall.mono ?_
  rintro e W' ⟨rfl, hnx⟩
  refine ⟨_, rfl, _, _, _, [], _, [], hW', ?_, trodAll_mk2 (Below.trod laidOut (by kernel_rfl) (of_decide_eq_true (by kernel_rfl)) h0k hnx (fun x hx => hlt x (by simp [hx]))) (Below.trod laidOut (by kernel_rfl) (of_decide_eq_true (by kernel_rfl)) h1k hnx (fun x hx => hlt x (by simp [hx]))), rfl, hnx.frame _, fun h => by cases h⟩
  exact trodAll_mk1 (shut_bool Tryd.underlying4 _)

theorem said : Rows.DomPlaysSaid :=
  OpenClaim.holds_of_wide 4 Tryd.f4 rfl rfl rfl rfl rfl rfl rfl ⟨rfl, rfl, rfl, rfl, rfl⟩ rfl rfl rfl rfl rfl (by kernel_rfl) Tryd.func4 (by kernel_rfl)
    (of_decide_eq_true (by kernel_rfl)) (by unfold Func.isWrapper; first | (rw [if_pos (by decide +kernel)]; kernel_rfl) | (rw [if_neg (by decide +kernel)]; exact ⟨rfl, rfl⟩))
    (fun os started H enc _ => lifted os started H enc)

end Go.Proofs.YtgfhnmlakjcfaaaDoor.domPlays
namespace Go.Proofs.YtgfhnmlakjcfaaaDoor
open Go
theorem domPlays_holds : Rows.DomPlaysCardSaid :=
  Claim7.holds_tied_plain_at .later [] [.data] true (true, "a65d566e275481c085e7c8aae2552954b5e387b714989b494b14f4dd9ac98e08") false
    domPlays.said (fun _ h => by cases h) (by kernel_rfl) (fun _ h => by cases h) domPlays_row_tie rfl ⟨rfl, rfl⟩ (by kernel_rfl) rfl
    (fun f fn hf hfn => by
      obtain rfl : f = 4 := Option.some.inj ((show Tryd.prog.funcNamed "jigsaw/jigsawlaw02.DomPlays" = some 4 by kernel_rfl).symm.trans hf) |>.symm
      obtain rfl : fn = Tryd.f4 := (Option.some.inj (Tryd.func4.symm.trans hfn)).symm
      exact ⟨by kernel_rfl, fun j t ht => by
        rw [Tryd.params4] at ht
        have hm : t ∈ [22, 42] := by simpa using Array.mem_of_getElem? ht
        have hall : ([22, 42].all fun u => !Tryd.prog.wantsStandIn u) = true := by kernel_rfl
        exact (show Tryd.prog.wantsStandIn t = false by simpa using List.all_eq_true.1 hall t hm)⟩)
    (by kernel_rfl)
#print axioms domPlays_holds
end Go.Proofs.YtgfhnmlakjcfaaaDoor
