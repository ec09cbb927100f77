/-
  PROVED: for every plain data of a constraint with domains, every constraint's fields and every number the law jigsawlaw12.ExtRefuses answers true: what layer 12 does not take up is refused as the document asks (P10.1, layer 10's words, of layer 12). The card's condition: the two listed variables (the table of kinds, math/bits' table) are laid as the program's text says (tied).
-/
import Derived.Test.YtkhmocbfkpbpfaaGreatDoorRows
import Derived.Test.YtkhmocbfkpbpfaaGreatDoorCards
import Derived.Test.YtkhmocbfkpbpfaaGreatDoorTie
import Derived.Test.YtkhmocbfkpbpfaaGreatDoorExtr
import Derived.Test.YtkhmocbfkpbpfaaGreatDoorCaopen
import Derived.Test.YtkhmocbfkpbpfaaGreatDoorSmopen
import Derived.Below
import Derived.Test.YtkhmocbfkpbpfaaGreatDoorLlaid
import Derived.SevenTiedAt
import Derived.ChangeMaps5
namespace Go.Proofs.YtkhmocbfkpbpfaaGreatDoor.extRefuses
open Go.ChangeShapes Go.WideShapes Go.ChangeAt Go.RowKit Go.ChangeMaps

set_option maxRecDepth 100000 in
theorem lifted (os : Os) (started : os.Started) (H : Type) (enc : TypeId × Value → H) :
    ReturnsInHanded {} Tryz.checked os 4 .any (fun w args => (Rows.extRefusesSpec.pre enc Tryz.prog Tryz.f4 [] false w args ∧ laidMetH Tryz.prog laid2 w) ∧ sizedMet enc Tryz.prog Tryz.f4 (OpenSpec.ofChange Rows.extRefusesSpec) false w args)
      (Rows.extRefusesSpec.post enc Tryz.prog Tryz.f4 false true false false) := by
  refine returnsInHanded_of_change_and (C := Tryz.checked) (X := fun w _ => laidMetH Tryz.prog laid2 w) (fun _ _ _ hh h => h.of_heap hh) own started (by kernel_rfl) Tryz.func4
    (ChangeSpec.witness_shaped (enc := enc) (C := Tryz.checked) (os := os) (X := fun w _ => laidMetH Tryz.prog laid2 w) false (World.doorLaid Tryz.prog 1000 os) #[.agg #[.int .u8 0, .slice none 0 0, .slice none 0 0, .slice none 0 0, .int .i16 0, .int .u8 0, .slice none 0 0], .agg #[.int .i64 0, .slice none 0 0, .slice none 0 0, .slice none 0 0, .slice none 0 0, .slice none 0 0, .int .i64 0, .slice none 0 0], .int .u8 0] 8 rfl (World.shaped_of_RefB (by kernel_rfl) (by kernel_rfl)) (by kernel_rfl) (by kernel_rfl) (by kernel_rfl) (door_met2 os _)) ?_
  intro W base args ds gs before hval0 hW _ _ hL _
  have hval : ∀ (j : Nat) t v, Tryz.f4.params[j]? = some t → args[j]? = some v → Value.okWide Tryz.prog W .any base t v := hval0
  have hW' := hW
  obtain ⟨p, q, hA0, hV, rfl, hfz, hnd⟩ := hW
  have hA : DataW.TrodAll enc Tryz.prog W 0 (fun _ => true) true Tryz.f4.params.toList args.toList ds p := hA0
  rw [Tryz.params4] at hA hval
  obtain ⟨v0, v1, v2, d0, d1, d2, p0, p1, p2, rfl, rfl, rfl, h0, h1, h2⟩ := trodAll_three hA
  obtain ⟨rfl, rfl⟩ := trodVars_none hV
  have h0k := h0
  have h1k := h1
  obtain ⟨zA, zB, zC, zx, k, K, ch, la, lb, lc, DD, rfl, hz, hzx⟩ := case_view (hval 0 29 v0 rfl rfl) h0
  obtain ⟨kd, kk, sa, sb, sc, sd, se, sr, A, B, C, D, E, rfl, g1, g2, g3, g4, g5⟩ := raw_view (hval 1 32 v1 rfl rfl) h1
  obtain ⟨n2, rfl, rfl, rfl, w2⟩ := open_int Tryz.underlying5 (hval 2 5 v2 rfl rfl) h2
  clear hA0 hval0
  simp only [List.append_nil] at hW'
  have hlt0 : ∀ y ∈ p0, y.block < W.heap.size := fun y hy => hW'.lt y (by simp [hy])
  have hlt1 : ∀ y ∈ p1, y.block < W.heap.size := fun y hy => hW'.lt y (by simp [hy])
  refine (extRefuses_walk zA zB zC zx la lb lc DD k n2 K ch kd kk sa sb sc sd se sr A B C D E W hz.a hz.b hz.c hz.ba hz.bb hz.bc (u8_wf w2) hz.K hz.ch hzx g1 g2 g3 g4 g5 (ent_of2 hL) (tab_of2 hL)).mono ?_
  rintro e W' ⟨rfl, hnx⟩
  refine ⟨_, rfl, _, _, _, [], _, [], hW', ?_, trodAll_mk3 (Below.trod laidOut (by kernel_rfl) (of_decide_eq_true (by kernel_rfl)) h0k hnx hlt0) (Below.trod laidOut (by kernel_rfl) (of_decide_eq_true (by kernel_rfl)) h1k hnx hlt1) (shut_int Tryz.underlying5 w2), rfl, hnx.frame _, fun h => by cases h⟩
  exact trodAll_mk1 (shut_bool Tryz.underlying4 _)

theorem said : Rows.ExtRefusesSaid :=
  OpenClaim.holds_of_wide 4 Tryz.f4 rfl rfl rfl rfl rfl rfl rfl ⟨rfl, rfl, rfl, rfl, rfl⟩ rfl rfl rfl rfl rfl (by kernel_rfl) Tryz.func4 (by kernel_rfl)
    (of_decide_eq_true (by kernel_rfl)) (by unfold Func.isWrapper; first | (rw [if_pos (by decide +kernel)]; kernel_rfl) | (rw [if_neg (by decide +kernel)]; exact ⟨rfl, rfl⟩))
    (fun os started H enc _ => lifted os started H enc)

end Go.Proofs.YtkhmocbfkpbpfaaGreatDoor.extRefuses
namespace Go.Proofs.YtkhmocbfkpbpfaaGreatDoor
open Go
theorem extRefuses_holds : Rows.ExtRefusesCardSaid :=
  Claim7.holds_tied_plain_at .later [] [.data, .data] true (true, "b57abb680df54703d4d84127f8ad82709f9fb725f12f7fab0dddca3fba911323") false
    extRefuses.said (fun _ h => by cases h) (by kernel_rfl) (fun _ h => by cases h) extRefuses_row_tie rfl ⟨rfl, rfl⟩ (by kernel_rfl) rfl
    (fun f fn hf hfn => by
      obtain rfl : f = 4 := Option.some.inj ((show Tryz.prog.funcNamed "jigsaw/jigsawlaw12.ExtRefuses" = some 4 by kernel_rfl).symm.trans hf) |>.symm
      obtain rfl : fn = Tryz.f4 := (Option.some.inj (Tryz.func4.symm.trans hfn)).symm
      exact ⟨by kernel_rfl, fun j t ht => by
        rw [Tryz.params4] at ht
        have hm : t ∈ [29, 32, 5] := by simpa using Array.mem_of_getElem? ht
        have hall : ([29, 32, 5].all fun u => !Tryz.prog.wantsStandIn u) = true := by kernel_rfl
        exact (show Tryz.prog.wantsStandIn t = false by simpa using List.all_eq_true.1 hall t hm)⟩)
    (by kernel_rfl)
#print axioms extRefuses_holds
end Go.Proofs.YtkhmocbfkpbpfaaGreatDoor
