/-
  PROVED: for every two numbers of 64 bits the law jigsawlaw01.NumSums answers true: Add, Sub and Mul of package num answer what the document's own reckoning answers (P1.1). No condition.
-/
import Derived.Test.YtmadggpoiklpfaaRows
import Derived.Test.YtmadggpoiklpfaaRefMore
import Derived.WalkKit
import Derived.ProofKit
import Derived.OpenShut
namespace Go.Proofs.Ytmadggpoiklpfaa.numSums
open Go.ChangeShapes Go.WideShapes Go.ChangeAt Go.RowKit
set_option linter.unusedVariables false      -- a walk need not use every 'w<i>' (that an integer argument fits its kind)

theorem own : ownKnob Try.prog.godebug = none := by kernel_rfl


/-- What a sum, a difference, a product answer: the number if it is of 64 bits, else 0; and whether it is. -/
def val (x : Int) : Int := if fits x then x else 0
def has (x : Int) : Bool := decide (fits x)

theorem add_any (a b : Int) (w : World) (ha : fits a) (hb : fits b) :
    Calls Try.prog 7 #[.int .i64 a, .int .i64 b] w fun e w' => e = .returned (.tuple #[.int .i64 (val (a + b)), .bool (has (a + b))]) ∧ w = w' := by
  by_cases h : fits (a + b)
  · rw [show val (a + b) = a + b by simp [val, h], show has (a + b) = true by simp [has, h]]; exact add_yes a b w ha hb h
  · rw [show val (a + b) = 0 by simp [val, h], show has (a + b) = false by simp [has, h]]; exact add_no a b w ha hb h

theorem radd_any (a b : Int) (w : World) (ha : fits a) (hb : fits b) :
    Calls Try.prog 8 #[.int .i64 a, .int .i64 b] w fun e w' => e = .returned (.tuple #[.int .i64 (val (a + b)), .bool (has (a + b))]) ∧ w = w' := by
  by_cases h : fits (a + b)
  · rw [show val (a + b) = a + b by simp [val, h], show has (a + b) = true by simp [has, h]]; exact radd_yes a b w ha hb h
  · rw [show val (a + b) = 0 by simp [val, h], show has (a + b) = false by simp [has, h]]; exact radd_no a b w ha hb h

theorem sub_any (a b : Int) (w : World) (ha : fits a) (hb : fits b) :
    Calls Try.prog 9 #[.int .i64 a, .int .i64 b] w fun e w' => e = .returned (.tuple #[.int .i64 (val (a - b)), .bool (has (a - b))]) ∧ w = w' := by
  by_cases h : fits (a - b)
  · rw [show val (a - b) = a - b by simp [val, h], show has (a - b) = true by simp [has, h]]; exact sub_yes a b w ha hb h
  · rw [show val (a - b) = 0 by simp [val, h], show has (a - b) = false by simp [has, h]]; exact sub_no a b w ha hb h

theorem rsub_any (a b : Int) (w : World) (ha : fits a) (hb : fits b) :
    Calls Try.prog 10 #[.int .i64 a, .int .i64 b] w fun e w' => e = .returned (.tuple #[.int .i64 (val (a - b)), .bool (has (a - b))]) ∧ w = w' := by
  by_cases h : fits (a - b)
  · rw [show val (a - b) = a - b by simp [val, h], show has (a - b) = true by simp [has, h]]; exact rsub_yes a b w ha hb h
  · rw [show val (a - b) = 0 by simp [val, h], show has (a - b) = false by simp [has, h]]; exact rsub_no a b w ha hb h

theorem mul_any (a b : Int) (w : World) (ha : fits a) (hb : fits b) :
    Calls Try.prog 11 #[.int .i64 a, .int .i64 b] w fun e w' => e = .returned (.tuple #[.int .i64 (val (a * b)), .bool (has (a * b))]) ∧ w = w' := by
  by_cases h : fits (a * b)
  · rw [show val (a * b) = a * b by simp [val, h], show has (a * b) = true by simp [has, h]]; exact mul_yes a b w ha h
  · rw [show val (a * b) = 0 by simp [val, h], show has (a * b) = false by simp [has, h]]; exact mul_no a b w ha hb h

theorem rmul_any (a b : Int) (w : World) (ha : fits a) (hb : fits b) :
    Calls Try.prog 12 #[.int .i64 a, .int .i64 b] w fun e w' => e = .returned (.tuple #[.int .i64 (val (a * b)), .bool (has (a * b))]) ∧ w = w' := by
  by_cases h : fits (a * b)
  · rw [show val (a * b) = a * b by simp [val, h], show has (a * b) = true by simp [has, h]]; exact rmul_yes a b w ha hb h
  · rw [show val (a * b) = 0 by simp [val, h], show has (a * b) = false by simp [has, h]]; exact rmul_no a b w ha hb h

theorem fits_wf (a : Int) (h : (Lit.int .i64 a).wf = true) : fits a := by
  simp [Lit.wf, IntKind.min, IntKind.max, IntKind.signed, IntKind.bits] at h
  unfold fits; omega

/-! ### STEP 1: THE WALK: the Go text returns true. 'Grown w w'': the world has at most new blocks (Derived/RowKit3.lean). Part the cases AHEAD of 'go_enter' where a test parts the walk; take each callee by a contract of your own. -/
theorem walk (a0 : Int) (a1 : Int) (w0 : (Lit.int .i64 a0).wf = true) (w1 : (Lit.int .i64 a1).wf = true) (w : World) :
    Calls Try.prog 3 #[.int .i64 a0, .int .i64 a1] w fun e w' => e = .returned (.bool true) ∧ Grown w w' := by
  have ha := fits_wf a0 w0
  have hb := fits_wf a1 w1
  go_enter Try.func3, Try.ntmps3
  go_wp2_with (first | (go_at_call 7; with_reducible refine (add_any _ _ _ ha hb).mono ?_; rintro e w' ⟨rfl, rfl⟩) | (go_at_call 8; with_reducible refine (radd_any _ _ _ ha hb).mono ?_; rintro e w' ⟨rfl, rfl⟩) | (go_at_call 9; with_reducible refine (sub_any _ _ _ ha hb).mono ?_; rintro e w' ⟨rfl, rfl⟩) | (go_at_call 10; with_reducible refine (rsub_any _ _ _ ha hb).mono ?_; rintro e w' ⟨rfl, rfl⟩) | (go_at_call 11; with_reducible refine (mul_any _ _ _ ha hb).mono ?_; rintro e w' ⟨rfl, rfl⟩) | (go_at_call 12; with_reducible refine (rmul_any _ _ _ ha hb).mono ?_; rintro e w' ⟨rfl, rfl⟩) | (go_at_call 13; with_reducible refine (wakes_true _).mono ?_; rintro e w' ⟨rfl, rfl⟩))
  go_ret
  exact ⟨rfl, Grown.refl _⟩

/-! ### THE ROW's STEP: WRITTEN OUT: LEAVE IT -/
set_option maxRecDepth 100000 in
theorem lifted (os : Os) (started : os.Started) (H : Type) (enc : TypeId × Value → H) :
    ReturnsInHanded {} Try.checked os 3 .any (Rows.numSumsSpec.pre6 enc Try.prog Try.f3 Rows.numSumsRow.domain false) (Rows.numSumsSpec.post enc Try.prog Try.f3 false true false false) := by
  refine returnsInHanded_of_change (C := Try.checked) own started (by kernel_rfl) Try.func3
    (ChangeSpec.witness6 (enc := enc) (C := Try.checked) false ⟨#[], #[.int .i64 0, .int .i64 0], []⟩ 8 (by kernel_rfl) (by kernel_rfl) (by kernel_rfl) (by kernel_rfl)) ?_
  intro W base args ds gs before hval0 hW hcnd _
  have hval : ∀ (j : Nat) t v, Try.f3.params[j]? = some t → args[j]? = some v → Value.okWide Try.prog W .any base t v := hval0
  have hW' := hW
  obtain ⟨p, q, hA0, hV, rfl, hfz, hnd⟩ := hW
  have hA : DataW.TrodAll enc Try.prog W 0 (fun _ => true) true Try.f3.params.toList args.toList ds p := hA0
  rw [Try.params3] at hA hval
  obtain ⟨v0, vs0, d0, ds0, p0, q0, hargs, rfl, rfl, h0, r0⟩ := trodAll_cons hA
  obtain ⟨v1, vs1, d1, ds1, p1, q1, rfl, rfl, rfl, h1, r1⟩ := trodAll_cons r0
  obtain ⟨rfl, rfl, rfl⟩ := trodAll_nil r1
  obtain rfl : args = #[v0, v1] := by cases args; simp_all
  obtain ⟨rfl, rfl⟩ := trodVars_none hV
  obtain ⟨a0, rfl, rfl, rfl, w0⟩ := open_int Try.underlying3 (hval 0 3 v0 rfl rfl) h0
  obtain ⟨a1, rfl, rfl, rfl, w1⟩ := open_int Try.underlying3 (hval 1 3 v1 rfl rfl) h1
  clear hA0 hval0
  simp only [List.append_nil] at hW'
  refine (walk a0 a1 w0 w1 W).mono fun e W' ⟨he, hg⟩ => ?_
  subst he
  exact ⟨_, rfl, post_of_same (pa := []) (pv := []) hW' (fun _ _ _ => (trodAll_cons_mk (shut_bool Try.underlying4 _) trodAll_mk0)) (fun sp _ => (trodAll_cons_mk (shut_int Try.underlying3 w0) (trodAll_cons_mk (shut_int Try.underlying3 w1) trodAll_mk0))) (fun _ _ => rfl) rfl
    (hg.frame _) hg.2.1 (ok_one (by kernel_rfl) rfl (okWide_bool_mk Try.underlying4 _))⟩

theorem over : Rows.numSumsRow.holds Try.pinned (OpenSpec.ofChange Rows.numSumsSpec) :=
  OpenClaim.holds_of_wide 3 Try.f3 rfl rfl rfl rfl rfl rfl rfl ⟨rfl, rfl, rfl, rfl, rfl⟩ rfl rfl rfl rfl rfl (by kernel_rfl) Try.func3 (by kernel_rfl)
    (of_decide_eq_true (by kernel_rfl)) (by unfold Func.isWrapper; first | (rw [if_pos (by decide +kernel)]; kernel_rfl) | (rw [if_neg (by decide +kernel)]; exact ⟨rfl, rfl⟩))
    (fun os started H enc _ => lifted os started H enc)

/-- ████ THE STATEMENT ████ -/
theorem proved : Rows.NumSumsSaid :=
  over
#print axioms proved
end Go.Proofs.Ytmadggpoiklpfaa.numSums
namespace Go.Proofs.Ytmadggpoiklpfaa
theorem numSums_holds : Rows.NumSumsSaid := numSums.proved
end Go.Proofs.Ytmadggpoiklpfaa
