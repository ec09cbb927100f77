/- Contracts: words, numbers and signs at the beginning of a text. -/
import Derived.Test.YtlcdjlmocmonaaaDoorLexrun
import Derived.Shelf.Abstract
namespace Go.Proofs.YtlcdjlmocmonaaaDoor
open Go.RowKit

theorem e38 : ∀ args w, (callFunc 76 args).run Tryd.prog w = .ok (.enter 76 args) w := enters_of Tryd.func76 (by kernel_rfl) rfl
theorem e39 : ∀ args w, (callFunc 77 args).run Tryd.prog w = .ok (.enter 77 args) w := enters_of Tryd.func77 (by kernel_rfl) rfl
theorem e55 : ∀ args w, (callFunc 82 args).run Tryd.prog w = .ok (.enter 82 args) w := enters_of Tryd.func82 (by kernel_rfl) rfl

theorem run_letter (s : ByteArray) (w : World) : Calls Tryd.prog 75 #[.string s, .func (.func 76) #[] #[]] w fun e w' => e = .returned (.int .i64 (((bl s).takeWhile letterB).length : Nat)) ∧ Below w.heap.size w w' :=
  run_pred 76 e38 letR (fun _ h => let_hi h) isLetter_any s w
theorem run_part (s : ByteArray) (w : World) : Calls Tryd.prog 75 #[.string s, .func (.func 77) #[] #[]] w fun e w' => e = .returned (.int .i64 (((bl s).takeWhile partB).length : Nat)) ∧ Below w.heap.size w w' := by
  rw [show partB = fun c => parR c.toNat from funext par_byte]
  exact run_pred 77 e39 parR (fun _ h => par_hi h) isInWord_any s w
theorem run_digit (s : ByteArray) (w : World) : Calls Tryd.prog 75 #[.string s, .func (.func 82) #[] #[]] w fun e w' => e = .returned (.int .i64 (((bl s).takeWhile digitB).length : Nat)) ∧ Below w.heap.size w w' :=
  run_pred 82 e55 digR (fun _ h => dig_hi h) isDigit_any s w

theorem word_no {bs : Bs} (h : (bs.takeWhile letterB).length = 0) : wordN bs = 0 := by
  cases bs with
  | nil => rfl
  | cons c r =>
    rw [wordN_cons]
    cases hl : letterB c with
    | false => rfl
    | true =>
      rw [List.takeWhile_cons, if_pos hl] at h
      simp at h
theorem word_yes {bs : Bs} (h : (bs.takeWhile letterB).length ≠ 0) : wordN bs = (bs.takeWhile partB).length := by
  cases bs with
  | nil => simp at h
  | cons c r =>
    cases hl : letterB c with
    | false =>
      rw [List.takeWhile_cons, if_neg (by rw [hl]; decide)] at h
      simp at h
    | true =>
      have hp : partB c = true := by unfold partB; rw [hl]; rfl
      rw [wordN_cons, if_pos hl, List.takeWhile_cons, if_pos hp, List.length_cons]
      omega

theorem word_any (s : ByteArray) (w : World) : Calls Tryd.prog 62 #[.string s] w fun e w' => e = .returned (.int .i64 (wordN (bl s) : Nat)) ∧ Below w.heap.size w w' := by
  have C1 := Lib.hid (run_letter s w)
  have C2 := Lib.hid (run_part s)
  have W1 := Lib.hid (word_no (bs := bl s))
  have W2 := Lib.hid (word_yes (bs := bl s))
  generalize ((bl s).takeWhile letterB).length = m at C1 W1 W2
  generalize ((bl s).takeWhile partB).length = k at C2 W2
  generalize wordN (bl s) = r at W1 W2
  by_cases h0 : m = 0
  · have H := Lib.hid (W1.out h0)
    have hd : ((m : Int) == 0) = true := by rw [beq_iff_eq]; omega
    clear W1 W2
    go_enter Tryd.func62, Tryd.ntmps62
    go_wp2_with fail
    refine C1.out.mono ?_
    rintro e w1 ⟨rfl, b1⟩
    go_wp2_with fail
    go_ret
    exact ⟨int_eq (by have := H.out; omega), b1⟩
  · have H := Lib.hid (W2.out h0)
    have hd : ((m : Int) == 0) = false := by rw [beq_eq_false_iff_ne]; omega
    clear W1 W2
    go_enter Tryd.func62, Tryd.ntmps62
    go_wp2_with fail
    refine C1.out.mono ?_
    rintro e w1 ⟨rfl, b1⟩
    have HB := Lib.hid b1
    clear b1
    go_wp2_with fail
    refine (C2.out _).mono ?_
    rintro e w2 ⟨rfl, b2⟩
    go_wp2_with fail
    go_ret
    exact ⟨int_eq (by have := H.out; omega), HB.out.trans (b2.mono HB.out.size)⟩
end Go.Proofs.YtlcdjlmocmonaaaDoor
