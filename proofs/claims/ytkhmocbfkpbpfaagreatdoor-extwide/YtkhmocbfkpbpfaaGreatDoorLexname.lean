/- Contracts: words, numbers and signs at the beginning of a text. -/
import Derived.Test.YtkhmocbfkpbpfaaGreatDoorLexrun
import Derived.Shelf.Abstract
namespace Go.Proofs.YtkhmocbfkpbpfaaGreatDoor
open Go.RowKit

theorem e38 : ∀ args w, (callFunc 257 args).run Tryz.prog w = .ok (.enter 257 args) w := enters_of Tryz.func257 (by kernel_rfl) rfl
theorem e39 : ∀ args w, (callFunc 258 args).run Tryz.prog w = .ok (.enter 258 args) w := enters_of Tryz.func258 (by kernel_rfl) rfl
theorem e55 : ∀ args w, (callFunc 263 args).run Tryz.prog w = .ok (.enter 263 args) w := enters_of Tryz.func263 (by kernel_rfl) rfl

theorem run_letter (s : ByteArray) (w : World) : Calls Tryz.prog 256 #[.string s, .func (.func 257) #[] #[]] w fun e w' => e = .returned (.int .i64 (((bl s).takeWhile letterB).length : Nat)) ∧ Below w.heap.size w w' :=
  run_pred 257 e38 letR (fun _ h => let_hi h) isLetter_any s w
theorem run_part (s : ByteArray) (w : World) : Calls Tryz.prog 256 #[.string s, .func (.func 258) #[] #[]] w fun e w' => e = .returned (.int .i64 (((bl s).takeWhile partB).length : Nat)) ∧ Below w.heap.size w w' := by
  rw [show partB = fun c => parR c.toNat from funext par_byte]
  exact run_pred 258 e39 parR (fun _ h => par_hi h) isInWord_any s w
theorem run_digit (s : ByteArray) (w : World) : Calls Tryz.prog 256 #[.string s, .func (.func 263) #[] #[]] w fun e w' => e = .returned (.int .i64 (((bl s).takeWhile digitB).length : Nat)) ∧ Below w.heap.size w w' :=
  run_pred 263 e55 digR (fun _ h => dig_hi h) isDigit_any s w

theorem word_no {bs : Bs} (h : (bs.takeWhile letterB).length = 0) : wordN bs = 0 := by
  cases bs with
  | nil => rfl
  | cons c r =>
    rw [wordN_cons]
    cases hl : letterB c with
    | false => rfl
    | true =>
      rw [List.takeWhile_cons, if_pos hl] at h
      simp at h
theorem word_yes {bs : Bs} (h : (bs.takeWhile letterB).length ≠ 0) : wordN bs = (bs.takeWhile partB).length := by
  cases bs with
  | nil => simp at h
  | cons c r =>
    cases hl : letterB c with
    | false =>
      rw [List.takeWhile_cons, if_neg (by rw [hl]; decide)] at h
      simp at h
    | true =>
      have hp : partB c = true := by unfold partB; rw [hl]; rfl
      rw [wordN_cons, if_pos hl, List.takeWhile_cons, if_pos hp, List.length_cons]
      omega

theorem word_any (s : ByteArray) (w : World) : Calls Tryz.prog 252 #[.string s] w fun e w' => e = .returned (.int .i64 (wordN (bl s) : Nat)) ∧ Below w.heap.size w w' := by
  have C1 := Lib.hid (run_letter s w)
  have C2 := Lib.hid (run_part s)
  have W1 := Lib.hid (word_no (bs := bl s))
  have W2 := Lib.hid (word_yes (bs := bl s))
  generalize ((bl s).takeWhile letterB).length = m at C1 W1 W2
  generalize ((bl s).takeWhile partB).length = k at C2 W2
  generalize wordN (bl s) = r at W1 W2
  by_cases h0 : m = 0
  · have H := Lib.hid (W1.out h0)
    have hd : ((m : Int) == 0) = true := by rw [beq_iff_eq]; omega
    clear W1 W2
    go_enter Tryz.func252, Tryz.ntmps252
    go_wp2_with fail
    refine C1.out.mono ?_
    rintro e w1 ⟨rfl, b1⟩
    go_wp2_with fail
    go_ret
    exact ⟨int_eq (by have := H.out; omega), b1⟩
  · have H := Lib.hid (W2.out h0)
    have hd : ((m : Int) == 0) = false := by rw [beq_eq_false_iff_ne]; omega
    clear W1 W2
    go_enter Tryz.func252, Tryz.ntmps252
    go_wp2_with fail
    refine C1.out.mono ?_
    rintro e w1 ⟨rfl, b1⟩
    have HB := Lib.hid b1
    clear b1
    go_wp2_with fail
    refine (C2.out _).mono ?_
    rintro e w2 ⟨rfl, b2⟩
    go_wp2_with fail
    go_ret
    exact ⟨int_eq (by have := H.out; omega), HB.out.trans (b2.mono HB.out.size)⟩
end Go.Proofs.YtkhmocbfkpbpfaaGreatDoor

/- The document's own functions, byte by byte: letters, digits, words. -/
namespace Go.Proofs.YtkhmocbfkpbpfaaGreatDoor
open Go.RowKit

/-- A byte as it is handed on. -/
abbrev by8 (c : UInt8) : Value := .int .u8 ((c.toNat : Nat) : Int)

/-- How many bytes a word has, when so many are known to be of it. -/
def wfrom (m : Nat) (bs : Bs) : Nat := if m = 0 then wordN bs else m + ((bs.drop m).takeWhile partB).length

theorem wfrom_end {m : Nat} {bs : Bs} (h : bs.length ≤ m) : wfrom m bs = m := by
  unfold wfrom
  split
  · next h0 =>
    subst h0
    rw [List.length_eq_zero_iff.1 (by omega : bs.length = 0)]
    rfl
  · rw [List.drop_of_length_le h]
    simp
/-- Does a word end at a byte? -/
def wstop (m : Nat) (c : UInt8) : Bool := !letterB c && (m == 0 || !digitB c && c != 95)
theorem wstop_eq (m : Nat) (c : UInt8) : wstop m c = if m = 0 then !letterB c else !partB c := by
  unfold wstop partB
  by_cases h : m = 0
  · subst h
    simp
  · have : (m == 0) = false := by simpa using h
    rw [if_neg h, this]
    cases letterB c <;> cases digitB c <;> simp [bne]
theorem wfrom_stop {m : Nat} {bs : Bs} {c : UInt8} {r : Bs} (hd : bs.drop m = c :: r) (hs : wstop m c = true) : wfrom m bs = m := by
  rw [wstop_eq] at hs
  unfold wfrom
  split
  · next h =>
    subst h
    rw [if_pos rfl] at hs
    rw [List.drop_zero] at hd
    rw [hd, wordN_cons, if_neg (by simpa using hs)]
  · next h =>
    rw [if_neg h] at hs
    rw [hd, List.takeWhile_cons, if_neg (by simpa using hs)]
    rfl
theorem wfrom_on {m : Nat} {bs : Bs} {c : UInt8} {r : Bs} (hd : bs.drop m = c :: r) (hs : wstop m c = false) : wfrom m bs = wfrom (m + 1) bs := by
  rw [wstop_eq] at hs
  have hd1 : bs.drop (m + 1) = r := by rw [← List.drop_drop, hd]; rfl
  unfold wfrom
  rw [if_neg (by omega : ¬ m + 1 = 0), hd1]
  split
  · next h =>
    subst h
    rw [if_pos rfl] at hs
    rw [List.drop_zero] at hd
    rw [hd, wordN_cons, if_pos (by simpa using hs)]
  · next h =>
    rw [if_neg h] at hs
    rw [hd, List.takeWhile_cons, if_pos (by simpa using hs), List.length_cons]
    omega

theorem wfrom_le (bs : Bs) : wordN bs ≤ bs.length := by
  cases bs with
  | nil => simp [wordN]
  | cons c r =>
    rw [wordN_cons]
    split
    · have := tw_len partB r
      simp only [List.length_cons]
      omega
    · omega

end Go.Proofs.YtkhmocbfkpbpfaaGreatDoor

/- Names; what the law's wakes tells: true. -/
namespace Go.Proofs.YtkhmocbfkpbpfaaGreatDoor
open Go.RowKit

/-- May a text be a name? -/
def nameB (bs : Bs) : Bool := decide (0 < wordN bs) && (wordN bs == bs.length) && decide (wordN bs ≤ 32)

theorem name_any (s : ByteArray) (w : World) (hs : s.size ≤ 9223372036854775807) : Calls Tryz.prog 244 #[.string s] w fun e w' => e = .returned (.bool (nameB (bl s))) ∧ Below w.heap.size w w' := by
  have C1 := Lib.hid (word_any s w)
  have hN : nameB (bl s) = (decide (0 < wordN (bl s)) && (wordN (bl s) == s.size) && decide (wordN (bl s) ≤ 32)) := by rw [nameB, bl_len]
  have hle : wordN (bl s) ≤ s.size := wfrom_le (bl s)
  generalize wordN (bl s) = n at C1 hN hle
  generalize nameB (bl s) = B at hN
  have hem : s.toList.isEmpty = decide (s.size = 0) := by
    rw [ByteArray.toList_eq, Bool.eq_iff_iff, List.isEmpty_iff, decide_eq_true_eq]
    show bl s = [] ↔ s.size = 0
    rw [← bl_len]
    exact List.length_eq_zero_iff.symm
  have HN := Lib.hid hN
  clear hN
  by_cases h0 : s.size = 0
  · obtain rfl : B = false := by rw [HN.out]; simp; omega
    have he : s.toList.isEmpty = true := by rw [hem]; simpa using h0
    have he2 : s.toList = [] := by simpa using he
    clear HN hem h0
    go_enter Tryz.func244, Tryz.ntmps244
    go_wp2_with fail
    go_ret
    exact ⟨rfl, Below.refl _ _⟩
  · have he : s.toList.isEmpty = false := by rw [hem]; simpa using h0
    have he2 : ¬ s.toList = [] := by
      intro e
      rw [e] at he
      cases he
    clear hem
    by_cases h32 : s.size ≤ 32
    · by_cases hn : n = s.size
      · obtain rfl : B = true := by rw [HN.out]; simp; omega
        clear HN
        have hq : (((n : Nat) : Int) == ((s.size : Nat) : Int)) = true := by rw [beq_iff_eq]; omega
        have hn' : n ≤ s.size := hle
        clear hn
        go_enter Tryz.func244, Tryz.ntmps244
        go_wp2_with fail
        refine C1.out.mono ?_
        rintro e w1 ⟨rfl, b1⟩
        go_wp2_with fail
        go_ret
        exact ⟨rfl, b1⟩
      · obtain rfl : B = false := by rw [HN.out]; simp; omega
        clear HN
        have hq : (((n : Nat) : Int) == ((s.size : Nat) : Int)) = false := by rw [beq_eq_false_iff_ne]; omega
        clear hn
        go_enter Tryz.func244, Tryz.ntmps244
        go_wp2_with fail
        refine C1.out.mono ?_
        rintro e w1 ⟨rfl, b1⟩
        go_wp2_with fail
        go_ret
        exact ⟨rfl, b1⟩
    · obtain rfl : B = false := by rw [HN.out]; simp; omega
      clear HN
      go_enter Tryz.func244, Tryz.ntmps244
      go_wp2_with fail
      go_ret
      exact ⟨rfl, Below.refl _ _⟩

end Go.Proofs.YtkhmocbfkpbpfaaGreatDoor
