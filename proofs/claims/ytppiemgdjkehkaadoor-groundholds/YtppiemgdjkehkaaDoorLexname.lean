/- Contracts: words, numbers and signs at the beginning of a text. -/
import Derived.Test.YtppiemgdjkehkaaDoorLexrun
import Derived.Shelf.Abstract
namespace Go.Proofs.YtppiemgdjkehkaaDoor
open Go.RowKit

theorem word_no {bs : Bs} (h : (bs.takeWhile letterB).length = 0) : wordN bs = 0 := by
  cases bs with
  | nil => rfl
  | cons c r =>
    rw [wordN_cons]
    cases hl : letterB c with
    | false => rfl
    | true =>
      rw [List.takeWhile_cons, if_pos hl] at h
      simp at h
theorem word_yes {bs : Bs} (h : (bs.takeWhile letterB).length ≠ 0) : wordN bs = (bs.takeWhile partB).length := by
  cases bs with
  | nil => simp at h
  | cons c r =>
    cases hl : letterB c with
    | false =>
      rw [List.takeWhile_cons, if_neg (by rw [hl]; decide)] at h
      simp at h
    | true =>
      have hp : partB c = true := by unfold partB; rw [hl]; rfl
      rw [wordN_cons, if_pos hl, List.takeWhile_cons, if_pos hp, List.length_cons]
      omega

end Go.Proofs.YtppiemgdjkehkaaDoor

/- The document's own functions, byte by byte: letters, digits, words. -/
namespace Go.Proofs.YtppiemgdjkehkaaDoor
open Go.RowKit

/-- A byte as it is handed on. -/
abbrev by8 (c : UInt8) : Value := .int .u8 ((c.toNat : Nat) : Int)

/-- How many bytes a word has, when so many are known to be of it. -/
def wfrom (m : Nat) (bs : Bs) : Nat := if m = 0 then wordN bs else m + ((bs.drop m).takeWhile partB).length

theorem wfrom_end {m : Nat} {bs : Bs} (h : bs.length ≤ m) : wfrom m bs = m := by
  unfold wfrom
  split
  · next h0 =>
    subst h0
    rw [List.length_eq_zero_iff.1 (by omega : bs.length = 0)]
    rfl
  · rw [List.drop_of_length_le h]
    simp
/-- Does a word end at a byte? -/
def wstop (m : Nat) (c : UInt8) : Bool := !letterB c && (m == 0 || !digitB c && c != 95)
theorem wstop_eq (m : Nat) (c : UInt8) : wstop m c = if m = 0 then !letterB c else !partB c := by
  unfold wstop partB
  by_cases h : m = 0
  · subst h
    simp
  · have : (m == 0) = false := by simpa using h
    rw [if_neg h, this]
    cases letterB c <;> cases digitB c <;> simp [bne]
theorem wfrom_stop {m : Nat} {bs : Bs} {c : UInt8} {r : Bs} (hd : bs.drop m = c :: r) (hs : wstop m c = true) : wfrom m bs = m := by
  rw [wstop_eq] at hs
  unfold wfrom
  split
  · next h =>
    subst h
    rw [if_pos rfl] at hs
    rw [List.drop_zero] at hd
    rw [hd, wordN_cons, if_neg (by simpa using hs)]
  · next h =>
    rw [if_neg h] at hs
    rw [hd, List.takeWhile_cons, if_neg (by simpa using hs)]
    rfl
theorem wfrom_on {m : Nat} {bs : Bs} {c : UInt8} {r : Bs} (hd : bs.drop m = c :: r) (hs : wstop m c = false) : wfrom m bs = wfrom (m + 1) bs := by
  rw [wstop_eq] at hs
  have hd1 : bs.drop (m + 1) = r := by rw [← List.drop_drop, hd]; rfl
  unfold wfrom
  rw [if_neg (by omega : ¬ m + 1 = 0), hd1]
  split
  · next h =>
    subst h
    rw [if_pos rfl] at hs
    rw [List.drop_zero] at hd
    rw [hd, wordN_cons, if_pos (by simpa using hs)]
  · next h =>
    rw [if_neg h] at hs
    rw [hd, List.takeWhile_cons, if_pos (by simpa using hs), List.length_cons]
    omega

theorem wfrom_le (bs : Bs) : wordN bs ≤ bs.length := by
  cases bs with
  | nil => simp [wordN]
  | cons c r =>
    rw [wordN_cons]
    split
    · have := tw_len partB r
      simp only [List.length_cons]
      omega
    · omega

end Go.Proofs.YtppiemgdjkehkaaDoor

/- Names; what the law's wakes tells: true. -/
namespace Go.Proofs.YtppiemgdjkehkaaDoor
open Go.RowKit

/-- May a text be a name? -/
def nameB (bs : Bs) : Bool := decide (0 < wordN bs) && (wordN bs == bs.length) && decide (wordN bs ≤ 32)

end Go.Proofs.YtppiemgdjkehkaaDoor
