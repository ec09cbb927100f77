/- The document's own functions, byte by byte: letters, digits, words. -/
import Derived.Test.YtlcdjlmocmonaaaDoorLexword
namespace Go.Proofs.YtlcdjlmocmonaaaDoor
open Go.RowKit

/-- A byte as it is handed on. -/
abbrev by8 (c : UInt8) : Value := .int .u8 ((c.toNat : Nat) : Int)

theorem refLetter (c : UInt8) (w : World) : Calls Tryd.prog 49 #[by8 c] w fun e w' => e = .returned (.bool (letterB c)) ∧ w = w' := by
  rw [let_byte]
  unfold by8
  generalize c.toNat = n
  go_enter Tryd.func49, Tryd.ntmps49
  go_wp2
  all_goals go_ret
  all_goals refine ⟨ret_bool ?_, rfl⟩
  all_goals rw [Bool.eq_iff_iff]
  all_goals simp [letR]
  all_goals omega

theorem refDigit (c : UInt8) (w : World) : Calls Tryd.prog 50 #[by8 c] w fun e w' => e = .returned (.bool (digitB c)) ∧ w = w' := by
  rw [dig_byte]
  unfold by8
  generalize c.toNat = n
  go_enter Tryd.func50, Tryd.ntmps50
  go_wp2
  all_goals go_ret
  all_goals refine ⟨ret_bool ?_, rfl⟩
  all_goals rw [Bool.eq_iff_iff]
  all_goals simp [digR]
  all_goals omega

/-- How many bytes a word has, when so many are known to be of it. -/
def wfrom (m : Nat) (bs : Bs) : Nat := if m = 0 then wordN bs else m + ((bs.drop m).takeWhile partB).length

theorem wfrom_end {m : Nat} {bs : Bs} (h : bs.length ≤ m) : wfrom m bs = m := by
  unfold wfrom
  split
  · next h0 =>
    subst h0
    rw [List.length_eq_zero_iff.1 (by omega : bs.length = 0)]
    rfl
  · rw [List.drop_of_length_le h]
    simp
/-- Does a word end at a byte? -/
def wstop (m : Nat) (c : UInt8) : Bool := !letterB c && (m == 0 || !digitB c && c != 95)
theorem wstop_eq (m : Nat) (c : UInt8) : wstop m c = if m = 0 then !letterB c else !partB c := by
  unfold wstop partB
  by_cases h : m = 0
  · subst h
    simp
  · have : (m == 0) = false := by simpa using h
    rw [if_neg h, this]
    cases letterB c <;> cases digitB c <;> simp [bne]
theorem wfrom_stop {m : Nat} {bs : Bs} {c : UInt8} {r : Bs} (hd : bs.drop m = c :: r) (hs : wstop m c = true) : wfrom m bs = m := by
  rw [wstop_eq] at hs
  unfold wfrom
  split
  · next h =>
    subst h
    rw [if_pos rfl] at hs
    rw [List.drop_zero] at hd
    rw [hd, wordN_cons, if_neg (by simpa using hs)]
  · next h =>
    rw [if_neg h] at hs
    rw [hd, List.takeWhile_cons, if_neg (by simpa using hs)]
    rfl
theorem wfrom_on {m : Nat} {bs : Bs} {c : UInt8} {r : Bs} (hd : bs.drop m = c :: r) (hs : wstop m c = false) : wfrom m bs = wfrom (m + 1) bs := by
  rw [wstop_eq] at hs
  have hd1 : bs.drop (m + 1) = r := by rw [← List.drop_drop, hd]; rfl
  unfold wfrom
  rw [if_neg (by omega : ¬ m + 1 = 0), hd1]
  split
  · next h =>
    subst h
    rw [if_pos rfl] at hs
    rw [List.drop_zero] at hd
    rw [hd, wordN_cons, if_pos (by simpa using hs)]
  · next h =>
    rw [if_neg h] at hs
    rw [hd, List.takeWhile_cons, if_pos (by simpa using hs), List.length_cons]
    omega

theorem wfrom_le (bs : Bs) : wordN bs ≤ bs.length := by
  cases bs with
  | nil => simp [wordN]
  | cons c r =>
    rw [wordN_cons]
    split
    · have := tw_len partB r
      simp only [List.length_cons]
      omega
    · omega

set_option maxHeartbeats 2000000 in
theorem refWord (s : ByteArray) (k : Nat) (w : World) (hs : s.size ≤ 4611686018427387904) (hk : k ≤ s.size) :
    Calls Tryd.prog 31 #[.string s, .int .i64 (k : Nat)] w fun e w' => e = .returned (.int .i64 (wordN ((bl s).drop k) : Nat)) ∧ w = w' := by
  have HS : Hid (wordN ((bl s).drop k) = wfrom 0 ((bl s).drop k)) := Lib.hid (by simp [wfrom])
  generalize wordN ((bl s).drop k) = N at HS
  go_enter Tryd.func31, Tryd.ntmps31
  go_wp2_with fail
  go_loopw [5] (fun i wr => ∃ m : Nat, i = .int .i64 m ∧ k + m ≤ s.size ∧ N = wfrom m ((bl s).drop k) ∧ w = wr) (fun i _ => s.size - (intOf i).toNat)
  case atStart => exact ⟨0, rfl, by omega, HS.out, rfl⟩
  case round =>
    obtain ⟨m, rfl, hm, hN, rfl⟩ := hrel
    have HN := Lib.hid hN
    clear hN HS
    by_cases hlt : k + m < s.size
    · obtain ⟨c, hc⟩ : ∃ c, s[k + m]'hlt = c := ⟨_, rfl⟩
      have hd : ((bl s).drop k).drop m = c :: (bl s).drop (k + m + 1) := by rw [List.drop_drop, bl_drop s _ hlt, ← get_get s _ hlt, hc]
      have C1 := Lib.hid (refLetter c w)
      have C2 := Lib.hid (refDigit c w)
      have HST := Lib.hid (wfrom_stop (bs := (bl s).drop k) hd)
      have HON := Lib.hid (wfrom_on (bs := (bl s).drop k) hd)
      clear hd
      unfold wstop at HST HON
      have h95 : (((c.toNat : Nat) : Int) != 95) = (c != 95) := by
        have h1 := eq_byte c 95
        have h2 : (((c.toNat : Nat) : Int) == 95) = (c.toNat == 95) := by rw [Bool.eq_iff_iff, beq_iff_eq, beq_iff_eq]; omega
        unfold bne
        rw [h2, h1]
        rfl
      have hm0 : (((m : Nat) : Int) == 0) = (m == 0) := by rw [Bool.eq_iff_iff, beq_iff_eq, beq_iff_eq]; omega
      generalize letterB c = a at C1 HST HON
      generalize digitB c = b at C2 HST HON
      generalize (c != 95) = d at h95 HST HON
      generalize (m == 0) = f at hm0 HST HON
      cases a <;> cases f <;> cases b <;> cases d
      all_goals go_wp2_with fail
      all_goals refine C1.out.mono ?_
      all_goals rintro e w1 ⟨rfl, rfl⟩
      all_goals go_wp2_with fail
      all_goals refine C2.out.mono ?_
      all_goals rintro e w2 ⟨rfl, rfl⟩
      all_goals go_wp2_with fail
      all_goals first
        | (go_ret; exact ⟨int_eq (by have h1 := HN.out; have h2 := HST.out rfl; omega), rfl⟩)
        | (go_roundw
           case rel => exact ⟨m + 1, by go_num, by omega, by rw [HN.out]; exact HON.out rfl, by first | rfl | trivial⟩
           case measure => simp [intOf]; omega)
    · go_wp2_with fail
      go_ret
      exact ⟨int_eq (by have h1 := HN.out; have h2 := wfrom_end (m := m) (bs := (bl s).drop k) (by rw [List.length_drop, bl_len]; omega); omega), rfl⟩
end Go.Proofs.YtlcdjlmocmonaaaDoor
