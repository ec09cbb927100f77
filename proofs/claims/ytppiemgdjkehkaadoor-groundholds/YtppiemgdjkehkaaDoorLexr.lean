/- Runes and bytes; lines. No walk and no program. -/
import Derived.Test.YtppiemgdjkehkaaDoorLexp
import Derived.Laws.RangeAny
namespace Go.Proofs.YtppiemgdjkehkaaDoor

/-- A string's bytes. -/
def bl (s : ByteArray) : Bs := s.data.toList
theorem bl_len (s : ByteArray) : (bl s).length = s.size := rfl
theorem bl_get (s : ByteArray) (i : Nat) (h : i < s.size) : (bl s)[i]? = some (s.get! i) := by
  unfold bl
  rw [Array.getElem?_toList]
  have h' : i < s.data.size := h
  rw [Array.getElem?_eq_getElem h']
  congr 1
  show s.data[i] = s.data[i]!
  rw [getElem!_pos s.data i h']
theorem bl_drop (s : ByteArray) (i : Nat) (h : i < s.size) : (bl s).drop i = s.get! i :: (bl s).drop (i + 1) := by
  have h' : i < (bl s).length := h
  rw [List.drop_eq_getElem_cons h']
  congr 1
  have := bl_get s i h
  rw [List.getElem?_eq_getElem h'] at this
  exact Option.some.inj this
theorem bl_extract (s : ByteArray) (a b : Nat) : bl (s.extract a b) = ((bl s).drop a).take (b - a) := by
  unfold bl
  rw [ByteArray.data_extract, Array.toList_extract, List.extract_eq_take_drop]
theorem bl_inj {s t : ByteArray} (h : bl s = bl t) : s = t := by
  cases s with
  | mk a =>
    cases t with
    | mk b =>
      congr 1
      exact Array.toList_inj.1 h

/-- What a rune takes: to the text's end at most; behind its first byte only bytes from 128 on. -/
theorem decode_inside (s : ByteArray) (i : Nat) (h : i < s.size) : 1 ≤ (Utf8.decode s i).2 ∧ i + (Utf8.decode s i).2 ≤ s.size ∧ ∀ j, 0 < j → j < (Utf8.decode s i).2 → 128 ≤ (s.get! (i + j)).toNat := by
  simp only [Utf8.decode]
  repeat' split
  all_goals simp only [Bool.and_eq_true, decide_eq_true_eq, beq_iff_eq] at *
  all_goals refine ⟨by omega, by omega, fun j h0 h1 => ?_⟩
  all_goals try omega
  all_goals
    have hj : j = 1 ∨ j = 2 ∨ j = 3 := by omega
    rcases hj with rfl | rfl | rfl <;> omega

theorem tw_step {p : UInt8 → Bool} {s : ByteArray} {i : Nat} (h : i < s.size) (hp : p (s.get! i) = true) : (((bl s).drop i).takeWhile p).length = 1 + (((bl s).drop (i + 1)).takeWhile p).length := by
  rw [bl_drop s i h, List.takeWhile_cons, if_pos hp, List.length_cons]
  omega

/-- A run that no byte from 128 on ends goes over whole runes. -/
theorem tw_rune {p : UInt8 → Bool} (hp : ∀ c : UInt8, 128 ≤ c.toNat → p c = true) {s : ByteArray} {i : Nat} (h : i < s.size) (ha : 128 ≤ (s.get! i).toNat) : (((bl s).drop i).takeWhile p).length = (Utf8.decode s i).2 + (((bl s).drop (i + (Utf8.decode s i).2)).takeWhile p).length := by
  obtain ⟨h1, h2, h3⟩ := decode_inside s i h
  have key : ∀ m, m ≤ (Utf8.decode s i).2 → (((bl s).drop i).takeWhile p).length = m + (((bl s).drop (i + m)).takeWhile p).length := by
    intro m
    induction m with
    | zero => intro _; simp
    | succ m ih =>
      intro hm
      rw [ih (by omega), tw_step (i := i + m) (by omega) ?_, show i + m + 1 = i + (m + 1) by omega]
      · omega
      · by_cases h0 : m = 0
        · subst h0
          exact hp _ ha
        · exact hp _ (h3 m (by omega) (by omega))
  exact key _ (Nat.le_refl _)

/-- The lines of a text. -/
def linesL : Bs → List Bs
  | [] => [[]]
  | c :: r =>
    match linesL r with
    | [] => [[c]]
    | l :: ls => if c == 10 then [] :: l :: ls else (c :: l) :: ls
theorem linesL_ne (bs : Bs) : linesL bs ≠ [] := by
  cases bs with
  | nil => simp [linesL]
  | cons c r =>
    rw [linesL]
    split
    · simp
    · split <;> simp

def lineOK (l : Bs) : Bool := (l.takeWhile (· != 37)).all fun c => c == 32 || c == 9 || c == 13

/-- Blanks and comments alone: each line. -/
theorem emp_lines : ∀ bs : Bs, (emp false bs = (linesL bs).all lineOK) ∧ (emp true bs = (linesL bs).tail.all lineOK)
  | [] => by simp [emp, linesL, lineOK]
  | c :: r => by
    obtain ⟨h1, h2⟩ := emp_lines r
    have hne := linesL_ne r
    rw [linesL]
    split
    · next h => exact absurd h hne
    · next l ls h =>
      rw [h] at h1 h2
      by_cases h10 : (c == 10) = true
      · have e10 : c = 10 := by simpa using h10
        subst e10
        simp [emp, h1, lineOK]
      · have h10' : (c == 10) = false := by simpa using h10
        rw [if_neg h10]
        have e2 : emp true (c :: r) = emp true r := by simp [emp, h10']
        refine ⟨?_, by rw [e2, h2]; rfl⟩
        by_cases h37 : (c == 37) = true
        · have e37 : c = 37 := by simpa using h37
          subst e37
          simp [emp, h2, lineOK]
        · have h37' : (c == 37) = false := by simpa using h37
          have hb : (c != 37) = true := by simp [bne, h37']
          have e3 : lineOK (c :: l) = ((c == 32 || c == 9 || c == 13) && lineOK l) := by
            unfold lineOK
            rw [List.takeWhile_cons, if_pos hb, List.all_cons]
          rw [List.all_cons, e3]
          have e4 : emp false (c :: r) = if (c == 32 || c == 9 || c == 13) = true then emp false r else false := by simp [emp, h10', h37']
          rw [e4, h1, List.all_cons]
          cases (c == 32 || c == 9 || c == 13) <;> simp
end Go.Proofs.YtppiemgdjkehkaaDoor
