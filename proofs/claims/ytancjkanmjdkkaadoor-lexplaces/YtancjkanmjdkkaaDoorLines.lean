/- Lines, as the library cuts them. No walk. -/
import Derived.Test.YtancjkanmjdkkaaDoorToks
import Derived.Lib.Split
import Derived.Lib.SlTrimSet
import Derived.Lib.IndexBytes
namespace Go.Proofs.YtancjkanmjdkkaaDoor

theorem byte_split (c : UInt8) : ∀ s : Bs, (Lib.indexByte s c = -1 ∧ ∀ x ∈ s, x ≠ c) ∨ (∃ a r, s = a ++ c :: r ∧ (∀ x ∈ a, x ≠ c) ∧ Lib.indexByte s c = (a.length : Int))
  | [] => .inl ⟨rfl, by simp⟩
  | b :: l => by
    rw [Lib.indexByte]
    by_cases h : b = c
    · subst h
      exact .inr ⟨[], l, rfl, by simp, by simp⟩
    · have hb : (b == c) = false := by simpa using h
      rcases byte_split c l with ⟨h1, h2⟩ | ⟨a, r, e, h2, h3⟩
      · refine .inl ⟨by simp [hb, h1], fun x hx => ?_⟩
        rcases List.mem_cons.1 hx with rfl | hx
        · exact h
        · exact h2 x hx
      · refine .inr ⟨b :: a, r, by rw [e]; rfl, fun x hx => ?_, ?_⟩
        · rcases List.mem_cons.1 hx with rfl | hx
          · exact h
          · exact h2 x hx
        · have hn : (((a.length : Nat) : Int) == -1) = false := by rw [beq_eq_false_iff_ne]; omega
          rw [hb, h3, hn]
          simp

theorem lines_no : ∀ a : Bs, (∀ x ∈ a, x ≠ 10) → linesL a = [a]
  | [], _ => rfl
  | x :: a, h => by
    have hx : (x == 10) = false := by simpa using h x (by simp)
    rw [linesL, lines_no a (fun y hy => h y (by simp [hy]))]
    simp [hx]
theorem lines_cut : ∀ (a r : Bs), (∀ x ∈ a, x ≠ 10) → linesL (a ++ 10 :: r) = a :: linesL r
  | [], r, _ => by
    rw [List.nil_append, linesL]
    split
    · next h => exact absurd h (linesL_ne r)
    · next l ls h => simp [h]
  | x :: a, r, h => by
    have hx : (x == 10) = false := by simpa using h x (by simp)
    rw [List.cons_append, linesL, lines_cut a r (fun y hy => h y (by simp [hy]))]
    simp [hx]

theorem split_lines : ∀ (n : Nat) (bs : Bs), bs.length ≤ n → Lib.splitK [10] 0 (Lib.count bs [10]) bs = linesL bs ∧ Lib.count bs [10] + 1 = (linesL bs).length
  | n, bs, hn => by
    rcases byte_split 10 bs with ⟨h1, h2⟩ | ⟨a, r, e, h2, h3⟩
    · have hi : Lib.index bs [10] = -1 := by rw [Lib.index_one]; exact h1
      rw [Lib.count_miss hi, lines_no bs h2]
      exact ⟨rfl, rfl⟩
    · have hi : Lib.index bs [10] = ((a.length : Nat) : Int) := by rw [Lib.index_one]; exact h3
      have hd : bs.drop (a.length + 1) = r := by
        rw [e]
        simp
      have hc := Lib.count_hit (by simp) hi
      rw [show ([10] : Bs).length = 1 from rfl, hd] at hc
      match n, hn with
      | 0, hn => rw [e] at hn; simp at hn
      | n + 1, hn =>
        obtain ⟨i1, i2⟩ := split_lines n r (by rw [e] at hn; simp at hn; omega)
        rw [hc, Nat.add_comm 1, Lib.splitK, hi]
        have hne : (((a.length : Nat) : Int) == -1) = false := by rw [beq_eq_false_iff_ne]; omega
        rw [hne]
        simp only [Bool.false_eq_true, if_false, Int.toNat_natCast, Nat.add_zero, List.length_singleton]
        rw [hd, i1, e, lines_cut a r h2, List.take_left]
        refine ⟨rfl, ?_⟩
        rw [List.length_cons, i2]

/-- The lines of a text, as texts. -/
theorem splitB_lines (s : ByteArray) : (Lib.splitB ⟨#[10]⟩ 0 (Lib.countB s ⟨#[10]⟩) s).map bl = linesL (bl s) ∧ Lib.countB s ⟨#[10]⟩ + 1 = (linesL (bl s)).length := by
  have h := Lib.splitB_data ⟨#[10]⟩ 0 (Lib.countB s ⟨#[10]⟩) s
  obtain ⟨h1, h2⟩ := split_lines (bl s).length (bl s) (Nat.le_refl _)
  exact ⟨h.trans h1, h2⟩

theorem lines_len : ∀ bs : Bs, (linesL bs).length ≤ bs.length + 1 ∧ ∀ l ∈ linesL bs, l.length ≤ bs.length
  | [] => by simp [linesL]
  | c :: r => by
    obtain ⟨h1, h2⟩ := lines_len r
    rw [linesL]
    split
    · next h => exact absurd h (linesL_ne r)
    · next l ls h =>
      rw [h] at h1 h2
      split
      · refine ⟨by simp only [List.length_cons] at h1 ⊢; omega, fun x hx => ?_⟩
        rcases List.mem_cons.1 hx with rfl | hx
        · simp
        · have := h2 x hx
          simp only [List.length_cons]
          omega
      · refine ⟨by simp only [List.length_cons] at h1 ⊢; omega, fun x hx => ?_⟩
        rcases List.mem_cons.1 hx with rfl | hx
        · have := h2 l (by simp)
          simp only [List.length_cons]
          omega
        · have := h2 x (by simp [hx])
          simp only [List.length_cons]
          omega

theorem tw_self {p : UInt8 → Bool} : ∀ {l : Bs}, (∀ x ∈ l, p x = true) → l.takeWhile p = l
  | [], _ => rfl
  | x :: l, h => by rw [List.takeWhile_cons, if_pos (h x (by simp)), tw_self (fun y hy => h y (by simp [hy]))]
theorem dw_nil {p : UInt8 → Bool} : ∀ {l : Bs}, (∀ x ∈ l, p x = true) → l.dropWhile p = []
  | [], _ => rfl
  | x :: l, h => by rw [List.dropWhile_cons, if_pos (h x (by simp)), dw_nil (fun y hy => h y (by simp [hy]))]

/-- A line without its comment. -/
theorem line_cut (l : Bs) : (Lib.indexByte l 37 = -1 ∧ l.takeWhile (· != 37) = l) ∨ (∃ i : Nat, Lib.indexByte l 37 = (i : Int) ∧ i ≤ l.length ∧ l.take i = l.takeWhile (· != 37)) := by
  rcases byte_split 37 l with ⟨h1, h2⟩ | ⟨a, r, e, h2, h3⟩
  · exact .inl ⟨h1, tw_self (fun x hx => by simpa using h2 x hx)⟩
  · refine .inr ⟨a.length, h3, by rw [e]; simp, ?_⟩
    rw [e, List.take_left, tw_stop (fun x hx => by simpa using h2 x hx) (by decide)]

theorem trim_blank {l : Bs} (h : (l.all fun c => c == 32 || c == 9 || c == 13) = true) : Lib.trimS l [32, 9, 13] = [] := by
  have hd : ∀ m : Bs, (∀ x ∈ m, x ∈ l) → m.dropWhile (([32, 9, 13] : Bs).contains ·) = [] := by
    intro m hm
    apply dw_nil
    intro x hx
    have := List.all_eq_true.1 h x (hm x hx)
    simp only [Bool.or_eq_true, beq_iff_eq] at this
    rcases this with (rfl | rfl) | rfl <;> decide
  rw [Lib.trimS, Lib.trimRightS, hd l.reverse (by simp)]
  rfl
end Go.Proofs.YtancjkanmjdkkaaDoor
