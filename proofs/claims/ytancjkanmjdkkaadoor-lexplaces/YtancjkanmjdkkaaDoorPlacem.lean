/- Where tokens stand: what LexPlaces needs of lists of bytes. No walk. -/
import Derived.Test.YtancjkanmjdkkaaDoorToks
namespace Go.Proofs.YtancjkanmjdkkaaDoor

/-- Where so many tokens end. -/
def endP : Nat → List Tok → Nat → Nat
  | p, _, 0 => p
  | p, [], _ + 1 => p
  | _, t :: l, i + 1 => endP (t.at_ + t.text.length) l i

theorem endP_zero (p : Nat) (l : List Tok) : endP p l 0 = p := by cases l <;> rfl
theorem endP_succ : ∀ (l : List Tok) (p i : Nat) (hi : i < l.length), endP p l (i + 1) = (l[i]).at_ + (l[i]).text.length
  | [], _, _, hi => by simp at hi
  | t :: l, p, 0, _ => by rw [endP, endP_zero]; rfl
  | t :: l, p, i + 1, hi => by
    rw [endP]
    exact endP_succ l _ i (by simpa using hi)

/-- What stands at each token, and ahead of it. -/
structure Stands (bs : Bs) (p e : Nat) (t : Tok) : Prop where
  lo : p ≤ e
  ord : e ≤ t.at_
  ne : t.text ≠ []
  hi : t.at_ + t.text.length ≤ p + bs.length
  text : (bs.drop (t.at_ - p)).take t.text.length = t.text
  gap : emp false ((bs.drop (e - p)).take (t.at_ - e)) = true

theorem Stands.behind {a bs : Bs} {p e : Nat} {t : Tok} (h : Stands bs (p + a.length) e t) : Stands (a ++ bs) p e t := by
  have h1 := h.lo
  have h2 := h.ord
  have h3 := h.hi
  refine ⟨by omega, h2, h.ne, by rw [List.length_append]; omega, ?_, ?_⟩
  · have := h.text
    rw [List.drop_append, List.drop_of_length_le (by omega), List.nil_append, show t.at_ - p - a.length = t.at_ - (p + a.length) by omega]
    exact this
  · have := h.gap
    rw [List.drop_append, List.drop_of_length_le (by omega), List.nil_append, show e - p - a.length = e - (p + a.length) by omega]
    exact this

theorem run_places {bs : Bs} {p : Nat} {l : List Tok} (h : Run bs p l) : (∀ i (hi : i < l.length), Stands bs p (endP p l i) l[i]) ∧ p ≤ endP p l l.length ∧ endP p l l.length ≤ p + bs.length ∧ emp false (bs.drop (endP p l l.length - p)) = true := by
  induction h with
  | @nil bs p h1 =>
    refine ⟨fun i hi => by simp at hi, ?_, ?_, ?_⟩
    · simp [endP]
    · simp [endP]
    · simpa [endP] using h1
  | @cons g rest p t l h1 h2 h3 h4 h5 ih =>
    obtain ⟨i1, i2, i3, i4⟩ := ih
    have hlen : t.at_ + t.text.length = p + (g ++ t.text).length := by rw [h4, List.length_append]; omega
    refine ⟨fun i hi => ?_, ?_, ?_, ?_⟩
    · cases i with
      | zero =>
        rw [endP_zero]
        show Stands (g ++ t.text ++ rest) p p t
        refine ⟨Nat.le_refl _, by omega, h2, ?_, ?_, ?_⟩
        · rw [hlen]
          simp only [List.length_append]
          omega
        · rw [h4, Nat.add_sub_cancel_left, List.append_assoc, List.drop_left, List.take_left]
        · rw [Nat.sub_self, List.drop_zero, h4, Nat.add_sub_cancel_left, List.append_assoc, List.take_left]
          exact h1
      | succ i =>
        have hil : i < l.length := by simpa using hi
        have h6 := i1 i hil
        obtain ⟨d, hd⟩ : ∃ d, t.at_ + t.text.length = d := ⟨_, rfl⟩
        show Stands (g ++ t.text ++ rest) p (endP (t.at_ + t.text.length) l i) (l[i]'hil)
        rw [hd] at h6 hlen ⊢
        rw [hlen] at h6 ⊢
        exact Stands.behind h6
    · rw [List.length_cons, endP]
      omega
    · rw [List.length_cons, endP]
      simp only [List.length_append] at hlen ⊢
      omega
    · rw [List.length_cons, endP]
      rw [List.drop_append, List.drop_of_length_le (by omega), List.nil_append]
      rw [show endP (t.at_ + t.text.length) l l.length - p - (g ++ t.text).length = endP (t.at_ + t.text.length) l l.length - (t.at_ + t.text.length) by omega]
      exact i4

/-- Where it is wrong is in the text. -/
theorem err_place {bs : Bs} (hb : bs.length ≤ 1048576) (h : (lexA bs).2.2 ≠ 0) : (lexA bs).2.1 < bs.length := by
  unfold lexA at h ⊢
  rw [if_neg (by omega)] at h ⊢
  cases hr : lexL bs 0 with
  | ok l => rw [hr] at h; exact absurd rfl h
  | error e =>
    obtain ⟨p, e⟩ := e
    have := (lexL_error hr).2
    rw [Nat.zero_add] at this
    exact this
end Go.Proofs.YtancjkanmjdkkaaDoor
