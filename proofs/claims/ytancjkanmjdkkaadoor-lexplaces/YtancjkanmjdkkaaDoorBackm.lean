/- Tokens told again: what LexBack needs of lists of bytes. No walk. -/
import Derived.Test.YtancjkanmjdkkaaDoorToks
namespace Go.Proofs.YtancjkanmjdkkaaDoor
open Go.RowKit

/-- The law's six gaps. -/
def gapT : Nat → Bs
  | 0 => [32]
  | 1 => [10]
  | 2 => [9, 32]
  | 3 => [37, 32, 194, 167, 255, 10]
  | 4 => [37, 10, 37, 37, 13, 10]
  | _ => [32, 13]
theorem gapT_ok (n : Nat) : Gap (gapT n) := by
  match n with
  | 0 => exact gap0
  | 1 => exact gap1
  | 2 => exact gap2
  | 3 => exact gap3
  | 4 => exact gap4
  | n + 5 => exact gap5
theorem gapT_len (n : Nat) : (gapT n).length ≤ 6 := by
  match n with
  | 0 => decide
  | 1 => decide
  | 2 => decide
  | 3 => decide
  | 4 => decide
  | n + 5 => show (2 : Nat) ≤ 6; omega

theorem joinT_snoc : ∀ (l : List Tok) (gs : List Bs) (t : Tok) (g : Bs), l.length = gs.length → joinT (l ++ [t]) (gs ++ [g]) = joinT l gs ++ (t.text ++ g)
  | [], [], t, g, _ => by simp [joinT]
  | [], _ :: _, _, _, h => by simp at h
  | _ :: _, [], _, _, h => by simp at h
  | a :: l, b :: gs, t, g, h => by
    have := joinT_snoc l gs t g (by simpa using h)
    simp only [List.cons_append, joinT, this, List.append_assoc]

/-- The gaps of the first so many tokens, by the numbers that came in. -/
def gsOf (f : Nat → Nat) (k : Nat) : List Bs := (List.range k).map fun i => gapT (f i)
theorem gsOf_len (f : Nat → Nat) (k : Nat) : (gsOf f k).length = k := by simp [gsOf]
theorem gsOf_succ (f : Nat → Nat) (k : Nat) : gsOf f (k + 1) = gsOf f k ++ [gapT (f k)] := by simp [gsOf, List.range_succ]
theorem gsOf_ok (f : Nat → Nat) (k : Nat) : ∀ g ∈ gsOf f k, Gap g := by
  intro g hg
  simp only [gsOf, List.mem_map] at hg
  obtain ⟨i, -, rfl⟩ := hg
  exact gapT_ok _

/-- What stands so far. -/
def joined (l : List Tok) (f : Nat → Nat) (k : Nat) : Bs := joinT (l.take k) (gsOf f k)
theorem joined_zero (l : List Tok) (f : Nat → Nat) : joined l f 0 = [] := by simp [joined, gsOf, joinT]
theorem joined_succ (l : List Tok) (f : Nat → Nat) (k : Nat) (h : k < l.length) : joined l f (k + 1) = joined l f k ++ ((l[k]).text ++ gapT (f k)) := by
  unfold joined
  rw [List.take_succ_eq_append_getElem h, gsOf_succ, joinT_snoc _ _ _ _ (by rw [gsOf_len, List.length_take]; omega)]

/-- How long it gets. -/
def lens (l : List Tok) : Nat := (l.map fun t => t.text.length).sum
theorem joinT_len : ∀ (l : List Tok) (gs : List Bs), (∀ g ∈ gs, g.length ≤ 6) → (joinT l gs).length ≤ lens l + 6 * l.length
  | [], _, _ => by simp [joinT]
  | _ :: _, [], _ => by simp [joinT]
  | t :: l, g :: gs, h => by
    have h1 := joinT_len l gs (fun x hx => h x (by simp [hx]))
    have h2 := h g (by simp)
    simp only [joinT, List.length_append, lens, List.map_cons, List.sum_cons, List.length_cons] at h1 ⊢
    omega
theorem run_lens {bs : Bs} {p : Nat} {l : List Tok} (h : Run bs p l) : lens l ≤ bs.length ∧ l.length ≤ bs.length := by
  induction h with
  | nil _ => simp [lens]
  | @cons g rest p t l h1 h2 h3 h4 h5 ih =>
    have : 0 < t.text.length := List.length_pos_iff.2 h2
    simp only [lens, List.map_cons, List.sum_cons, List.length_cons, List.length_append] at ih ⊢
    omega
theorem lens_take (l : List Tok) (k : Nat) : lens (l.take k) ≤ lens l := by
  induction l generalizing k with
  | nil => simp [lens]
  | cons t l ih =>
    cases k with
    | zero => simp [lens]
    | succ k =>
      have := ih k
      simp only [lens, List.take_succ_cons, List.map_cons, List.sum_cons] at this ⊢
      omega
theorem joined_len {bs : Bs} {l : List Tok} (h : lexL bs 0 = .ok l) (hb : bs.length ≤ 500) (f : Nat → Nat) (k : Nat) (hk : k ≤ l.length) : (joined l f k).length ≤ 3500 := by
  obtain ⟨h1, h2⟩ := run_lens (lexL_run _ _ _ h)
  have h3 := joinT_len (l.take k) (gsOf f k) (by
    intro g hg
    simp only [gsOf, List.mem_map] at hg
    obtain ⟨i, -, rfl⟩ := hg
    exact gapT_len _)
  have h4 := lens_take l k
  rw [List.length_take] at h3
  unfold joined
  omega

theorem retold_len : ∀ (l : List Tok) (gs : List Bs) (p : Nat), l.length = gs.length → (retold l gs p).length = l.length
  | [], [], _, _ => rfl
  | [], _ :: _, _, h => by simp at h
  | _ :: _, [], _, h => by simp at h
  | t :: l, g :: gs, p, h => by simp [retold, retold_len l gs _ (by simpa using h)]
theorem retold_at : ∀ (l : List Tok) (gs : List Bs) (p : Nat), l.length = gs.length → ∀ (i : Nat) (hi : i < l.length), ∃ q, (retold l gs p)[i]? = some ⟨(l[i]).kind, (l[i]).text, (l[i]).num, q⟩
  | [], _, _, _, i, hi => by simp at hi
  | _ :: _, [], _, h, _, _ => by simp at h
  | t :: l, g :: gs, p, _, 0, _ => ⟨p, rfl⟩
  | t :: l, g :: gs, p, h, i + 1, hi => by
    obtain ⟨q, e⟩ := retold_at l gs (p + t.text.length + g.length) (by simpa using h) i (by simpa using hi)
    exact ⟨q, by simpa [retold] using e⟩

/-- Tokens with gaps are told again, each where it stands. -/
theorem told_again {bs : Bs} {l : List Tok} (h : lexL bs 0 = .ok l) (hb : bs.length ≤ 500) (f : Nat → Nat) :
    ∃ m, lexA (joined l f l.length) = (m, 0, 0) ∧ m.length = l.length ∧ ∀ i (hi : i < l.length) (hm : i < m.length), (m[i]).kind = (l[i]).kind ∧ (m[i]).text = (l[i]).text ∧ (m[i]).num = (l[i]).num ∧
      (m[i]).at_ + (l[i]).text.length ≤ (joined l f l.length).length ∧ ((joined l f l.length).drop (m[i]).at_).take (l[i]).text.length = (l[i]).text := by
  have hL : l.length = (gsOf f l.length).length := by rw [gsOf_len]
  have hj : joined l f l.length = joinT l (gsOf f l.length) := by rw [joined, List.take_length]
  have hagain := lexL_again l (gsOf f l.length) 0 hL (lexL_ok _ _ _ h) (gsOf_ok f _)
  rw [← hj] at hagain
  have hlen := joined_len h hb f l.length (Nat.le_refl _)
  refine ⟨retold l (gsOf f l.length) 0, ?_, retold_len _ _ _ hL, fun i hi hm => ?_⟩
  · rw [lexA, if_neg (by omega), hagain]
    rfl
  · obtain ⟨q, e⟩ := retold_at l (gsOf f l.length) 0 hL i hi
    have e' : (retold l (gsOf f l.length) 0)[i] = ⟨(l[i]).kind, (l[i]).text, (l[i]).num, q⟩ := (List.getElem?_eq_some_iff.1 e).2
    obtain ⟨A, B, hs, ha⟩ := (lexL_run _ _ _ hagain).sub _ (List.getElem_mem hm)
    rw [e'] at hs ha ⊢
    simp only [Nat.zero_add] at hs ha ⊢
    refine ⟨trivial, trivial, trivial, ?_, ?_⟩
    · rw [hs, ha]
      simp only [List.length_append]
      omega
    · rw [hs, ha, List.append_assoc, List.drop_left, List.take_left]
end Go.Proofs.YtancjkanmjdkkaaDoor
