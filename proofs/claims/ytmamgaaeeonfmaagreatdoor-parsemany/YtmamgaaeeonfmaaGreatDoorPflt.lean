/- Where a text is wrong is in it, and a fault has an error: pure. -/
import Derived.Test.YtmamgaaeeonfmaaGreatDoorPm
import Derived.Test.YtmamgaaeeonfmaaGreatDoorPparse2
import Derived.Test.YtmamgaaeeonfmaaGreatDoorPright
namespace Go.Proofs.YtmamgaaeeonfmaaGreatDoor
open Go.RowKit

def Near (en : Nat) (ts : List Tok) : Prop := ∀ t ∈ ts, t.at_ ≤ en
theorem near_ahead {en : Nat} {ts : List Tok} (h : Near en ts) : (aheadT en ts).at_ ≤ en := by
  cases ts with
  | nil => exact Nat.le_refl _
  | cons t r => exact h t (by simp)
theorem near_tail {en : Nat} {ts : List Tok} (h : Near en ts) : Near en ts.tail := fun t ht => h t (List.mem_of_mem_tail ht)
def FltR {α : Type} (en : Nat) : PR α → Prop
  | .error f => f.1 ≤ en ∧ f.2 ≠ 0
  | .ok (_, r) => Near en r
def FltW (en : Nat) : Except Flt (List Tok) → Prop
  | .error f => f.1 ≤ en ∧ f.2 ≠ 0
  | .ok r => Near en r
theorem FltR.bad {α : Type} {en : Nat} {a : PR α} {f : Flt} (h : FltR en a) (e : a = .error f) : f.1 ≤ en ∧ f.2 ≠ 0 := by rw [e] at h; exact h
theorem FltR.good {α : Type} {en : Nat} {a : PR α} {x : α} {r : List Tok} (h : FltR en a) (e : a = .ok (x, r)) : Near en r := by rw [e] at h; exact h
theorem FltW.bad {en : Nat} {a : Except Flt (List Tok)} {f : Flt} (h : FltW en a) (e : a = .error f) : f.1 ≤ en ∧ f.2 ≠ 0 := by rw [e] at h; exact h
theorem FltW.good {en : Nat} {a : Except Flt (List Tok)} {r : List Tok} (h : FltW en a) (e : a = .ok r) : Near en r := by rw [e] at h; exact h
theorem takeP_f {en k : Nat} {ts : List Tok} (h : Near en ts) : FltR en (takeP en k ts) := by
  unfold takeP
  split
  · exact near_tail h
  · exact ⟨near_ahead h, by simp⟩
theorem takeP_at {en k : Nat} {ts r : List Tok} {t : Tok} (h : Near en ts) (e : takeP en k ts = .ok (t, r)) : t.at_ ≤ en := by
  rw [(take_len e).2.1]
  exact near_ahead h
theorem wantP_f {en : Nat} {s : Bs} {ts : List Tok} (h : Near en ts) : FltW en (wantP en s ts) := by
  unfold wantP
  split
  · exact near_tail h
  · exact ⟨near_ahead h, by simp⟩
def Fine {α : Type} (en : Nat) (el : List Tok → PR α) : Prop := ∀ ts, Near en ts → FltR en (el ts)
theorem numP_f (en : Nat) : Fine en (numP en) := by
  intro ts h
  unfold numP
  split
  · next f e => exact (takeP_f h).bad e
  · next t r e => exact (takeP_f h).good e
theorem placeP_f (en : Nat) (names : List Bs) : Fine en (placeP en names) := by
  intro ts h
  unfold placeP
  split
  · next f e => exact (takeP_f h).bad e
  · next t r e =>
    split
    · exact (takeP_f h).good e
    · exact ⟨takeP_at h e, by simp⟩
theorem tailP_f {α : Type} {en : Nat} {last : Bs} {el : List Tok → PR α} (he : Fine en el) : ∀ n, Fine en (tailP en last el n) := by
  intro n
  induction n with
  | zero =>
    intro ts h
    simp only [tailP]
    split
    · exact near_tail h
    · exact ⟨near_ahead h, by simp⟩
  | succ n ih =>
    intro ts h
    simp only [tailP]
    split
    · exact near_tail h
    · split
      · next f e => exact (wantP_f h).bad e
      · next r e =>
        have h1 := (wantP_f h).good e
        split
        · next f e2 => exact (he _ h1).bad e2
        · next x r2 e2 =>
          have h2 := (he _ h1).good e2
          split
          · next f e3 => exact (ih _ h2).bad e3
          · next xs r3 e3 => exact (ih _ h2).good e3
theorem listP_f {α : Type} {en : Nat} {first last : Bs} {el : List Tok → PR α} (he : Fine en el) : Fine en (listP en first last el) := by
  intro ts h
  unfold listP
  split
  · next f e => exact (wantP_f h).bad e
  · next r e =>
    have h1 := (wantP_f h).good e
    split
    · exact near_tail h1
    · split
      · next f e2 => exact (he _ h1).bad e2
      · next x r2 e2 =>
        have h2 := (he _ h1).good e2
        split
        · next f e3 => exact (tailP_f he _ _ h2).bad e3
        · next xs r3 e3 => exact (tailP_f he _ _ h2).good e3
theorem rowP_f (en : Nat) : Fine en (rowP en) := listP_f (numP_f en)
theorem rosP_f (en : Nat) : Fine en (rosP en) := by
  intro ts h
  unfold rosP
  split
  · split
    · next f e => exact (listP_f (numP_f en) _ h).bad e
    · next l r e => exact (listP_f (numP_f en) _ h).good e
  · split
    · next f e => exact (takeP_f h).bad e
    · next t r e =>
      have h1 := (takeP_f h).good e
      split
      · next f e2 => exact (wantP_f h1).bad e2
      · next r1 e2 =>
        have h2 := (wantP_f h1).good e2
        split
        · next f e3 => exact (takeP_f h2).bad e3
        · next t2 r2 e3 => exact (takeP_f h2).good e3
theorem domP_f (en : Nat) : Fine en (domP en) := by
  intro ts h
  unfold domP
  split
  · next f e => exact (rosP_f en _ h).bad e
  · next l e r hr =>
    split
    · exact (rosP_f en _ h).good hr
    · next he => exact ⟨near_ahead h, he⟩
theorem newNameP_f (en : Nat) (names : List Bs) : Fine en (newNameP en names) := by
  intro ts h
  unfold newNameP
  split
  · next f e => exact (takeP_f h).bad e
  · next t r e =>
    split
    · exact ⟨takeP_at h e, by simp⟩
    · split
      · exact ⟨takeP_at h e, by simp⟩
      · exact (takeP_f h).good e
theorem varP_f {en : Nat} {m : ModL} {start : Tok} (hs : start.at_ ≤ en) : Fine en (varP en m start) := by
  intro ts h
  unfold varP
  split
  · exact ⟨hs, by simp⟩
  · split
    · next f e => exact (domP_f en _ h).bad e
    · next d r e =>
      have h1 := (domP_f en _ h).good e
      split
      · next f e2 => exact (wantP_f h1).bad e2
      · next r1 e2 =>
        have h2 := (wantP_f h1).good e2
        split
        · next f e3 => exact (newNameP_f en _ _ h2).bad e3
        · next b r2 e3 =>
          have h3 := (newNameP_f en _ _ h2).good e3
          split
          · next f e4 => exact (wantP_f h3).bad e4
          · next r3 e4 => exact (wantP_f h3).good e4
theorem partP_f {en : Nat} {names : List Bs} {letter : Nat} {c : ConL} : Fine en (partP en names letter c) := by
  intro ts h
  unfold partP
  split
  · split
    · next f e => exact (placeP_f en _ _ h).bad e
    · next x r e => exact (placeP_f en _ _ h).good e
  split
  · split
    · next f e => exact (placeP_f en _ _ h).bad e
    · next x r e => exact (placeP_f en _ _ h).good e
  split
  · split
    · next f e => exact (listP_f (placeP_f en _) _ h).bad e
    · next x r e => exact (listP_f (placeP_f en _) _ h).good e
  split
  · split
    · next f e => exact (listP_f (placeP_f en _) _ h).bad e
    · next x r e => exact (listP_f (placeP_f en _) _ h).good e
  split
  · split
    · next f e => exact (rowP_f en _ h).bad e
    · next x r e => exact (rowP_f en _ h).good e
  split
  · split
    · next f e => exact (rowP_f en _ h).bad e
    · next x r e => exact (rowP_f en _ h).good e
  split
  · split
    · next f e => exact (rowP_f en _ h).bad e
    · next x r e => exact (rowP_f en _ h).good e
  split
  · split
    · next f e => exact (numP_f en _ h).bad e
    · next x r e => exact (numP_f en _ h).good e
  split
  · split
    · next f e => exact (listP_f (rowP_f en) _ h).bad e
    · next x r e => exact (listP_f (rowP_f en) _ h).good e
  exact h
theorem partsP_f {en : Nat} {names : List Bs} : ∀ (bs : List UInt8) (i : Nat) (c : ConL), Fine en (partsP en names i bs c) := by
  intro bs
  induction bs with
  | nil => intro i c ts h; exact h
  | cons b bs ih =>
    intro i c ts h
    simp only [partsP]
    have hw : FltW en (if 0 < i then wantP en [44] ts else .ok ts) := by
      split
      · exact wantP_f h
      · exact h
    split
    · next f e => exact hw.bad e
    · next r e =>
      have h1 := hw.good e
      split
      · next f e2 => exact (partP_f _ h1).bad e2
      · next c2 r2 e2 => exact ih _ _ _ ((partP_f _ h1).good e2)
theorem conP_f {en : Nat} {m : ModL} {start : Tok} (hs : start.at_ ≤ en) : Fine en (conP en m start) := by
  intro ts h
  unfold conP
  split
  · exact ⟨hs, by simp⟩
  · split
    · next f e => exact (takeP_f h).bad e
    · next t r e =>
      have h1 := (takeP_f h).good e
      have ht := takeP_at h e
      split
      · exact ⟨ht, by simp⟩
      · split
        · next f e2 => exact (wantP_f h1).bad e2
        · next r1 e2 =>
          have h2 := (wantP_f h1).good e2
          split
          · next f e3 => exact (partsP_f _ _ _ _ h2).bad e3
          · next c r2 e3 =>
            have h3 := (partsP_f _ _ _ _ h2).good e3
            split
            · next f e4 => exact (wantP_f h3).bad e4
            · next r3 e4 =>
              have h4 := (wantP_f h3).good e4
              split
              · next hr => exact ⟨ht, hr⟩
              · split
                · next f e5 => exact (wantP_f h4).bad e5
                · next r4 e5 => exact (wantP_f h4).good e5
theorem goalP_f {en : Nat} {m : ModL} : Fine en (goalP en m) := by
  intro ts h
  unfold goalP
  split
  · next f e => exact (takeP_f h).bad e
  · next t r e =>
    have h1 := (takeP_f h).good e
    have ht := takeP_at h e
    have hg : FltR en (if t.text = [115, 97, 116, 105, 115, 102, 121] then .ok ({ m with goal := 0 }, r)
      else if t.text = [109, 105, 110, 105, 109, 105, 122, 101] then (match placeP en m.names r with | .error f => .error f | .ok (x, r2) => .ok ({ m with goal := 1, obj := x }, r2))
      else if t.text = [109, 97, 120, 105, 109, 105, 122, 101] then (match placeP en m.names r with | .error f => .error f | .ok (x, r2) => .ok ({ m with goal := 2, obj := x }, r2))
      else .error (t.at_, 6) : PR ModL) := by
      split
      · exact h1
      · split
        · split
          · next f e2 => exact (placeP_f en _ _ h1).bad e2
          · next x r2 e2 => exact (placeP_f en _ _ h1).good e2
        · split
          · split
            · next f e2 => exact (placeP_f en _ _ h1).bad e2
            · next x r2 e2 => exact (placeP_f en _ _ h1).good e2
          · exact ⟨ht, by simp⟩
    split
    · next f e2 => exact hg.bad e2
    · next m2 r2 e2 =>
      have h2 := hg.good e2
      split
      · next f e3 => exact (wantP_f h2).bad e3
      · next r3 e3 => exact (wantP_f h2).good e3
theorem itemsP_f {en : Nat} : ∀ (n : Nat) (m : ModL) (ts : List Tok) (f : Flt), Near en ts → itemsP en n m ts = .error f → f.1 ≤ en ∧ f.2 ≠ 0 := by
  intro n
  induction n with
  | zero =>
    intro m ts f h e
    simp only [itemsP] at e
    injection e with e
    subst e
    exact ⟨near_ahead h, by simp⟩
  | succ n ih =>
    intro m ts f h e
    simp only [itemsP] at e
    split at e
    · next f' e1 => injection e with e; subst e; exact (takeP_f h).bad e1
    · next t r e1 =>
      have h1 := (takeP_f h).good e1
      have ht := takeP_at h e1
      split at e
      · split at e
        · next f' e2 => injection e with e; subst e; exact (varP_f ht _ h1).bad e2
        · next m2 r2 e2 => exact ih _ _ _ ((varP_f ht _ h1).good e2) e
      · split at e
        · split at e
          · next f' e2 => injection e with e; subst e; exact (conP_f ht _ h1).bad e2
          · next m2 r2 e2 => exact ih _ _ _ ((conP_f ht _ h1).good e2) e
        · split at e
          · split at e
            · next f' e2 => injection e with e; subst e; exact (goalP_f _ h1).bad e2
            · next m2 r2 e2 =>
              split at e
              · cases e
              · injection e with e; subst e; exact ⟨near_ahead ((goalP_f _ h1).good e2), by simp⟩
          · injection e with e; subst e; exact ⟨ht, by simp⟩
/-- What Parse tells, plainly. -/
theorem parseA_bad {bs : Bs} (h : (parseA bs).2.2 ≠ 0) : (parseA bs).1 = noMod ∧ (parseA bs).2.1 ≤ bs.length := by
  unfold parseA at h ⊢
  split
  · next he =>
    refine ⟨rfl, ?_⟩
    simp only
    unfold lexA
    split
    · simp only; omega
    · rcases hr : lexL bs 0 with ⟨p, e⟩ | l
      · have := (lexL_error hr).2
        simp only [lexT]
        omega
      · simp only [lexT]; omega
  · next he =>
    rw [if_neg he] at h
    have he0 : (lexA bs).2.2 = 0 := by simpa using he
    have l3 := (lexA_ok he0).2.2.2
    rcases hi : itemsP bs.length (lexA bs).1.length noMod (lexA bs).1 with ⟨p, e⟩ | m
    · exact ⟨rfl, (itemsP_f _ _ _ _ (fun t ht => (l3 t ht).2) hi).1⟩
    · rw [hi] at h
      exact absurd rfl h
theorem parseA_good {bs : Bs} (h : (parseA bs).2.2 = 0) : checkE (parseA bs).1 = (-1, 0) ∧ (parseA bs).2.1 = 0 := by
  unfold parseA at h ⊢
  split
  · next he => rw [if_pos he] at h; exact absurd h he
  · next he =>
    rw [if_neg he] at h
    have he0 : (lexA bs).2.2 = 0 := by simpa using he
    have l3 := (lexA_ok he0).2.2.2
    rcases hi : itemsP bs.length (lexA bs).1.length noMod (lexA bs).1 with ⟨p, e⟩ | m
    · rw [hi] at h
      exact absurd h (itemsP_f _ _ _ _ (fun t ht => (l3 t ht).2) hi).2
    · exact ⟨items_check _ _ _ _ noMod_good hi, rfl⟩
end Go.Proofs.YtmamgaaeeonfmaaGreatDoor
