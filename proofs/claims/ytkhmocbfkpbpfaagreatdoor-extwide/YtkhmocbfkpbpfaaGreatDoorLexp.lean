/- Texts in tokens, as the document says it: lists of bytes, no walk and no program. -/
import Derived.WalkKit
namespace Go.Proofs.YtkhmocbfkpbpfaaGreatDoor

abbrev Bs := List UInt8

def letterB (c : UInt8) : Bool := (decide (97 ≤ c.toNat) && decide (c.toNat ≤ 122)) || (decide (65 ≤ c.toNat) && decide (c.toNat ≤ 90))
def digitB (c : UInt8) : Bool := decide (48 ≤ c.toNat) && decide (c.toNat ≤ 57)
def blankB (c : UInt8) : Bool := c == 32 || c == 9 || c == 10 || c == 13
def partB (c : UInt8) : Bool := letterB c || digitB c || c == 95
def signB (c : UInt8) : Bool := c == 40 || c == 41 || c == 91 || c == 93 || c == 123 || c == 125 || c == 44 || c == 59 || c == 58

/-- How many bytes a word has. -/
def wordN : Bs → Nat
  | [] => 0
  | c :: r => if letterB c then 1 + (r.takeWhile partB).length else 0

/-- Is there a minus? -/
def minusN : Bs → Nat
  | [] => 0
  | c :: _ => if c == 45 then 1 else 0
def digitsOf (bs : Bs) : Bs := (bs.drop (minusN bs)).takeWhile digitB
/-- What digits say. -/
def valOf (ds : Bs) : Int := ds.foldl (fun v d => 10 * v + (d.toNat : Int) - 48) 0
def numBad (bs : Bs) : Bool := decide (10 < (digitsOf bs).length) || (decide (1 < (digitsOf bs).length) && (digitsOf bs).head? == some 48) || (minusN bs == 1 && (digitsOf bs).length == 1 && (digitsOf bs).head? == some 48)
def numVal (bs : Bs) : Int := (if minusN bs == 1 then -1 else 1) * valOf (digitsOf bs)

/-- What stands at the beginning. -/
inductive Item where
  | skip (n : Nat)
  | tok (kind n : Nat) (num : Int)
  | bad (e : Int)

def item : Bs → Item
  | [] => .bad 0
  | c :: r =>
    if blankB c then .skip 1
    else if c == 37 then .skip (1 + (r.takeWhile (· != 10)).length)
    else if letterB c then .tok 1 (wordN (c :: r)) 0
    else if (digitsOf (c :: r)).length != 0 then (if numBad (c :: r) then .bad 15 else .tok 2 (minusN (c :: r) + (digitsOf (c :: r)).length) (numVal (c :: r)))
    else if signB c then .tok 3 1 0
    else if c == 46 && r.head? == some 46 then .tok 3 2 0
    else .bad 6

structure Tok where
  kind : Nat
  text : Bs
  num : Int
  at_ : Nat

abbrev Res := Except (Nat × Int) (List Tok)
def Res.pre (t : Tok) : Res → Res
  | .ok l => .ok (t :: l)
  | .error e => .error e

/-- The tokens of a text that begins at a place, or where it is wrong and why. -/
def lexL : Bs → Nat → Res
  | [], _ => .ok []
  | c :: r, p =>
    match item (c :: r) with
    | .skip n => lexL (r.drop (n - 1)) (p + n)
    | .tok k n v => Res.pre ⟨k, (c :: r).take n, v, p⟩ (lexL (r.drop (n - 1)) (p + n))
    | .bad e => .error (p, e)
termination_by bs => bs.length
decreasing_by
  all_goals simp_wf; omega

theorem tw_len (p : UInt8 → Bool) (r : Bs) : (r.takeWhile p).length ≤ r.length := (List.takeWhile_sublist p).length_le
theorem wordN_cons (c : UInt8) (r : Bs) : wordN (c :: r) = if letterB c then 1 + (r.takeWhile partB).length else 0 := rfl
theorem minusN_cons (c : UInt8) (r : Bs) : minusN (c :: r) = if c == 45 then 1 else 0 := rfl
theorem minus_le (bs : Bs) : minusN bs ≤ 1 := by
  cases bs with
  | nil => simp [minusN]
  | cons c r => rw [minusN_cons]; split <;> omega
theorem num_len (bs : Bs) (h : (digitsOf bs).length ≠ 0) : minusN bs + (digitsOf bs).length ≤ bs.length := by
  unfold digitsOf at h ⊢
  have h1 := tw_len digitB (bs.drop (minusN bs))
  rw [List.length_drop] at h1
  have h2 := minus_le bs
  omega
theorem item_cons (c : UInt8) (r : Bs) : item (c :: r) = if blankB c then .skip 1
    else if c == 37 then .skip (1 + (r.takeWhile (· != 10)).length)
    else if letterB c then .tok 1 (wordN (c :: r)) 0
    else if (digitsOf (c :: r)).length != 0 then (if numBad (c :: r) then .bad 15 else .tok 2 (minusN (c :: r) + (digitsOf (c :: r)).length) (numVal (c :: r)))
    else if signB c then .tok 3 1 0
    else if c == 46 && r.head? == some 46 then .tok 3 2 0
    else .bad 6 := rfl

/-- How many bytes an item takes. -/
theorem item_pos {bs : Bs} (h : bs ≠ []) : (∀ n, item bs = .skip n → 0 < n ∧ n ≤ bs.length) ∧ (∀ k n v, item bs = .tok k n v → 0 < n ∧ n ≤ bs.length) := by
  cases bs with
  | nil => exact absurd rfl h
  | cons c r =>
    rw [item_cons]
    by_cases h1 : blankB c = true
    · rw [if_pos h1]
      refine ⟨fun n hn => ?_, fun k n v hn => ?_⟩
      · cases hn; simp
      · cases hn
    · rw [if_neg h1]
      by_cases h2 : (c == 37) = true
      · rw [if_pos h2]
        refine ⟨fun n hn => ?_, fun k n v hn => ?_⟩
        · cases hn
          have := tw_len (· != 10) r
          simp only [List.length_cons]
          omega
        · cases hn
      · rw [if_neg h2]
        by_cases h3 : letterB c = true
        · rw [if_pos h3]
          refine ⟨fun n hn => ?_, fun k n v hn => ?_⟩
          · cases hn
          · cases hn
            rw [wordN_cons, if_pos h3]
            have := tw_len partB r
            simp only [List.length_cons]
            omega
        · rw [if_neg h3]
          by_cases h4 : ((digitsOf (c :: r)).length != 0) = true
          · rw [if_pos h4]
            simp only [bne_iff_ne, ne_eq] at h4
            have h5 := num_len (c :: r) h4
            split
            · exact ⟨fun n hn => (by cases hn), fun k n v hn => (by cases hn)⟩
            · refine ⟨fun n hn => (by cases hn), fun k n v hn => ?_⟩
              cases hn
              omega
          · rw [if_neg h4]
            split
            · refine ⟨fun n hn => (by cases hn), fun k n v hn => ?_⟩
              cases hn
              simp
            · split
              · next hl =>
                refine ⟨fun n hn => (by cases hn), fun k n v hn => ?_⟩
                cases hn
                cases r with
                | nil => simp at hl
                | cons a b => simp
              · exact ⟨fun n hn => (by cases hn), fun k n v hn => (by cases hn)⟩

theorem lexL_nil (p : Nat) : lexL [] p = .ok [] := by rw [lexL]
theorem lexL_skip {bs : Bs} {p n : Nat} (h : bs ≠ []) (hi : item bs = .skip n) : lexL bs p = lexL (bs.drop n) (p + n) := by
  obtain ⟨h1, -⟩ := (item_pos h).1 n hi
  match bs, h with
  | c :: r, _ =>
    rw [lexL, hi]
    simp only
    rw [show (c :: r).drop n = r.drop (n - 1) by obtain ⟨m, rfl⟩ : ∃ m, n = m + 1 := ⟨n - 1, by omega⟩; simp]
theorem lexL_tok {bs : Bs} {p k n : Nat} {v : Int} (h : bs ≠ []) (hi : item bs = .tok k n v) : lexL bs p = Res.pre ⟨k, bs.take n, v, p⟩ (lexL (bs.drop n) (p + n)) := by
  obtain ⟨h1, -⟩ := (item_pos h).2 k n v hi
  match bs, h with
  | c :: r, _ =>
    rw [lexL, hi]
    simp only
    rw [show (c :: r).drop n = r.drop (n - 1) by obtain ⟨m, rfl⟩ : ∃ m, n = m + 1 := ⟨n - 1, by omega⟩; simp]
theorem lexL_bad {bs : Bs} {p : Nat} {e : Int} (h : bs ≠ []) (hi : item bs = .bad e) : lexL bs p = .error (p, e) := by
  match bs, h with
  | c :: r, _ => rw [lexL, hi]

/-- Tokens, further on. -/
def Tok.shift (d : Nat) (t : Tok) : Tok := { t with at_ := t.at_ + d }
def Res.shift (d : Nat) : Res → Res
  | .ok l => .ok (l.map (Tok.shift d))
  | .error (p, e) => .error (p + d, e)
theorem Res.shift_pre (d : Nat) (t : Tok) (r : Res) : Res.shift d (Res.pre t r) = Res.pre (t.shift d) (Res.shift d r) := by
  cases r <;> rfl

/-- By the length of the text. -/
theorem lex_ind {P : Bs → Prop} (h0 : P []) (hs : ∀ bs n, bs ≠ [] → item bs = .skip n → P (bs.drop n) → P bs) (ht : ∀ bs k n v, bs ≠ [] → item bs = .tok k n v → P (bs.drop n) → P bs) (hb : ∀ bs e, bs ≠ [] → item bs = .bad e → P bs) : ∀ bs, P bs := by
  intro bs
  generalize hn : bs.length = m
  induction m using Nat.strongRecOn generalizing bs with
  | _ m ih =>
    by_cases h : bs = []
    · subst h
      exact h0
    · rcases hi : item bs with n | ⟨k, n, v⟩ | e
      · obtain ⟨h1, h2⟩ := (item_pos h).1 n hi
        exact hs bs n h hi (ih (bs.drop n).length (by rw [List.length_drop]; omega) _ rfl)
      · obtain ⟨h1, h2⟩ := (item_pos h).2 k n v hi
        exact ht bs k n v h hi (ih (bs.drop n).length (by rw [List.length_drop]; omega) _ rfl)
      · exact hb bs e h hi

theorem lexL_shift (d : Nat) : ∀ bs p, lexL bs (p + d) = Res.shift d (lexL bs p) := by
  refine lex_ind (fun p => ?_) (fun bs n h hi ih p => ?_) (fun bs k n v h hi ih p => ?_) (fun bs e h hi p => ?_)
  · rw [lexL_nil, lexL_nil]; rfl
  · rw [lexL_skip h hi, lexL_skip h hi, show p + d + n = p + n + d by omega, ih]
  · rw [lexL_tok h hi, lexL_tok h hi, show p + d + n = p + n + d by omega, ih, Res.shift_pre]; rfl
  · rw [lexL_bad h hi, lexL_bad h hi]; rfl

/-- Where it is wrong is in the text. -/
theorem lexL_error {bs : Bs} : ∀ {p q : Nat} {e : Int}, lexL bs p = .error (q, e) → p ≤ q ∧ q < p + bs.length := by
  refine lex_ind (P := fun bs => ∀ {p q : Nat} {e : Int}, lexL bs p = .error (q, e) → p ≤ q ∧ q < p + bs.length) (fun {p q e} he => ?_) (fun bs n h hi ih {p q e} he => ?_) (fun bs k n v h hi ih {p q e} he => ?_) (fun bs e' h hi {p q e} he => ?_) bs
  · rw [lexL_nil] at he; cases he
  · rw [lexL_skip h hi] at he
    obtain ⟨h1, h2⟩ := (item_pos h).1 n hi
    have := ih he
    rw [List.length_drop] at this
    omega
  · rw [lexL_tok h hi] at he
    obtain ⟨h1, h2⟩ := (item_pos h).2 k n v hi
    rcases hr : lexL (bs.drop n) (p + n) with e0 | l0
    · rw [hr] at he
      simp only [Res.pre] at he
      rw [he] at hr
      have := ih hr
      rw [List.length_drop] at this
      omega
    · rw [hr] at he
      cases he
  · rw [lexL_bad h hi] at he
    cases he
    have : 0 < bs.length := List.length_pos_iff.2 h
    omega
end Go.Proofs.YtkhmocbfkpbpfaaGreatDoor

/- What follows of tokens: where they stand, that they are told again, long texts, names. Lists of bytes; no walk and no program. -/
namespace Go.Proofs.YtkhmocbfkpbpfaaGreatDoor

/-- Blanks and comments alone? The first argument: within a comment? -/
def emp : Bool → Bs → Bool
  | _, [] => true
  | true, c :: r => if c == 10 then emp false r else emp true r
  | false, c :: r => if c == 10 then emp false r else if c == 37 then emp true r else if c == 32 || c == 9 || c == 13 then emp false r else false

theorem emp_blank {c : UInt8} (h : blankB c = true) (g : Bs) : emp false (c :: g) = emp false g := by
  unfold blankB at h
  simp only [Bool.or_eq_true, beq_iff_eq] at h
  rcases h with ((rfl | rfl) | rfl) | rfl <;> simp [emp]
theorem emp_com : ∀ (q g : Bs), (∀ x ∈ q, x ≠ 10) → emp true (q ++ 10 :: g) = emp false g
  | [], g, _ => by simp [emp]
  | x :: q, g, h => by
    have hx : x ≠ 10 := h x (by simp)
    have := emp_com q g (fun y hy => h y (by simp [hy]))
    simpa [emp, hx] using this
theorem emp_end : ∀ (q : Bs), (∀ x ∈ q, x ≠ 10) → emp true q = true
  | [], _ => rfl
  | x :: q, h => by
    have hx : x ≠ 10 := h x (by simp)
    have := emp_end q (fun y hy => h y (by simp [hy]))
    simpa [emp, hx] using this

/-- Tokens one behind the other, none empty, blanks and comments between them. -/
inductive Run : Bs → Nat → List Tok → Prop
  | nil {bs : Bs} {p : Nat} : emp false bs = true → Run bs p []
  | cons {g rest : Bs} {p : Nat} {t : Tok} {l : List Tok} : emp false g = true → t.text ≠ [] → t.text.head? ≠ some 10 → t.at_ = p + g.length → Run rest (t.at_ + t.text.length) l → Run (g ++ t.text ++ rest) p (t :: l)

theorem Run.blank {c : UInt8} (h : blankB c = true) {bs : Bs} {p : Nat} {l : List Tok} (hr : Run bs (p + 1) l) : Run (c :: bs) p l := by
  cases hr with
  | nil h1 => exact .nil (by rw [emp_blank h]; exact h1)
  | @cons g rest _ t l h1 h2 h3 h4 h5 =>
    have := Run.cons (g := c :: g) (rest := rest) (p := p) (t := t) (l := l) (by rw [emp_blank h]; exact h1) h2 h3 (by rw [h4]; simp; omega) h5
    simpa using this

theorem Run.comment {q bs : Bs} (h : ∀ x ∈ q, x ≠ 10) {p : Nat} {l : List Tok} (hr : Run (10 :: bs) (p + (q.length + 1)) l) : Run (37 :: q ++ 10 :: bs) p l := by
  generalize hb : (10 :: bs : Bs) = b at hr
  cases hr with
  | nil h1 =>
    refine .nil ?_
    subst hb
    have e := emp_com q bs h
    simp [emp] at h1 ⊢
    rw [e]
    exact h1
  | @cons g rest _ t l h1 h2 h3 h4 h5 =>
    cases g with
    | nil =>
      exfalso
      cases ht : t.text with
      | nil => exact h2 ht
      | cons a r =>
        rw [ht] at hb h3
        simp at hb h3
        exact h3 hb.1.symm
    | cons a g =>
      simp only [List.cons_append, List.cons.injEq] at hb
      obtain ⟨rfl, hb⟩ := hb
      have e : emp false (37 :: q ++ 10 :: g) = true := by
        have e := emp_com q g h
        simp [emp] at h1 ⊢
        rw [e]
        exact h1
      have := Run.cons (g := 37 :: q ++ 10 :: g) (rest := rest) (p := p) (t := t) (l := l) e h2 h3 (by rw [h4]; simp; omega) h5
      simpa [List.append_assoc] using this

theorem tok_head {bs : Bs} {k n : Nat} {v : Int} (h : bs ≠ []) (hi : item bs = .tok k n v) : bs.take n ≠ [] ∧ (bs.take n).head? ≠ some 10 := by
  obtain ⟨h1, h2⟩ := (item_pos h).2 k n v hi
  cases bs with
  | nil => exact absurd rfl h
  | cons c r =>
    obtain ⟨m, rfl⟩ : ∃ m, n = m + 1 := ⟨n - 1, by omega⟩
    refine ⟨by simp, fun e => ?_⟩
    simp at e
    subst e
    rw [item_cons, if_pos (by decide)] at hi
    cases hi

theorem tw_all (p : UInt8 → Bool) (r : Bs) : ∀ x ∈ r.takeWhile p, p x = true := by
  induction r with
  | nil => simp
  | cons a r ih =>
    intro x hx
    rw [List.takeWhile_cons] at hx
    split at hx
    · rcases List.mem_cons.1 hx with rfl | hx
      · assumption
      · exact ih x hx
    · cases hx
theorem dw_head (p : UInt8 → Bool) (r : Bs) : ∀ a b, r.dropWhile p = a :: b → p a = false := by
  induction r with
  | nil => intro a b h; simp at h
  | cons c r ih =>
    intro a b h
    rw [List.dropWhile_cons] at h
    split at h
    · exact ih a b h
    · next hh =>
      cases h
      simpa using hh
theorem skip_of {bs : Bs} {n : Nat} (h : bs ≠ []) (hi : item bs = .skip n) : (∃ c r, bs = c :: r ∧ blankB c = true ∧ n = 1) ∨ (∃ q r, bs = 37 :: (q ++ r) ∧ n = q.length + 1 ∧ (∀ x ∈ q, x ≠ 10) ∧ (r = [] ∨ ∃ r', r = 10 :: r')) := by
  cases bs with
  | nil => exact absurd rfl h
  | cons c r =>
    rw [item_cons] at hi
    by_cases h1 : blankB c = true
    · rw [if_pos h1] at hi
      cases hi
      exact .inl ⟨c, r, rfl, h1, rfl⟩
    · rw [if_neg h1] at hi
      by_cases h2 : (c == 37) = true
      · rw [if_pos h2] at hi
        cases hi
        obtain rfl : c = 37 := by simpa using h2
        refine .inr ⟨r.takeWhile (· != 10), r.dropWhile (· != 10), by rw [List.takeWhile_append_dropWhile], by omega, fun x hx => by simpa using tw_all _ r x hx, ?_⟩
        cases hd : r.dropWhile (· != 10) with
        | nil => exact .inl rfl
        | cons a b =>
          have := dw_head _ r a b hd
          simp at this
          exact .inr ⟨b, by rw [this]⟩
      · rw [if_neg h2] at hi
        exfalso
        repeat' split at hi
        all_goals cases hi

theorem lexL_run : ∀ bs p l, lexL bs p = .ok l → Run bs p l := by
  refine lex_ind (fun p l hl => ?_) (fun bs n h hi ih p l hl => ?_) (fun bs k n v h hi ih p l hl => ?_) (fun bs e h hi p l hl => ?_)
  · rw [lexL_nil] at hl
    cases hl
    exact .nil rfl
  · rw [lexL_skip h hi] at hl
    rcases skip_of h hi with ⟨c, r, rfl, hc, rfl⟩ | ⟨q, r, rfl, rfl, hq, hr⟩
    · exact (ih _ _ hl).blank hc
    · have ed : (37 :: (q ++ r)).drop (q.length + 1) = r := by simp
      rw [ed] at ih hl
      rcases hr with rfl | ⟨r', rfl⟩
      · rw [lexL_nil] at hl
        cases hl
        refine .nil ?_
        have := emp_end q hq
        simpa [emp] using this
      · exact Run.comment hq (ih _ _ hl)
  · rw [lexL_tok h hi] at hl
    obtain ⟨h1, h2⟩ := (item_pos h).2 k n v hi
    obtain ⟨h3, h4⟩ := tok_head h hi
    rcases hr : lexL (bs.drop n) (p + n) with e0 | l0
    · rw [hr] at hl
      cases hl
    · rw [hr] at hl
      cases hl
      have hlen : (bs.take n).length = n := by rw [List.length_take]; omega
      have := Run.cons (g := []) (rest := bs.drop n) (p := p) (t := ⟨k, bs.take n, v, p⟩) (l := l0) rfl h3 h4 (by simp) (by rw [hlen]; exact ih _ _ hr)
      simpa using this
  · rw [lexL_bad h hi] at hl
    cases hl

theorem Run.sub {bs : Bs} {p : Nat} {l : List Tok} (h : Run bs p l) : ∀ t ∈ l, ∃ A B : Bs, bs = A ++ t.text ++ B ∧ t.at_ = p + A.length := by
  induction h with
  | nil _ => intro t ht; cases ht
  | @cons g rest p t l h1 h2 h3 h4 h5 ih =>
    intro u hu
    rcases List.mem_cons.1 hu with rfl | hu
    · exact ⟨g, rest, rfl, h4⟩
    · obtain ⟨A, B, e, ha⟩ := ih u hu
      exact ⟨g ++ t.text ++ A, B, by rw [e]; simp [List.append_assoc], by rw [ha, h4]; simp; omega⟩

theorem lexL_blank {c : UInt8} (h : blankB c = true) (rest : Bs) (p : Nat) : lexL (c :: rest) p = lexL rest (p + 1) := by
  rw [lexL_skip (n := 1) (by simp) (by rw [item_cons, if_pos h])]
  rfl
theorem tw_stop {p : UInt8 → Bool} {q : Bs} {a : UInt8} {r : Bs} (hq : ∀ x ∈ q, p x = true) (ha : p a = false) : (q ++ a :: r).takeWhile p = q := by
  induction q with
  | nil => simp [ha]
  | cons x q ih =>
    have hx : p x = true := hq x (by simp)
    simp [hx, ih (fun y hy => hq y (by simp [hy]))]
theorem lexL_comment {q : Bs} (hq : ∀ x ∈ q, x ≠ 10) (rest : Bs) (p : Nat) : lexL (37 :: (q ++ 10 :: rest)) p = lexL rest (p + (q.length + 2)) := by
  rw [lexL_skip (n := 1 + q.length) (by simp) (by rw [item_cons, if_neg (by decide), if_pos (by decide), tw_stop (fun x hx => by simpa using hq x hx) (by decide)])]
  rw [show (37 :: (q ++ 10 :: rest)).drop (1 + q.length) = 10 :: rest by rw [Nat.add_comm]; simp, lexL_blank (by decide)]
  rw [show p + (1 + q.length) + 1 = p + (q.length + 2) by omega]

/-- What may stand between tokens: it is passed over, and no token goes on into it. -/
structure Gap (g : Bs) : Prop where
  over : ∀ rest p, lexL (g ++ rest) p = lexL rest (p + g.length)
  stop : ∃ c r, g = c :: r ∧ (blankB c = true ∨ c = 37)

theorem gap0 : Gap [32] := ⟨fun rest p => lexL_blank (by decide) rest p, _, _, rfl, .inl (by decide)⟩
theorem gap1 : Gap [10] := ⟨fun rest p => lexL_blank (by decide) rest p, _, _, rfl, .inl (by decide)⟩
theorem gap2 : Gap [9, 32] := ⟨fun rest p => by
  show lexL (9 :: 32 :: rest) p = _
  rw [lexL_blank (by decide), lexL_blank (by decide)]; rfl, _, _, rfl, .inl (by decide)⟩
theorem gap3 : Gap [37, 32, 194, 167, 255, 10] := ⟨fun rest p => by
  show lexL (37 :: ([32, 194, 167, 255] ++ 10 :: rest)) p = _
  rw [lexL_comment (by decide)]; rfl, _, _, rfl, .inr rfl⟩
theorem gap4 : Gap [37, 10, 37, 37, 13, 10] := ⟨fun rest p => by
  show lexL (37 :: ([] ++ 10 :: (37 :: ([37, 13] ++ 10 :: rest)))) p = _
  rw [lexL_comment (by decide), lexL_comment (by decide)]; rfl, _, _, rfl, .inr rfl⟩
theorem gap5 : Gap [32, 13] := ⟨fun rest p => by
  show lexL (32 :: 13 :: rest) p = _
  rw [lexL_blank (by decide), lexL_blank (by decide)]; rfl, _, _, rfl, .inl (by decide)⟩

/-- A token stands alone: with blanks or a comment behind it, it is told again. -/
def TokOK (t : Tok) : Prop := t.text ≠ [] ∧ ∀ (c : UInt8) (r : Bs), (blankB c = true ∨ c = 37) → item (t.text ++ c :: r) = .tok t.kind t.text.length t.num

theorem stop_of {c : UInt8} (h : blankB c = true ∨ c = 37) : partB c = false ∧ digitB c = false := by
  have : c = 32 ∨ c = 9 ∨ c = 10 ∨ c = 13 ∨ c = 37 := by
    rcases h with h | h
    · unfold blankB at h
      simp only [Bool.or_eq_true, beq_iff_eq] at h
      rcases h with ((h | h) | h) | h
      · exact .inl h
      · exact .inr (.inl h)
      · exact .inr (.inr (.inl h))
      · exact .inr (.inr (.inr (.inl h)))
    · exact .inr (.inr (.inr (.inr h)))
  rcases this with rfl | rfl | rfl | rfl | rfl <;> decide

theorem digits_stop {m d : Bs} {c : UInt8} {r : Bs} (hm : m = [] ∨ m = [45]) (hd : ∀ x ∈ d, digitB x = true) (hne : d ≠ []) (hc : digitB c = false) : minusN (m ++ d ++ c :: r) = m.length ∧ digitsOf (m ++ d ++ c :: r) = d := by
  have hm' : minusN (m ++ d ++ c :: r) = m.length := by
    rcases hm with rfl | rfl
    · cases d with
      | nil => exact absurd rfl hne
      | cons a d =>
        have ha := hd a (by simp)
        have : (a == 45) = false := by
          rw [beq_eq_false_iff_ne]
          rintro rfl
          revert ha
          decide
        simp [minusN, this]
    · simp [minusN]
  refine ⟨hm', ?_⟩
  unfold digitsOf
  rw [hm']
  rcases hm with rfl | rfl
  · simpa using tw_stop hd hc
  · simpa using tw_stop hd hc

theorem take_num {bs : Bs} (h : (digitsOf bs).length ≠ 0) : ∃ m, (m = [] ∨ m = [45]) ∧ m.length = minusN bs ∧ bs.take (minusN bs + (digitsOf bs).length) = m ++ digitsOf bs := by
  cases bs with
  | nil => simp [digitsOf, minusN] at h
  | cons c r =>
    have e : (c :: r).take (minusN (c :: r) + (digitsOf (c :: r)).length) = (c :: r).take (minusN (c :: r)) ++ digitsOf (c :: r) := by
      rw [List.take_add]
      congr 1
      unfold digitsOf
      rw [List.prefix_iff_eq_take.1 (List.takeWhile_prefix digitB)]
      simp
    rw [e]
    rw [minusN_cons]
    split
    · next h1 =>
      obtain rfl : c = 45 := by simpa using h1
      exact ⟨[45], .inr rfl, rfl, by simp⟩
    · exact ⟨[], .inl rfl, rfl, by simp⟩

theorem item_ok {bs : Bs} {k n p : Nat} {v : Int} (h : bs ≠ []) (hi : item bs = .tok k n v) : TokOK ⟨k, bs.take n, v, p⟩ := by
  obtain ⟨h1, h2⟩ := (item_pos h).2 k n v hi
  refine ⟨(tok_head h hi).1, fun c r hc => ?_⟩
  obtain ⟨hs1, hs2⟩ := stop_of hc
  have hlen : (bs.take n).length = n := by rw [List.length_take]; omega
  simp only
  rw [hlen]
  cases bs with
  | nil => exact absurd rfl h
  | cons a b =>
    have hi0 := hi
    rw [item_cons] at hi
    by_cases c1 : blankB a = true
    · rw [if_pos c1] at hi; cases hi
    rw [if_neg c1] at hi
    by_cases c2 : (a == 37) = true
    · rw [if_pos c2] at hi; cases hi
    rw [if_neg c2] at hi
    obtain ⟨m, rfl⟩ : ∃ m, n = m + 1 := ⟨n - 1, by omega⟩
    rw [List.take_succ_cons, List.cons_append, item_cons, if_neg c1, if_neg c2]
    by_cases c3 : letterB a = true
    · rw [if_pos c3] at hi ⊢
      injection hi with e1 e2 e3
      subst e1 e3
      rw [wordN_cons, if_pos c3] at e2 ⊢
      have em : m = (b.takeWhile partB).length := by omega
      have et : b.take m = b.takeWhile partB := by rw [em]; exact (List.prefix_iff_eq_take.1 (List.takeWhile_prefix partB)).symm
      rw [et, tw_stop (tw_all _ b) hs1, ← em]
      rw [Nat.add_comm]
    · rw [if_neg c3] at hi ⊢
      by_cases c4 : ((digitsOf (a :: b)).length != 0) = true
      · rw [if_pos c4] at hi
        by_cases c5 : numBad (a :: b) = true
        · rw [if_pos c5] at hi; cases hi
        rw [if_neg c5] at hi
        injection hi with e1 e2 e3
        subst e1 e3
        simp only [bne_iff_ne, ne_eq] at c4
        obtain ⟨m0, hm0, hm1, hm2⟩ := take_num (bs := a :: b) c4
        have hne : digitsOf (a :: b) ≠ [] := fun e => c4 (by rw [e]; rfl)
        obtain ⟨f1, f2⟩ := digits_stop (d := digitsOf (a :: b)) (c := c) (r := r) hm0 (fun x hx => tw_all _ _ x hx) hne hs2
        rw [e2, List.take_succ_cons] at hm2
        have et : a :: (b.take m ++ c :: r) = m0 ++ digitsOf (a :: b) ++ c :: r := by rw [← hm2]; simp
        rw [et, f2, if_pos (by simpa using c4)]
        have g1 : numBad (m0 ++ digitsOf (a :: b) ++ c :: r) = numBad (a :: b) := by unfold numBad; rw [f1, f2, hm1]
        have g2 : numVal (m0 ++ digitsOf (a :: b) ++ c :: r) = numVal (a :: b) := by unfold numVal; rw [f1, f2, hm1]
        rw [g1, if_neg c5, g2, f1, hm1, e2]
      · rw [if_neg c4] at hi
        have c4' : ∀ r', a ≠ 45 → (((digitsOf (a :: r')).length != 0) = true) = False := by
          intro r' ha
          have ha' : (a == 45) = false := by simpa using ha
          have hdig : digitB a = false := by
            cases hd : digitB a with
            | false => rfl
            | true =>
              exfalso
              apply c4
              unfold digitsOf
              rw [minusN_cons, ha']
              simp [hd]
          unfold digitsOf
          rw [minusN_cons, ha']
          simp [hdig]
        by_cases c6 : signB a = true
        · rw [if_pos c6] at hi
          injection hi with e1 e2 e3
          subst e1 e3
          obtain rfl : m = 0 := by omega
          have ha : a ≠ 45 := by rintro rfl; revert c6; decide
          rw [if_neg (by rw [c4' _ ha]; exact id), if_pos c6]
        · rw [if_neg c6] at hi
          by_cases c7 : (a == 46 && b.head? == some 46) = true
          · rw [if_pos c7] at hi
            injection hi with e1 e2 e3
            subst e1 e3
            obtain rfl : m = 1 := by omega
            simp only [Bool.and_eq_true, beq_iff_eq] at c7
            obtain ⟨rfl, hb⟩ := c7
            cases b with
            | nil => simp at hb
            | cons b0 b1 =>
              simp at hb
              subst hb
              rw [if_neg (by rw [c4' _ (by decide)]; exact id), if_neg c6, if_pos (by simp)]
          · rw [if_neg c7] at hi; cases hi

theorem lexL_ok : ∀ bs p l, lexL bs p = .ok l → ∀ t ∈ l, TokOK t := by
  refine lex_ind (fun p l hl => ?_) (fun bs n h hi ih p l hl => ?_) (fun bs k n v h hi ih p l hl => ?_) (fun bs e h hi p l hl => ?_)
  · rw [lexL_nil] at hl
    cases hl
    intro t ht
    cases ht
  · rw [lexL_skip h hi] at hl
    exact ih _ _ hl
  · rw [lexL_tok h hi] at hl
    rcases hr : lexL (bs.drop n) (p + n) with e0 | l0
    · rw [hr] at hl
      cases hl
    · rw [hr] at hl
      cases hl
      intro t ht
      rcases List.mem_cons.1 ht with rfl | ht
      · exact item_ok h hi
      · exact ih _ _ hr t ht
  · rw [lexL_bad h hi] at hl
    cases hl

/-- Tokens with gaps behind them, as one text; and what is told of it. -/
def joinT : List Tok → List Bs → Bs
  | t :: l, g :: gs => t.text ++ g ++ joinT l gs
  | _, _ => []
def retold : List Tok → List Bs → Nat → List Tok
  | t :: l, g :: gs, p => ⟨t.kind, t.text, t.num, p⟩ :: retold l gs (p + t.text.length + g.length)
  | _, _, _ => []

theorem lexL_again : ∀ (l : List Tok) (gs : List Bs) (p : Nat), l.length = gs.length → (∀ t ∈ l, TokOK t) → (∀ g ∈ gs, Gap g) → lexL (joinT l gs) p = .ok (retold l gs p)
  | [], [], p, _, _, _ => lexL_nil p
  | [], _ :: _, _, h, _, _ => by simp at h
  | _ :: _, [], _, h, _, _ => by simp at h
  | t :: l, g :: gs, p, h, ht, hg => by
    have hG := hg g (by simp)
    obtain ⟨c, r, e, hc⟩ := hG.stop
    obtain ⟨t1, t2⟩ := ht t (by simp)
    have hi : item (t.text ++ g ++ joinT l gs) = .tok t.kind t.text.length t.num := by
      have := t2 c (r ++ joinT l gs) hc
      rw [e]
      simpa [List.append_assoc] using this
    have hne : t.text ++ g ++ joinT l gs ≠ [] := by simp [t1]
    show lexL (t.text ++ g ++ joinT l gs) p = _
    rw [lexL_tok hne hi, List.append_assoc, List.drop_left, List.take_left, hG.over, lexL_again l gs _ (by simpa using h) (fun u hu => ht u (by simp [hu])) (fun u hu => hg u (by simp [hu]))]
    rfl

theorem lexL_spaces (s : Bs) : ∀ (n p : Nat), lexL (List.replicate n 32 ++ s) p = lexL s (p + n)
  | 0, p => by simp
  | n + 1, p => by
    rw [List.replicate_succ, List.cons_append, lexL_blank (by decide), lexL_spaces s n, show p + 1 + n = p + (n + 1) by omega]

/-- A name is one token, a word. -/
theorem name_of {bs : Bs} : (wordN bs ≠ 0 ∧ wordN bs = bs.length) ↔ ∃ t, lexL bs 0 = .ok [t] ∧ t.kind = 1 ∧ t.text = bs := by
  constructor
  · rintro ⟨h0, h1⟩
    cases bs with
    | nil => simp [wordN] at h0
    | cons a b =>
      have hl : letterB a = true := by
        rw [wordN_cons] at h0
        cases hl : letterB a with
        | true => rfl
        | false => rw [hl] at h0; simp at h0
      have hi : item (a :: b) = .tok 1 (wordN (a :: b)) 0 := by
        have n1 : blankB a = false := by
          cases hb : blankB a with
          | false => rfl
          | true =>
            exfalso
            unfold blankB at hb
            simp only [Bool.or_eq_true, beq_iff_eq] at hb
            rcases hb with ((rfl | rfl) | rfl) | rfl <;> revert hl <;> decide
        have n2 : (a == 37) = false := by
          rw [beq_eq_false_iff_ne]
          rintro rfl
          revert hl
          decide
        rw [item_cons, n1, n2, hl]
        rfl
      refine ⟨⟨1, (a :: b).take (wordN (a :: b)), 0, 0⟩, ?_, rfl, ?_⟩
      · rw [lexL_tok (by simp) hi, h1, List.drop_length, lexL_nil]
        rfl
      · simp only
        rw [h1, List.take_length]
  · rintro ⟨t, hl, hk, ht⟩
    have hne : bs ≠ [] := by
      rintro rfl
      rw [lexL_nil] at hl
      cases hl
    have hrun := lexL_run _ _ _ hl
    have hat : t.at_ = 0 := by
      obtain ⟨A, B, e, ha⟩ := hrun.sub t (by simp)
      rw [ht] at e
      have := congrArg List.length e
      simp at this
      omega
    rcases hi : item bs with n | ⟨k, n, v⟩ | e
    · exfalso
      rw [lexL_skip hne hi] at hl
      obtain ⟨h1, h2⟩ := (item_pos hne).1 n hi
      obtain ⟨A, B, e, ha⟩ := (lexL_run _ _ _ hl).sub t (by simp)
      rw [ht] at e
      have := congrArg List.length e
      simp at this
      have : 0 < bs.length := List.length_pos_iff.2 hne
      omega
    · rw [lexL_tok hne hi] at hl
      obtain ⟨h1, h2⟩ := (item_pos hne).2 k n v hi
      rcases hr : lexL (bs.drop n) (0 + n) with e0 | l0
      · rw [hr] at hl; cases hl
      · rw [hr] at hl
        simp only [Res.pre, Except.ok.injEq, List.cons.injEq] at hl
        obtain ⟨rfl, rfl⟩ := hl
        simp only at hk ht
        subst hk
        have hn : n = bs.length := by
          have := congrArg List.length ht
          rw [List.length_take] at this
          omega
        cases bs with
        | nil => exact absurd rfl hne
        | cons a b =>
          rw [item_cons] at hi
          by_cases c1 : blankB a = true
          · rw [if_pos c1] at hi; cases hi
          rw [if_neg c1] at hi
          by_cases c2 : (a == 37) = true
          · rw [if_pos c2] at hi; cases hi
          rw [if_neg c2] at hi
          by_cases c3 : letterB a = true
          · rw [if_pos c3] at hi
            injection hi with e1 e2 e3
            exact ⟨by omega, by omega⟩
          · exfalso
            rw [if_neg c3] at hi
            repeat' split at hi
            all_goals (first | cases hi | (injection hi with e1 e2 e3; omega))
    · rw [lexL_bad hne hi] at hl
      cases hl
end Go.Proofs.YtkhmocbfkpbpfaaGreatDoor
