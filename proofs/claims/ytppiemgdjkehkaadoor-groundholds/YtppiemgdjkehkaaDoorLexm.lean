/- Texts in tokens, as the document says it: lists of bytes, no walk and no program. -/
import Derived.WalkKit
namespace Go.Proofs.YtppiemgdjkehkaaDoor

abbrev Bs := List UInt8

def letterB (c : UInt8) : Bool := (decide (97 ≤ c.toNat) && decide (c.toNat ≤ 122)) || (decide (65 ≤ c.toNat) && decide (c.toNat ≤ 90))
def digitB (c : UInt8) : Bool := decide (48 ≤ c.toNat) && decide (c.toNat ≤ 57)
def blankB (c : UInt8) : Bool := c == 32 || c == 9 || c == 10 || c == 13
def partB (c : UInt8) : Bool := letterB c || digitB c || c == 95
def signB (c : UInt8) : Bool := c == 40 || c == 41 || c == 91 || c == 93 || c == 123 || c == 125 || c == 44 || c == 59 || c == 58

/-- How many bytes a word has. -/
def wordN : Bs → Nat
  | [] => 0
  | c :: r => if letterB c then 1 + (r.takeWhile partB).length else 0

/-- Is there a minus? -/
def minusN : Bs → Nat
  | [] => 0
  | c :: _ => if c == 45 then 1 else 0
def digitsOf (bs : Bs) : Bs := (bs.drop (minusN bs)).takeWhile digitB
/-- What digits say. -/
def valOf (ds : Bs) : Int := ds.foldl (fun v d => 10 * v + (d.toNat : Int) - 48) 0
def numBad (bs : Bs) : Bool := decide (10 < (digitsOf bs).length) || (decide (1 < (digitsOf bs).length) && (digitsOf bs).head? == some 48) || (minusN bs == 1 && (digitsOf bs).length == 1 && (digitsOf bs).head? == some 48)
def numVal (bs : Bs) : Int := (if minusN bs == 1 then -1 else 1) * valOf (digitsOf bs)

/-- What stands at the beginning. -/
inductive Item where
  | skip (n : Nat)
  | tok (kind n : Nat) (num : Int)
  | bad (e : Int)

def item : Bs → Item
  | [] => .bad 0
  | c :: r =>
    if blankB c then .skip 1
    else if c == 37 then .skip (1 + (r.takeWhile (· != 10)).length)
    else if letterB c then .tok 1 (wordN (c :: r)) 0
    else if (digitsOf (c :: r)).length != 0 then (if numBad (c :: r) then .bad 15 else .tok 2 (minusN (c :: r) + (digitsOf (c :: r)).length) (numVal (c :: r)))
    else if signB c then .tok 3 1 0
    else if c == 46 && r.head? == some 46 then .tok 3 2 0
    else .bad 6

structure Tok where
  kind : Nat
  text : Bs
  num : Int
  at_ : Nat

abbrev Res := Except (Nat × Int) (List Tok)
def Res.pre (t : Tok) : Res → Res
  | .ok l => .ok (t :: l)
  | .error e => .error e

/-- The tokens of a text that begins at a place, or where it is wrong and why. -/
def lexL : Bs → Nat → Res
  | [], _ => .ok []
  | c :: r, p =>
    match item (c :: r) with
    | .skip n => lexL (r.drop (n - 1)) (p + n)
    | .tok k n v => Res.pre ⟨k, (c :: r).take n, v, p⟩ (lexL (r.drop (n - 1)) (p + n))
    | .bad e => .error (p, e)
termination_by bs => bs.length
decreasing_by
  all_goals simp_wf; omega

theorem tw_len (p : UInt8 → Bool) (r : Bs) : (r.takeWhile p).length ≤ r.length := (List.takeWhile_sublist p).length_le
theorem wordN_cons (c : UInt8) (r : Bs) : wordN (c :: r) = if letterB c then 1 + (r.takeWhile partB).length else 0 := rfl
theorem minusN_cons (c : UInt8) (r : Bs) : minusN (c :: r) = if c == 45 then 1 else 0 := rfl
theorem minus_le (bs : Bs) : minusN bs ≤ 1 := by
  cases bs with
  | nil => simp [minusN]
  | cons c r => rw [minusN_cons]; split <;> omega
theorem num_len (bs : Bs) (h : (digitsOf bs).length ≠ 0) : minusN bs + (digitsOf bs).length ≤ bs.length := by
  unfold digitsOf at h ⊢
  have h1 := tw_len digitB (bs.drop (minusN bs))
  rw [List.length_drop] at h1
  have h2 := minus_le bs
  omega
theorem item_cons (c : UInt8) (r : Bs) : item (c :: r) = if blankB c then .skip 1
    else if c == 37 then .skip (1 + (r.takeWhile (· != 10)).length)
    else if letterB c then .tok 1 (wordN (c :: r)) 0
    else if (digitsOf (c :: r)).length != 0 then (if numBad (c :: r) then .bad 15 else .tok 2 (minusN (c :: r) + (digitsOf (c :: r)).length) (numVal (c :: r)))
    else if signB c then .tok 3 1 0
    else if c == 46 && r.head? == some 46 then .tok 3 2 0
    else .bad 6 := rfl

/-- How many bytes an item takes. -/
theorem item_pos {bs : Bs} (h : bs ≠ []) : (∀ n, item bs = .skip n → 0 < n ∧ n ≤ bs.length) ∧ (∀ k n v, item bs = .tok k n v → 0 < n ∧ n ≤ bs.length) := by
  cases bs with
  | nil => exact absurd rfl h
  | cons c r =>
    rw [item_cons]
    by_cases h1 : blankB c = true
    · rw [if_pos h1]
      refine ⟨fun n hn => ?_, fun k n v hn => ?_⟩
      · cases hn; simp
      · cases hn
    · rw [if_neg h1]
      by_cases h2 : (c == 37) = true
      · rw [if_pos h2]
        refine ⟨fun n hn => ?_, fun k n v hn => ?_⟩
        · cases hn
          have := tw_len (· != 10) r
          simp only [List.length_cons]
          omega
        · cases hn
      · rw [if_neg h2]
        by_cases h3 : letterB c = true
        · rw [if_pos h3]
          refine ⟨fun n hn => ?_, fun k n v hn => ?_⟩
          · cases hn
          · cases hn
            rw [wordN_cons, if_pos h3]
            have := tw_len partB r
            simp only [List.length_cons]
            omega
        · rw [if_neg h3]
          by_cases h4 : ((digitsOf (c :: r)).length != 0) = true
          · rw [if_pos h4]
            simp only [bne_iff_ne, ne_eq] at h4
            have h5 := num_len (c :: r) h4
            split
            · exact ⟨fun n hn => (by cases hn), fun k n v hn => (by cases hn)⟩
            · refine ⟨fun n hn => (by cases hn), fun k n v hn => ?_⟩
              cases hn
              omega
          · rw [if_neg h4]
            split
            · refine ⟨fun n hn => (by cases hn), fun k n v hn => ?_⟩
              cases hn
              simp
            · split
              · next hl =>
                refine ⟨fun n hn => (by cases hn), fun k n v hn => ?_⟩
                cases hn
                cases r with
                | nil => simp at hl
                | cons a b => simp
              · exact ⟨fun n hn => (by cases hn), fun k n v hn => (by cases hn)⟩

theorem lexL_nil (p : Nat) : lexL [] p = .ok [] := by rw [lexL]
theorem lexL_skip {bs : Bs} {p n : Nat} (h : bs ≠ []) (hi : item bs = .skip n) : lexL bs p = lexL (bs.drop n) (p + n) := by
  obtain ⟨h1, -⟩ := (item_pos h).1 n hi
  match bs, h with
  | c :: r, _ =>
    rw [lexL, hi]
    simp only
    rw [show (c :: r).drop n = r.drop (n - 1) by obtain ⟨m, rfl⟩ : ∃ m, n = m + 1 := ⟨n - 1, by omega⟩; simp]
theorem lexL_tok {bs : Bs} {p k n : Nat} {v : Int} (h : bs ≠ []) (hi : item bs = .tok k n v) : lexL bs p = Res.pre ⟨k, bs.take n, v, p⟩ (lexL (bs.drop n) (p + n)) := by
  obtain ⟨h1, -⟩ := (item_pos h).2 k n v hi
  match bs, h with
  | c :: r, _ =>
    rw [lexL, hi]
    simp only
    rw [show (c :: r).drop n = r.drop (n - 1) by obtain ⟨m, rfl⟩ : ∃ m, n = m + 1 := ⟨n - 1, by omega⟩; simp]
theorem lexL_bad {bs : Bs} {p : Nat} {e : Int} (h : bs ≠ []) (hi : item bs = .bad e) : lexL bs p = .error (p, e) := by
  match bs, h with
  | c :: r, _ => rw [lexL, hi]

/-- Tokens, further on. -/
def Tok.shift (d : Nat) (t : Tok) : Tok := { t with at_ := t.at_ + d }
def Res.shift (d : Nat) : Res → Res
  | .ok l => .ok (l.map (Tok.shift d))
  | .error (p, e) => .error (p + d, e)
theorem Res.shift_pre (d : Nat) (t : Tok) (r : Res) : Res.shift d (Res.pre t r) = Res.pre (t.shift d) (Res.shift d r) := by
  cases r <;> rfl

/-- By the length of the text. -/
theorem lex_ind {P : Bs → Prop} (h0 : P []) (hs : ∀ bs n, bs ≠ [] → item bs = .skip n → P (bs.drop n) → P bs) (ht : ∀ bs k n v, bs ≠ [] → item bs = .tok k n v → P (bs.drop n) → P bs) (hb : ∀ bs e, bs ≠ [] → item bs = .bad e → P bs) : ∀ bs, P bs := by
  intro bs
  generalize hn : bs.length = m
  induction m using Nat.strongRecOn generalizing bs with
  | _ m ih =>
    by_cases h : bs = []
    · subst h
      exact h0
    · rcases hi : item bs with n | ⟨k, n, v⟩ | e
      · obtain ⟨h1, h2⟩ := (item_pos h).1 n hi
        exact hs bs n h hi (ih (bs.drop n).length (by rw [List.length_drop]; omega) _ rfl)
      · obtain ⟨h1, h2⟩ := (item_pos h).2 k n v hi
        exact ht bs k n v h hi (ih (bs.drop n).length (by rw [List.length_drop]; omega) _ rfl)
      · exact hb bs e h hi

theorem lexL_shift (d : Nat) : ∀ bs p, lexL bs (p + d) = Res.shift d (lexL bs p) := by
  refine lex_ind (fun p => ?_) (fun bs n h hi ih p => ?_) (fun bs k n v h hi ih p => ?_) (fun bs e h hi p => ?_)
  · rw [lexL_nil, lexL_nil]; rfl
  · rw [lexL_skip h hi, lexL_skip h hi, show p + d + n = p + n + d by omega, ih]
  · rw [lexL_tok h hi, lexL_tok h hi, show p + d + n = p + n + d by omega, ih, Res.shift_pre]; rfl
  · rw [lexL_bad h hi, lexL_bad h hi]; rfl

/-- Where it is wrong is in the text. -/
theorem lexL_error {bs : Bs} : ∀ {p q : Nat} {e : Int}, lexL bs p = .error (q, e) → p ≤ q ∧ q < p + bs.length := by
  refine lex_ind (P := fun bs => ∀ {p q : Nat} {e : Int}, lexL bs p = .error (q, e) → p ≤ q ∧ q < p + bs.length) (fun {p q e} he => ?_) (fun bs n h hi ih {p q e} he => ?_) (fun bs k n v h hi ih {p q e} he => ?_) (fun bs e' h hi {p q e} he => ?_) bs
  · rw [lexL_nil] at he; cases he
  · rw [lexL_skip h hi] at he
    obtain ⟨h1, h2⟩ := (item_pos h).1 n hi
    have := ih he
    rw [List.length_drop] at this
    omega
  · rw [lexL_tok h hi] at he
    obtain ⟨h1, h2⟩ := (item_pos h).2 k n v hi
    rcases hr : lexL (bs.drop n) (p + n) with e0 | l0
    · rw [hr] at he
      simp only [Res.pre] at he
      rw [he] at hr
      have := ih hr
      rw [List.length_drop] at this
      omega
    · rw [hr] at he
      cases he
  · rw [lexL_bad h hi] at he
    cases he
    have : 0 < bs.length := List.length_pos_iff.2 h
    omega
end Go.Proofs.YtppiemgdjkehkaaDoor
