/- Models of texts, as the program reads them: lists of tokens. No walk. -/
import Derived.Test.YtmamgaaeeonfmaaGreatDoorPhide
import Derived.Test.YtmamgaaeeonfmaaGreatDoorDMore
namespace Go.Proofs.YtmamgaaeeonfmaaGreatDoor
open Go.RowKit

/-- Where a text is wrong, and why. -/
abbrev Flt := Nat × Int
abbrev PR (α : Type) := Except Flt (α × List Tok)
/-- The token ahead. -/
def aheadT (en : Nat) : List Tok → Tok
  | [] => ⟨0, [], 0, en⟩
  | t :: _ => t
def takeP (en k : Nat) (ts : List Tok) : PR Tok := if (aheadT en ts).kind = k then .ok (aheadT en ts, ts.tail) else .error ((aheadT en ts).at_, 6)
def wantP (en : Nat) (sign : Bs) (ts : List Tok) : Except Flt (List Tok) := if (aheadT en ts).text = sign then .ok ts.tail else .error ((aheadT en ts).at_, 6)
/-- A list's elements behind the first. -/
def tailP {α : Type} (en : Nat) (last : Bs) (el : List Tok → PR α) : Nat → List Tok → PR (List α)
  | 0, ts => if (aheadT en ts).text = last then .ok ([], ts.tail) else .error ((aheadT en ts).at_, 6)
  | n + 1, ts =>
    if (aheadT en ts).text = last then .ok ([], ts.tail) else
    match wantP en [44] ts with
    | .error f => .error f
    | .ok r =>
      match el r with
      | .error f => .error f
      | .ok (x, r2) =>
        match tailP en last el n r2 with
        | .error f => .error f
        | .ok (xs, r3) => .ok (x :: xs, r3)
def listP {α : Type} (en : Nat) (first last : Bs) (el : List Tok → PR α) (ts : List Tok) : PR (List α) :=
  match wantP en first ts with
  | .error f => .error f
  | .ok r =>
    if (aheadT en r).text = last then .ok ([], r.tail) else
    match el r with
    | .error f => .error f
    | .ok (x, r2) =>
      match tailP en last el r2.length r2 with
      | .error f => .error f
      | .ok (xs, r3) => .ok (x :: xs, r3)
def numP (en : Nat) (ts : List Tok) : PR Int :=
  match takeP en 2 ts with
  | .error f => .error f
  | .ok (t, r) => .ok (t.num, r)
def placeP (en : Nat) (names : List Bs) (ts : List Tok) : PR Int :=
  match takeP en 1 ts with
  | .error f => .error f
  | .ok (t, r) => if t.text ∈ names then .ok (((names.idxOf t.text : Nat) : Int), r) else .error (t.at_, 7)
def rowP (en : Nat) (ts : List Tok) : PR (List Int) := listP en [91] [93] (numP en) ts
/-- A domain: its numbers and its error. -/
def rosP (en : Nat) (ts : List Tok) : PR (List Int × Int) :=
  if (aheadT en ts).text = [123] then
    match listP en [123] [125] (numP en) ts with
    | .error f => .error f
    | .ok (l, r) => .ok ((ofL l, ofErr l), r)
  else
    match takeP en 2 ts with
    | .error f => .error f
    | .ok (t, r) =>
      match wantP en [46, 46] r with
      | .error f => .error f
      | .ok r1 =>
        match takeP en 2 r1 with
        | .error f => .error f
        | .ok (t2, r2) => .ok ((if rangeErr t.num t2.num = 0 then rangeL t.num t2.num else [], rangeErr t.num t2.num), r2)
def domP (en : Nat) (ts : List Tok) : PR (List Int) :=
  match rosP en ts with
  | .error f => .error f
  | .ok ((l, e), r) => if e = 0 then .ok (l, r) else .error ((aheadT en ts).at_, e)
def newNameP (en : Nat) (names : List Bs) (ts : List Tok) : PR Bs :=
  match takeP en 1 ts with
  | .error f => .error f
  | .ok (t, r) => if mayNameB t.text = false then .error (t.at_, 7) else if t.text ∈ names then .error (t.at_, 8) else .ok (t.text, r)
def varP (en : Nat) (m : ModL) (start : Tok) (ts : List Tok) : PR ModL :=
  if m.names.length = 256 then .error (start.at_, 12) else
  match domP en ts with
  | .error f => .error f
  | .ok (d, r) =>
    match wantP en [58] r with
    | .error f => .error f
    | .ok r1 =>
      match newNameP en m.names r1 with
      | .error f => .error f
      | .ok (b, r2) =>
        match wantP en [59] r2 with
        | .error f => .error f
        | .ok r3 => .ok ({ m with names := m.names ++ [b], doms := m.doms ++ [d] }, r3)
def partP (en : Nat) (names : List Bs) (letter : Nat) (c : ConL) (ts : List Tok) : PR ConL :=
  if letter = 118 then (match placeP en names ts with | .error f => .error f | .ok (x, r) => .ok ({ c with A := c.A ++ [x] }, r))
  else if letter = 119 then (match placeP en names ts with | .error f => .error f | .ok (x, r) => .ok ({ c with B := c.B ++ [x] }, r))
  else if letter = 86 then (match listP en [91] [93] (placeP en names) ts with | .error f => .error f | .ok (l, r) => .ok ({ c with A := l }, r))
  else if letter = 87 then (match listP en [91] [93] (placeP en names) ts with | .error f => .error f | .ok (l, r) => .ok ({ c with B := l }, r))
  else if letter = 99 then (match rowP en ts with | .error f => .error f | .ok (l, r) => .ok ({ c with C := l }, r))
  else if letter = 100 then (match rowP en ts with | .error f => .error f | .ok (l, r) => .ok ({ c with D := l }, r))
  else if letter = 101 then (match rowP en ts with | .error f => .error f | .ok (l, r) => .ok ({ c with E := l }, r))
  else if letter = 107 then (match numP en ts with | .error f => .error f | .ok (x, r) => .ok ({ c with K := x }, r))
  else if letter = 114 then (match listP en [91] [93] (rowP en) ts with | .error f => .error f | .ok (l, r) => .ok ({ c with rows := l }, r))
  else .ok (c, ts)
/-- The parts from one on. -/
def partsP (en : Nat) (names : List Bs) : Nat → List UInt8 → ConL → List Tok → PR ConL
  | _, [], c, ts => .ok (c, ts)
  | i, b :: bs, c, ts =>
    match (if 0 < i then wantP en [44] ts else .ok ts) with
    | .error f => .error f
    | .ok r =>
      match partP en names b.toNat c r with
      | .error f => .error f
      | .ok (c2, r2) => partsP en names (i + 1) bs c2 r2
def conP (en : Nat) (m : ModL) (start : Tok) (ts : List Tok) : PR ModL :=
  if m.cons.length = 1024 then .error (start.at_, 12) else
  match takeP en 1 ts with
  | .error f => .error f
  | .ok (t, r) =>
    if (foundF (wordP (txt t.text))).2 = false then .error (t.at_, 9) else
    match wantP en [40] r with
    | .error f => .error f
    | .ok r1 =>
      match partsP en m.names 0 (foundF (kindP (((foundF (wordP (txt t.text))).1.k : Nat) : Int))).1.shape { noCon with kind := (((foundF (wordP (txt t.text))).1.k : Nat) : Int) } r1 with
      | .error f => .error f
      | .ok (c, r2) =>
        match wantP en [41] r2 with
        | .error f => .error f
        | .ok r3 =>
          if rightE c (m.names.length : Nat) ≠ 0 then .error (t.at_, rightE c (m.names.length : Nat)) else
          match wantP en [59] r3 with
          | .error f => .error f
          | .ok r4 => .ok ({ m with cons := m.cons ++ [c] }, r4)
def goalP (en : Nat) (m : ModL) (ts : List Tok) : PR ModL :=
  match takeP en 1 ts with
  | .error f => .error f
  | .ok (t, r) =>
    match (if t.text = [115, 97, 116, 105, 115, 102, 121] then .ok ({ m with goal := 0 }, r)
      else if t.text = [109, 105, 110, 105, 109, 105, 122, 101] then (match placeP en m.names r with | .error f => .error f | .ok (x, r2) => .ok ({ m with goal := 1, obj := x }, r2))
      else if t.text = [109, 97, 120, 105, 109, 105, 122, 101] then (match placeP en m.names r with | .error f => .error f | .ok (x, r2) => .ok ({ m with goal := 2, obj := x }, r2))
      else .error (t.at_, 6) : PR ModL) with
    | .error f => .error f
    | .ok (m2, r2) =>
      match wantP en [59] r2 with
      | .error f => .error f
      | .ok r3 => .ok (m2, r3)
def itemsP (en : Nat) : Nat → ModL → List Tok → Except Flt ModL
  | 0, _, ts => .error ((aheadT en ts).at_, 6)
  | n + 1, m, ts =>
    match takeP en 1 ts with
    | .error f => .error f
    | .ok (t, r) =>
      if t.text = [118, 97, 114] then
        (match varP en m t r with
        | .error f => .error f
        | .ok (m2, r2) => itemsP en n m2 r2)
      else if t.text = [99, 111, 110, 115, 116, 114, 97, 105, 110, 116] then
        (match conP en m t r with
        | .error f => .error f
        | .ok (m2, r2) => itemsP en n m2 r2)
      else if t.text = [115, 111, 108, 118, 101] then
        (match goalP en m r with
        | .error f => .error f
        | .ok (m2, r2) => if r2 = [] then .ok m2 else .error ((aheadT en r2).at_, 6))
      else .error (t.at_, 6)
def noMod : ModL := ⟨[], [], [], 0, 0⟩
/-- What Parse tells of a text: the model, the place, the error. -/
def parseA (bs : Bs) : ModL × Nat × Int :=
  if (lexA bs).2.2 ≠ 0 then (noMod, (lexA bs).2.1, (lexA bs).2.2) else
  match itemsP bs.length (lexA bs).1.length noMod (lexA bs).1 with
  | .error (p, e) => (noMod, p, e)
  | .ok m => (m, 0, 0)

/-- What is left is no longer than what was. -/
theorem take_len {en k : Nat} {ts r : List Tok} {t : Tok} (h : takeP en k ts = .ok (t, r)) : r = ts.tail ∧ t = aheadT en ts ∧ (aheadT en ts).kind = k := by
  unfold takeP at h
  split at h
  · next hk => injection h with h; injection h with h1 h2; exact ⟨h2.symm, h1.symm, hk⟩
  · cases h
theorem want_len {en : Nat} {s : Bs} {ts r : List Tok} (h : wantP en s ts = .ok r) : r = ts.tail ∧ (aheadT en ts).text = s := by
  unfold wantP at h
  split at h
  · next hk => injection h with h; exact ⟨h.symm, hk⟩
  · cases h
theorem tail_le (ts : List Tok) : ts.tail.length ≤ ts.length := by simp
/-- What reads an element leaves no more than there was. -/
def Eats {α : Type} (el : List Tok → PR α) : Prop := ∀ ts x r, el ts = .ok (x, r) → r.length ≤ ts.length
theorem numP_eats (en : Nat) : Eats (numP en) := by
  intro ts x r h
  unfold numP at h
  split at h
  · cases h
  · next t r' e => injection h with h; injection h with h1 h2; subst h2; rw [(take_len e).1]; exact tail_le ts
theorem placeP_eats (en : Nat) (names : List Bs) : Eats (placeP en names) := by
  intro ts x r h
  unfold placeP at h
  split at h
  · cases h
  · next t r' e =>
    split at h
    · injection h with h; injection h with h1 h2; subst h2; rw [(take_len e).1]; exact tail_le ts
    · cases h
theorem tailP_eats {α : Type} (en : Nat) (last : Bs) {el : List Tok → PR α} (he : Eats el) : ∀ n, Eats (tailP en last el n) := by
  intro n
  induction n with
  | zero =>
    intro ts x r h
    simp only [tailP] at h
    split at h
    · injection h with h; injection h with h1 h2; subst h2; exact tail_le ts
    · cases h
  | succ n ih =>
    intro ts x r h
    simp only [tailP] at h
    split at h
    · injection h with h; injection h with h1 h2; subst h2; exact tail_le ts
    · split at h
      · cases h
      · next r1 e1 =>
        split at h
        · cases h
        · next x2 r2 e2 =>
          split at h
          · cases h
          · next xs r3 e3 =>
            injection h with h; injection h with h1 h2; subst h2
            have a := he _ _ _ e2
            have b := ih _ _ _ e3
            have c := (want_len e1).1
            have d := tail_le ts
            subst c
            omega
theorem listP_eats {α : Type} (en : Nat) (first last : Bs) {el : List Tok → PR α} (he : Eats el) : Eats (listP en first last el) := by
  intro ts x r h
  unfold listP at h
  split at h
  · cases h
  · next r1 e1 =>
    have c := (want_len e1).1
    have d := tail_le ts
    split at h
    · injection h with h; injection h with h1 h2; subst h2; have := tail_le r1; subst c; omega
    · split at h
      · cases h
      · next x2 r2 e2 =>
        split at h
        · cases h
        · next xs r3 e3 =>
          injection h with h; injection h with h1 h2; subst h2
          have a := he _ _ _ e2
          have b := tailP_eats en last he _ _ _ _ e3
          subst c
          omega
theorem rowP_eats (en : Nat) : Eats (rowP en) := listP_eats en _ _ (numP_eats en)
end Go.Proofs.YtmamgaaeeonfmaaGreatDoor

/- What is told of the texts of wakes: reckoned. -/
namespace Go.Proofs.YtmamgaaeeonfmaaGreatDoor
open Go.RowKit

/-- As lexL, by a count: it can be reckoned. -/
def lexF : Nat → Bs → Nat → Res
  | 0, _, _ => .ok []
  | _ + 1, [], _ => .ok []
  | n + 1, c :: r, p =>
    match item (c :: r) with
    | .skip k => lexF n ((c :: r).drop k) (p + k)
    | .tok k m v => Res.pre ⟨k, (c :: r).take m, v, p⟩ (lexF n ((c :: r).drop m) (p + m))
    | .bad e => .error (p, e)
theorem lexF_eq : ∀ (n : Nat) (bs : Bs) (p : Nat), bs.length ≤ n → lexL bs p = lexF n bs p := by
  intro n
  induction n with
  | zero =>
    intro bs p h
    have : bs = [] := List.length_eq_zero_iff.1 (by omega)
    subst this
    rw [lexL_nil]
    rfl
  | succ n ih =>
    intro bs p h
    cases bs with
    | nil => rw [lexL_nil]; rfl
    | cons c r =>
      rcases hi : item (c :: r) with k | ⟨k, m, v⟩ | e
      · obtain ⟨h1, h2⟩ := (item_pos (by simp)).1 k hi
        rw [lexL_skip (by simp) hi, ih _ _ (by rw [List.length_drop]; omega)]
        simp only [lexF, hi]
      · obtain ⟨h1, h2⟩ := (item_pos (by simp)).2 k m v hi
        rw [lexL_tok (by simp) hi, ih _ _ (by rw [List.length_drop]; omega)]
        simp only [lexF, hi]
      · rw [lexL_bad (by simp) hi]
        simp only [lexF, hi]
def outP : Except Flt ModL → ModL × Nat × Int
  | .error (p, e) => (noMod, p, e)
  | .ok m => (m, 0, 0)
theorem parseA_lex {bs : Bs} {ts : List Tok} (h : lexL bs 0 = .ok ts) (hl : bs.length ≤ 1048576) : parseA bs = outP (itemsP bs.length ts.length noMod ts) := by
  have h1 : lexA bs = (ts, 0, 0) := by
    unfold lexA
    rw [if_neg (by omega), h]
    rfl
  unfold parseA
  rw [h1, if_neg (by simp)]
  rcases itemsP bs.length ts.length noMod ts with ⟨p, e⟩ | m <;> rfl
def resL : Res → List Tok
  | .ok l => l
  | .error _ => []
def okB : Res → Bool
  | .ok _ => true
  | .error _ => false
theorem parseA_fuel (n : Nat) {bs : Bs} (hn : bs.length ≤ n) (hl : bs.length ≤ 1048576) (ho : okB (lexF n bs 0) = true) : parseA bs = outP (itemsP bs.length (resL (lexF n bs 0)).length noMod (resL (lexF n bs 0))) := by
  refine parseA_lex ?_ hl
  rw [lexF_eq n bs 0 hn]
  rcases hr : lexF n bs 0 with e | l
  · rw [hr] at ho; cases ho
  · rfl
/-- The two texts. -/
def wtext1 : Bs := [118, 97, 114, 32, 49, 46, 46, 51, 58, 32, 120, 59, 32, 118, 97, 114, 32, 123, 53, 44, 50, 125, 58, 32, 121, 59, 32, 37, 32, 99, 10, 99, 111, 110, 115, 116, 114, 97, 105, 110, 116, 32, 108, 105, 110, 95, 108, 101, 40, 91, 49, 44, 45, 50, 93, 44, 91, 120, 44, 121, 93, 44, 55, 41, 59, 32, 115, 111, 108, 118, 101, 32, 109, 105, 110, 105, 109, 105, 122, 101, 32, 121, 59]
def wtext2 : Bs := [118, 97, 114, 32, 49, 46, 46, 51, 58, 32, 120, 59, 32, 99, 111, 110, 115, 116, 114, 97, 105, 110, 116, 32, 97, 108, 108, 95, 100, 105, 102, 102, 101, 114, 101, 110, 116, 40, 91, 120, 44, 121, 93, 41, 59]
def wmod : ModL := ⟨[[120], [121]], [[1, 2, 3], [2, 5]], [{ noCon with kind := 2, A := [0, 1], C := [1, -2], K := 7 }], 1, 1⟩
theorem wake_one : parseA wtext1 = (wmod, 0, 0) := by
  rw [parseA_fuel 90 (by decide) (by decide) (by kernel_rfl)]
  kernel_rfl
theorem wake_two : parseA wtext2 = (noMod, 41, 7) := by
  rw [parseA_fuel 90 (by decide) (by decide) (by kernel_rfl)]
  kernel_rfl
end Go.Proofs.YtmamgaaeeonfmaaGreatDoor
