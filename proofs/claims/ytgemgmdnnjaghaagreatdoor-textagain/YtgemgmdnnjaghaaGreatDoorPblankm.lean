/- What is told of the texts of wakes: reckoned. -/
import Derived.Test.YtgemgmdnnjaghaaGreatDoorPm
import Derived.Test.YtgemgmdnnjaghaaGreatDoorLexg
import Derived.Test.YtgemgmdnnjaghaaGreatDoorMshapes
namespace Go.Proofs.YtgemgmdnnjaghaaGreatDoor
open Go.RowKit

/-- As lexL, by a count: it can be reckoned. -/
def lexF : Nat → Bs → Nat → Res
  | 0, _, _ => .ok []
  | _ + 1, [], _ => .ok []
  | n + 1, c :: r, p =>
    match item (c :: r) with
    | .skip k => lexF n ((c :: r).drop k) (p + k)
    | .tok k m v => Res.pre ⟨k, (c :: r).take m, v, p⟩ (lexF n ((c :: r).drop m) (p + m))
    | .bad e => .error (p, e)
theorem lexF_eq : ∀ (n : Nat) (bs : Bs) (p : Nat), bs.length ≤ n → lexL bs p = lexF n bs p := by
  intro n
  induction n with
  | zero =>
    intro bs p h
    have : bs = [] := List.length_eq_zero_iff.1 (by omega)
    subst this
    rw [lexL_nil]
    rfl
  | succ n ih =>
    intro bs p h
    cases bs with
    | nil => rw [lexL_nil]; rfl
    | cons c r =>
      rcases hi : item (c :: r) with k | ⟨k, m, v⟩ | e
      · obtain ⟨h1, h2⟩ := (item_pos (by simp)).1 k hi
        rw [lexL_skip (by simp) hi, ih _ _ (by rw [List.length_drop]; omega)]
        simp only [lexF, hi]
      · obtain ⟨h1, h2⟩ := (item_pos (by simp)).2 k m v hi
        rw [lexL_tok (by simp) hi, ih _ _ (by rw [List.length_drop]; omega)]
        simp only [lexF, hi]
      · rw [lexL_bad (by simp) hi]
        simp only [lexF, hi]
def outP : Except Flt ModL → ModL × Nat × Int
  | .error (p, e) => (noMod, p, e)
  | .ok m => (m, 0, 0)
theorem parseA_lex {bs : Bs} {ts : List Tok} (h : lexL bs 0 = .ok ts) (hl : bs.length ≤ 1048576) : parseA bs = outP (itemsP bs.length ts.length noMod ts) := by
  have h1 : lexA bs = (ts, 0, 0) := by
    unfold lexA
    rw [if_neg (by omega), h]
    rfl
  unfold parseA
  rw [h1, if_neg (by simp)]
  rcases itemsP bs.length ts.length noMod ts with ⟨p, e⟩ | m <;> rfl
def resL : Res → List Tok
  | .ok l => l
  | .error _ => []
def okB : Res → Bool
  | .ok _ => true
  | .error _ => false
theorem parseA_fuel (n : Nat) {bs : Bs} (hn : bs.length ≤ n) (hl : bs.length ≤ 1048576) (ho : okB (lexF n bs 0) = true) : parseA bs = outP (itemsP bs.length (resL (lexF n bs 0)).length noMod (resL (lexF n bs 0))) := by
  refine parseA_lex ?_ hl
  rw [lexF_eq n bs 0 hn]
  rcases hr : lexF n bs 0 with e | l
  · rw [hr] at ho; cases ho
  · rfl
/-- The two texts. -/
def wtext1 : Bs := [118, 97, 114, 32, 49, 46, 46, 51, 58, 32, 120, 59, 32, 118, 97, 114, 32, 123, 53, 44, 50, 125, 58, 32, 121, 59, 32, 37, 32, 99, 10, 99, 111, 110, 115, 116, 114, 97, 105, 110, 116, 32, 108, 105, 110, 95, 108, 101, 40, 91, 49, 44, 45, 50, 93, 44, 91, 120, 44, 121, 93, 44, 55, 41, 59, 32, 115, 111, 108, 118, 101, 32, 109, 105, 110, 105, 109, 105, 122, 101, 32, 121, 59]
def wtext2 : Bs := [118, 97, 114, 32, 49, 46, 46, 51, 58, 32, 120, 59, 32, 99, 111, 110, 115, 116, 114, 97, 105, 110, 116, 32, 97, 108, 108, 95, 100, 105, 102, 102, 101, 114, 101, 110, 116, 40, 91, 120, 44, 121, 93, 41, 59]
def wmod : ModL := ⟨[[120], [121]], [[1, 2, 3], [2, 5]], [{ noCon with kind := 2, A := [0, 1], C := [1, -2], K := 7 }], 1, 1⟩
theorem wake_one : parseA wtext1 = (wmod, 0, 0) := by
  rw [parseA_fuel 90 (by decide) (by decide) (by kernel_rfl)]
  kernel_rfl
theorem wake_two : parseA wtext2 = (noMod, 41, 7) := by
  rw [parseA_fuel 90 (by decide) (by decide) (by kernel_rfl)]
  kernel_rfl
end Go.Proofs.YtgemgmdnnjaghaaGreatDoor

/- Models hang on tokens' kinds, texts and numbers, not on their places: pure. -/
namespace Go.Proofs.YtgemgmdnnjaghaaGreatDoor
open Go.RowKit

/-- A token without its place. -/
abbrev Tok.era (t : Tok) : Tok := { t with at_ := 0 }
abbrev eraL (ts : List Tok) : List Tok := ts.map Tok.era
def eraF (f : Flt) : Flt := (0, f.2)
def eraR {α : Type} : PR α → PR α
  | .error f => .error (eraF f)
  | .ok (x, r) => .ok (x, eraL r)
def eraT : PR Tok → PR Tok
  | .error f => .error (eraF f)
  | .ok (x, r) => .ok (x.era, eraL r)
def eraW : Except Flt (List Tok) → Except Flt (List Tok)
  | .error f => .error (eraF f)
  | .ok r => .ok (eraL r)
def eraI : Except Flt ModL → Except Flt ModL
  | .error f => .error (eraF f)
  | .ok m => .ok m
theorem ahead_era (en : Nat) (ts : List Tok) : aheadT 0 (eraL ts) = (aheadT en ts).era := by
  cases ts <;> rfl
theorem tail_era (ts : List Tok) : (eraL ts).tail = eraL ts.tail := by
  cases ts <;> rfl
theorem era_kind (t : Tok) : t.era.kind = t.kind := rfl
theorem era_text (t : Tok) : t.era.text = t.text := rfl
theorem era_num (t : Tok) : t.era.num = t.num := rfl
theorem era_at (t : Tok) : t.era.at_ = 0 := rfl
theorem takeP_era (en k : Nat) (ts : List Tok) : takeP 0 k (eraL ts) = eraT (takeP en k ts) := by
  unfold takeP
  rw [ahead_era en, era_kind, tail_era, era_at]
  split <;> rfl
theorem wantP_era (en : Nat) (s : Bs) (ts : List Tok) : wantP 0 s (eraL ts) = eraW (wantP en s ts) := by
  unfold wantP
  rw [ahead_era en, era_text, tail_era, era_at]
  split <;> rfl
def Era {α : Type} (a b : List Tok → PR α) : Prop := ∀ ts, a (eraL ts) = eraR (b ts)
theorem numP_era (en : Nat) : Era (numP 0) (numP en) := by
  intro ts
  unfold numP
  rw [takeP_era en]
  rcases takeP en 2 ts with f | ⟨t, r⟩ <;> rfl
theorem placeP_era (en : Nat) (names : List Bs) : Era (placeP 0 names) (placeP en names) := by
  intro ts
  unfold placeP
  rw [takeP_era en]
  rcases takeP en 1 ts with f | ⟨t, r⟩
  · rfl
  · simp only [eraT]
    by_cases hh : t.text ∈ names
    · simp only [hh, ↓reduceIte]; rfl
    · simp only [hh, ↓reduceIte]; rfl
theorem tailP_era {α : Type} {en : Nat} {last : Bs} {a b : List Tok → PR α} (he : Era a b) : ∀ n, Era (tailP 0 last a n) (tailP en last b n) := by
  intro n
  induction n with
  | zero =>
    intro ts
    simp only [tailP]
    rw [ahead_era en, era_text, tail_era, era_at]
    split <;> rfl
  | succ n ih =>
    intro ts
    simp only [tailP]
    rw [ahead_era en, era_text, tail_era, wantP_era en]
    split
    · rfl
    · rcases wantP en [44] ts with f | r
      · rfl
      · simp only [eraW]
        rw [he r]
        rcases b r with f | ⟨x, r2⟩
        · rfl
        · simp only [eraR]
          rw [ih r2]
          rcases tailP en last b n r2 with f | ⟨xs, r3⟩ <;> rfl
theorem listP_era {α : Type} {en : Nat} {first last : Bs} {a b : List Tok → PR α} (he : Era a b) : Era (listP 0 first last a) (listP en first last b) := by
  intro ts
  unfold listP
  rw [wantP_era en]
  rcases wantP en first ts with f | r
  · rfl
  · simp only [eraW]
    rw [ahead_era en, era_text, tail_era, he r]
    split
    · rfl
    · rcases b r with f | ⟨x, r2⟩
      · rfl
      · simp only [eraR, List.length_map]
        rw [tailP_era he (en := en) _ r2]
        rcases tailP en last b r2.length r2 with f | ⟨xs, r3⟩ <;> rfl
theorem rowP_era (en : Nat) : Era (rowP 0) (rowP en) := listP_era (numP_era en)
theorem rosP_era (en : Nat) : Era (rosP 0) (rosP en) := by
  intro ts
  unfold rosP
  rw [ahead_era en, era_text, listP_era (numP_era en) ts, takeP_era en]
  split
  · rcases listP en [123] [125] (numP en) ts with f | ⟨l, r⟩ <;> rfl
  · rcases takeP en 2 ts with f | ⟨t, r⟩
    · rfl
    · simp only [eraT]
      rw [wantP_era en]
      rcases wantP en [46, 46] r with f | r1
      · rfl
      · simp only [eraW]
        rw [takeP_era en]
        rcases takeP en 2 r1 with f | ⟨t2, r2⟩ <;> rfl
theorem domP_era (en : Nat) : Era (domP 0) (domP en) := by
  intro ts
  unfold domP
  rw [rosP_era en ts, ahead_era en, era_at]
  rcases rosP en ts with f | ⟨⟨l, e⟩, r⟩
  · rfl
  · simp only [eraR]
    by_cases hh : e = 0
    · rw [if_pos hh, if_pos hh]
    · rw [if_neg hh, if_neg hh]; rfl
theorem newNameP_era (en : Nat) (names : List Bs) : Era (newNameP 0 names) (newNameP en names) := by
  intro ts
  unfold newNameP
  rw [takeP_era en]
  rcases takeP en 1 ts with f | ⟨t, r⟩
  · rfl
  · simp only [eraT]
    by_cases hm : mayNameB t.text = false
    · rw [if_pos hm, if_pos hm]; rfl
    · rw [if_neg hm, if_neg hm]
      by_cases hh : t.text ∈ names
      · simp only [hh, ↓reduceIte]; rfl
      · simp only [hh, ↓reduceIte]; rfl
theorem varP_era (en : Nat) (m : ModL) (start : Tok) : Era (varP 0 m start.era) (varP en m start) := by
  intro ts
  unfold varP
  rw [domP_era en ts, era_at]
  split
  · rfl
  · rcases domP en ts with f | ⟨d, r⟩
    · rfl
    · simp only [eraR]
      rw [wantP_era en]
      rcases wantP en [58] r with f | r1
      · rfl
      · simp only [eraW]
        rw [newNameP_era en _ r1]
        rcases newNameP en m.names r1 with f | ⟨b, r2⟩
        · rfl
        · simp only [eraR]
          rw [wantP_era en]
          rcases wantP en [59] r2 with f | r3 <;> rfl
theorem partP_era (en : Nat) (names : List Bs) (letter : Nat) (c : ConL) : Era (partP 0 names letter c) (partP en names letter c) := by
  intro ts
  unfold partP
  rw [placeP_era en names ts, listP_era (placeP_era en names) (en := en) ts, rowP_era en ts, numP_era en ts, listP_era (rowP_era en) (en := en) ts]
  split
  · rcases placeP en names ts with f | ⟨x, r⟩ <;> rfl
  split
  · rcases placeP en names ts with f | ⟨x, r⟩ <;> rfl
  split
  · rcases listP en [91] [93] (placeP en names) ts with f | ⟨x, r⟩ <;> rfl
  split
  · rcases listP en [91] [93] (placeP en names) ts with f | ⟨x, r⟩ <;> rfl
  split
  · rcases rowP en ts with f | ⟨x, r⟩ <;> rfl
  split
  · rcases rowP en ts with f | ⟨x, r⟩ <;> rfl
  split
  · rcases rowP en ts with f | ⟨x, r⟩ <;> rfl
  split
  · rcases numP en ts with f | ⟨x, r⟩ <;> rfl
  split
  · rcases listP en [91] [93] (rowP en) ts with f | ⟨x, r⟩ <;> rfl
  rfl
theorem partsP_era (en : Nat) (names : List Bs) : ∀ (bs : List UInt8) (i : Nat) (c : ConL), Era (partsP 0 names i bs c) (partsP en names i bs c) := by
  intro bs
  induction bs with
  | nil => intro i c ts; rfl
  | cons b bs ih =>
    intro i c ts
    simp only [partsP]
    have hw : (if 0 < i then wantP 0 [44] (eraL ts) else .ok (eraL ts)) = eraW (if 0 < i then wantP en [44] ts else .ok ts) := by
      rw [wantP_era en]
      split <;> rfl
    rw [hw]
    rcases (if 0 < i then wantP en [44] ts else .ok ts) with f | r
    · rfl
    · simp only [eraW]
      rw [partP_era en names b.toNat c r]
      rcases partP en names b.toNat c r with f | ⟨c2, r2⟩
      · rfl
      · simp only [eraR]
        exact ih _ _ _
theorem conP_era (en : Nat) (m : ModL) (start : Tok) : Era (conP 0 m start.era) (conP en m start) := by
  intro ts
  unfold conP
  rw [takeP_era en, era_at]
  split
  · rfl
  · rcases takeP en 1 ts with f | ⟨t, r⟩
    · rfl
    · simp only [eraT]
      by_cases hf : (foundF (wordP (txt t.text))).2 = false
      · rw [if_pos hf, if_pos hf]; rfl
      · rw [if_neg hf, if_neg hf]
        rw [wantP_era en]
        rcases wantP en [40] r with f | r1
        · rfl
        · simp only [eraW]
          rw [partsP_era en _ _ _ _ r1]
          rcases partsP en m.names 0 (foundF (kindP (((foundF (wordP (txt t.text))).1.k : Nat) : Int))).1.shape { noCon with kind := (((foundF (wordP (txt t.text))).1.k : Nat) : Int) } r1 with f | ⟨c, r2⟩
          · rfl
          · simp only [eraR]
            rw [wantP_era en]
            rcases wantP en [41] r2 with f | r3
            · rfl
            · simp only [eraW]
              rw [wantP_era en]
              by_cases hr : rightE c (m.names.length : Nat) ≠ 0
              · rw [if_pos hr, if_pos hr]; rfl
              · rw [if_neg hr, if_neg hr]
                rcases wantP en [59] r3 with f | r4 <;> rfl
theorem goalP_era (en : Nat) (m : ModL) : Era (goalP 0 m) (goalP en m) := by
  intro ts
  unfold goalP
  rw [takeP_era en]
  rcases takeP en 1 ts with f | ⟨t, r⟩
  · rfl
  · simp only [eraT]
    rw [placeP_era en _ r]
    by_cases h1 : t.text = [115, 97, 116, 105, 115, 102, 121]
    · simp only [if_pos h1]
      rw [wantP_era en]
      rcases wantP en [59] r with f | r3 <;> rfl
    · simp only [if_neg h1]
      by_cases h2 : t.text = [109, 105, 110, 105, 109, 105, 122, 101]
      · simp only [if_pos h2]
        rcases placeP en m.names r with f | ⟨x, r2⟩
        · rfl
        · simp only [eraR]
          rw [wantP_era en]
          rcases wantP en [59] r2 with f | r3 <;> rfl
      · simp only [if_neg h2]
        by_cases h3 : t.text = [109, 97, 120, 105, 109, 105, 122, 101]
        · simp only [if_pos h3]
          rcases placeP en m.names r with f | ⟨x, r2⟩
          · rfl
          · simp only [eraR]
            rw [wantP_era en]
            rcases wantP en [59] r2 with f | r3 <;> rfl
        · simp only [if_neg h3]
          rfl
theorem itemsP_era (en : Nat) : ∀ (n : Nat) (m : ModL) (ts : List Tok), itemsP 0 n m (eraL ts) = eraI (itemsP en n m ts) := by
  intro n
  induction n with
  | zero =>
    intro m ts
    simp only [itemsP]
    rw [ahead_era en, era_at]
    rfl
  | succ n ih =>
    intro m ts
    simp only [itemsP]
    rw [takeP_era en]
    rcases takeP en 1 ts with f | ⟨t, r⟩
    · rfl
    · simp only [eraT]
      rw [varP_era en m t r, conP_era en m t r, goalP_era en m r]
      split
      · rcases varP en m t r with f | ⟨m2, r2⟩
        · rfl
        · simp only [eraR]
          exact ih _ _
      · split
        · rcases conP en m t r with f | ⟨m2, r2⟩
          · rfl
          · simp only [eraR]
            exact ih _ _
        · split
          · rcases goalP en m r with f | ⟨m2, r2⟩
            · rfl
            · simp only [eraR, List.map_eq_nil_iff]
              rw [ahead_era en, era_at]
              split <;> rfl
          · rfl
/-- Texts whose tokens are alike have the same model. -/
theorem items_alike {en en' n : Nat} {m m' : ModL} {ts ts' : List Tok} (h : itemsP en n m ts = .ok m') (ha : eraL ts = eraL ts') : itemsP en' n m ts' = .ok m' := by
  have h1 := itemsP_era en n m ts
  have h2 := itemsP_era en' n m ts'
  rw [← ha, h1, h] at h2
  rcases hr : itemsP en' n m ts' with f | m2
  · rw [hr] at h2; cases h2
  · rw [hr] at h2
    injection h2 with h2
    rw [h2]
theorem parse_alike {bs bs' : Bs} {l l' : List Tok} (hl : bs'.length ≤ 1048576) (h : (parseA bs).2.2 = 0) (h1 : lexL bs 0 = .ok l) (h2 : lexL bs' 0 = .ok l') (ha : eraL l = eraL l') (hz : ∀ p e, itemsP bs.length l.length noMod l = .error (p, e) → e ≠ 0) : parseA bs' = ((parseA bs).1, 0, 0) := by
  have hlen : bs.length ≤ 1048576 := by
    apply Nat.le_of_not_lt
    intro hg
    unfold parseA lexA at h
    rw [if_pos hg, if_pos (by decide)] at h
    cases h
  have p1 := parseA_lex h1 hlen
  have p2 := parseA_lex h2 hl
  have hn : l'.length = l.length := by
    have := congrArg List.length ha
    simpa using this.symm
  rw [p1] at h
  rw [p2, p1]
  rcases hr : itemsP bs.length l.length noMod l with ⟨p, e⟩ | m
  · rw [hr] at h
    exact absurd h (hz p e hr)
  · rw [hn, items_alike hr ha]
    rfl
end Go.Proofs.YtgemgmdnnjaghaaGreatDoor

/- A text with more blanks and comments has the same tokens: pure. -/
namespace Go.Proofs.YtgemgmdnnjaghaaGreatDoor
open Go.RowKit

theorem tw_more {p : UInt8 → Bool} {a : UInt8} (ha : p a = false) (tl : Bs) : ∀ r : Bs, (r ++ a :: tl).takeWhile p = r.takeWhile p
  | [] => by simp [ha]
  | c :: r => by
    simp only [List.cons_append, List.takeWhile_cons]
    rw [tw_more ha tl r]
theorem minus_more (c : UInt8) (r x : Bs) : minusN (c :: r ++ x) = minusN (c :: r) := rfl
theorem digits_more (c : UInt8) (r tl : Bs) : digitsOf (c :: r ++ 10 :: tl) = digitsOf (c :: r) := by
  unfold digitsOf
  rw [minus_more, List.drop_append_of_le_length (by have := minus_le (c :: r); simp; omega), tw_more (by decide)]
/-- A line feed behind a text changes nothing at its beginning. -/
theorem item_close (c : UInt8) (r tl : Bs) : item (c :: r ++ 10 :: tl) = item (c :: r) := by
  have h1 := digits_more c r tl
  have h2 := minus_more c r (10 :: tl)
  have h3 : numBad (c :: r ++ 10 :: tl) = numBad (c :: r) := by unfold numBad; rw [h1, h2]
  have h4 : numVal (c :: r ++ 10 :: tl) = numVal (c :: r) := by unfold numVal; rw [h1, h2]
  have h5 : wordN (c :: r ++ 10 :: tl) = wordN (c :: r) := by
    rw [List.cons_append, wordN_cons, wordN_cons, tw_more (by decide)]
  have h6 : ((r ++ 10 :: tl).head? == some 46) = (r.head? == some 46) := by
    cases r with
    | nil => rfl
    | cons a b => rfl
  rw [List.cons_append] at h1 h2 h3 h4 h5 ⊢
  rw [item_cons, item_cons, tw_more (by decide), h1, h2, h3, h4, h5, h6]
theorem lexL_close {tl : Bs} (htl : ∀ p, lexL tl p = .ok []) : ∀ bs p l, lexL bs p = .ok l → lexL (bs ++ 10 :: tl) p = .ok l := by
  refine lex_ind (P := fun bs => ∀ p l, lexL bs p = .ok l → lexL (bs ++ 10 :: tl) p = .ok l) (fun p l h => ?_) (fun bs n h hi ih p l he => ?_) (fun bs k n v h hi ih p l he => ?_) (fun bs e h hi p l he => ?_)
  · rw [lexL_nil] at h
    injection h with h
    subst h
    rw [List.nil_append, lexL_blank (by decide), htl]
  · obtain ⟨h1, h2⟩ := (item_pos h).1 n hi
    rw [lexL_skip h hi] at he
    have hi' : item (bs ++ 10 :: tl) = .skip n := by
      match bs, h with
      | c :: r, _ => rw [item_close]; exact hi
    rw [lexL_skip (by simp) hi', List.drop_append_of_le_length h2]
    exact ih _ _ he
  · obtain ⟨h1, h2⟩ := (item_pos h).2 k n v hi
    rw [lexL_tok h hi] at he
    have hi' : item (bs ++ 10 :: tl) = .tok k n v := by
      match bs, h with
      | c :: r, _ => rw [item_close]; exact hi
    rw [lexL_tok (by simp) hi', List.drop_append_of_le_length h2, List.take_append_of_le_length h2]
    rcases hr : lexL (bs.drop n) (p + n) with e0 | l0
    · rw [hr] at he; cases he
    · rw [hr] at he
      rw [ih _ _ hr]
      exact he
  · rw [lexL_bad h hi] at he
    cases he
/-- A comment line. -/
def comL (q : Bs) : Bs := 37 :: 32 :: (q ++ [10])
theorem lexL_comL {q : Bs} (hq : ∀ x ∈ q, x ≠ 10) (rest : Bs) (p : Nat) : lexL (comL q ++ rest) p = lexL rest (p + (comL q).length) := by
  have := lexL_comment (q := 32 :: q) (fun x hx => (List.mem_cons.1 hx).elim (fun e => by rw [e]; decide) (hq x)) rest p
  unfold comL
  simp only [List.cons_append, List.append_assoc, List.nil_append, List.length_cons, List.length_append, List.length_nil] at this ⊢
  rw [this]
/-- First: a comment ahead, a line feed and a comment behind. -/
theorem lexL_around {q : Bs} (hq : ∀ x ∈ q, x ≠ 10) {bs : Bs} {l : List Tok} (h : lexL bs 0 = .ok l) : ∃ l', lexL (comL q ++ bs ++ 10 :: comL q) 0 = .ok l' ∧ eraL l = eraL l' := by
  have h1 : ∀ p, lexL (comL q) p = .ok [] := fun p => by
    have := lexL_comL hq [] p
    rw [List.append_nil, lexL_nil] at this
    exact this
  refine ⟨l.map (Tok.shift (comL q).length), ?_, ?_⟩
  · rw [List.append_assoc, lexL_comL hq, Nat.zero_add]
    have h2 := lexL_shift (comL q).length bs 0
    rw [h, Nat.zero_add] at h2
    exact lexL_close h1 _ _ _ h2
  · unfold eraL
    rw [List.map_map]
    apply List.map_congr_left
    intro t _
    rfl
/-- Second: signs with gaps around them. -/
theorem tw_swap {p : UInt8 → Bool} (r Y : Bs) (hY : ∀ a Y', Y = a :: Y' → p a = false) : (r.takeWhile p ++ Y).takeWhile p = r.takeWhile p := by
  cases Y with
  | nil =>
    rw [List.append_nil]
    have h := List.takeWhile_append_of_pos (p := p) (l₁ := r.takeWhile p) (l₂ := []) (fun x hx => tw_all p r x hx)
    simpa using h
  | cons a Y' => exact tw_stop (tw_all p r) (hY a Y' rfl)
theorem tw_drop {p : UInt8 → Bool} (r : Bs) : r.drop (r.takeWhile p).length = r.dropWhile p := by
  induction r with
  | nil => rfl
  | cons c r ih =>
    simp only [List.takeWhile_cons, List.dropWhile_cons]
    split
    · simpa using ih
    · rfl
theorem tw_take {p : UInt8 → Bool} (r : Bs) : r.take (r.takeWhile p).length = r.takeWhile p := by
  induction r with
  | nil => rfl
  | cons c r ih =>
    simp only [List.takeWhile_cons]
    split
    · simpa using ih
    · rfl
/-- What may stand behind a token instead: nothing, a line feed, or what begins alike. -/
def Behind (Y Z : Bs) : Prop := ∀ a Y', Y = a :: Y' → a = 10 ∨ Z.head? = some a
theorem behind_tw {p : UInt8 → Bool} (hp : p 10 = false) {r Y : Bs} (h : Behind Y (r.dropWhile p)) : ∀ a Y', Y = a :: Y' → p a = false := by
  intro a Y' e
  rcases h a Y' e with rfl | h
  · exact hp
  · cases hd : r.dropWhile p with
    | nil => rw [hd] at h; cases h
    | cons x y =>
      rw [hd] at h
      injection h with h
      subst h
      exact dw_head p r _ _ hd
theorem letter_not {c : UInt8} (h : letterB c = true) : blankB c = false ∧ (c == 37) = false := by
  have h2 : letR c.toNat = true := by rw [← let_byte]; exact h
  rw [bla_byte, eq_byte]
  unfold letR at h2
  simp only [Bool.or_eq_true, Bool.and_eq_true, decide_eq_true_eq] at h2
  have e : (37 : UInt8).toNat = 37 := rfl
  rw [e]
  refine ⟨?_, ?_⟩
  · unfold blaR
    simp only [Bool.or_eq_false_iff, beq_eq_false_iff_ne, ne_eq]
    omega
  · simp only [beq_eq_false_iff_ne, ne_eq]
    omega
theorem item_swap {bs : Bs} {k n : Nat} {v : Int} (h : bs ≠ []) (hi : item bs = .tok k n v) (Y : Bs) (hY : Behind Y (bs.drop n)) : item (bs.take n ++ Y) = .tok k n v := by
  match bs, h with
  | c :: r, _ =>
    rw [item_cons] at hi
    split at hi
    · cases hi
    · next n1 =>
      split at hi
      · cases hi
      · next n2 =>
        split at hi
        · next n3 =>
          injection hi with e1 e2 e3
          subst e1; subst e2; subst e3
          rw [wordN_cons, if_pos n3, Nat.add_comm 1] at hY ⊢
          rw [List.drop_succ_cons, tw_drop] at hY
          rw [List.take_succ_cons, tw_take, List.cons_append, item_cons, if_neg n1, if_neg n2, if_pos n3, wordN_cons, if_pos n3, tw_swap r Y (behind_tw (by decide) hY), Nat.add_comm 1]
        · next n3 =>
          split at hi
          · next n4 =>
            split at hi
            · cases hi
            · next n5 =>
              injection hi with e1 e2 e3
              subst e1; subst e2; subst e3
              simp only [bne_iff_ne, ne_eq] at n4
              obtain ⟨m, hm, hml, hmt⟩ := take_num n4
              have hdig : digitsOf ((c :: r).take (minusN (c :: r) + (digitsOf (c :: r)).length) ++ Y) = digitsOf (c :: r) ∧ minusN ((c :: r).take (minusN (c :: r) + (digitsOf (c :: r)).length) ++ Y) = minusN (c :: r) ∧ ∃ r', (c :: r).take (minusN (c :: r) + (digitsOf (c :: r)).length) ++ Y = c :: r' := by
                have hpos : 0 < (digitsOf (c :: r)).length := by omega
                obtain ⟨q, hq⟩ : ∃ q, minusN (c :: r) + (digitsOf (c :: r)).length = q + 1 := ⟨minusN (c :: r) + (digitsOf (c :: r)).length - 1, by omega⟩
                have hc : (c :: r).take (minusN (c :: r) + (digitsOf (c :: r)).length) ++ Y = c :: (r.take q ++ Y) := by rw [hq]; rfl
                have hmin : minusN ((c :: r).take (minusN (c :: r) + (digitsOf (c :: r)).length) ++ Y) = minusN (c :: r) := by rw [hc]; rfl
                refine ⟨?_, hmin, _, hc⟩
                have key : ∀ X : Bs, digitsOf X = (X.drop (minusN X)).takeWhile digitB := fun _ => rfl
                rw [key ((c :: r).take (minusN (c :: r) + (digitsOf (c :: r)).length) ++ Y), hmin, hmt, List.append_assoc, ← hml, List.drop_left']
                have hd : digitsOf (c :: r) = ((c :: r).drop (minusN (c :: r))).takeWhile digitB := rfl
                rw [hd]
                refine tw_swap ((c :: r).drop (minusN (c :: r))) Y (behind_tw (p := digitB) (r := (c :: r).drop (minusN (c :: r))) (by decide) ?_)
                rw [← tw_drop, List.drop_drop, ← hd]
                exact hY
                rfl
              obtain ⟨d1, d2, r', d3⟩ := hdig
              rw [d3] at d1 d2 ⊢
              have h3 : numBad (c :: r') = numBad (c :: r) := by unfold numBad; rw [d1, d2]
              have h4 : numVal (c :: r') = numVal (c :: r) := by unfold numVal; rw [d1, d2]
              rw [item_cons, if_neg n1, if_neg n2, if_neg n3, d1, if_pos (by simpa using n4), h3, if_neg n5, h4, d2]
          · next n4 =>
            have hnd : ∀ r', (∀ x, x = c → minusN (c :: r) = 0 → (digitsOf (c :: r')).length = 0) → True := fun _ _ => trivial
            split at hi
            · next n5 =>
              injection hi with e1 e2 e3
              subst e1; subst e2; subst e3
              rw [List.take_succ_cons, List.take_zero, List.cons_append, List.nil_append, item_cons, if_neg n1, if_neg n2, if_neg n3]
              have hd : (digitsOf (c :: Y)).length = 0 := by
                have hm0 : minusN (c :: Y) = 0 := by
                  rw [minusN_cons]
                  split
                  · next e => have : c = 45 := by simpa using e
                              subst this; exact absurd n5 (by decide)
                  · rfl
                have hc0 : digitB c = false := by
                  cases hdb : digitB c with
                  | false => rfl
                  | true =>
                    have hm1 : minusN (c :: r) = 0 := hm0
                    have : (digitsOf (c :: r)).length ≠ 0 := by
                      unfold digitsOf
                      rw [hm1, List.drop_zero, List.takeWhile_cons, if_pos hdb]
                      simp
                    exact absurd (by simpa using n4) this
                unfold digitsOf
                rw [hm0, List.drop_zero, List.takeWhile_cons, if_neg (by rw [hc0]; decide)]
                rfl
              rw [if_neg (by rw [hd]; decide), if_pos n5]
            · next n5 =>
              split at hi
              · next n6 =>
                injection hi with e1 e2 e3
                subst e1; subst e2; subst e3
                simp only [Bool.and_eq_true, beq_iff_eq] at n6
                obtain ⟨rfl, hr⟩ := n6
                cases r with
                | nil => cases hr
                | cons a b =>
                  injection hr with hr
                  subst hr
                  rfl
              · cases hi
/-- A sign alone. -/
theorem item_sign {c : UInt8} (h : signB c = true) (Y : Bs) : item (c :: Y) = .tok 3 1 0 := by
  unfold signB at h
  simp only [Bool.or_eq_true, beq_iff_eq] at h
  rcases h with (((((((rfl | rfl) | rfl) | rfl) | rfl) | rfl) | rfl) | rfl) | rfl <;> rfl
/-- What each byte becomes. -/
def gaps (f : UInt8 → Bs × Bs) (c : UInt8) : Bs := if signB c then (f c).1 ++ c :: (f c).2 else [c]
structure Gapped (f : UInt8 → Bs × Bs) : Prop where
  pre : ∀ c, signB c = true → ∀ rest p, lexL ((f c).1 ++ rest) p = lexL rest (p + (f c).1.length)
  post : ∀ c, signB c = true → ∀ rest p, lexL ((f c).2 ++ rest) p = lexL rest (p + (f c).2.length)
  first : ∀ c, signB c = true → ∃ t, (f c).1 = 10 :: t
theorem gaps_plain {f : UInt8 → Bs × Bs} : ∀ {w : Bs}, (∀ x ∈ w, signB x = false) → w.flatMap (gaps f) = w
  | [], _ => rfl
  | c :: w, h => by
    have hc := h c (by simp)
    rw [List.flatMap_cons, gaps_plain (fun x hx => h x (by simp [hx]))]
    unfold gaps
    rw [if_neg (by rw [hc]; decide)]
    rfl
theorem gaps_behind {f : UInt8 → Bs × Bs} (hf : Gapped f) (Z : Bs) : Behind (Z.flatMap (gaps f)) Z := by
  intro a Y' e
  cases Z with
  | nil => cases e
  | cons c Z =>
    rw [List.flatMap_cons] at e
    unfold gaps at e
    split at e
    · next hc =>
      obtain ⟨t, ht⟩ := hf.first c hc
      rw [ht] at e
      injection e with e1 e2
      exact .inl e1.symm
    · injection e with e1 e2
      exact .inr (by rw [e1]; rfl)
/-- In a token that is no sign there is none. -/
theorem tok_plain {bs : Bs} {k n : Nat} {v : Int} (h : bs ≠ []) (hi : item bs = .tok k n v) (hs : ∀ c, bs.head? = some c → signB c = false) : ∀ x ∈ bs.take n, signB x = false := by
  have hpart : ∀ x : UInt8, partB x = true → signB x = false := by
    intro x hx
    cases hb : signB x with
    | false => rfl
    | true =>
      unfold signB at hb
      simp only [Bool.or_eq_true, beq_iff_eq] at hb
      rcases hb with (((((((rfl | rfl) | rfl) | rfl) | rfl) | rfl) | rfl) | rfl) | rfl <;> exact absurd hx (by decide)
  have hdig : ∀ x : UInt8, digitB x = true → signB x = false := fun x hx => hpart x (by unfold partB; rw [hx]; simp)
  match bs, h with
  | c :: r, _ =>
    have hc := hs c rfl
    rw [item_cons] at hi
    split at hi
    · cases hi
    · split at hi
      · cases hi
      · split at hi
        · next n3 =>
          injection hi with e1 e2 e3
          subst e2
          rw [wordN_cons, if_pos n3, Nat.add_comm 1, List.take_succ_cons, tw_take]
          intro x hx
          rcases List.mem_cons.1 hx with rfl | hx
          · exact hc
          · exact hpart x (tw_all _ _ x hx)
        · split at hi
          · next n4 =>
            split at hi
            · cases hi
            · injection hi with e1 e2 e3
              subst e2
              simp only [bne_iff_ne, ne_eq] at n4
              obtain ⟨m, hm, hml, hmt⟩ := take_num n4
              rw [hmt]
              intro x hx
              rcases List.mem_append.1 hx with hx | hx
              · rcases hm with rfl | rfl
                · cases hx
                · have : x = 45 := by simpa using hx
                  subst this
                  decide
              · exact hdig x (tw_all _ _ x hx)
          · split at hi
            · next n5 => rw [hc] at n5; cases n5
            · split at hi
              · next n6 =>
                injection hi with e1 e2 e3
                subst e2
                simp only [Bool.and_eq_true, beq_iff_eq] at n6
                obtain ⟨rfl, hr⟩ := n6
                cases r with
                | nil => cases hr
                | cons a b =>
                  injection hr with hr
                  subst hr
                  intro x hx
                  have : x = 46 := by simpa using hx
                  subst this
                  decide
              · cases hi
theorem eraL_cons (t : Tok) (l : List Tok) : eraL (t :: l) = t.era :: eraL l := rfl
theorem lexL_gaps {f : UInt8 → Bs × Bs} (hf : Gapped f) : ∀ bs, (∀ x ∈ bs, x ≠ 37) → ∀ p p' l, lexL bs p = .ok l → ∃ l', lexL (bs.flatMap (gaps f)) p' = .ok l' ∧ eraL l = eraL l' := by
  refine lex_ind (P := fun bs => (∀ x ∈ bs, x ≠ 37) → ∀ p p' l, lexL bs p = .ok l → ∃ l', lexL (bs.flatMap (gaps f)) p' = .ok l' ∧ eraL l = eraL l') (fun _ p p' l h => ?_) (fun bs n h hi ih hno p p' l he => ?_) (fun bs k n v h hi ih hno p p' l he => ?_) (fun bs e h hi hno p p' l he => ?_)
  · rw [lexL_nil] at h
    injection h with h
    subst h
    exact ⟨[], by rw [List.flatMap_nil, lexL_nil], rfl⟩
  · rw [lexL_skip h hi] at he
    rcases skip_of h hi with ⟨c, r, rfl, hb, rfl⟩ | ⟨q, r, rfl, -, -, -⟩
    · obtain ⟨l', h1, h2⟩ := ih (fun x hx => hno x (by simp at hx; simp [hx])) _ (p' + 1) _ he
      refine ⟨l', ?_, h2⟩
      have hs : signB c = false := by
        cases hsb : signB c with
        | false => rfl
        | true =>
          unfold signB at hsb
          simp only [Bool.or_eq_true, beq_iff_eq] at hsb
          rcases hsb with (((((((rfl | rfl) | rfl) | rfl) | rfl) | rfl) | rfl) | rfl) | rfl <;> exact absurd hb (by decide)
      rw [List.flatMap_cons]
      unfold gaps at h1 ⊢
      rw [if_neg (by rw [hs]; decide), List.cons_append, List.nil_append, lexL_blank hb]
      exact h1
    · exact absurd rfl (hno 37 (by simp))
  · obtain ⟨h1, h2⟩ := (item_pos h).2 k n v hi
    rw [lexL_tok h hi] at he
    rcases hr : lexL (bs.drop n) (p + n) with e0 | l0
    · rw [hr] at he; cases he
    · rw [hr] at he
      simp only [Res.pre] at he
      injection he with he
      subst he
      have hno' : ∀ x ∈ bs.drop n, x ≠ 37 := fun x hx => hno x (List.mem_of_mem_drop hx)
      match bs, h with
      | c :: r, _ =>
        by_cases hc : signB c = true
        · have hcs := item_sign hc r
          rw [hcs] at hi
          injection hi with e1 e2 e3
          subst e1; subst e2; subst e3
          obtain ⟨l', h3, h4⟩ := ih hno' _ (p' + (f c).1.length + 1 + (f c).2.length) _ hr
          simp only [List.drop_succ_cons, List.drop_zero] at h3
          refine ⟨⟨3, [c], 0, p' + (f c).1.length⟩ :: l', ?_, ?_⟩
          · rw [List.flatMap_cons]
            have hg : gaps f c = (f c).1 ++ c :: (f c).2 := by unfold gaps; rw [if_pos hc]
            rw [hg, List.append_assoc, hf.pre c hc, List.cons_append, lexL_tok (by simp) (item_sign hc _)]
            simp only [List.drop_succ_cons, List.drop_zero, List.take_succ_cons, List.take_zero]
            rw [hf.post c hc, h3]
            rfl
          · rw [eraL_cons, eraL_cons, h4]
            rfl
        · have hc' : signB c = false := by simpa using hc
          have hpl := tok_plain (by simp) hi (fun x hx => by injection hx with hx; rw [← hx]; exact hc')
          obtain ⟨l', h3, h4⟩ := ih hno' _ (p' + n) _ hr
          have hsplit : (c :: r).flatMap (gaps f) = (c :: r).take n ++ ((c :: r).drop n).flatMap (gaps f) := by
            conv => lhs; rw [← List.take_append_drop n (c :: r)]
            rw [List.flatMap_append, gaps_plain hpl]
          have hi' := item_swap (by simp) hi _ (gaps_behind hf ((c :: r).drop n))
          have hlen : ((c :: r).take n).length = n := by rw [List.length_take]; omega
          refine ⟨⟨k, (c :: r).take n, v, p'⟩ :: l', ?_, ?_⟩
          · rw [hsplit, lexL_tok (by intro e; have := congrArg List.length e; rw [List.length_append, hlen] at this; simp at this; omega) hi', List.drop_left' hlen, List.take_left' hlen, h3]
            rfl
          · rw [eraL_cons, eraL_cons, h4]
  · rw [lexL_bad h hi] at he
    cases he
end Go.Proofs.YtgemgmdnnjaghaaGreatDoor

/- What the law's wakes tells: true. -/
namespace Go.Proofs.YtgemgmdnnjaghaaGreatDoor
open Go.RowKit Go.Sort

theorem ints_new (w : World) (l : List Int) (t : TypeId) (hl : l.length ≤ 4611686018427387903) : IsInts (w.alloc (.cells (l.map fun z => Value.int .i64 z).toArray t)) ⟨some ⟨w.heap.size, 0, none⟩, l.length, l.length⟩ l := by
  refine ⟨rfl, fun _ => ⟨_, rfl, by simp, fun j hj => ?_⟩, hl, Nat.le_refl _⟩
  rw [Addr.add_mid, Nat.zero_add]
  have hj' : j < l.length := hj
  simp [i64f, hj', List.getD_eq_getElem?_getD]

def allTwo (z : Int) : ConL := ⟨17, [0, z], [], [], [], [], 0, []⟩
theorem right_two (z : Int) (w : World) (t : TypeId) (hE : EntIn w) :
    Calls Tryz.prog 25 #[.agg #[.int .i64 17, .slice (some ⟨w.heap.size, 0, none⟩) 2 2, .slice none 0 0, .slice none 0 0, .slice none 0 0, .slice none 0 0, .int .i64 0, .slice none 0 0], .int .i64 2] (w.alloc (.cells #[.int .i64 0, .int .i64 z] t)) fun e w' => e = .returned (.int .i64 (rightE (allTwo z) 2)) ∧ Below (w.alloc (.cells #[.int .i64 0, .int .i64 z] t)).heap.size (w.alloc (.cells #[.int .i64 0, .int .i64 z] t)) w' :=
  right_any ⟨⟨some ⟨w.heap.size, 0, none⟩, 2, 2⟩, ⟨none, 0, 0⟩, ⟨none, 0, 0⟩, ⟨none, 0, 0⟩, ⟨none, 0, 0⟩, ⟨none, 0, 0⟩⟩ (allTwo z) 2 _ (hE.below (below1 w _)) ⟨ints_new w [0, z] t (by simp), IsInts.nil _, IsInts.nil _, IsInts.nil _, IsInts.nil _, IsRows.nil _⟩

theorem wf1 : foundF (kindP 17) = (⟨17, [97, 108, 108, 95, 100, 105, 102, 102, 101, 114, 101, 110, 116], [86]⟩, true) := by kernel_rfl
theorem wf2 : foundF (wordP ⟨#[108, 101, 120, 95, 108, 101]⟩) = (⟨22, [108, 101, 120, 95, 108, 101], [86, 87]⟩, true) := by kernel_rfl
theorem wf3 : foundF (wordP ⟨#[120]⟩) = (noEnt, false) := by kernel_rfl
theorem wf4 : foundF (kindP 21) = (⟨21, [103, 99, 99], [86, 99, 100, 101]⟩, true) := by kernel_rfl
theorem wf5 : rightE (allTwo 2) 2 = 7 := by kernel_rfl
theorem wf6 : rightE (allTwo 1) 2 = 0 := by kernel_rfl

end Go.Proofs.YtgemgmdnnjaghaaGreatDoor
