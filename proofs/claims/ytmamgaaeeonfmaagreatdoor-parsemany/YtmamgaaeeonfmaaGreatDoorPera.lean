/- What is told of the texts of wakes: reckoned. -/
import Derived.Test.YtmamgaaeeonfmaaGreatDoorPm
namespace Go.Proofs.YtmamgaaeeonfmaaGreatDoor
open Go.RowKit

/-- As lexL, by a count: it can be reckoned. -/
def lexF : Nat → Bs → Nat → Res
  | 0, _, _ => .ok []
  | _ + 1, [], _ => .ok []
  | n + 1, c :: r, p =>
    match item (c :: r) with
    | .skip k => lexF n ((c :: r).drop k) (p + k)
    | .tok k m v => Res.pre ⟨k, (c :: r).take m, v, p⟩ (lexF n ((c :: r).drop m) (p + m))
    | .bad e => .error (p, e)
theorem lexF_eq : ∀ (n : Nat) (bs : Bs) (p : Nat), bs.length ≤ n → lexL bs p = lexF n bs p := by
  intro n
  induction n with
  | zero =>
    intro bs p h
    have : bs = [] := List.length_eq_zero_iff.1 (by omega)
    subst this
    rw [lexL_nil]
    rfl
  | succ n ih =>
    intro bs p h
    cases bs with
    | nil => rw [lexL_nil]; rfl
    | cons c r =>
      rcases hi : item (c :: r) with k | ⟨k, m, v⟩ | e
      · obtain ⟨h1, h2⟩ := (item_pos (by simp)).1 k hi
        rw [lexL_skip (by simp) hi, ih _ _ (by rw [List.length_drop]; omega)]
        simp only [lexF, hi]
      · obtain ⟨h1, h2⟩ := (item_pos (by simp)).2 k m v hi
        rw [lexL_tok (by simp) hi, ih _ _ (by rw [List.length_drop]; omega)]
        simp only [lexF, hi]
      · rw [lexL_bad (by simp) hi]
        simp only [lexF, hi]
def outP : Except Flt ModL → ModL × Nat × Int
  | .error (p, e) => (noMod, p, e)
  | .ok m => (m, 0, 0)
theorem parseA_lex {bs : Bs} {ts : List Tok} (h : lexL bs 0 = .ok ts) (hl : bs.length ≤ 1048576) : parseA bs = outP (itemsP bs.length ts.length noMod ts) := by
  have h1 : lexA bs = (ts, 0, 0) := by
    unfold lexA
    rw [if_neg (by omega), h]
    rfl
  unfold parseA
  rw [h1, if_neg (by simp)]
  rcases itemsP bs.length ts.length noMod ts with ⟨p, e⟩ | m <;> rfl
def resL : Res → List Tok
  | .ok l => l
  | .error _ => []
def okB : Res → Bool
  | .ok _ => true
  | .error _ => false
theorem parseA_fuel (n : Nat) {bs : Bs} (hn : bs.length ≤ n) (hl : bs.length ≤ 1048576) (ho : okB (lexF n bs 0) = true) : parseA bs = outP (itemsP bs.length (resL (lexF n bs 0)).length noMod (resL (lexF n bs 0))) := by
  refine parseA_lex ?_ hl
  rw [lexF_eq n bs 0 hn]
  rcases hr : lexF n bs 0 with e | l
  · rw [hr] at ho; cases ho
  · rfl
/-- The two texts. -/
def wtext1 : Bs := [118, 97, 114, 32, 49, 46, 46, 51, 58, 32, 120, 59, 32, 118, 97, 114, 32, 123, 53, 44, 50, 125, 58, 32, 121, 59, 32, 37, 32, 99, 10, 99, 111, 110, 115, 116, 114, 97, 105, 110, 116, 32, 108, 105, 110, 95, 108, 101, 40, 91, 49, 44, 45, 50, 93, 44, 91, 120, 44, 121, 93, 44, 55, 41, 59, 32, 115, 111, 108, 118, 101, 32, 109, 105, 110, 105, 109, 105, 122, 101, 32, 121, 59]
def wtext2 : Bs := [118, 97, 114, 32, 49, 46, 46, 51, 58, 32, 120, 59, 32, 99, 111, 110, 115, 116, 114, 97, 105, 110, 116, 32, 97, 108, 108, 95, 100, 105, 102, 102, 101, 114, 101, 110, 116, 40, 91, 120, 44, 121, 93, 41, 59]
def wmod : ModL := ⟨[[120], [121]], [[1, 2, 3], [2, 5]], [{ noCon with kind := 2, A := [0, 1], C := [1, -2], K := 7 }], 1, 1⟩
theorem wake_one : parseA wtext1 = (wmod, 0, 0) := by
  rw [parseA_fuel 90 (by decide) (by decide) (by kernel_rfl)]
  kernel_rfl
theorem wake_two : parseA wtext2 = (noMod, 41, 7) := by
  rw [parseA_fuel 90 (by decide) (by decide) (by kernel_rfl)]
  kernel_rfl
end Go.Proofs.YtmamgaaeeonfmaaGreatDoor

/- Models hang on tokens' kinds, texts and numbers, not on their places: pure. -/
namespace Go.Proofs.YtmamgaaeeonfmaaGreatDoor
open Go.RowKit

/-- A token without its place. -/
abbrev Tok.era (t : Tok) : Tok := { t with at_ := 0 }
abbrev eraL (ts : List Tok) : List Tok := ts.map Tok.era
def eraF (f : Flt) : Flt := (0, f.2)
def eraR {α : Type} : PR α → PR α
  | .error f => .error (eraF f)
  | .ok (x, r) => .ok (x, eraL r)
def eraT : PR Tok → PR Tok
  | .error f => .error (eraF f)
  | .ok (x, r) => .ok (x.era, eraL r)
def eraW : Except Flt (List Tok) → Except Flt (List Tok)
  | .error f => .error (eraF f)
  | .ok r => .ok (eraL r)
def eraI : Except Flt ModL → Except Flt ModL
  | .error f => .error (eraF f)
  | .ok m => .ok m
theorem ahead_era (en : Nat) (ts : List Tok) : aheadT 0 (eraL ts) = (aheadT en ts).era := by
  cases ts <;> rfl
theorem tail_era (ts : List Tok) : (eraL ts).tail = eraL ts.tail := by
  cases ts <;> rfl
theorem era_kind (t : Tok) : t.era.kind = t.kind := rfl
theorem era_text (t : Tok) : t.era.text = t.text := rfl
theorem era_num (t : Tok) : t.era.num = t.num := rfl
theorem era_at (t : Tok) : t.era.at_ = 0 := rfl
theorem takeP_era (en k : Nat) (ts : List Tok) : takeP 0 k (eraL ts) = eraT (takeP en k ts) := by
  unfold takeP
  rw [ahead_era en, era_kind, tail_era, era_at]
  split <;> rfl
theorem wantP_era (en : Nat) (s : Bs) (ts : List Tok) : wantP 0 s (eraL ts) = eraW (wantP en s ts) := by
  unfold wantP
  rw [ahead_era en, era_text, tail_era, era_at]
  split <;> rfl
def Era {α : Type} (a b : List Tok → PR α) : Prop := ∀ ts, a (eraL ts) = eraR (b ts)
theorem numP_era (en : Nat) : Era (numP 0) (numP en) := by
  intro ts
  unfold numP
  rw [takeP_era en]
  rcases takeP en 2 ts with f | ⟨t, r⟩ <;> rfl
theorem placeP_era (en : Nat) (names : List Bs) : Era (placeP 0 names) (placeP en names) := by
  intro ts
  unfold placeP
  rw [takeP_era en]
  rcases takeP en 1 ts with f | ⟨t, r⟩
  · rfl
  · simp only [eraT]
    by_cases hh : t.text ∈ names
    · simp only [hh, ↓reduceIte]; rfl
    · simp only [hh, ↓reduceIte]; rfl
theorem tailP_era {α : Type} {en : Nat} {last : Bs} {a b : List Tok → PR α} (he : Era a b) : ∀ n, Era (tailP 0 last a n) (tailP en last b n) := by
  intro n
  induction n with
  | zero =>
    intro ts
    simp only [tailP]
    rw [ahead_era en, era_text, tail_era, era_at]
    split <;> rfl
  | succ n ih =>
    intro ts
    simp only [tailP]
    rw [ahead_era en, era_text, tail_era, wantP_era en]
    split
    · rfl
    · rcases wantP en [44] ts with f | r
      · rfl
      · simp only [eraW]
        rw [he r]
        rcases b r with f | ⟨x, r2⟩
        · rfl
        · simp only [eraR]
          rw [ih r2]
          rcases tailP en last b n r2 with f | ⟨xs, r3⟩ <;> rfl
theorem listP_era {α : Type} {en : Nat} {first last : Bs} {a b : List Tok → PR α} (he : Era a b) : Era (listP 0 first last a) (listP en first last b) := by
  intro ts
  unfold listP
  rw [wantP_era en]
  rcases wantP en first ts with f | r
  · rfl
  · simp only [eraW]
    rw [ahead_era en, era_text, tail_era, he r]
    split
    · rfl
    · rcases b r with f | ⟨x, r2⟩
      · rfl
      · simp only [eraR, List.length_map]
        rw [tailP_era he (en := en) _ r2]
        rcases tailP en last b r2.length r2 with f | ⟨xs, r3⟩ <;> rfl
theorem rowP_era (en : Nat) : Era (rowP 0) (rowP en) := listP_era (numP_era en)
theorem rosP_era (en : Nat) : Era (rosP 0) (rosP en) := by
  intro ts
  unfold rosP
  rw [ahead_era en, era_text, listP_era (numP_era en) ts, takeP_era en]
  split
  · rcases listP en [123] [125] (numP en) ts with f | ⟨l, r⟩ <;> rfl
  · rcases takeP en 2 ts with f | ⟨t, r⟩
    · rfl
    · simp only [eraT]
      rw [wantP_era en]
      rcases wantP en [46, 46] r with f | r1
      · rfl
      · simp only [eraW]
        rw [takeP_era en]
        rcases takeP en 2 r1 with f | ⟨t2, r2⟩ <;> rfl
theorem domP_era (en : Nat) : Era (domP 0) (domP en) := by
  intro ts
  unfold domP
  rw [rosP_era en ts, ahead_era en, era_at]
  rcases rosP en ts with f | ⟨⟨l, e⟩, r⟩
  · rfl
  · simp only [eraR]
    by_cases hh : e = 0
    · rw [if_pos hh, if_pos hh]
    · rw [if_neg hh, if_neg hh]; rfl
theorem newNameP_era (en : Nat) (names : List Bs) : Era (newNameP 0 names) (newNameP en names) := by
  intro ts
  unfold newNameP
  rw [takeP_era en]
  rcases takeP en 1 ts with f | ⟨t, r⟩
  · rfl
  · simp only [eraT]
    by_cases hm : mayNameB t.text = false
    · rw [if_pos hm, if_pos hm]; rfl
    · rw [if_neg hm, if_neg hm]
      by_cases hh : t.text ∈ names
      · simp only [hh, ↓reduceIte]; rfl
      · simp only [hh, ↓reduceIte]; rfl
theorem varP_era (en : Nat) (m : ModL) (start : Tok) : Era (varP 0 m start.era) (varP en m start) := by
  intro ts
  unfold varP
  rw [domP_era en ts, era_at]
  split
  · rfl
  · rcases domP en ts with f | ⟨d, r⟩
    · rfl
    · simp only [eraR]
      rw [wantP_era en]
      rcases wantP en [58] r with f | r1
      · rfl
      · simp only [eraW]
        rw [newNameP_era en _ r1]
        rcases newNameP en m.names r1 with f | ⟨b, r2⟩
        · rfl
        · simp only [eraR]
          rw [wantP_era en]
          rcases wantP en [59] r2 with f | r3 <;> rfl
theorem partP_era (en : Nat) (names : List Bs) (letter : Nat) (c : ConL) : Era (partP 0 names letter c) (partP en names letter c) := by
  intro ts
  unfold partP
  rw [placeP_era en names ts, listP_era (placeP_era en names) (en := en) ts, rowP_era en ts, numP_era en ts, listP_era (rowP_era en) (en := en) ts]
  split
  · rcases placeP en names ts with f | ⟨x, r⟩ <;> rfl
  split
  · rcases placeP en names ts with f | ⟨x, r⟩ <;> rfl
  split
  · rcases listP en [91] [93] (placeP en names) ts with f | ⟨x, r⟩ <;> rfl
  split
  · rcases listP en [91] [93] (placeP en names) ts with f | ⟨x, r⟩ <;> rfl
  split
  · rcases rowP en ts with f | ⟨x, r⟩ <;> rfl
  split
  · rcases rowP en ts with f | ⟨x, r⟩ <;> rfl
  split
  · rcases rowP en ts with f | ⟨x, r⟩ <;> rfl
  split
  · rcases numP en ts with f | ⟨x, r⟩ <;> rfl
  split
  · rcases listP en [91] [93] (rowP en) ts with f | ⟨x, r⟩ <;> rfl
  rfl
theorem partsP_era (en : Nat) (names : List Bs) : ∀ (bs : List UInt8) (i : Nat) (c : ConL), Era (partsP 0 names i bs c) (partsP en names i bs c) := by
  intro bs
  induction bs with
  | nil => intro i c ts; rfl
  | cons b bs ih =>
    intro i c ts
    simp only [partsP]
    have hw : (if 0 < i then wantP 0 [44] (eraL ts) else .ok (eraL ts)) = eraW (if 0 < i then wantP en [44] ts else .ok ts) := by
      rw [wantP_era en]
      split <;> rfl
    rw [hw]
    rcases (if 0 < i then wantP en [44] ts else .ok ts) with f | r
    · rfl
    · simp only [eraW]
      rw [partP_era en names b.toNat c r]
      rcases partP en names b.toNat c r with f | ⟨c2, r2⟩
      · rfl
      · simp only [eraR]
        exact ih _ _ _
theorem conP_era (en : Nat) (m : ModL) (start : Tok) : Era (conP 0 m start.era) (conP en m start) := by
  intro ts
  unfold conP
  rw [takeP_era en, era_at]
  split
  · rfl
  · rcases takeP en 1 ts with f | ⟨t, r⟩
    · rfl
    · simp only [eraT]
      by_cases hf : (foundF (wordP (txt t.text))).2 = false
      · rw [if_pos hf, if_pos hf]; rfl
      · rw [if_neg hf, if_neg hf]
        rw [wantP_era en]
        rcases wantP en [40] r with f | r1
        · rfl
        · simp only [eraW]
          rw [partsP_era en _ _ _ _ r1]
          rcases partsP en m.names 0 (foundF (kindP (((foundF (wordP (txt t.text))).1.k : Nat) : Int))).1.shape { noCon with kind := (((foundF (wordP (txt t.text))).1.k : Nat) : Int) } r1 with f | ⟨c, r2⟩
          · rfl
          · simp only [eraR]
            rw [wantP_era en]
            rcases wantP en [41] r2 with f | r3
            · rfl
            · simp only [eraW]
              rw [wantP_era en]
              by_cases hr : rightE c (m.names.length : Nat) ≠ 0
              · rw [if_pos hr, if_pos hr]; rfl
              · rw [if_neg hr, if_neg hr]
                rcases wantP en [59] r3 with f | r4 <;> rfl
theorem goalP_era (en : Nat) (m : ModL) : Era (goalP 0 m) (goalP en m) := by
  intro ts
  unfold goalP
  rw [takeP_era en]
  rcases takeP en 1 ts with f | ⟨t, r⟩
  · rfl
  · simp only [eraT]
    rw [placeP_era en _ r]
    by_cases h1 : t.text = [115, 97, 116, 105, 115, 102, 121]
    · simp only [if_pos h1]
      rw [wantP_era en]
      rcases wantP en [59] r with f | r3 <;> rfl
    · simp only [if_neg h1]
      by_cases h2 : t.text = [109, 105, 110, 105, 109, 105, 122, 101]
      · simp only [if_pos h2]
        rcases placeP en m.names r with f | ⟨x, r2⟩
        · rfl
        · simp only [eraR]
          rw [wantP_era en]
          rcases wantP en [59] r2 with f | r3 <;> rfl
      · simp only [if_neg h2]
        by_cases h3 : t.text = [109, 97, 120, 105, 109, 105, 122, 101]
        · simp only [if_pos h3]
          rcases placeP en m.names r with f | ⟨x, r2⟩
          · rfl
          · simp only [eraR]
            rw [wantP_era en]
            rcases wantP en [59] r2 with f | r3 <;> rfl
        · simp only [if_neg h3]
          rfl
theorem itemsP_era (en : Nat) : ∀ (n : Nat) (m : ModL) (ts : List Tok), itemsP 0 n m (eraL ts) = eraI (itemsP en n m ts) := by
  intro n
  induction n with
  | zero =>
    intro m ts
    simp only [itemsP]
    rw [ahead_era en, era_at]
    rfl
  | succ n ih =>
    intro m ts
    simp only [itemsP]
    rw [takeP_era en]
    rcases takeP en 1 ts with f | ⟨t, r⟩
    · rfl
    · simp only [eraT]
      rw [varP_era en m t r, conP_era en m t r, goalP_era en m r]
      split
      · rcases varP en m t r with f | ⟨m2, r2⟩
        · rfl
        · simp only [eraR]
          exact ih _ _
      · split
        · rcases conP en m t r with f | ⟨m2, r2⟩
          · rfl
          · simp only [eraR]
            exact ih _ _
        · split
          · rcases goalP en m r with f | ⟨m2, r2⟩
            · rfl
            · simp only [eraR, List.map_eq_nil_iff]
              rw [ahead_era en, era_at]
              split <;> rfl
          · rfl
/-- Texts whose tokens are alike have the same model. -/
theorem items_alike {en en' n : Nat} {m m' : ModL} {ts ts' : List Tok} (h : itemsP en n m ts = .ok m') (ha : eraL ts = eraL ts') : itemsP en' n m ts' = .ok m' := by
  have h1 := itemsP_era en n m ts
  have h2 := itemsP_era en' n m ts'
  rw [← ha, h1, h] at h2
  rcases hr : itemsP en' n m ts' with f | m2
  · rw [hr] at h2; cases h2
  · rw [hr] at h2
    injection h2 with h2
    rw [h2]
theorem parse_alike {bs bs' : Bs} {l l' : List Tok} (hl : bs'.length ≤ 1048576) (h : (parseA bs).2.2 = 0) (h1 : lexL bs 0 = .ok l) (h2 : lexL bs' 0 = .ok l') (ha : eraL l = eraL l') (hz : ∀ p e, itemsP bs.length l.length noMod l = .error (p, e) → e ≠ 0) : parseA bs' = ((parseA bs).1, 0, 0) := by
  have hlen : bs.length ≤ 1048576 := by
    apply Nat.le_of_not_lt
    intro hg
    unfold parseA lexA at h
    rw [if_pos hg, if_pos (by decide)] at h
    cases h
  have p1 := parseA_lex h1 hlen
  have p2 := parseA_lex h2 hl
  have hn : l'.length = l.length := by
    have := congrArg List.length ha
    simpa using this.symm
  rw [p1] at h
  rw [p2, p1]
  rcases hr : itemsP bs.length l.length noMod l with ⟨p, e⟩ | m
  · rw [hr] at h
    exact absurd h (hz p e hr)
  · rw [hn, items_alike hr ha]
    rfl
end Go.Proofs.YtmamgaaeeonfmaaGreatDoor
