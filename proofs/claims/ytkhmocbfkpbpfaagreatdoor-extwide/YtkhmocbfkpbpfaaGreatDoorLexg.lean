/- Runes and bytes; lines. No walk and no program. -/
import Derived.Test.YtkhmocbfkpbpfaaGreatDoorLexp
import Derived.Laws.RangeAny
namespace Go.Proofs.YtkhmocbfkpbpfaaGreatDoor

/-- A string's bytes. -/
def bl (s : ByteArray) : Bs := s.data.toList
theorem bl_len (s : ByteArray) : (bl s).length = s.size := rfl
theorem bl_get (s : ByteArray) (i : Nat) (h : i < s.size) : (bl s)[i]? = some (s.get! i) := by
  unfold bl
  rw [Array.getElem?_toList]
  have h' : i < s.data.size := h
  rw [Array.getElem?_eq_getElem h']
  congr 1
  show s.data[i] = s.data[i]!
  rw [getElem!_pos s.data i h']
theorem bl_drop (s : ByteArray) (i : Nat) (h : i < s.size) : (bl s).drop i = s.get! i :: (bl s).drop (i + 1) := by
  have h' : i < (bl s).length := h
  rw [List.drop_eq_getElem_cons h']
  congr 1
  have := bl_get s i h
  rw [List.getElem?_eq_getElem h'] at this
  exact Option.some.inj this
theorem bl_extract (s : ByteArray) (a b : Nat) : bl (s.extract a b) = ((bl s).drop a).take (b - a) := by
  unfold bl
  rw [ByteArray.data_extract, Array.toList_extract, List.extract_eq_take_drop]
theorem bl_inj {s t : ByteArray} (h : bl s = bl t) : s = t := by
  cases s with
  | mk a =>
    cases t with
    | mk b =>
      congr 1
      exact Array.toList_inj.1 h

/-- What a rune takes: to the text's end at most; behind its first byte only bytes from 128 on. -/
theorem decode_inside (s : ByteArray) (i : Nat) (h : i < s.size) : 1 ≤ (Utf8.decode s i).2 ∧ i + (Utf8.decode s i).2 ≤ s.size ∧ ∀ j, 0 < j → j < (Utf8.decode s i).2 → 128 ≤ (s.get! (i + j)).toNat := by
  simp only [Utf8.decode]
  repeat' split
  all_goals simp only [Bool.and_eq_true, decide_eq_true_eq, beq_iff_eq] at *
  all_goals refine ⟨by omega, by omega, fun j h0 h1 => ?_⟩
  all_goals try omega
  all_goals
    have hj : j = 1 ∨ j = 2 ∨ j = 3 := by omega
    rcases hj with rfl | rfl | rfl <;> omega

theorem tw_step {p : UInt8 → Bool} {s : ByteArray} {i : Nat} (h : i < s.size) (hp : p (s.get! i) = true) : (((bl s).drop i).takeWhile p).length = 1 + (((bl s).drop (i + 1)).takeWhile p).length := by
  rw [bl_drop s i h, List.takeWhile_cons, if_pos hp, List.length_cons]
  omega

/-- A run that no byte from 128 on ends goes over whole runes. -/
theorem tw_rune {p : UInt8 → Bool} (hp : ∀ c : UInt8, 128 ≤ c.toNat → p c = true) {s : ByteArray} {i : Nat} (h : i < s.size) (ha : 128 ≤ (s.get! i).toNat) : (((bl s).drop i).takeWhile p).length = (Utf8.decode s i).2 + (((bl s).drop (i + (Utf8.decode s i).2)).takeWhile p).length := by
  obtain ⟨h1, h2, h3⟩ := decode_inside s i h
  have key : ∀ m, m ≤ (Utf8.decode s i).2 → (((bl s).drop i).takeWhile p).length = m + (((bl s).drop (i + m)).takeWhile p).length := by
    intro m
    induction m with
    | zero => intro _; simp
    | succ m ih =>
      intro hm
      rw [ih (by omega), tw_step (i := i + m) (by omega) ?_, show i + m + 1 = i + (m + 1) by omega]
      · omega
      · by_cases h0 : m = 0
        · subst h0
          exact hp _ ha
        · exact hp _ (h3 m (by omega) (by omega))
  exact key _ (Nat.le_refl _)

/-- The lines of a text. -/
def linesL : Bs → List Bs
  | [] => [[]]
  | c :: r =>
    match linesL r with
    | [] => [[c]]
    | l :: ls => if c == 10 then [] :: l :: ls else (c :: l) :: ls
theorem linesL_ne (bs : Bs) : linesL bs ≠ [] := by
  cases bs with
  | nil => simp [linesL]
  | cons c r =>
    rw [linesL]
    split
    · simp
    · split <;> simp

def lineOK (l : Bs) : Bool := (l.takeWhile (· != 37)).all fun c => c == 32 || c == 9 || c == 13

/-- Blanks and comments alone: each line. -/
theorem emp_lines : ∀ bs : Bs, (emp false bs = (linesL bs).all lineOK) ∧ (emp true bs = (linesL bs).tail.all lineOK)
  | [] => by simp [emp, linesL, lineOK]
  | c :: r => by
    obtain ⟨h1, h2⟩ := emp_lines r
    have hne := linesL_ne r
    rw [linesL]
    split
    · next h => exact absurd h hne
    · next l ls h =>
      rw [h] at h1 h2
      by_cases h10 : (c == 10) = true
      · have e10 : c = 10 := by simpa using h10
        subst e10
        simp [emp, h1, lineOK]
      · have h10' : (c == 10) = false := by simpa using h10
        rw [if_neg h10]
        have e2 : emp true (c :: r) = emp true r := by simp [emp, h10']
        refine ⟨?_, by rw [e2, h2]; rfl⟩
        by_cases h37 : (c == 37) = true
        · have e37 : c = 37 := by simpa using h37
          subst e37
          simp [emp, h2, lineOK]
        · have h37' : (c == 37) = false := by simpa using h37
          have hb : (c != 37) = true := by simp [bne, h37']
          have e3 : lineOK (c :: l) = ((c == 32 || c == 9 || c == 13) && lineOK l) := by
            unfold lineOK
            rw [List.takeWhile_cons, if_pos hb, List.all_cons]
          rw [List.all_cons, e3]
          have e4 : emp false (c :: r) = if (c == 32 || c == 9 || c == 13) = true then emp false r else false := by simp [emp, h10', h37']
          rw [e4, h1, List.all_cons]
          cases (c == 32 || c == 9 || c == 13) <;> simp
end Go.Proofs.YtkhmocbfkpbpfaaGreatDoor

/- Runs and gaps, as lists of bytes: how many bytes a text begins with that may stand between tokens. No walk and no program. -/
namespace Go.Proofs.YtkhmocbfkpbpfaaGreatDoor

def letR (n : Nat) : Bool := (decide (97 ≤ n) && decide (n ≤ 122)) || (decide (65 ≤ n) && decide (n ≤ 90))
def digR (n : Nat) : Bool := decide (48 ≤ n) && decide (n ≤ 57)
def parR (n : Nat) : Bool := letR n || digR n || n == 95
def blaR (n : Nat) : Bool := n == 32 || n == 9 || n == 10 || n == 13
theorem let_byte (c : UInt8) : letterB c = letR c.toNat := rfl
theorem dig_byte (c : UInt8) : digitB c = digR c.toNat := rfl
theorem eq_byte (c d : UInt8) : (c == d) = (c.toNat == d.toNat) := by
  rw [Bool.eq_iff_iff, beq_iff_eq, beq_iff_eq]
  exact ⟨fun h => by rw [h], fun h => UInt8.toNat_inj.1 h⟩
theorem par_byte (c : UInt8) : partB c = parR c.toNat := by
  unfold partB parR
  rw [let_byte, dig_byte, eq_byte]
  rfl
theorem bla_byte (c : UInt8) : blankB c = blaR c.toNat := by
  unfold blankB blaR
  rw [eq_byte, eq_byte, eq_byte, eq_byte]
  rfl
theorem let_hi {n : Nat} (h : 128 ≤ n) : letR n = false := by
  simp only [letR, Bool.or_eq_false_iff, Bool.and_eq_false_iff, decide_eq_false_iff_not]
  omega
theorem dig_hi {n : Nat} (h : 128 ≤ n) : digR n = false := by
  simp only [digR, Bool.and_eq_false_iff, decide_eq_false_iff_not]
  omega
theorem par_hi {n : Nat} (h : 128 ≤ n) : parR n = false := by
  unfold parR
  rw [let_hi h, dig_hi h]
  simp only [Bool.false_or, beq_eq_false_iff_ne]
  omega
theorem bla_hi {n : Nat} (h : 128 ≤ n) : blaR n = false := by
  simp only [blaR, Bool.or_eq_false_iff, beq_eq_false_iff_ne]
  omega

/-- Within a comment behind a byte? -/
def comN (c : Bool) (n : Nat) : Bool := n != 10 && (c || n == 37)
/-- May it stand between tokens? -/
def overN (c : Bool) (n : Nat) : Bool := comN c n || blaR n
/-- How many bytes stand between tokens. -/
def gapN : Bool → Bs → Nat
  | _, [] => 0
  | c, x :: r => if overN c x.toNat then 1 + gapN (comN c x.toNat) r else 0

theorem com_hi {c : Bool} {n : Nat} (h : 128 ≤ n) : comN c n = c := by
  have h1 : (n != 10) = true := by rw [bne_iff_ne]; omega
  have h2 : (n == 37) = false := by rw [beq_eq_false_iff_ne]; omega
  simp [comN, h1, h2]
theorem over_hi {c : Bool} {n : Nat} (h : 128 ≤ n) : overN c n = c := by
  unfold overN
  rw [com_hi h, bla_hi h, Bool.or_false]

theorem gapN_le : ∀ (bs : Bs) (c : Bool), gapN c bs ≤ bs.length
  | [], _ => Nat.le_refl _
  | x :: r, c => by
    rw [gapN]
    split
    · have := gapN_le r (comN c x.toNat)
      simp only [List.length_cons]
      omega
    · exact Nat.zero_le _

theorem gap_step {c : Bool} {s : ByteArray} {i : Nat} (h : i < s.size) (hp : overN c (s.get! i).toNat = true) : gapN c ((bl s).drop i) = 1 + gapN (comN c (s.get! i).toNat) ((bl s).drop (i + 1)) := by
  rw [bl_drop s i h, gapN, if_pos hp]
theorem gap_stop {c : Bool} {s : ByteArray} {i : Nat} (h : i < s.size) (hp : overN c (s.get! i).toNat = false) : gapN c ((bl s).drop i) = 0 := by
  rw [bl_drop s i h, gapN, hp]
  rfl
/-- Within a comment a gap goes over whole runes. -/
theorem gap_rune {s : ByteArray} {i : Nat} (h : i < s.size) (ha : 128 ≤ (s.get! i).toNat) : gapN true ((bl s).drop i) = (Utf8.decode s i).2 + gapN true ((bl s).drop (i + (Utf8.decode s i).2)) := by
  obtain ⟨h1, h2, h3⟩ := decode_inside s i h
  have key : ∀ m, m ≤ (Utf8.decode s i).2 → gapN true ((bl s).drop i) = m + gapN true ((bl s).drop (i + m)) := by
    intro m
    induction m with
    | zero => intro _; simp
    | succ m ih =>
      intro hm
      have hx : 128 ≤ (s.get! (i + m)).toNat := by
        by_cases h0 : m = 0
        · subst h0
          exact ha
        · exact h3 m (by omega) (by omega)
      rw [ih (by omega), gap_step (i := i + m) (by omega) (over_hi hx), com_hi hx, show i + m + 1 = i + (m + 1) by omega]
      omega
  exact key _ (Nat.le_refl _)

theorem get_get (s : ByteArray) (i : Nat) (h : i < s.size) : s[i]'h = s.get! i := (get_at s i h).symm

/-- A rune of one byte. -/
theorem dec_low {s : ByteArray} {i : Nat} (h : i < s.size) (ha : (s.get! i).toNat < 128) : Utf8.decode s i = ((s.get! i).toNat, 1) := by
  have := decode_ascii s i h (by rw [get_get]; exact ha)
  rw [this, get_get]
theorem dec_high {s : ByteArray} {i : Nat} (h : i < s.size) (ha : 128 ≤ (s.get! i).toNat) : 128 ≤ (Utf8.decode s i).1 := (decode_high s i h (by rw [get_get]; exact ha)).1

/-- One rune more of a gap, and what is behind it. -/
theorem gap_on {c : Bool} {s : ByteArray} {i : Nat} (h : i < s.size) (hp : overN c (Utf8.decode s i).1 = true) : gapN c ((bl s).drop i) = (Utf8.decode s i).2 + gapN (comN c (Utf8.decode s i).1) ((bl s).drop (i + (Utf8.decode s i).2)) := by
  by_cases ha : (s.get! i).toNat < 128
  · rw [dec_low h ha] at hp ⊢
    exact gap_step h hp
  · have hh := dec_high h (by omega)
    rw [over_hi hh] at hp
    subst hp
    rw [com_hi hh]
    exact gap_rune h (by omega)
theorem gap_off {c : Bool} {s : ByteArray} {i : Nat} (h : i < s.size) (hp : overN c (Utf8.decode s i).1 = false) : gapN c ((bl s).drop i) = 0 := by
  by_cases ha : (s.get! i).toNat < 128
  · rw [dec_low h ha] at hp
    exact gap_stop h hp
  · rw [over_hi (dec_high h (by omega))] at hp
    subst hp
    exact gap_stop h (over_hi (by omega))

/-- One rune more of a run that no rune from 128 on is in. -/
theorem tw_on {p : Nat → Bool} (hhi : ∀ n, 128 ≤ n → p n = false) {s : ByteArray} {i : Nat} (h : i < s.size) (hp : p (Utf8.decode s i).1 = true) : (Utf8.decode s i).2 = 1 ∧ (((bl s).drop i).takeWhile fun c => p c.toNat).length = 1 + (((bl s).drop (i + 1)).takeWhile fun c => p c.toNat).length := by
  have ha : (s.get! i).toNat < 128 := by
    apply Classical.byContradiction
    intro hn
    rw [hhi _ (dec_high h (by omega))] at hp
    cases hp
  rw [dec_low h ha] at hp ⊢
  exact ⟨rfl, tw_step h hp⟩
theorem tw_off {p : Nat → Bool} (hhi : ∀ n, 128 ≤ n → p n = false) {s : ByteArray} {i : Nat} (h : i < s.size) (hp : p (Utf8.decode s i).1 = false) : (((bl s).drop i).takeWhile fun c => p c.toNat).length = 0 := by
  have hb : p (s.get! i).toNat = false := by
    by_cases ha : (s.get! i).toNat < 128
    · rw [dec_low h ha] at hp
      exact hp
    · exact hhi _ (by omega)
  rw [bl_drop s i h, List.takeWhile_cons, if_neg (by rw [hb]; decide)]
  rfl

theorem over_com (n : Nat) : overN true n = true := by
  unfold overN comN blaR
  by_cases h : n = 10
  · subst h; rfl
  · simp [h]

/-- A gap is passed over. -/
theorem lexL_gap : ∀ (bs : Bs) (p : Nat), lexL bs p = lexL (bs.drop (gapN false bs)) (p + gapN false bs) := by
  have key : ∀ (n : Nat) (bs : Bs), bs.length ≤ n → (∀ p, lexL bs p = lexL (bs.drop (gapN false bs)) (p + gapN false bs)) ∧ (∀ p, lexL (bs.drop (bs.takeWhile (· != 10)).length) (p + (bs.takeWhile (· != 10)).length) = lexL (bs.drop (gapN true bs)) (p + gapN true bs)) := by
    intro n
    induction n with
    | zero =>
      intro bs hn
      obtain rfl : bs = [] := List.length_eq_zero_iff.1 (by omega)
      exact ⟨fun p => rfl, fun p => rfl⟩
    | succ n ih =>
      intro bs hn
      cases bs with
      | nil => exact ⟨fun p => rfl, fun p => rfl⟩
      | cons x r =>
        obtain ⟨i1, i2⟩ := ih r (by simp at hn; omega)
        have h2 : ∀ p, lexL ((x :: r).drop ((x :: r).takeWhile (· != 10)).length) (p + ((x :: r).takeWhile (· != 10)).length) = lexL ((x :: r).drop (gapN true (x :: r))) (p + gapN true (x :: r)) := by
          intro p
          rw [gapN, if_pos (over_com _)]
          by_cases hx : x = 10
          · subst hx
            rw [List.takeWhile_cons, if_neg (by decide)]
            rw [show comN true (10 : UInt8).toNat = false from rfl]
            rw [List.length_nil, List.drop_zero, Nat.add_zero, lexL_blank (by decide), i1]
            rw [show 1 + gapN false r = gapN false r + 1 by omega, List.drop_succ_cons, show p + (gapN false r + 1) = p + 1 + gapN false r by omega]
          · have hb : (x != 10) = true := by simpa using hx
            have hc : comN true x.toNat = true := by
              have : x.toNat ≠ 10 := fun e => hx (UInt8.toNat_inj.1 e)
              simp [comN, this]
            rw [List.takeWhile_cons, if_pos hb, hc, List.length_cons, List.drop_succ_cons, show p + ((r.takeWhile (· != 10)).length + 1) = p + 1 + (r.takeWhile (· != 10)).length by omega, i2]
            rw [show 1 + gapN true r = gapN true r + 1 by omega, List.drop_succ_cons, show p + (gapN true r + 1) = p + 1 + gapN true r by omega]
        refine ⟨fun p => ?_, h2⟩
        by_cases hb : blankB x = true
        · have ho : overN false x.toNat = true := by rw [overN, ← bla_byte, hb, Bool.or_true]
          have hc : comN false x.toNat = false := by
            rw [bla_byte] at hb
            simp only [blaR, Bool.or_eq_true, beq_iff_eq] at hb
            rcases hb with ((h | h) | h) | h <;> rw [h] <;> rfl
          rw [gapN, if_pos ho, hc, lexL_blank hb, i1, show 1 + gapN false r = gapN false r + 1 by omega, List.drop_succ_cons, show p + (gapN false r + 1) = p + 1 + gapN false r by omega]
        · by_cases h37 : x = 37
          · subst h37
            rw [gapN, if_pos (by decide), show comN false (37 : UInt8).toNat = true from rfl]
            rw [lexL_skip (n := 1 + (r.takeWhile (· != 10)).length) (by simp) (by rw [item_cons, if_neg (by decide), if_pos (by decide)])]
            rw [show 1 + (r.takeWhile (· != 10)).length = (r.takeWhile (· != 10)).length + 1 by omega, List.drop_succ_cons, show p + ((r.takeWhile (· != 10)).length + 1) = p + 1 + (r.takeWhile (· != 10)).length by omega, i2]
            rw [show 1 + gapN true r = gapN true r + 1 by omega, List.drop_succ_cons, show p + (gapN true r + 1) = p + 1 + gapN true r by omega]
          · have ho : overN false x.toNat = false := by
              have h1 : blaR x.toNat = false := by rw [← bla_byte]; simpa using hb
              have h2 : (x.toNat == 37) = false := by
                rw [beq_eq_false_iff_ne]
                exact fun e => h37 (UInt8.toNat_inj.1 e)
              simp [overN, comN, h1, h2]
            rw [gapN, ho]
            rfl
  exact fun bs p => (key bs.length bs (Nat.le_refl _)).1 p

/-- Behind a gap there is none. -/
theorem gap_none : ∀ (bs : Bs) (c : Bool), gapN false (bs.drop (gapN c bs)) = 0
  | [], _ => by simp [gapN]
  | x :: r, c => by
    rw [gapN]
    split
    · rw [Nat.add_comm, List.drop_succ_cons]
      exact gap_none r _
    · next h =>
      rw [List.drop_zero, gapN, if_neg]
      intro h'
      apply h
      cases c
      · exact h'
      · exact over_com _

/-- Where no gap is there is no skip. -/
theorem no_skip {bs : Bs} (h : bs ≠ []) (hg : gapN false bs = 0) : ∀ n, item bs ≠ .skip n := by
  intro n hi
  rcases skip_of h hi with ⟨c, r, rfl, hc, -⟩ | ⟨q, r, rfl, -⟩
  · rw [gapN, if_pos (by rw [overN, ← bla_byte, hc, Bool.or_true])] at hg
    omega
  · rw [gapN, if_pos (by decide)] at hg
    omega
end Go.Proofs.YtkhmocbfkpbpfaaGreatDoor
