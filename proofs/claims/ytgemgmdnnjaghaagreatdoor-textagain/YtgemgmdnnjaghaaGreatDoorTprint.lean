/- Tokens of texts that are put together: pure. -/
import Derived.Test.YtgemgmdnnjaghaaGreatDoorPblankm
import Derived.Test.YtgemgmdnnjaghaaGreatDoorPcatch2
import Derived.Lib.ItoaNum
import Derived.Lib.Join
namespace Go.Proofs.YtgemgmdnnjaghaaGreatDoor
open Go.RowKit

abbrev tW (b : Bs) : Tok := ⟨1, b, 0, 0⟩
abbrev tS (c : UInt8) : Tok := ⟨3, [c], 0, 0⟩
abbrev tD : Tok := ⟨3, [46, 46], 0, 0⟩
abbrev tN (n : Int) : Tok := ⟨2, Lib.itoa n, n, 0⟩
/-- A text's tokens, without their places. -/
def LexE (bs : Bs) (ts : List Tok) : Prop := ∀ p, ∃ l, lexL bs p = .ok l ∧ eraL l = ts
theorem LexE.nil : LexE [] [] := fun p => ⟨[], lexL_nil p, rfl⟩
theorem LexE.tok {k : Nat} {v : Int} {T Y : Bs} {ts : List Tok} (hi : item (T ++ Y) = .tok k T.length v) (hne : T ≠ []) (h : LexE Y ts) : LexE (T ++ Y) (⟨k, T, v, 0⟩ :: ts) := by
  intro p
  obtain ⟨l, h1, h2⟩ := h (p + T.length)
  refine ⟨⟨k, T, v, p⟩ :: l, ?_, by rw [eraL_cons, h2]⟩
  rw [lexL_tok (by simp [hne]) hi, List.drop_left, List.take_left, h1]
  rfl
theorem LexE.sign {c : UInt8} (hc : signB c = true) {Y : Bs} {ts : List Tok} (h : LexE Y ts) : LexE (c :: Y) (tS c :: ts) :=
  LexE.tok (T := [c]) (item_sign hc Y) (by simp) h
theorem LexE.dots {Y : Bs} {ts : List Tok} (h : LexE Y ts) : LexE (46 :: 46 :: Y) (tD :: ts) :=
  LexE.tok (T := [46, 46]) (by rfl) (by simp) h
theorem LexE.blank {c : UInt8} (hc : blankB c = true) {Y : Bs} {ts : List Tok} (h : LexE Y ts) : LexE (c :: Y) ts := by
  intro p
  rw [lexL_blank hc]
  exact h (p + 1)
/-- A word, and what cannot be a part of it. -/
def wordB (w : Bs) : Prop := ∃ c r, w = c :: r ∧ letterB c = true ∧ ∀ x ∈ r, partB x = true
theorem item_word {w : Bs} (hw : wordB w) {a : UInt8} (ha : partB a = false) (Y : Bs) : item (w ++ a :: Y) = .tok 1 w.length 0 := by
  obtain ⟨c, r, rfl, hc, hr⟩ := hw
  obtain ⟨h1, h2⟩ := letter_not hc
  rw [List.cons_append, item_cons, if_neg (by rw [h1]; decide), if_neg (by rw [h2]; decide), if_pos hc, wordN_cons, if_pos hc, tw_stop hr ha, List.length_cons, Nat.add_comm]
theorem LexE.word {w : Bs} (hw : wordB w) {a : UInt8} (ha : partB a = false) {Y : Bs} {ts : List Tok} (h : LexE (a :: Y) ts) : LexE (w ++ a :: Y) (tW w :: ts) :=
  LexE.tok (item_word hw ha Y) (by obtain ⟨c, r, rfl, _⟩ := hw; simp) h
theorem name_word {w : Bs} (h : nameB w = true) : wordB w := by
  unfold nameB at h
  simp only [Bool.and_eq_true, decide_eq_true_eq, beq_iff_eq] at h
  obtain ⟨⟨h1, h2⟩, h3⟩ := h
  cases w with
  | nil => simp [wordN] at h1
  | cons c r =>
    rw [wordN_cons] at h1 h2
    split at h1
    · next hc =>
      rw [if_pos hc, List.length_cons] at h2
      refine ⟨c, r, rfl, hc, fun x hx => ?_⟩
      have : r.takeWhile partB = r := by
        have hl : (r.takeWhile partB).length = r.length := by omega
        have h4 := tw_take (p := partB) r
        rw [hl, List.take_length] at h4
        exact h4.symm
      rw [← this] at hx
      exact tw_all _ _ x hx
    · omega

/-! Numbers. -/
theorem dd_step {u : Nat} (h : ¬ u < 10) : Lib.decDigits u = Lib.decDigits (u / 10) ++ [UInt8.ofNat (48 + u % 10)] := by
  rw [Lib.decDigits, dif_neg h]
theorem dig_of {d : Nat} (h : d < 10) : digitB (UInt8.ofNat (48 + d)) = true ∧ (UInt8.ofNat (48 + d)).toNat = 48 + d := by
  have e : (UInt8.ofNat (48 + d)).toNat = 48 + d := by
    rw [UInt8.toNat_ofNat']
    omega
  refine ⟨?_, e⟩
  unfold digitB
  rw [e]
  simp
  omega
theorem dd_digits : ∀ (u : Nat), ∀ x ∈ Lib.decDigits u, digitB x = true := by
  intro u
  induction u using Nat.strongRecOn with
  | _ u ih =>
    intro x hx
    by_cases h : u < 10
    · rw [Lib.decDigits_one h] at hx
      have : x = UInt8.ofNat (48 + u) := by simpa using hx
      rw [this]
      exact (dig_of h).1
    · rw [dd_step h] at hx
      rcases List.mem_append.1 hx with hx | hx
      · exact ih (u / 10) (by omega) x hx
      · have : x = UInt8.ofNat (48 + u % 10) := by simpa using hx
        rw [this]
        exact (dig_of (Nat.mod_lt _ (by decide))).1
theorem dd_ne (u : Nat) : Lib.decDigits u ≠ [] := by
  by_cases h : u < 10
  · rw [Lib.decDigits_one h]; simp
  · rw [dd_step h]; simp
theorem val_snoc (l : Bs) (d : UInt8) : valOf (l ++ [d]) = 10 * valOf l + (d.toNat : Int) - 48 := by
  unfold valOf
  rw [List.foldl_append]
  rfl
theorem dd_val : ∀ (u : Nat), valOf (Lib.decDigits u) = (u : Int) := by
  intro u
  induction u using Nat.strongRecOn with
  | _ u ih =>
    by_cases h : u < 10
    · rw [Lib.decDigits_one h, show [UInt8.ofNat (48 + u)] = [] ++ [UInt8.ofNat (48 + u)] from rfl, val_snoc, (dig_of h).2]
      show 10 * valOf [] + _ - 48 = _
      rw [show valOf [] = 0 from rfl]
      omega
    · rw [dd_step h, val_snoc, ih (u / 10) (by omega), (dig_of (Nat.mod_lt _ (by decide))).2]
      omega
theorem dd_len : ∀ (k u : Nat), u < 10 ^ (k + 1) → (Lib.decDigits u).length ≤ k + 1 := by
  intro k
  induction k with
  | zero =>
    intro u h
    rw [Lib.decDigits_one (by simpa using h)]
    simp
  | succ k ih =>
    intro u h
    by_cases h1 : u < 10
    · rw [Lib.decDigits_one h1]
      simp
    · rw [dd_step h1, List.length_append]
      have := ih (u / 10) (by rw [Nat.pow_succ] at h; omega)
      simp only [List.length_singleton]
      omega
theorem dd_head : ∀ (u : Nat), 1 ≤ u → (Lib.decDigits u).head? ≠ some 48 := by
  intro u
  induction u using Nat.strongRecOn with
  | _ u ih =>
    intro h1
    by_cases h : u < 10
    · rw [Lib.decDigits_one h]
      intro e
      have e2 : UInt8.ofNat (48 + u) = 48 := by simpa using e
      have e3 := (dig_of h).2
      rw [e2] at e3
      have : (48 : UInt8).toNat = 48 := rfl
      omega
    · rw [dd_step h]
      have := ih (u / 10) (by omega) (by omega)
      cases hd : Lib.decDigits (u / 10) with
      | nil => exact absurd hd (dd_ne _)
      | cons a b =>
        rw [hd] at this
        simpa using this
theorem dig_part {a : UInt8} (h : partB a = false) : digitB a = false := by
  unfold partB at h
  simp only [Bool.or_eq_false_iff] at h
  exact h.1.2
theorem dig_not {c : UInt8} (h : digitB c = true ∨ c = 45) : blankB c = false ∧ (c == 37) = false ∧ letterB c = false := by
  rcases h with h | rfl
  · have h2 : digR c.toNat = true := by rw [← dig_byte]; exact h
    unfold digR at h2
    simp only [Bool.and_eq_true, decide_eq_true_eq] at h2
    rw [bla_byte, eq_byte, let_byte]
    have e : (37 : UInt8).toNat = 37 := rfl
    rw [e]
    refine ⟨?_, ?_, ?_⟩
    · unfold blaR
      simp only [Bool.or_eq_false_iff, beq_eq_false_iff_ne, ne_eq]
      omega
    · simp only [beq_eq_false_iff_ne, ne_eq]
      omega
    · unfold letR
      simp only [Bool.or_eq_false_iff, Bool.and_eq_false_iff, decide_eq_false_iff_not]
      omega
  · decide
/-- A number, as the library writes it, is a token. -/
theorem item_num {n : Int} (h1 : -9999999999 ≤ n) (h2 : n ≤ 9999999999) {a : UInt8} (ha : digitB a = false) (Y : Bs) : item (Lib.itoa n ++ a :: Y) = .tok 2 (Lib.itoa n).length n := by
  obtain ⟨m, u, hm, hu, hn, hu10, hmu⟩ : ∃ (m : Bs) (u : Nat), (m = [] ∨ m = [45]) ∧ Lib.itoa n = m ++ Lib.decDigits u ∧ n = (if m.length == 1 then -1 else 1) * (u : Int) ∧ u < 10 ^ (9 + 1) ∧ (m = [45] → 1 ≤ u) := by
    unfold Lib.itoa
    by_cases hneg : n < 0
    · refine ⟨[45], n.natAbs, .inr rfl, by rw [if_pos hneg]; rfl, ?_, ?_, fun _ => by omega⟩
      · simp; omega
      · simp; omega
    · refine ⟨[], n.toNat, .inl rfl, by rw [if_neg hneg]; rfl, ?_, ?_, fun e => by cases e⟩
      · simp; omega
      · simp; omega
  obtain ⟨d1, d2⟩ := digits_stop (r := Y) hm (dd_digits u) (dd_ne u) ha
  rw [← hu] at d1 d2
  have hlen := dd_len 9 u hu10
  have hhd := dd_head u
  have hbad : numBad (Lib.itoa n ++ a :: Y) = false := by
    unfold numBad
    rw [d2, d1]
    have e1 : decide (10 < (Lib.decDigits u).length) = false := by simp; omega
    have e2 : (decide (1 < (Lib.decDigits u).length) && (Lib.decDigits u).head? == some 48) = false := by
      by_cases h0 : 1 ≤ u
      · have := hhd h0
        simp [this]
      · have : u = 0 := by omega
        subst this
        rw [Lib.decDigits_one (by decide)]
        rfl
    have e3 : (m.length == 1 && (Lib.decDigits u).length == 1 && (Lib.decDigits u).head? == some 48) = false := by
      rcases hm with rfl | rfl
      · rfl
      · have := hhd (hmu rfl)
        simp [this]
    rw [e1, e2, e3]
    rfl
  have hval : numVal (Lib.itoa n ++ a :: Y) = n := by
    unfold numVal
    rw [d2, d1, dd_val]
    exact hn.symm
  obtain ⟨x, t, hx, hxc⟩ : ∃ x t, Lib.itoa n ++ a :: Y = x :: t ∧ (digitB x = true ∨ x = 45) := by
    rw [hu]
    rcases hm with rfl | rfl
    · cases hd : Lib.decDigits u with
      | nil => exact absurd hd (dd_ne u)
      | cons x t => exact ⟨x, t ++ a :: Y, rfl, .inl (dd_digits u x (by rw [hd]; simp))⟩
    · exact ⟨45, Lib.decDigits u ++ a :: Y, rfl, .inr rfl⟩
  obtain ⟨n1, n2, n3⟩ := dig_not hxc
  rw [hx] at d1 d2 hbad hval ⊢
  have hl0 : ((Lib.decDigits u).length != 0) = true := by
    have := dd_ne u
    simpa using this
  rw [item_cons, if_neg (by rw [n1]; decide), if_neg (by rw [n2]; decide), if_neg (by rw [n3]; decide), d2, if_pos hl0, hbad, if_neg (by decide), d1, hval, hu, List.length_append]
theorem LexE.num {n : Int} (h1 : -9999999999 ≤ n) (h2 : n ≤ 9999999999) {a : UInt8} (ha : partB a = false) {Y : Bs} {ts : List Tok} (h : LexE (a :: Y) ts) : LexE (Lib.itoa n ++ a :: Y) (tN n :: ts) :=
  LexE.tok (item_num h1 h2 (dig_part ha) Y) (by
    unfold Lib.itoa
    split
    · simp
    · exact dd_ne _) h
/-- A piece: its bytes and its tokens, whatever stands behind it that is no part of a word. -/
def Piece (b : Bs) (k : List Tok) : Prop := ∀ (a : UInt8) (Y : Bs) (ts : List Tok), partB a = false → LexE (a :: Y) ts → LexE (b ++ a :: Y) (k ++ ts)
theorem Piece.word {w : Bs} (hw : wordB w) : Piece w [tW w] := fun _ _ _ ha h => LexE.word hw ha h
theorem Piece.num {n : Int} (h1 : -9999999999 ≤ n) (h2 : n ≤ 9999999999) : Piece (Lib.itoa n) [tN n] := fun _ _ _ ha h => LexE.num h1 h2 ha h
/-- Joined by one sign. -/
def cj {β : Type} (s : β) : List (List β) → List β
  | [] => []
  | a :: rs => a ++ (rs.map (s :: ·)).flatten
theorem join_cj (ls : List Bs) : Lib.join ls [44] = cj 44 ls := by
  cases ls with
  | nil => rfl
  | cons a rs =>
    rw [Lib.join_cons]
    unfold cj Lib.joinTail
    rfl
theorem tail_piece {α : Type} (b : α → Bs) (k : α → List Tok) {last : UInt8} (hl : signB last = true) (hp : partB last = false) : ∀ (l : List α), (∀ x ∈ l, Piece (b x) (k x)) → ∀ (Y : Bs) (ts : List Tok), LexE Y ts → LexE (((l.map b).map (44 :: ·)).flatten ++ last :: Y) (((l.map k).map (tS 44 :: ·)).flatten ++ tS last :: ts)
  | [], _, Y, ts, h => by simpa using LexE.sign hl h
  | x :: l, hx, Y, ts, h => by
    have ih := tail_piece b k hl hp l (fun y hy => hx y (by simp [hy])) Y ts h
    simp only [List.map_cons, List.flatten_cons, List.cons_append, List.append_assoc]
    apply LexE.sign (by decide)
    cases l with
    | nil => exact hx x (by simp) last Y _ hp (by simpa using ih)
    | cons y l =>
      simp only [List.map_cons, List.flatten_cons, List.cons_append, List.append_assoc] at ih ⊢
      exact hx x (by simp) 44 _ _ (by decide) ih
theorem list_piece {α : Type} (b : α → Bs) (k : α → List Tok) {first last : UInt8} (hf : signB first = true) (hl : signB last = true) (hp : partB last = false) (l : List α) (hx : ∀ x ∈ l, Piece (b x) (k x)) (Y : Bs) (ts : List Tok) (h : LexE Y ts) : LexE (first :: (cj 44 (l.map b) ++ last :: Y)) (tS first :: (cj (tS 44) (l.map k) ++ tS last :: ts)) := by
  apply LexE.sign hf
  cases l with
  | nil => simpa [cj] using LexE.sign hl h
  | cons x l =>
    have ht := tail_piece b k hl hp l (fun y hy => hx y (by simp [hy])) Y ts h
    simp only [cj, List.map_cons, List.append_assoc]
    cases l with
    | nil => exact hx x (by simp) last Y _ hp (by simpa using ht)
    | cons y l =>
      simp only [List.map_cons, List.flatten_cons, List.cons_append, List.append_assoc] at ht ⊢
      exact hx x (by simp) 44 _ _ (by decide) ht
/-- A list in brackets, as bytes and as tokens. -/
def brT (first last : UInt8) (bs : List Bs) : Bs := first :: (cj 44 bs ++ [last])
def brK (first last : UInt8) (ks : List (List Tok)) : List Tok := tS first :: (cj (tS 44) ks ++ [tS last])
theorem Piece.br {α : Type} (b : α → Bs) (k : α → List Tok) {first last : UInt8} (hf : signB first = true) (hl : signB last = true) (hp : partB last = false) (l : List α) (hx : ∀ x ∈ l, Piece (b x) (k x)) : Piece (brT first last (l.map b)) (brK first last (l.map k)) := by
  intro a Y ts ha h
  have := list_piece b k hf hl hp l hx (a :: Y) ts h
  unfold brT brK
  simpa using this
end Go.Proofs.YtgemgmdnnjaghaaGreatDoor

/- The text of a model, and that it is read again: pure. -/
namespace Go.Proofs.YtgemgmdnnjaghaaGreatDoor
open Go.RowKit

theorem tfound_out {k : Int} (h : k < 1 ∨ 23 < k) : foundF (kindP k) = (noEnt, false) := by
  have : ents.find? (kindP k) = none := by
    rw [List.find?_eq_none]
    intro e he
    have hall : ents.all (fun e => decide (1 ≤ e.k) && decide (e.k ≤ 23)) = true := by kernel_rfl
    have := List.all_eq_true.1 hall e he
    simp only [Bool.and_eq_true, decide_eq_true_eq] at this
    unfold kindP
    simp
    omega
  unfold foundF
  rw [this]

theorem tfound_all : ((List.range 23).map fun k : Nat => foundF (kindP ((k + 1 : Nat) : Int))) = (List.range 23).map fun k => (ents.getD k noEnt, true) := by kernel_rfl
theorem tfound_in {k : Nat} (h : k < 23) : foundF (kindP ((k + 1 : Nat) : Int)) = (ents.getD k noEnt, true) := List.map_inj_left.1 tfound_all k (List.mem_range.2 h)

def nmV (names : List Bs) (v : Int) : Bs := names.getD v.toNat []
def rowT (l : List Int) : Bs := brT 91 93 (l.map Lib.itoa)
def rowK (l : List Int) : List Tok := brK 91 93 (l.map fun n => [tN n])
def plT (names : List Bs) (l : List Int) : Bs := brT 91 93 (l.map (nmV names))
def plK (names : List Bs) (l : List Int) : List Tok := brK 91 93 (l.map fun v => [tW (nmV names v)])
def rwsT (R : List (List Int)) : Bs := brT 91 93 (R.map rowT)
def rwsK (R : List (List Int)) : List Tok := brK 91 93 (R.map rowK)
def partT (names : List Bs) (c : ConL) (b : UInt8) (nx : Nat) : Bs :=
  if b = 118 then nmV names (c.A.getD nx 0)
  else if b = 119 then nmV names (c.B.getD 0 0)
  else if b = 86 then plT names c.A
  else if b = 87 then plT names c.B
  else if b = 99 then rowT c.C
  else if b = 100 then rowT c.D
  else if b = 101 then rowT c.E
  else if b = 114 then rwsT c.rows
  else Lib.itoa c.K
def partK (names : List Bs) (c : ConL) (b : UInt8) (nx : Nat) : List Tok :=
  if b = 118 then [tW (nmV names (c.A.getD nx 0))]
  else if b = 119 then [tW (nmV names (c.B.getD 0 0))]
  else if b = 86 then plK names c.A
  else if b = 87 then plK names c.B
  else if b = 99 then rowK c.C
  else if b = 100 then rowK c.D
  else if b = 101 then rowK c.E
  else if b = 114 then rwsK c.rows
  else [tN c.K]
def nxt (b : UInt8) (nx : Nat) : Nat := if b = 118 then nx + 1 else nx
def partsT (names : List Bs) (c : ConL) : Nat → List UInt8 → List Bs
  | _, [] => []
  | nx, b :: sh => partT names c b nx :: partsT names c (nxt b nx) sh
def partsK (names : List Bs) (c : ConL) : Nat → List UInt8 → List (List Tok)
  | _, [] => []
  | nx, b :: sh => partK names c b nx :: partsK names c (nxt b nx) sh
def entOf (c : ConL) : Ent := (foundF (kindP c.kind)).1
def conT (names : List Bs) (c : ConL) : Bs := [99, 111, 110, 115, 116, 114, 97, 105, 110, 116, 32] ++ (entOf c).word ++ brT 40 41 (partsT names c 0 (entOf c).shape) ++ [59]
def conK (names : List Bs) (c : ConL) : List Tok := tW [99, 111, 110, 115, 116, 114, 97, 105, 110, 116] :: tW (entOf c).word :: (brK 40 41 (partsK names c 0 (entOf c).shape) ++ [tS 59])
/-- Has a rising list all between its least and its greatest? -/
def allB (d : List Int) : Bool := d.getD (d.length - 1) 0 - d.getD 0 0 == (d.length : Int) - 1
def domT (d : List Int) : Bs := if allB d = true then Lib.itoa (d.getD 0 0) ++ [46, 46] ++ Lib.itoa (d.getD (d.length - 1) 0) else brT 123 125 (d.map Lib.itoa)
def domK (d : List Int) : List Tok := if allB d = true then [tN (d.getD 0 0), tD, tN (d.getD (d.length - 1) 0)] else brK 123 125 (d.map fun n => [tN n])
def varT (p : Bs × List Int) : Bs := [118, 97, 114, 32] ++ domT p.2 ++ [58, 32] ++ p.1 ++ [59]
def varK (p : Bs × List Int) : List Tok := tW [118, 97, 114] :: (domK p.2 ++ [tS 58, tW p.1, tS 59])
def goalT (m : ModL) : Bs := if m.goal = 1 then [115, 111, 108, 118, 101, 32, 109, 105, 110, 105, 109, 105, 122, 101, 32] ++ nmV m.names m.obj ++ [59]
  else if m.goal = 2 then [115, 111, 108, 118, 101, 32, 109, 97, 120, 105, 109, 105, 122, 101, 32] ++ nmV m.names m.obj ++ [59]
  else [115, 111, 108, 118, 101, 32, 115, 97, 116, 105, 115, 102, 121, 59]
def goalK (m : ModL) : List Tok := if m.goal = 1 then [tW [115, 111, 108, 118, 101], tW [109, 105, 110, 105, 109, 105, 122, 101], tW (nmV m.names m.obj), tS 59]
  else if m.goal = 2 then [tW [115, 111, 108, 118, 101], tW [109, 97, 120, 105, 109, 105, 122, 101], tW (nmV m.names m.obj), tS 59]
  else [tW [115, 111, 108, 118, 101], tW [115, 97, 116, 105, 115, 102, 121], tS 59]
def linesT (m : ModL) : List Bs := (m.names.zip m.doms).map varT ++ (m.cons.map (conT m.names) ++ [goalT m])
def linesK (m : ModL) : List (List Tok) := (m.names.zip m.doms).map varK ++ (m.cons.map (conK m.names) ++ [goalK m])
/-- What Print tells of a model that may be. -/
def printT (m : ModL) : Bs := ((linesT m).map (· ++ [10])).flatten
def printK (m : ModL) : List Tok := (linesK m).flatten

/-! What a model that may be has. -/
structure ConOK (n : Nat) (c : ConL) : Prop where
  kind : ∃ k : Nat, k < 23 ∧ c.kind = ((k + 1 : Nat) : Int)
  pa : ∀ v ∈ c.A, 0 ≤ v ∧ v < (n : Int)
  pb : ∀ v ∈ c.B, 0 ≤ v ∧ v < (n : Int)
  pc : ∀ v ∈ c.C, -9999999999 ≤ v ∧ v ≤ 9999999999
  pd : ∀ v ∈ c.D, -9999999999 ≤ v ∧ v ≤ 9999999999
  pe : ∀ v ∈ c.E, -9999999999 ≤ v ∧ v ≤ 9999999999
  pk : -9999999999 ≤ c.K ∧ c.K ≤ 9999999999
  pr : ∀ l ∈ c.rows, ∀ v ∈ l, -9999999999 ≤ v ∧ v ≤ 9999999999
  size : sizesB c ⟨(entOf c).shape.toArray⟩ = true
  right : rightE c (n : Int) = 0
theorem any_out {l : List Int} {lo hi : Int} (h : l.any (outB lo hi) = false) (h1 : -9999999999 ≤ lo) (h2 : hi ≤ 9999999999) : ∀ v ∈ l, -9999999999 ≤ v ∧ v ≤ 9999999999 := by
  intro v hv
  have := List.any_eq_false.1 h v hv
  unfold outB at this
  simp only [Bool.or_eq_true, decide_eq_true_eq, not_or] at this
  omega
theorem any_place {l : List Int} {n : Nat} (h : l.any (outV (n : Int)) = false) : ∀ v ∈ l, 0 ≤ v ∧ v < (n : Int) := by
  intro v hv
  have := List.any_eq_false.1 h v hv
  unfold outV at this
  simp only [Bool.or_eq_true, decide_eq_true_eq, not_or] at this
  omega
theorem con_ok {n : Nat} {c : ConL} (h : rightE c (n : Int) = 0) : ConOK n c := by
  have h0 := h
  unfold rightE at h
  split at h
  · cases h
  · next h1 =>
    split at h
    · cases h
    · next h2 =>
      split at h
      · cases h
      · next h3 =>
        split at h
        · cases h
        · next h4 =>
          have h3' : c.A.any (outV n) = false ∧ c.B.any (outV n) = false := by simpa using h3
          have h4' : numsB c = true := by simpa using h4
          unfold numsB at h4'
          simp only [Bool.and_eq_true, Bool.not_eq_true'] at h4'
          obtain ⟨⟨⟨⟨⟨n1, n2⟩, n3⟩, n4⟩, n5⟩, -⟩ := h4'
          have lC : -9999999999 ≤ lowC c := by unfold lowC; split <;> omega
          have lK : -9999999999 ≤ lowK c := by unfold lowK; split <;> omega
          refine ⟨?_, any_place h3'.1, any_place h3'.2, any_out n1 lC (by omega), any_out n2 (by omega) (by omega), any_out n3 (by omega) (by omega), ?_, fun l hl => ?_, (by unfold entOf; simpa using h2), h0⟩
          · by_cases hk : c.kind < 1 ∨ 23 < c.kind
            · rw [tfound_out hk] at h1
              exact absurd rfl h1
            · exact ⟨(c.kind - 1).toNat, by omega, by omega⟩
          · unfold outB at n4
            simp only [Bool.or_eq_false_iff, decide_eq_false_iff_not] at n4
            omega
          · have := List.any_eq_false.1 n5 l hl
            exact any_out (by simpa using this) (by omega) (by omega)
structure ModOK (m : ModL) : Prop where
  len : m.names.length = m.doms.length
  n256 : m.names.length ≤ 256
  c1024 : m.cons.length ≤ 1024
  may : ∀ b ∈ m.names, mayNameB b = true
  nodup : m.names.Nodup
  dom : ∀ d ∈ m.doms, mayListB d = true
  con : ∀ c ∈ m.cons, ConOK m.names.length c
  goal : goalB m = true
theorem mod_ok {m : ModL} (h : checkE m = (-1, 0)) : ModOK m := by
  unfold checkE at h
  split at h
  · cases h
  · next h1 =>
    split at h
    · cases h
    · next h2 =>
      split at h
      · next h3 => injection h with h h'; exact absurd h' h3
      · next h3 =>
        have h3' : firstE (varE m) m.names.length = 0 := by simpa using h3
        have hv : ∀ i, i < m.names.length → varE m i = 0 := by
          intro i
          induction i using Nat.strongRecOn with
          | _ i ih =>
            intro hi
            apply Classical.byContradiction
            intro hne
            rw [firstE_at hi (fun j hj => ih j hj (by omega)) hne] at h3'
            exact hne h3'
        have hnil : firstP (conE m) m.cons.length = none := by
          cases hp : firstP (conE m) m.cons.length with
          | none => rfl
          | some ie =>
            rw [hp] at h
            obtain ⟨i, e⟩ := ie
            injection h with ha hb
            omega
        rw [hnil] at h
        have hc : ∀ i, i < m.cons.length → conE m i = 0 := by
          intro i
          induction i using Nat.strongRecOn with
          | _ i ih =>
            intro hi
            apply Classical.byContradiction
            intro hne
            rw [firstP_at hi (fun j hj => ih j hj (by omega)) hne] at hnil
            cases hnil
        have hl : m.names.length = m.doms.length := by omega
        have part : ∀ i, i < m.names.length → mayNameB (m.names.getD i []) = true ∧ (m.names.take i).any (· == m.names.getD i []) = false ∧ mayListB (m.doms.getD i []) = true := by
          intro i hi
          have := hv i hi
          unfold varE at this
          split at this
          · cases this
          · next a =>
            split at this
            · cases this
            · next b =>
              split at this
              · cases this
              · next c => exact ⟨by simpa using a, Bool.eq_false_iff.2 b, by simpa using c⟩
        refine ⟨hl, by omega, by omega, fun b hb => ?_, ?_, fun d hd => ?_, fun c hc' => ?_, ?_⟩
        · obtain ⟨i, hi, rfl⟩ := List.getElem_of_mem hb
          have := (part i hi).1
          rwa [List.getD_eq_getElem?_getD, List.getElem?_eq_getElem hi] at this
        · refine List.pairwise_iff_getElem.2 fun i j hi hj hij => ?_
          have := (part j hj).2.1
          rw [List.getD_eq_getElem?_getD, List.getElem?_eq_getElem hj] at this
          have h5 := List.any_eq_false.1 this m.names[i] (List.mem_take_iff_getElem.2 ⟨i, by omega, rfl⟩)
          simpa using h5
        · obtain ⟨i, hi, rfl⟩ := List.getElem_of_mem hd
          have := (part i (by omega)).2.2
          rwa [List.getD_eq_getElem?_getD, List.getElem?_eq_getElem hi] at this
        · obtain ⟨i, hi, rfl⟩ := List.getElem_of_mem hc'
          have := hc i hi
          unfold conE at this
          rw [List.getD_eq_getElem?_getD, List.getElem?_eq_getElem hi] at this
          exact con_ok this
        · cases hg : goalB m with
          | true => rfl
          | false => rw [hg, if_pos rfl] at h; cases h

/-! Its tokens. -/
theorem nm_word {names : List Bs} (hm : ∀ b ∈ names, mayNameB b = true) {v : Int} (h0 : 0 ≤ v) (h1 : v < (names.length : Int)) : nmV names v ∈ names ∧ wordB (nmV names v) := by
  have hv : v.toNat < names.length := by omega
  have hin : nmV names v ∈ names := by
    unfold nmV
    rw [List.getD_eq_getElem?_getD, List.getElem?_eq_getElem hv]
    exact List.getElem_mem hv
  refine ⟨hin, ?_⟩
  have := hm _ hin
  unfold mayNameB at this
  simp only [Bool.and_eq_true] at this
  exact name_word this.2
theorem Piece.row {l : List Int} (h : ∀ v ∈ l, -9999999999 ≤ v ∧ v ≤ 9999999999) : Piece (rowT l) (rowK l) :=
  Piece.br Lib.itoa (fun n => [tN n]) (by decide) (by decide) (by decide) l fun v hv => Piece.num (h v hv).1 (h v hv).2
theorem Piece.pl {names : List Bs} (hm : ∀ b ∈ names, mayNameB b = true) {l : List Int} (h : ∀ v ∈ l, 0 ≤ v ∧ v < (names.length : Int)) : Piece (plT names l) (plK names l) :=
  Piece.br (nmV names) (fun v => [tW (nmV names v)]) (by decide) (by decide) (by decide) l fun v hv => Piece.word (nm_word hm (h v hv).1 (h v hv).2).2
theorem Piece.rows {R : List (List Int)} (h : ∀ l ∈ R, ∀ v ∈ l, -9999999999 ≤ v ∧ v ≤ 9999999999) : Piece (rwsT R) (rwsK R) :=
  Piece.br rowT rowK (by decide) (by decide) (by decide) R fun l hl => Piece.row (h l hl)
/-- A part that a shape may name at some count of variables. -/
def PartAt (c : ConL) (b : UInt8) (nx : Nat) : Prop := (b = 118 → nx < c.A.length) ∧ (b = 119 → 0 < c.B.length)
theorem at_mem {l : List Int} {i : Nat} (h : i < l.length) : l.getD i 0 ∈ l := by
  rw [List.getD_eq_getElem?_getD, List.getElem?_eq_getElem h]
  exact List.getElem_mem h
theorem Piece.part {names : List Bs} {c : ConL} (hm : ∀ b ∈ names, mayNameB b = true) (h : ConOK names.length c) {b : UInt8} {nx : Nat} (hp : PartAt c b nx) : Piece (partT names c b nx) (partK names c b nx) := by
  unfold partT partK
  split
  · next e => have := h.pa _ (at_mem (hp.1 e)); exact Piece.word (nm_word hm this.1 this.2).2
  split
  · next e => have := h.pb _ (at_mem (hp.2 e)); exact Piece.word (nm_word hm this.1 this.2).2
  split
  · exact Piece.pl hm h.pa
  split
  · exact Piece.pl hm h.pb
  split
  · exact Piece.row h.pc
  split
  · exact Piece.row h.pd
  split
  · exact Piece.row h.pe
  split
  · exact Piece.rows h.pr
  exact Piece.num h.pk.1 h.pk.2
/-- All parts of a shape from one on. -/
def PartsAt (c : ConL) : Nat → List UInt8 → Prop
  | _, [] => True
  | nx, b :: sh => PartAt c b nx ∧ PartsAt c (nxt b nx) sh
theorem parts_tail {names : List Bs} {c : ConL} (hm : ∀ b ∈ names, mayNameB b = true) (h : ConOK names.length c) : ∀ (sh : List UInt8) (nx : Nat), PartsAt c nx sh → ∀ (Y : Bs) (ts : List Tok), LexE Y ts → LexE (((partsT names c nx sh).map (44 :: ·)).flatten ++ 41 :: Y) (((partsK names c nx sh).map (tS 44 :: ·)).flatten ++ tS 41 :: ts)
  | [], _, _, Y, ts, hY => by simpa [partsT, partsK] using LexE.sign (by decide) hY
  | b :: sh, nx, hp, Y, ts, hY => by
    have ih := parts_tail hm h sh (nxt b nx) hp.2 Y ts hY
    simp only [partsT, partsK, List.map_cons, List.flatten_cons, List.cons_append, List.append_assoc]
    apply LexE.sign (by decide)
    cases sh with
    | nil => exact Piece.part hm h hp.1 41 Y _ (by decide) (by simpa [partsT, partsK] using ih)
    | cons b2 sh =>
      simp only [partsT, partsK, List.map_cons, List.flatten_cons, List.cons_append, List.append_assoc] at ih ⊢
      exact Piece.part hm h hp.1 44 _ _ (by decide) ih
theorem parts_lex {names : List Bs} {c : ConL} (hm : ∀ b ∈ names, mayNameB b = true) (h : ConOK names.length c) (sh : List UInt8) (hp : PartsAt c 0 sh) (Y : Bs) (ts : List Tok) (hY : LexE Y ts) : LexE (brT 40 41 (partsT names c 0 sh) ++ Y) (brK 40 41 (partsK names c 0 sh) ++ ts) := by
  unfold brT brK
  simp only [List.cons_append, List.append_assoc, List.nil_append]
  apply LexE.sign (by decide)
  cases sh with
  | nil => simpa [partsT, partsK, cj] using LexE.sign (by decide) hY
  | cons b sh =>
    have ht := parts_tail hm h sh (nxt b 0) hp.2 Y ts hY
    simp only [partsT, partsK, cj, List.append_assoc]
    cases sh with
    | nil => exact Piece.part hm h hp.1 41 Y _ (by decide) (by simpa [partsT, partsK] using ht)
    | cons b2 sh =>
      simp only [partsT, partsK, List.map_cons, List.flatten_cons, List.cons_append, List.append_assoc] at ht ⊢
      exact Piece.part hm h hp.1 44 _ _ (by decide) ht
theorem ents_words : (ents.all fun e => (match e.word with | [] => false | c :: r => letterB c && r.all partB)) = true := by kernel_rfl
theorem ent_in {c : ConL} {n : Nat} (h : ConOK n c) : ∃ k : Nat, k < 23 ∧ c.kind = ((k + 1 : Nat) : Int) ∧ entOf c = ents.getD k noEnt ∧ ents.getD k noEnt ∈ ents := by
  obtain ⟨k, hk, e⟩ := h.kind
  refine ⟨k, hk, e, ?_, ?_⟩
  · unfold entOf
    rw [e, tfound_in hk]
  · have hl : k < ents.length := hk
    rw [List.getD_eq_getElem?_getD, List.getElem?_eq_getElem hl]
    exact List.getElem_mem hl
theorem ent_word {c : ConL} {n : Nat} (h : ConOK n c) : wordB (entOf c).word := by
  obtain ⟨k, hk, _, he, hin⟩ := ent_in h
  rw [he]
  have := List.all_eq_true.1 ents_words _ hin
  cases hw : (ents.getD k noEnt).word with
  | nil => rw [hw] at this; cases this
  | cons a r =>
    rw [hw] at this
    simp only [Bool.and_eq_true, List.all_eq_true] at this
    exact ⟨a, r, rfl, this.1, this.2⟩
theorem kw_con : wordB [99, 111, 110, 115, 116, 114, 97, 105, 110, 116] := ⟨_, _, rfl, by decide, by decide⟩
theorem kw_var : wordB [118, 97, 114] := ⟨_, _, rfl, by decide, by decide⟩
theorem kw_solve : wordB [115, 111, 108, 118, 101] := ⟨_, _, rfl, by decide, by decide⟩
theorem kw_sat : wordB [115, 97, 116, 105, 115, 102, 121] := ⟨_, _, rfl, by decide, by decide⟩
theorem kw_min : wordB [109, 105, 110, 105, 109, 105, 122, 101] := ⟨_, _, rfl, by decide, by decide⟩
theorem kw_max : wordB [109, 97, 120, 105, 109, 105, 122, 101] := ⟨_, _, rfl, by decide, by decide⟩
theorem con_lex {names : List Bs} {c : ConL} (hm : ∀ b ∈ names, mayNameB b = true) (h : ConOK names.length c) (hp : PartsAt c 0 (entOf c).shape) {Y : Bs} {ts : List Tok} (hY : LexE Y ts) : LexE (conT names c ++ 10 :: Y) (conK names c ++ ts) := by
  have h1 : LexE (59 :: 10 :: Y) (tS 59 :: ts) := LexE.sign (by decide) (LexE.blank (by decide) hY)
  have h2 := parts_lex hm h _ hp _ _ h1
  have h3 : LexE ((entOf c).word ++ (brT 40 41 (partsT names c 0 (entOf c).shape) ++ 59 :: 10 :: Y)) (tW (entOf c).word :: (brK 40 41 (partsK names c 0 (entOf c).shape) ++ tS 59 :: ts)) := LexE.word (ent_word h) (a := 40) (by decide) h2
  have h4 := LexE.word kw_con (a := 32) (by decide) (LexE.blank (c := 32) (by decide) h3)
  unfold conT conK
  simpa using h4
theorem may_bounds {d : List Int} (h : mayListB d = true) : 0 < d.length ∧ riseTo d d.length ∧ setOf d = d ∧ ofErr d = 0 ∧ (∀ v ∈ d, mayB v = true) ∧ ∀ a ∈ d, ∀ b ∈ d, ¬ 65536 ≤ a - b := by
  unfold mayListB at h
  simp only [Bool.and_eq_true, beq_iff_eq] at h
  obtain ⟨h1, h2⟩ := h
  have hr : riseTo d d.length := by
    intro i hi hl
    have := List.all_eq_true.1 h1 i (List.mem_range.2 hl)
    simp only [Bool.or_eq_true, beq_iff_eq, decide_eq_true_eq] at this
    omega
  have h3 := h2
  unfold ofErr at h3
  split at h3
  · cases h3
  · next e1 =>
    split at h3
    · cases h3
    · next e2 =>
      split at h3
      · cases h3
      · next e3 =>
        refine ⟨by omega, hr, set_of_rise hr, h2, fun v hv => ?_, fun a ha b hb hab => ?_⟩
        · have e2' : ∀ x, x ∈ d → mayB x = true := by simpa using e2
          exact e2' v hv
        · apply e3
          rw [List.any_eq_true]
          refine ⟨b, hb, ?_⟩
          rw [List.any_eq_true]
          exact ⟨a, ha, by simpa using hab⟩
theorem may_num {d : List Int} (h : mayListB d = true) : ∀ v ∈ d, -9999999999 ≤ v ∧ v ≤ 9999999999 := by
  intro v hv
  have := (mayB_iff v).1 ((may_bounds h).2.2.2.2.1 v hv)
  omega
theorem dom_lex {d : List Int} (h : mayListB d = true) {Y : Bs} {ts : List Tok} (hY : LexE (58 :: Y) ts) : LexE (domT d ++ 58 :: Y) (domK d ++ ts) := by
  have hn := may_num h
  have h0 := (may_bounds h).1
  unfold domT domK
  split
  · have ha := hn _ (at_mem (l := d) (i := 0) h0)
    have hb := hn _ (at_mem (l := d) (i := d.length - 1) (by omega))
    have h1 := LexE.num hb.1 hb.2 (a := 58) (by decide) hY
    have h2 := LexE.num ha.1 ha.2 (a := 46) (by decide) (LexE.dots h1)
    simpa using h2
  · exact Piece.br Lib.itoa (fun n => [tN n]) (by decide) (by decide) (by decide) d (fun v hv => Piece.num (hn v hv).1 (hn v hv).2) 58 Y ts (by decide) hY
theorem var_lex {p : Bs × List Int} (hn : mayNameB p.1 = true) (hd : mayListB p.2 = true) {Y : Bs} {ts : List Tok} (hY : LexE Y ts) : LexE (varT p ++ 10 :: Y) (varK p ++ ts) := by
  have hw : wordB p.1 := by
    unfold mayNameB at hn
    simp only [Bool.and_eq_true] at hn
    exact name_word hn.2
  have h1 : LexE (59 :: 10 :: Y) (tS 59 :: ts) := LexE.sign (by decide) (LexE.blank (by decide) hY)
  have h2 := LexE.word hw (a := 59) (by decide) h1
  have h3 : LexE (58 :: 32 :: (p.1 ++ 59 :: 10 :: Y)) (tS 58 :: tW p.1 :: tS 59 :: ts) := LexE.sign (by decide) (LexE.blank (by decide) h2)
  have h4 := dom_lex hd h3
  have h5 := LexE.word kw_var (a := 32) (by decide) (LexE.blank (c := 32) (by decide) h4)
  unfold varT varK
  simpa using h5
theorem goal_place {m : ModL} (h : goalB m = true) (hg : m.goal = 1 ∨ m.goal = 2) : 0 ≤ m.obj ∧ m.obj < (m.names.length : Int) := by
  unfold goalB at h
  have h0 : (m.goal == 0) = false := by simp; omega
  have h1 : (m.goal == 1 || m.goal == 2) = true := by simp; omega
  rw [h0, h1] at h
  simpa using h
theorem goal_lex {m : ModL} (h : ModOK m) : LexE (goalT m ++ [10]) (goalK m) := by
  have h1 : LexE [59, 10] [tS 59] := LexE.sign (by decide) (LexE.blank (by decide) LexE.nil)
  unfold goalT goalK
  split
  · next hg =>
    have hp := goal_place h.goal (.inl hg)
    have h2 := LexE.word (nm_word h.may hp.1 hp.2).2 (a := 59) (by decide) h1
    have h3 := LexE.word kw_min (a := 32) (by decide) (LexE.blank (c := 32) (by decide) h2)
    have h4 := LexE.word kw_solve (a := 32) (by decide) (LexE.blank (c := 32) (by decide) h3)
    simpa using h4
  · split
    · next hg =>
      have hp := goal_place h.goal (.inr hg)
      have h2 := LexE.word (nm_word h.may hp.1 hp.2).2 (a := 59) (by decide) h1
      have h3 := LexE.word kw_max (a := 32) (by decide) (LexE.blank (c := 32) (by decide) h2)
      have h4 := LexE.word kw_solve (a := 32) (by decide) (LexE.blank (c := 32) (by decide) h3)
      simpa using h4
    · have h3 := LexE.word kw_sat (a := 59) (by decide) h1
      have h4 := LexE.word kw_solve (a := 32) (by decide) (LexE.blank (c := 32) (by decide) h3)
      simpa using h4
/-- Which parts a shape has. -/
theorem shapes_parts : (ents.all fun e => decide (e.shape.count 119 ≤ 1)) = true := by kernel_rfl
theorem zip_mem {names : List Bs} {doms : List (List Int)} {p : Bs × List Int} (h : p ∈ names.zip doms) : p.1 ∈ names ∧ p.2 ∈ doms := ⟨(List.of_mem_zip h).1, (List.of_mem_zip h).2⟩
theorem lines_lex {α : Type} (b : α → Bs) (k : α → List Tok) : ∀ (l : List α), (∀ x ∈ l, ∀ Y ts, LexE Y ts → LexE (b x ++ 10 :: Y) (k x ++ ts)) → ∀ Y ts, LexE Y ts → LexE (((l.map b).map (· ++ [10])).flatten ++ Y) ((l.map k).flatten ++ ts)
  | [], _, Y, ts, hY => hY
  | x :: l, h, Y, ts, hY => by
    have ih := lines_lex b k l (fun y hy => h y (by simp [hy])) Y ts hY
    have := h x (by simp) _ _ ih
    simpa using this
theorem print_lex {m : ModL} (h : ModOK m) (hp : ∀ c ∈ m.cons, PartsAt c 0 (entOf c).shape) : LexE (printT m) (printK m) := by
  have h1 := goal_lex h
  have h2 := lines_lex (conT m.names) (conK m.names) m.cons (fun c hc Y ts hY => con_lex h.may (h.con c hc) (hp c hc) hY) _ _ h1
  have h3 := lines_lex varT varK (m.names.zip m.doms) (fun p hpm Y ts hY => var_lex (h.may _ (zip_mem hpm).1) (h.dom _ (zip_mem hpm).2) hY) _ _ h2
  unfold printT printK linesT linesK
  simpa using h3
end Go.Proofs.YtgemgmdnnjaghaaGreatDoor
