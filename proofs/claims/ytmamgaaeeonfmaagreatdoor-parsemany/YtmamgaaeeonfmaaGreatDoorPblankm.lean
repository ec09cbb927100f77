/- A text with more blanks and comments has the same tokens: pure. -/
import Derived.Test.YtmamgaaeeonfmaaGreatDoorPera
import Derived.Test.YtmamgaaeeonfmaaGreatDoorLexg
namespace Go.Proofs.YtmamgaaeeonfmaaGreatDoor
open Go.RowKit

theorem tw_more {p : UInt8 → Bool} {a : UInt8} (ha : p a = false) (tl : Bs) : ∀ r : Bs, (r ++ a :: tl).takeWhile p = r.takeWhile p
  | [] => by simp [ha]
  | c :: r => by
    simp only [List.cons_append, List.takeWhile_cons]
    rw [tw_more ha tl r]
theorem minus_more (c : UInt8) (r x : Bs) : minusN (c :: r ++ x) = minusN (c :: r) := rfl
theorem digits_more (c : UInt8) (r tl : Bs) : digitsOf (c :: r ++ 10 :: tl) = digitsOf (c :: r) := by
  unfold digitsOf
  rw [minus_more, List.drop_append_of_le_length (by have := minus_le (c :: r); simp; omega), tw_more (by decide)]
/-- A line feed behind a text changes nothing at its beginning. -/
theorem item_close (c : UInt8) (r tl : Bs) : item (c :: r ++ 10 :: tl) = item (c :: r) := by
  have h1 := digits_more c r tl
  have h2 := minus_more c r (10 :: tl)
  have h3 : numBad (c :: r ++ 10 :: tl) = numBad (c :: r) := by unfold numBad; rw [h1, h2]
  have h4 : numVal (c :: r ++ 10 :: tl) = numVal (c :: r) := by unfold numVal; rw [h1, h2]
  have h5 : wordN (c :: r ++ 10 :: tl) = wordN (c :: r) := by
    rw [List.cons_append, wordN_cons, wordN_cons, tw_more (by decide)]
  have h6 : ((r ++ 10 :: tl).head? == some 46) = (r.head? == some 46) := by
    cases r with
    | nil => rfl
    | cons a b => rfl
  rw [List.cons_append] at h1 h2 h3 h4 h5 ⊢
  rw [item_cons, item_cons, tw_more (by decide), h1, h2, h3, h4, h5, h6]
theorem lexL_close {tl : Bs} (htl : ∀ p, lexL tl p = .ok []) : ∀ bs p l, lexL bs p = .ok l → lexL (bs ++ 10 :: tl) p = .ok l := by
  refine lex_ind (P := fun bs => ∀ p l, lexL bs p = .ok l → lexL (bs ++ 10 :: tl) p = .ok l) (fun p l h => ?_) (fun bs n h hi ih p l he => ?_) (fun bs k n v h hi ih p l he => ?_) (fun bs e h hi p l he => ?_)
  · rw [lexL_nil] at h
    injection h with h
    subst h
    rw [List.nil_append, lexL_blank (by decide), htl]
  · obtain ⟨h1, h2⟩ := (item_pos h).1 n hi
    rw [lexL_skip h hi] at he
    have hi' : item (bs ++ 10 :: tl) = .skip n := by
      match bs, h with
      | c :: r, _ => rw [item_close]; exact hi
    rw [lexL_skip (by simp) hi', List.drop_append_of_le_length h2]
    exact ih _ _ he
  · obtain ⟨h1, h2⟩ := (item_pos h).2 k n v hi
    rw [lexL_tok h hi] at he
    have hi' : item (bs ++ 10 :: tl) = .tok k n v := by
      match bs, h with
      | c :: r, _ => rw [item_close]; exact hi
    rw [lexL_tok (by simp) hi', List.drop_append_of_le_length h2, List.take_append_of_le_length h2]
    rcases hr : lexL (bs.drop n) (p + n) with e0 | l0
    · rw [hr] at he; cases he
    · rw [hr] at he
      rw [ih _ _ hr]
      exact he
  · rw [lexL_bad h hi] at he
    cases he
/-- A comment line. -/
def comL (q : Bs) : Bs := 37 :: 32 :: (q ++ [10])
theorem lexL_comL {q : Bs} (hq : ∀ x ∈ q, x ≠ 10) (rest : Bs) (p : Nat) : lexL (comL q ++ rest) p = lexL rest (p + (comL q).length) := by
  have := lexL_comment (q := 32 :: q) (fun x hx => (List.mem_cons.1 hx).elim (fun e => by rw [e]; decide) (hq x)) rest p
  unfold comL
  simp only [List.cons_append, List.append_assoc, List.nil_append, List.length_cons, List.length_append, List.length_nil] at this ⊢
  rw [this]
/-- First: a comment ahead, a line feed and a comment behind. -/
theorem lexL_around {q : Bs} (hq : ∀ x ∈ q, x ≠ 10) {bs : Bs} {l : List Tok} (h : lexL bs 0 = .ok l) : ∃ l', lexL (comL q ++ bs ++ 10 :: comL q) 0 = .ok l' ∧ eraL l = eraL l' := by
  have h1 : ∀ p, lexL (comL q) p = .ok [] := fun p => by
    have := lexL_comL hq [] p
    rw [List.append_nil, lexL_nil] at this
    exact this
  refine ⟨l.map (Tok.shift (comL q).length), ?_, ?_⟩
  · rw [List.append_assoc, lexL_comL hq, Nat.zero_add]
    have h2 := lexL_shift (comL q).length bs 0
    rw [h, Nat.zero_add] at h2
    exact lexL_close h1 _ _ _ h2
  · unfold eraL
    rw [List.map_map]
    apply List.map_congr_left
    intro t _
    rfl
/-- Second: signs with gaps around them. -/
theorem tw_swap {p : UInt8 → Bool} (r Y : Bs) (hY : ∀ a Y', Y = a :: Y' → p a = false) : (r.takeWhile p ++ Y).takeWhile p = r.takeWhile p := by
  cases Y with
  | nil =>
    rw [List.append_nil]
    have h := List.takeWhile_append_of_pos (p := p) (l₁ := r.takeWhile p) (l₂ := []) (fun x hx => tw_all p r x hx)
    simpa using h
  | cons a Y' => exact tw_stop (tw_all p r) (hY a Y' rfl)
theorem tw_drop {p : UInt8 → Bool} (r : Bs) : r.drop (r.takeWhile p).length = r.dropWhile p := by
  induction r with
  | nil => rfl
  | cons c r ih =>
    simp only [List.takeWhile_cons, List.dropWhile_cons]
    split
    · simpa using ih
    · rfl
theorem tw_take {p : UInt8 → Bool} (r : Bs) : r.take (r.takeWhile p).length = r.takeWhile p := by
  induction r with
  | nil => rfl
  | cons c r ih =>
    simp only [List.takeWhile_cons]
    split
    · simpa using ih
    · rfl
/-- What may stand behind a token instead: nothing, a line feed, or what begins alike. -/
def Behind (Y Z : Bs) : Prop := ∀ a Y', Y = a :: Y' → a = 10 ∨ Z.head? = some a
theorem behind_tw {p : UInt8 → Bool} (hp : p 10 = false) {r Y : Bs} (h : Behind Y (r.dropWhile p)) : ∀ a Y', Y = a :: Y' → p a = false := by
  intro a Y' e
  rcases h a Y' e with rfl | h
  · exact hp
  · cases hd : r.dropWhile p with
    | nil => rw [hd] at h; cases h
    | cons x y =>
      rw [hd] at h
      injection h with h
      subst h
      exact dw_head p r _ _ hd
theorem letter_not {c : UInt8} (h : letterB c = true) : blankB c = false ∧ (c == 37) = false := by
  have h2 : letR c.toNat = true := by rw [← let_byte]; exact h
  rw [bla_byte, eq_byte]
  unfold letR at h2
  simp only [Bool.or_eq_true, Bool.and_eq_true, decide_eq_true_eq] at h2
  have e : (37 : UInt8).toNat = 37 := rfl
  rw [e]
  refine ⟨?_, ?_⟩
  · unfold blaR
    simp only [Bool.or_eq_false_iff, beq_eq_false_iff_ne, ne_eq]
    omega
  · simp only [beq_eq_false_iff_ne, ne_eq]
    omega
theorem item_swap {bs : Bs} {k n : Nat} {v : Int} (h : bs ≠ []) (hi : item bs = .tok k n v) (Y : Bs) (hY : Behind Y (bs.drop n)) : item (bs.take n ++ Y) = .tok k n v := by
  match bs, h with
  | c :: r, _ =>
    rw [item_cons] at hi
    split at hi
    · cases hi
    · next n1 =>
      split at hi
      · cases hi
      · next n2 =>
        split at hi
        · next n3 =>
          injection hi with e1 e2 e3
          subst e1; subst e2; subst e3
          rw [wordN_cons, if_pos n3, Nat.add_comm 1] at hY ⊢
          rw [List.drop_succ_cons, tw_drop] at hY
          rw [List.take_succ_cons, tw_take, List.cons_append, item_cons, if_neg n1, if_neg n2, if_pos n3, wordN_cons, if_pos n3, tw_swap r Y (behind_tw (by decide) hY), Nat.add_comm 1]
        · next n3 =>
          split at hi
          · next n4 =>
            split at hi
            · cases hi
            · next n5 =>
              injection hi with e1 e2 e3
              subst e1; subst e2; subst e3
              simp only [bne_iff_ne, ne_eq] at n4
              obtain ⟨m, hm, hml, hmt⟩ := take_num n4
              have hdig : digitsOf ((c :: r).take (minusN (c :: r) + (digitsOf (c :: r)).length) ++ Y) = digitsOf (c :: r) ∧ minusN ((c :: r).take (minusN (c :: r) + (digitsOf (c :: r)).length) ++ Y) = minusN (c :: r) ∧ ∃ r', (c :: r).take (minusN (c :: r) + (digitsOf (c :: r)).length) ++ Y = c :: r' := by
                have hpos : 0 < (digitsOf (c :: r)).length := by omega
                obtain ⟨q, hq⟩ : ∃ q, minusN (c :: r) + (digitsOf (c :: r)).length = q + 1 := ⟨minusN (c :: r) + (digitsOf (c :: r)).length - 1, by omega⟩
                have hc : (c :: r).take (minusN (c :: r) + (digitsOf (c :: r)).length) ++ Y = c :: (r.take q ++ Y) := by rw [hq]; rfl
                have hmin : minusN ((c :: r).take (minusN (c :: r) + (digitsOf (c :: r)).length) ++ Y) = minusN (c :: r) := by rw [hc]; rfl
                refine ⟨?_, hmin, _, hc⟩
                have key : ∀ X : Bs, digitsOf X = (X.drop (minusN X)).takeWhile digitB := fun _ => rfl
                rw [key ((c :: r).take (minusN (c :: r) + (digitsOf (c :: r)).length) ++ Y), hmin, hmt, List.append_assoc, ← hml, List.drop_left']
                have hd : digitsOf (c :: r) = ((c :: r).drop (minusN (c :: r))).takeWhile digitB := rfl
                rw [hd]
                refine tw_swap ((c :: r).drop (minusN (c :: r))) Y (behind_tw (p := digitB) (r := (c :: r).drop (minusN (c :: r))) (by decide) ?_)
                rw [← tw_drop, List.drop_drop, ← hd]
                exact hY
                rfl
              obtain ⟨d1, d2, r', d3⟩ := hdig
              rw [d3] at d1 d2 ⊢
              have h3 : numBad (c :: r') = numBad (c :: r) := by unfold numBad; rw [d1, d2]
              have h4 : numVal (c :: r') = numVal (c :: r) := by unfold numVal; rw [d1, d2]
              rw [item_cons, if_neg n1, if_neg n2, if_neg n3, d1, if_pos (by simpa using n4), h3, if_neg n5, h4, d2]
          · next n4 =>
            have hnd : ∀ r', (∀ x, x = c → minusN (c :: r) = 0 → (digitsOf (c :: r')).length = 0) → True := fun _ _ => trivial
            split at hi
            · next n5 =>
              injection hi with e1 e2 e3
              subst e1; subst e2; subst e3
              rw [List.take_succ_cons, List.take_zero, List.cons_append, List.nil_append, item_cons, if_neg n1, if_neg n2, if_neg n3]
              have hd : (digitsOf (c :: Y)).length = 0 := by
                have hm0 : minusN (c :: Y) = 0 := by
                  rw [minusN_cons]
                  split
                  · next e => have : c = 45 := by simpa using e
                              subst this; exact absurd n5 (by decide)
                  · rfl
                have hc0 : digitB c = false := by
                  cases hdb : digitB c with
                  | false => rfl
                  | true =>
                    have hm1 : minusN (c :: r) = 0 := hm0
                    have : (digitsOf (c :: r)).length ≠ 0 := by
                      unfold digitsOf
                      rw [hm1, List.drop_zero, List.takeWhile_cons, if_pos hdb]
                      simp
                    exact absurd (by simpa using n4) this
                unfold digitsOf
                rw [hm0, List.drop_zero, List.takeWhile_cons, if_neg (by rw [hc0]; decide)]
                rfl
              rw [if_neg (by rw [hd]; decide), if_pos n5]
            · next n5 =>
              split at hi
              · next n6 =>
                injection hi with e1 e2 e3
                subst e1; subst e2; subst e3
                simp only [Bool.and_eq_true, beq_iff_eq] at n6
                obtain ⟨rfl, hr⟩ := n6
                cases r with
                | nil => cases hr
                | cons a b =>
                  injection hr with hr
                  subst hr
                  rfl
              · cases hi
/-- A sign alone. -/
theorem item_sign {c : UInt8} (h : signB c = true) (Y : Bs) : item (c :: Y) = .tok 3 1 0 := by
  unfold signB at h
  simp only [Bool.or_eq_true, beq_iff_eq] at h
  rcases h with (((((((rfl | rfl) | rfl) | rfl) | rfl) | rfl) | rfl) | rfl) | rfl <;> rfl
/-- What each byte becomes. -/
def gaps (f : UInt8 → Bs × Bs) (c : UInt8) : Bs := if signB c then (f c).1 ++ c :: (f c).2 else [c]
structure Gapped (f : UInt8 → Bs × Bs) : Prop where
  pre : ∀ c, signB c = true → ∀ rest p, lexL ((f c).1 ++ rest) p = lexL rest (p + (f c).1.length)
  post : ∀ c, signB c = true → ∀ rest p, lexL ((f c).2 ++ rest) p = lexL rest (p + (f c).2.length)
  first : ∀ c, signB c = true → ∃ t, (f c).1 = 10 :: t
theorem gaps_plain {f : UInt8 → Bs × Bs} : ∀ {w : Bs}, (∀ x ∈ w, signB x = false) → w.flatMap (gaps f) = w
  | [], _ => rfl
  | c :: w, h => by
    have hc := h c (by simp)
    rw [List.flatMap_cons, gaps_plain (fun x hx => h x (by simp [hx]))]
    unfold gaps
    rw [if_neg (by rw [hc]; decide)]
    rfl
theorem gaps_behind {f : UInt8 → Bs × Bs} (hf : Gapped f) (Z : Bs) : Behind (Z.flatMap (gaps f)) Z := by
  intro a Y' e
  cases Z with
  | nil => cases e
  | cons c Z =>
    rw [List.flatMap_cons] at e
    unfold gaps at e
    split at e
    · next hc =>
      obtain ⟨t, ht⟩ := hf.first c hc
      rw [ht] at e
      injection e with e1 e2
      exact .inl e1.symm
    · injection e with e1 e2
      exact .inr (by rw [e1]; rfl)
/-- In a token that is no sign there is none. -/
theorem tok_plain {bs : Bs} {k n : Nat} {v : Int} (h : bs ≠ []) (hi : item bs = .tok k n v) (hs : ∀ c, bs.head? = some c → signB c = false) : ∀ x ∈ bs.take n, signB x = false := by
  have hpart : ∀ x : UInt8, partB x = true → signB x = false := by
    intro x hx
    cases hb : signB x with
    | false => rfl
    | true =>
      unfold signB at hb
      simp only [Bool.or_eq_true, beq_iff_eq] at hb
      rcases hb with (((((((rfl | rfl) | rfl) | rfl) | rfl) | rfl) | rfl) | rfl) | rfl <;> exact absurd hx (by decide)
  have hdig : ∀ x : UInt8, digitB x = true → signB x = false := fun x hx => hpart x (by unfold partB; rw [hx]; simp)
  match bs, h with
  | c :: r, _ =>
    have hc := hs c rfl
    rw [item_cons] at hi
    split at hi
    · cases hi
    · split at hi
      · cases hi
      · split at hi
        · next n3 =>
          injection hi with e1 e2 e3
          subst e2
          rw [wordN_cons, if_pos n3, Nat.add_comm 1, List.take_succ_cons, tw_take]
          intro x hx
          rcases List.mem_cons.1 hx with rfl | hx
          · exact hc
          · exact hpart x (tw_all _ _ x hx)
        · split at hi
          · next n4 =>
            split at hi
            · cases hi
            · injection hi with e1 e2 e3
              subst e2
              simp only [bne_iff_ne, ne_eq] at n4
              obtain ⟨m, hm, hml, hmt⟩ := take_num n4
              rw [hmt]
              intro x hx
              rcases List.mem_append.1 hx with hx | hx
              · rcases hm with rfl | rfl
                · cases hx
                · have : x = 45 := by simpa using hx
                  subst this
                  decide
              · exact hdig x (tw_all _ _ x hx)
          · split at hi
            · next n5 => rw [hc] at n5; cases n5
            · split at hi
              · next n6 =>
                injection hi with e1 e2 e3
                subst e2
                simp only [Bool.and_eq_true, beq_iff_eq] at n6
                obtain ⟨rfl, hr⟩ := n6
                cases r with
                | nil => cases hr
                | cons a b =>
                  injection hr with hr
                  subst hr
                  intro x hx
                  have : x = 46 := by simpa using hx
                  subst this
                  decide
              · cases hi
theorem eraL_cons (t : Tok) (l : List Tok) : eraL (t :: l) = t.era :: eraL l := rfl
theorem lexL_gaps {f : UInt8 → Bs × Bs} (hf : Gapped f) : ∀ bs, (∀ x ∈ bs, x ≠ 37) → ∀ p p' l, lexL bs p = .ok l → ∃ l', lexL (bs.flatMap (gaps f)) p' = .ok l' ∧ eraL l = eraL l' := by
  refine lex_ind (P := fun bs => (∀ x ∈ bs, x ≠ 37) → ∀ p p' l, lexL bs p = .ok l → ∃ l', lexL (bs.flatMap (gaps f)) p' = .ok l' ∧ eraL l = eraL l') (fun _ p p' l h => ?_) (fun bs n h hi ih hno p p' l he => ?_) (fun bs k n v h hi ih hno p p' l he => ?_) (fun bs e h hi hno p p' l he => ?_)
  · rw [lexL_nil] at h
    injection h with h
    subst h
    exact ⟨[], by rw [List.flatMap_nil, lexL_nil], rfl⟩
  · rw [lexL_skip h hi] at he
    rcases skip_of h hi with ⟨c, r, rfl, hb, rfl⟩ | ⟨q, r, rfl, -, -, -⟩
    · obtain ⟨l', h1, h2⟩ := ih (fun x hx => hno x (by simp at hx; simp [hx])) _ (p' + 1) _ he
      refine ⟨l', ?_, h2⟩
      have hs : signB c = false := by
        cases hsb : signB c with
        | false => rfl
        | true =>
          unfold signB at hsb
          simp only [Bool.or_eq_true, beq_iff_eq] at hsb
          rcases hsb with (((((((rfl | rfl) | rfl) | rfl) | rfl) | rfl) | rfl) | rfl) | rfl <;> exact absurd hb (by decide)
      rw [List.flatMap_cons]
      unfold gaps at h1 ⊢
      rw [if_neg (by rw [hs]; decide), List.cons_append, List.nil_append, lexL_blank hb]
      exact h1
    · exact absurd rfl (hno 37 (by simp))
  · obtain ⟨h1, h2⟩ := (item_pos h).2 k n v hi
    rw [lexL_tok h hi] at he
    rcases hr : lexL (bs.drop n) (p + n) with e0 | l0
    · rw [hr] at he; cases he
    · rw [hr] at he
      simp only [Res.pre] at he
      injection he with he
      subst he
      have hno' : ∀ x ∈ bs.drop n, x ≠ 37 := fun x hx => hno x (List.mem_of_mem_drop hx)
      match bs, h with
      | c :: r, _ =>
        by_cases hc : signB c = true
        · have hcs := item_sign hc r
          rw [hcs] at hi
          injection hi with e1 e2 e3
          subst e1; subst e2; subst e3
          obtain ⟨l', h3, h4⟩ := ih hno' _ (p' + (f c).1.length + 1 + (f c).2.length) _ hr
          simp only [List.drop_succ_cons, List.drop_zero] at h3
          refine ⟨⟨3, [c], 0, p' + (f c).1.length⟩ :: l', ?_, ?_⟩
          · rw [List.flatMap_cons]
            have hg : gaps f c = (f c).1 ++ c :: (f c).2 := by unfold gaps; rw [if_pos hc]
            rw [hg, List.append_assoc, hf.pre c hc, List.cons_append, lexL_tok (by simp) (item_sign hc _)]
            simp only [List.drop_succ_cons, List.drop_zero, List.take_succ_cons, List.take_zero]
            rw [hf.post c hc, h3]
            rfl
          · rw [eraL_cons, eraL_cons, h4]
            rfl
        · have hc' : signB c = false := by simpa using hc
          have hpl := tok_plain (by simp) hi (fun x hx => by injection hx with hx; rw [← hx]; exact hc')
          obtain ⟨l', h3, h4⟩ := ih hno' _ (p' + n) _ hr
          have hsplit : (c :: r).flatMap (gaps f) = (c :: r).take n ++ ((c :: r).drop n).flatMap (gaps f) := by
            conv => lhs; rw [← List.take_append_drop n (c :: r)]
            rw [List.flatMap_append, gaps_plain hpl]
          have hi' := item_swap (by simp) hi _ (gaps_behind hf ((c :: r).drop n))
          have hlen : ((c :: r).take n).length = n := by rw [List.length_take]; omega
          refine ⟨⟨k, (c :: r).take n, v, p'⟩ :: l', ?_, ?_⟩
          · rw [hsplit, lexL_tok (by intro e; have := congrArg List.length e; rw [List.length_append, hlen] at this; simp at this; omega) hi', List.drop_left' hlen, List.take_left' hlen, h3]
            rfl
          · rw [eraL_cons, eraL_cons, h4]
  · rw [lexL_bad h hi] at he
    cases he
end Go.Proofs.YtmamgaaeeonfmaaGreatDoor
