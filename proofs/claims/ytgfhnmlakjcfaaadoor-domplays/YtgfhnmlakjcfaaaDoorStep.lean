/- Contracts of Next and Prev over a domain's rising list: the least number above, the greatest below. -/
import Derived.Test.YtgfhnmlakjcfaaaDoorNext
namespace Go.Proofs.YtgfhnmlakjcfaaaDoor
open Go.RowKit

/-- The least number above v. -/
def nextI (L : List Int) (v : Int) : Option Int := L.find? fun u => decide (v < u)
/-- The greatest number below v, of a rising list. -/
def prevI (L : List Int) (v : Int) : Option Int := L.reverse.find? fun u => decide (u < v)

theorem find_least : ∀ (L : List Int) (v r : Int), L.Pairwise (· < ·) → r ∈ L → v < r → (∀ u ∈ L, v < u → r ≤ u) → L.find? (fun u => decide (v < u)) = some r
  | [], _, _, _, h, _, _ => by simp at h
  | a :: l, v, r, hp, h, hv, hm => by
    have hp' := List.pairwise_cons.1 hp
    rw [List.find?_cons]
    by_cases ha : v < a
    · simp only [ha, decide_true]
      have h1 := hm a List.mem_cons_self ha
      rcases List.mem_cons.1 h with e | e
      · rw [e]
      · have := hp'.1 r e; omega
    · simp only [ha, decide_false]
      apply find_least l v r hp'.2 _ hv (fun u hu => hm u (List.mem_cons_of_mem _ hu))
      rcases List.mem_cons.1 h with e | e
      · omega
      · exact e

theorem find_greatest (L : List Int) (v r : Int) (hp : L.Pairwise (· < ·)) (h : r ∈ L) (hv : r < v) (hm : ∀ u ∈ L, u < v → u ≤ r) : prevI L v = some r := by
  unfold prevI
  have key : ∀ (l : List Int), l.Pairwise (· > ·) → r ∈ l → (∀ u ∈ l, u < v → u ≤ r) → l.find? (fun u => decide (u < v)) = some r := by
    intro l
    induction l with
    | nil => intro _ h _; simp at h
    | cons a l ih =>
      intro hp h hm
      have hp' := List.pairwise_cons.1 hp
      rw [List.find?_cons]
      by_cases ha : a < v
      · simp only [ha, decide_true]
        have h1 := hm a List.mem_cons_self ha
        rcases List.mem_cons.1 h with e | e
        · rw [e]
        · have := hp'.1 r e; omega
      · simp only [ha, decide_false]
        apply ih hp'.2 _ (fun u hu => hm u (List.mem_cons_of_mem _ hu))
        rcases List.mem_cons.1 h with e | e
        · omega
        · exact e
  apply key
  · rw [List.pairwise_reverse]; exact hp
  · simpa using h
  · intro u hu; exact hm u (by simpa using hu)

theorem nextI_none (L : List Int) (v : Int) (h : ∀ u ∈ L, u ≤ v) : nextI L v = none := by
  unfold nextI; rw [List.find?_eq_none]; intro u hu; have := h u hu; simp; omega

theorem prevI_none (L : List Int) (v : Int) (h : ∀ u ∈ L, v ≤ u) : prevI L v = none := by
  unfold prevI; rw [List.find?_eq_none]; intro u hu; have := h u (by simpa using hu); simp; omega

theorem le_last (L : List Int) (m : Int) (hp : L.Pairwise (· < ·)) (h : L.getLast? = some m) : m ∈ L ∧ ∀ u ∈ L, u ≤ m := by
  refine ⟨List.mem_of_getLast? h, ?_⟩
  obtain ⟨l, rfl⟩ := List.getLast?_eq_some_iff.1 h
  intro u hu
  rw [List.pairwise_append] at hp
  rcases List.mem_append.1 hu with h1 | h1
  · have := hp.2.2 u h1 m (by simp); omega
  · simp at h1; omega

theorem head_le (L : List Int) (m : Int) (hp : L.Pairwise (· < ·)) (h : L.head? = some m) : m ∈ L ∧ ∀ u ∈ L, m ≤ u := by
  cases L with
  | nil => simp at h
  | cons a l =>
    simp at h
    subst h
    refine ⟨by simp, fun u hu => ?_⟩
    have hp' := List.pairwise_cons.1 hp
    rcases List.mem_cons.1 hu with e | e
    · omega
    · have := hp'.1 u e; omega

theorem ctz_bits (x : Nat) (h : x ≠ 0) (hx : x < 18446744073709551616) : x.testBit (Lib.ctz 64 x) = true ∧ Lib.ctz 64 x < 64 ∧ ∀ j, j < 64 → x.testBit j = true → Lib.ctz 64 x ≤ j := by
  obtain ⟨y, _, _, e⟩ := and_pred x h hx
  have hs := sorted_bitsUp x
  have h1 := (mem_bitsUp x (Lib.ctz 64 x)).1 (by rw [e]; simp)
  refine ⟨h1.2, h1.1, fun j hj hb => ?_⟩
  have h2 := (mem_bitsUp x j).2 ⟨hj, hb⟩
  rw [e] at h2 hs
  rcases List.mem_cons.1 h2 with e2 | e2
  · omega
  · have := (List.pairwise_cons.1 hs).1 j e2; omega

theorem word_bit {s : Int} {ws : List Nat} (p : Int) (j : Nat) (hj : j < 64) : (wordAt s ws p).testBit j = true ↔ p * 64 + (j : Int) ∈ listOf s ws := by
  rw [mem_listOf, hasB_word, show (p * 64 + (j : Int)) / 64 = p by omega, show ((p * 64 + (j : Int)) % 64).toNat = j by omega]

theorem in_places {s : Int} {ws : List Nat} (hF : Form s ws) (u : Int) (h : u ∈ listOf s ws) : -15625 ≤ u / 64 ∧ u / 64 ≤ 15625 := by
  rw [mem_listOf] at h
  unfold hasB at h
  simp only [Bool.and_eq_true, decide_eq_true_eq] at h
  have hl : (u / 64 - s).toNat < ws.length := by
    apply Nat.lt_of_not_le
    intro hle
    rw [getD_over _ _ hle] at h
    simp at h
  have := hF.lo
  have := hF.hi
  omega

theorem IsDom.answers_max {w : World} {d : Value} {L : List Int} (h : IsDom w d L) : Answers 15 #[d] w (.int .i64 (L.getLast?.getD 0)) := fun W hW => max_dom d L W (h.below hW)
theorem IsDom.answers_min {w : World} {d : Value} {L : List Int} (h : IsDom w d L) (hT : Tab w) : Answers 14 #[d] w (.int .i64 (L.head?.getD 0)) := fun W hW => min_dom d L W (h.below hW) (hT.below hW)

def optV (o : Option Int) : Value := .tuple #[.int .i64 (o.getD 0), .bool o.isSome]

theorem next_dom (d : Value) (L : List Int) (v : Int) (w : World) (h : IsDom w d L) (hT : Tab w) (h1 : -9223372036854775808 ≤ v) :
    Calls Tryd.prog 23 #[d, .int .i64 v] w fun e w' => e = .returned (optV (nextI L v)) ∧ Below w.heap.size w w' := by
  have hM := h.answers_max
  have hN := h.answers_min hT
  have hp := h.rising
  obtain ⟨s, A, ws, c, rfl, hl, hF, rfl⟩ := h
  by_cases hn : listOf s ws = []
  · rw [nextI_none _ _ (by rw [hn]; simp)]
    exact next_no s v _ _ A ws.length c w (.inl (by rw [hn]; rfl)) hM
  · have hz : (((listOf s ws).length : Nat) : Int) ≠ 0 := by
      intro e
      exact hn (List.eq_nil_of_length_eq_zero (by omega))
    have hz' : ((((listOf s ws).length : Nat) : Int) == 0) = false := by simpa using hz
    obtain ⟨mx, hmx⟩ : ∃ mx, (listOf s ws).getLast? = some mx := ⟨_, List.getLast?_eq_some_getLast hn⟩
    obtain ⟨mn, hmn⟩ : ∃ mn, (listOf s ws).head? = some mn := ⟨_, List.head?_eq_some_head hn⟩
    obtain ⟨x1, x2⟩ := le_last _ _ hp hmx
    obtain ⟨n1, n2⟩ := head_le _ _ hp hmn
    rw [hmx] at hM
    rw [hmn] at hN
    simp only [Option.getD_some] at hM hN
    by_cases hv : mx ≤ v
    · rw [nextI_none _ _ (fun u hu => by have := x2 u hu; omega)]
      exact next_no s v _ mx A ws.length c w (.inr ⟨hz', hv⟩) hM
    · have px := in_places hF mx x1
      have pn := in_places hF mn n1
      have hmm := x2 mn n1
      suffices hs : ∃ r, nextI (listOf s ws) v = some r by
        obtain ⟨r, hr⟩ := hs
        rw [hr]
        refine next_yes s v _ mx mn r (mx / 64) A ws.length c (wordAt s ws)
          (fun p x => x < 18446744073709551616 ∧ max (v + 1) mn / 64 ≤ p ∧ p ≤ mx / 64 ∧ (∀ j, j < 64 → (x.testBit j = true ↔ (p * 64 + (j : Int) ∈ listOf s ws ∧ v < p * 64 + (j : Int)))) ∧ (∀ u ∈ listOf s ws, v < u → p ≤ u / 64))
          w hz' (by omega) h1 (by omega) (by omega) (by omega) hM hN (fun W p a b hb => word_any s p A ws c _ W hF (hl.below hb) a b) hT (fun p => wordAt_lt hF p) ?_ ?_ ?_ ?_
        · refine ⟨Nat.lt_of_le_of_lt Nat.and_le_left (wordAt_lt hF _), by omega, by omega, fun j hj => ?_, fun u hu hvu => ?_⟩
          · rw [Nat.testBit_and, upN_bit, Bool.and_eq_true, word_bit _ j hj]
            simp only [Bool.and_eq_true, decide_eq_true_eq]
            constructor
            · rintro ⟨a, b, c⟩; exact ⟨a, by omega⟩
            · rintro ⟨a, b⟩
              have := n2 _ a
              exact ⟨a, hj, by omega⟩
          · have := n2 _ hu; omega
        · rintro p ⟨_, a, b, c, e⟩
          have e' : ∀ u ∈ listOf s ws, v < u → p + 1 ≤ u / 64 := by
            intro u hu hvu
            have q := e u hu hvu
            apply Int.lt_of_not_ge
            intro hle
            have hq : u / 64 = p := by omega
            have := (c (u % 64).toNat (by omega)).2 ⟨by rw [show p * 64 + (((u % 64).toNat : Nat) : Int) = u by omega]; exact hu, by omega⟩
            simp at this
          have hm' := e' mx x1 (by omega)
          refine ⟨⟨wordAt_lt hF _, by omega, by omega, fun j hj => ?_, e'⟩, hm'⟩
          rw [word_bit _ j hj]
          constructor
          · intro q; exact ⟨q, by omega⟩
          · intro q; exact q.1
        · rintro p x ⟨a, b, c, _⟩
          exact ⟨by omega, by omega, a⟩
        · rintro p x ⟨a, b, c, e, f⟩ hx
          obtain ⟨g1, g2, g3⟩ := ctz_bits x hx a
          have := (e _ g2).1 g1
          have key := find_least (listOf s ws) v _ hp this.1 this.2 (by
            intro u hu hvu
            have q := f u hu hvu
            by_cases hq : u / 64 = p
            · have := (e (u % 64).toNat (by omega)).2 ⟨by rw [show p * 64 + (((u % 64).toNat : Nat) : Int) = u by omega]; exact hu, by omega⟩
              have := g3 _ (by omega) this
              omega
            · omega)
          unfold nextI at hr
          rw [key] at hr
          simpa using hr
      cases hr : nextI (listOf s ws) v with
      | some r => exact ⟨r, rfl⟩
      | none =>
        unfold nextI at hr
        rw [List.find?_eq_none] at hr
        have := hr mx x1
        simp at this
        omega

theorem prev_dom (d : Value) (L : List Int) (v : Int) (w : World) (h : IsDom w d L) (hT : Tab w) (h1 : v ≤ 9223372036854775807) :
    Calls Tryd.prog 24 #[d, .int .i64 v] w fun e w' => e = .returned (optV (prevI L v)) ∧ Below w.heap.size w w' := by
  have hM := h.answers_max
  have hN := h.answers_min hT
  have hp := h.rising
  obtain ⟨s, A, ws, c, rfl, hl, hF, rfl⟩ := h
  by_cases hn : listOf s ws = []
  · rw [prevI_none _ _ (by rw [hn]; simp)]
    exact prev_no s v _ _ A ws.length c w (.inl (by rw [hn]; rfl)) hN
  · have hz : (((listOf s ws).length : Nat) : Int) ≠ 0 := by
      intro e
      exact hn (List.eq_nil_of_length_eq_zero (by omega))
    have hz' : ((((listOf s ws).length : Nat) : Int) == 0) = false := by simpa using hz
    obtain ⟨mx, hmx⟩ : ∃ mx, (listOf s ws).getLast? = some mx := ⟨_, List.getLast?_eq_some_getLast hn⟩
    obtain ⟨mn, hmn⟩ : ∃ mn, (listOf s ws).head? = some mn := ⟨_, List.head?_eq_some_head hn⟩
    obtain ⟨x1, x2⟩ := le_last _ _ hp hmx
    obtain ⟨n1, n2⟩ := head_le _ _ hp hmn
    rw [hmx] at hM
    rw [hmn] at hN
    simp only [Option.getD_some] at hM hN
    by_cases hv : v ≤ mn
    · rw [prevI_none _ _ (fun u hu => by have := n2 u hu; omega)]
      exact prev_no s v _ mn A ws.length c w (.inr ⟨hz', hv⟩) hN
    · have px := in_places hF mx x1
      have pn := in_places hF mn n1
      have hmm := x2 mn n1
      suffices hs : ∃ r, prevI (listOf s ws) v = some r by
        obtain ⟨r, hr⟩ := hs
        rw [hr]
        refine prev_yes s v _ mn mx r (mn / 64) A ws.length c (wordAt s ws)
          (fun p x => x < 18446744073709551616 ∧ p ≤ min (v - 1) mx / 64 ∧ mn / 64 ≤ p ∧ (∀ j, j < 64 → (x.testBit j = true ↔ (p * 64 + (j : Int) ∈ listOf s ws ∧ p * 64 + (j : Int) < v))) ∧ (∀ u ∈ listOf s ws, u < v → u / 64 ≤ p))
          w hz' (by omega) h1 (by omega) (by omega) (by omega) hN hM (fun W p a b hb => word_any s p A ws c _ W hF (hl.below hb) a b) (fun p => wordAt_lt hF p) ?_ ?_ ?_ ?_
        · refine ⟨Nat.lt_of_le_of_lt Nat.and_le_left (wordAt_lt hF _), by omega, by omega, fun j hj => ?_, fun u hu hvu => ?_⟩
          · rw [Nat.testBit_and, downN_bit, Bool.and_eq_true, word_bit _ j hj]
            simp only [decide_eq_true_eq]
            constructor
            · rintro ⟨a, b⟩; exact ⟨a, by omega⟩
            · rintro ⟨a, b⟩
              have := x2 _ a
              exact ⟨a, by omega⟩
          · have := x2 _ hu; omega
        · rintro p ⟨_, a, b, c, e⟩
          have e' : ∀ u ∈ listOf s ws, u < v → u / 64 ≤ p - 1 := by
            intro u hu hvu
            have q := e u hu hvu
            apply Int.le_of_not_gt
            intro hle
            have hq : u / 64 = p := by omega
            have := (c (u % 64).toNat (by omega)).2 ⟨by rw [show p * 64 + (((u % 64).toNat : Nat) : Int) = u by omega]; exact hu, by omega⟩
            simp at this
          have hm' := e' mn n1 (by omega)
          refine ⟨⟨wordAt_lt hF _, by omega, by omega, fun j hj => ?_, e'⟩, hm'⟩
          rw [word_bit _ j hj]
          constructor
          · intro q; exact ⟨q, by omega⟩
          · intro q; exact q.1
        · rintro p x ⟨a, b, c, _⟩
          exact ⟨by omega, by omega, a⟩
        · rintro p x ⟨a, b, c, e, f⟩ hx
          obtain ⟨g1, g2, g3, g4⟩ := bitLen_spec x hx a
          have := (e (Lib.bitLen x - 1) (by omega)).1 g3
          have key := find_greatest (listOf s ws) v _ hp this.1 this.2 (by
            intro u hu hvu
            have q := f u hu hvu
            by_cases hq : u / 64 = p
            · have hb := (e (u % 64).toNat (by omega)).2 ⟨by rw [show p * 64 + (((u % 64).toNat : Nat) : Int) = u by omega]; exact hu, by omega⟩
              have : (u % 64).toNat < Lib.bitLen x := by
                apply Nat.lt_of_not_le
                intro hle
                rw [g4 _ hle] at hb
                cases hb
              omega
            · omega)
          rw [key] at hr
          have hr := Option.some.inj hr
          omega
      cases hr : prevI (listOf s ws) v with
      | some r => exact ⟨r, rfl⟩
      | none =>
        unfold prevI at hr
        rw [List.find?_eq_none] at hr
        have := hr mn (by simpa using n1)
        simp at this
        omega
end Go.Proofs.YtgfhnmlakjcfaaaDoor
