/- The first token of a text that begins with no gap. -/
import Derived.Test.YtancjkanmjdkkaaDoorNum2
import Derived.Test.YtancjkanmjdkkaaDoorGap
import Derived.Test.YtancjkanmjdkkaaDoorBox
import Derived.Laws.ResultCell
namespace Go.Proofs.YtancjkanmjdkkaaDoor
open Go.RowKit

theorem item_of {bs : Bs} (h : bs ≠ []) (hg : gapN false bs = 0) : item bs = if 0 < wordN bs then .tok 1 (wordN bs) 0 else if 0 < numN bs then (if numBad bs then .bad 15 else .tok 2 (numN bs) (numVal bs)) else if 0 < sigN bs then .tok 3 (sigN bs) 0 else .bad 6 := by
  cases bs with
  | nil => exact absurd rfl h
  | cons c r =>
    have ho : overN false c.toNat = false := by
      cases ho : overN false c.toNat with
      | false => rfl
      | true =>
        rw [gapN, if_pos ho] at hg
        omega
    have hb : blankB c = false := by
      rw [overN, ← bla_byte, Bool.or_eq_false_iff] at ho
      exact ho.2
    have hp : (c == 37) = false := by
      rw [beq_eq_false_iff_ne]
      rintro rfl
      revert ho
      decide
    rw [item_cons, hb, hp]
    simp only [Bool.false_eq_true, if_false]
    by_cases hl : letterB c = true
    · rw [if_pos hl, if_pos (by rw [wordN_cons, if_pos hl]; omega)]
    · have hw : wordN (c :: r) = 0 := by rw [wordN_cons, if_neg hl]
      rw [if_neg hl, hw, if_neg (show ¬ 0 < 0 by omega)]
      by_cases hd : (digitsOf (c :: r)).length = 0
      · have hn : numN (c :: r) = 0 := by rw [numN, if_pos hd]
        rw [if_neg (show ¬ ((digitsOf (c :: r)).length != 0) = true by simpa using hd), hn, if_neg (show ¬ 0 < 0 by omega)]
        by_cases hs : signB c = true
        · have h46 : (c == 46) = false := by
            rw [beq_eq_false_iff_ne]
            rintro rfl
            revert hs
            decide
          have hq : sigN (c :: r) = 1 := by rw [sigN, h46, Bool.false_and, if_neg (by decide), if_pos hs]
          rw [if_pos hs, hq, if_pos (by omega)]
        · rw [if_neg hs]
          by_cases hdot : (c == 46 && r.head? == some 46) = true
          · have hq : sigN (c :: r) = 2 := by rw [sigN, if_pos hdot]
            rw [if_pos hdot, hq, if_pos (by omega)]
          · have hq : sigN (c :: r) = 0 := by rw [sigN, if_neg hdot, if_neg hs]
            rw [if_neg hdot, hq, if_neg (by omega)]
      · have hn : numN (c :: r) = minusN (c :: r) + (digitsOf (c :: r)).length := by rw [numN, if_neg hd]
        rw [if_pos (show ((digitsOf (c :: r)).length != 0) = true by simpa using hd), hn, if_pos (show 0 < minusN (c :: r) + (digitsOf (c :: r)).length by omega)]

/-- What is handed back. -/
theorem first_results {W : World} {g : Nat} {a b c d e : Value} (h : Box 33 W g a b c d) (tmps : Array Value) (h2 : tmps.getD 2 undef = .pointer (some ⟨g, 0, none⟩)) (h3 : tmps.getD 3 undef = e) :
    (results Tryd.f17 tmps).run Tryd.prog W = .ok (.tuple #[.agg #[a, b, c, d], e]) W := by
  obtain ⟨x0, x1, x2, x3⟩ := h.cells
  rw [results_cell_tmp (p := 2) (u := 3) (ty := 33) (by kernel_rfl), h2, h3]
  simp [go_sem, x0, x1, x2, x3]

theorem first_word (s : ByteArray) (w : World) (h : 0 < wordN (bl s)) :
    Calls Tryd.prog 17 #[.string s] w fun e w' => e = .returned (.tuple #[tokV 1 (s.extract 0 (wordN (bl s))) 0 0, .int .i64 0]) ∧ Below w.heap.size w w' := by
  have C1 := Lib.hid (word_any s)
  have hle : wordN (bl s) ≤ s.size := by
    rw [← bl_len]
    cases hb : bl s with
    | nil => simp [wordN]
    | cons c r =>
      rw [wordN_cons]
      split
      · have := tw_len partB r
        simp only [List.length_cons]
        omega
      · omega
  generalize wordN (bl s) = n at C1 h hle
  go_enter Tryd.func17, Tryd.ntmps17
  go_wp2_with fail
  refine (C1.out _).mono ?_
  rintro e w1 ⟨rfl, b1⟩
  have hX := (Box.new 33 w (.int .i64 0) (.string ⟨#[]⟩) (.int .i64 0) (.int .i64 0)).below b1
  obtain ⟨x0, x1, x2, x3⟩ := hX.cells
  have f0 := hX.free 0
  have f1 := hX.free 1
  have f2 := hX.free 2
  have f3 := hX.free 3
  have HB := Lib.hid (((Below.refl w.heap.size w).alloc (Nat.le_refl _) (.cells #[.int .i64 0, .string ⟨#[]⟩, .int .i64 0, .int .i64 0] 33)).trans (b1.mono (by simp)))
  have HX := Lib.hid hX
  clear hX b1
  go_wp2_with fail
  refine bodyPost_ret (first_results (put4_same HX.out _ _ _ _) _ rfl rfl) rfl ⟨rfl, put4_below HB.out _ (Nat.le_refl _) _ _ _ _⟩

theorem numN_take {bs : Bs} (h : 0 < numN bs) : ∃ m, (m = [] ∨ m = [45]) ∧ m.length = minusN bs ∧ bs.take (numN bs) = m ++ digitsOf bs ∧ digitsOf bs ≠ [] ∧ (∀ x ∈ digitsOf bs, digitB x = true) ∧ numN bs ≤ bs.length ∧ badD m (digitsOf bs) = numBad bs := by
  have hd : (digitsOf bs).length ≠ 0 := by
    intro h0
    rw [numN, if_pos h0] at h
    omega
  have hn : numN bs = minusN bs + (digitsOf bs).length := by rw [numN, if_neg hd]
  obtain ⟨m, h1, h2, h3⟩ := take_num hd
  refine ⟨m, h1, h2, by rw [hn, h3], fun e => hd (by rw [e]; rfl), fun x hx => tw_all _ _ x hx, by rw [hn]; exact num_len bs hd, ?_⟩
  unfold badD numBad
  rw [h2]
  generalize ((digitsOf bs).head? == some 48) = a
  generalize (minusN bs == 1) = b
  generalize (digitsOf bs).length = n at hd
  rcases (show n = 1 ∨ (1 < n ∧ ¬ 10 < n) ∨ 10 < n by omega) with rfl | ⟨c1, c2⟩ | c1
  · cases a <;> cases b <;> rfl
  · have e1 : (n == 1) = false := by rw [beq_eq_false_iff_ne]; omega
    simp [c1, c2, e1]
  · simp [c1]

theorem first_num (s : ByteArray) (w : World) (hs : s.size ≤ 4611686018427387904) (h0 : wordN (bl s) = 0) (h : 0 < numN (bl s)) :
    Calls Tryd.prog 17 #[.string s] w fun e w' => e = .returned (.tuple #[tokV 2 (s.extract 0 (numN (bl s))) (if numBad (bl s) then 0 else numVal (bl s)) 0, .int .i64 (if numBad (bl s) then 15 else 0)]) ∧ Below w.heap.size w w' := by
  have C1 := Lib.hid (word_any s)
  have C2 := Lib.hid (fun W => number_any s W hs)
  obtain ⟨m, m1, m2, m3, m4, m5, m6, m7⟩ := numN_take h
  have hu : bl (s.extract 0 (numN (bl s))) = m ++ digitsOf (bl s) := by
    rw [bl_extract, List.drop_zero, Nat.sub_zero, m3]
  have C3 := Lib.hid (valueOf_any (s.extract 0 (numN (bl s))) m _ hu m1 m5 m4)
  rw [m7, m2] at C3
  change Hid (∀ w, Calls Tryd.prog 34 #[.string (s.extract 0 (numN (bl s)))] w fun e w' => e = .returned (.tuple #[.int .i64 (if numBad (bl s) then 0 else numVal (bl s)), .int .i64 (if numBad (bl s) then 15 else 0)]) ∧ Below w.heap.size w w') at C3
  rw [bl_len] at m6
  rw [h0] at C1
  generalize numN (bl s) = n at C2 C3 h m6
  generalize (if numBad (bl s) then 0 else numVal (bl s)) = V at C3
  generalize (if numBad (bl s) then (15 : Int) else 0) = E at C3
  clear m1 m2 m3 m4 m5 m7 hu h0
  go_enter Tryd.func17, Tryd.ntmps17
  go_wp2_with fail
  refine (C1.out _).mono ?_
  rintro e w1 ⟨rfl, b1⟩
  have HX := Lib.hid ((Box.new 33 w (.int .i64 0) (.string ⟨#[]⟩) (.int .i64 0) (.int .i64 0)).below b1)
  have HB := Lib.hid (((Below.refl w.heap.size w).alloc (Nat.le_refl _) (.cells #[.int .i64 0, .string ⟨#[]⟩, .int .i64 0, .int .i64 0] 33)).trans (b1.mono (by simp)))
  clear b1
  go_wp2_with fail
  refine (C2.out _).mono ?_
  rintro e w2 ⟨rfl, b2⟩
  have HX2 := Lib.hid (HX.out.below b2)
  have HB2 := Lib.hid (HB.out.trans (b2.mono HB.out.size))
  clear b2 HX HB
  go_wp2_with fail
  refine (C3.out _).mono ?_
  rintro e w3 ⟨rfl, b3⟩
  have HX3 := Lib.hid (HX2.out.below b3)
  have HB3 := Lib.hid (HB2.out.trans (b3.mono HB2.out.size))
  clear b3 HX2 HB2
  obtain ⟨x0, x1, x2, x3⟩ := HX3.out.cells
  have f0 := HX3.out.free 0
  have f1 := HX3.out.free 1
  have f2 := HX3.out.free 2
  have f3 := HX3.out.free 3
  go_wp2_with fail
  refine bodyPost_ret (first_results (put4_same HX3.out _ _ _ _) _ rfl rfl) rfl ⟨rfl, put4_below HB3.out _ (Nat.le_refl _) _ _ _ _⟩

theorem sigN_le (bs : Bs) : sigN bs ≤ bs.length := by
  cases bs with
  | nil => simp [sigN]
  | cons c r =>
    rw [sigN]
    split
    · next h =>
      cases r with
      | nil => simp at h
      | cons a b => simp
    · split <;> simp

theorem first_sign (s : ByteArray) (w : World) (hs : s.size ≤ 4611686018427387904) (h0 : wordN (bl s) = 0) (h1 : numN (bl s) = 0) (c : UInt8) (r : Bs) (hc : bl s = c :: r) :
    Calls Tryd.prog 17 #[.string s] w fun e w' => e = .returned (.tuple #[if 0 < sigN (bl s) then tokV 3 (s.extract 0 (sigN (bl s))) 0 0 else tokV 0 ⟨#[]⟩ 0 0, .int .i64 (if 0 < sigN (bl s) then 0 else 6)]) ∧ Below w.heap.size w w' := by
  have C1 := Lib.hid (word_any s)
  have C2 := Lib.hid (fun W => number_any s W hs)
  have C3 := Lib.hid (fun W => sign_any s W c r hc)
  have hle := sigN_le (bl s)
  rw [bl_len] at hle
  rw [h0] at C1
  rw [h1] at C2
  generalize sigN (bl s) = n at C3 hle
  clear h0 h1 hc
  by_cases hn : 0 < n
  · rw [if_pos hn, if_pos hn]
    go_enter Tryd.func17, Tryd.ntmps17
    go_wp2_with fail
    refine (C1.out _).mono ?_
    rintro e w1 ⟨rfl, b1⟩
    have HX := Lib.hid ((Box.new 33 w (.int .i64 0) (.string ⟨#[]⟩) (.int .i64 0) (.int .i64 0)).below b1)
    have HB := Lib.hid (((Below.refl w.heap.size w).alloc (Nat.le_refl _) (.cells #[.int .i64 0, .string ⟨#[]⟩, .int .i64 0, .int .i64 0] 33)).trans (b1.mono (by simp)))
    clear b1
    go_wp2_with fail
    refine (C2.out _).mono ?_
    rintro e w2 ⟨rfl, b2⟩
    have HX2 := Lib.hid (HX.out.below b2)
    have HB2 := Lib.hid (HB.out.trans (b2.mono HB.out.size))
    clear b2 HX HB
    go_wp2_with fail
    refine (C3.out _).mono ?_
    rintro e w3 ⟨rfl, rfl⟩
    obtain ⟨x0, x1, x2, x3⟩ := HX2.out.cells
    have f0 := HX2.out.free 0
    have f1 := HX2.out.free 1
    have f2 := HX2.out.free 2
    have f3 := HX2.out.free 3
    go_wp2_with fail
    refine bodyPost_ret (first_results (put4_same HX2.out _ _ _ _) _ rfl rfl) rfl ⟨rfl, put4_below HB2.out _ (Nat.le_refl _) _ _ _ _⟩
  · rw [if_neg hn, if_neg hn]
    obtain rfl : n = 0 := by omega
    go_enter Tryd.func17, Tryd.ntmps17
    go_wp2_with fail
    refine (C1.out _).mono ?_
    rintro e w1 ⟨rfl, b1⟩
    have HX := Lib.hid ((Box.new 33 w (.int .i64 0) (.string ⟨#[]⟩) (.int .i64 0) (.int .i64 0)).below b1)
    have HB := Lib.hid (((Below.refl w.heap.size w).alloc (Nat.le_refl _) (.cells #[.int .i64 0, .string ⟨#[]⟩, .int .i64 0, .int .i64 0] 33)).trans (b1.mono (by simp)))
    clear b1
    go_wp2_with fail
    refine (C2.out _).mono ?_
    rintro e w2 ⟨rfl, b2⟩
    have HX2 := Lib.hid (HX.out.below b2)
    have HB2 := Lib.hid (HB.out.trans (b2.mono HB.out.size))
    clear b2 HX HB
    go_wp2_with fail
    refine (C3.out _).mono ?_
    rintro e w3 ⟨rfl, rfl⟩
    obtain ⟨x0, x1, x2, x3⟩ := HX2.out.cells
    have f0 := HX2.out.free 0
    have f1 := HX2.out.free 1
    have f2 := HX2.out.free 2
    have f3 := HX2.out.free 3
    go_wp2_with fail
    refine bodyPost_ret (first_results (put4_same HX2.out _ _ _ _) _ rfl rfl) rfl ⟨rfl, put4_below HB2.out _ (Nat.le_refl _) _ _ _ _⟩

/-- What the first token of a text is, or what is wrong. -/
def FirstR (s : ByteArray) (k : Nat) (x : ByteArray) (v err : Int) : Prop :=
  (∃ n, item (bl s) = .tok k n v ∧ x = s.extract 0 n ∧ err = 0) ∨ (∃ e, item (bl s) = .bad e ∧ err = e ∧ e ≠ 0)

theorem first_any (s : ByteArray) (w : World) (hs : s.size ≤ 4611686018427387904) (hne : bl s ≠ []) (hg : gapN false (bl s) = 0) :
    Calls Tryd.prog 17 #[.string s] w fun e w' => ∃ k x v err, e = .returned (.tuple #[tokV k x v 0, .int .i64 err]) ∧ FirstR s k x v err ∧ Below w.heap.size w w' := by
  have hi := item_of hne hg
  by_cases h0 : 0 < wordN (bl s)
  · rw [if_pos h0] at hi
    refine (first_word s w h0).mono ?_
    rintro e w' ⟨rfl, hb⟩
    exact ⟨_, _, _, _, rfl, .inl ⟨_, hi, rfl, rfl⟩, hb⟩
  · rw [if_neg h0] at hi
    by_cases h1 : 0 < numN (bl s)
    · rw [if_pos h1] at hi
      refine (first_num s w hs (by omega) h1).mono ?_
      rintro e w' ⟨rfl, hb⟩
      by_cases h2 : numBad (bl s) = true
      · rw [if_pos h2] at hi
        exact ⟨_, _, _, _, rfl, .inr ⟨15, hi, by rw [if_pos h2], by decide⟩, hb⟩
      · rw [if_neg h2] at hi
        exact ⟨_, _, _, _, rfl, .inl ⟨_, by rw [if_neg h2]; exact hi, rfl, by rw [if_neg h2]⟩, hb⟩
    · rw [if_neg h1] at hi
      cases hc : bl s with
      | nil => exact absurd hc hne
      | cons c r =>
        refine (first_sign s w hs (by omega) (by omega) c r hc).mono ?_
        rintro e w' ⟨rfl, hb⟩
        by_cases h2 : 0 < sigN (bl s)
        · rw [if_pos h2] at hi
          rw [if_pos h2, if_pos h2]
          exact ⟨_, _, _, _, rfl, .inl ⟨_, hi, rfl, rfl⟩, hb⟩
        · rw [if_neg h2] at hi
          rw [if_neg h2, if_neg h2]
          exact ⟨_, _, _, _, rfl, .inr ⟨6, hi, rfl, by decide⟩, hb⟩
end Go.Proofs.YtancjkanmjdkkaaDoor
