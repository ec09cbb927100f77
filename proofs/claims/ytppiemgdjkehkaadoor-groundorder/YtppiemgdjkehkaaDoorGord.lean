/- The order makes no difference. No walk. -/
import Derived.Test.YtppiemgdjkehkaaDoorGcon
namespace Go.Proofs.YtppiemgdjkehkaaDoor
open Go.RowKit

theorem sumN_congr {f g : Nat → Int} {n : Nat} (h : ∀ i, i < n → f i = g i) : sumN f n = sumN g n := by
  induction n with
  | zero => rfl
  | succ n ih =>
    unfold sumN
    rw [ih (fun i hi => h i (by omega)), h n (by omega)]
theorem sumN_front (f : Nat → Int) (n : Nat) : sumN f (n + 1) = f 0 + sumN (fun i => f (i + 1)) n := by
  induction n with
  | zero => simp [sumN]
  | succ n ih =>
    rw [sumN, ih]
    conv => rhs; rw [sumN]
    omega
theorem sumN_rev (f : Nat → Int) (n : Nat) : sumN f n = sumN (fun i => f (n - 1 - i)) n := by
  induction n generalizing f with
  | zero => rfl
  | succ n ih =>
    rw [sumN_front, ih]
    conv => rhs; rw [sumN]
    rw [Int.add_comm]
    congr 1
    · refine sumN_congr (fun i hi => ?_)
      congr 1
      omega
    · congr 1
      omega
theorem getD_rev {l : List Int} {i : Nat} (h : i < l.length) : l.reverse.getD i 0 = l.getD (l.length - 1 - i) 0 := by
  rw [List.getD_eq_getElem?_getD, List.getD_eq_getElem?_getD, List.getElem?_reverse h]
theorem noneN_rev (p : Nat → Bool) (n : Nat) : noneN p n = noneN (fun i => p (n - 1 - i)) n := by
  unfold noneN
  congr 1
  rw [Bool.eq_iff_iff, List.any_eq_true, List.any_eq_true]
  constructor
  · rintro ⟨i, hi, h⟩
    rw [List.mem_range] at hi
    exact ⟨n - 1 - i, List.mem_range.2 (by omega), by rw [show n - 1 - (n - 1 - i) = i by omega]; exact h⟩
  · rintro ⟨i, hi, h⟩
    rw [List.mem_range] at hi
    exact ⟨n - 1 - i, List.mem_range.2 (by omega), h⟩
theorem noneN_congr {p q : Nat → Bool} {n : Nat} (h : ∀ i, i < n → p i = q i) : noneN p n = noneN q n := by
  unfold noneN
  congr 1
  rw [Bool.eq_iff_iff, List.any_eq_true, List.any_eq_true]
  constructor
  · rintro ⟨i, hi, e⟩
    exact ⟨i, hi, by rw [← h i (List.mem_range.1 hi)]; exact e⟩
  · rintro ⟨i, hi, e⟩
    exact ⟨i, hi, by rw [h i (List.mem_range.1 hi)]; exact e⟩
theorem vals_rev (l a : List Int) : valsE l.reverse a = (valsE l a).reverse := by
  unfold valsE
  rw [List.map_reverse]
theorem vals_len (l a : List Int) : (valsE l a).length = l.length := by
  unfold valsE
  simp

theorem dot_rev {C x : List Int} (h : C.length = x.length) : dotE C.reverse x.reverse = dotE C x := by
  unfold dotE
  rw [List.length_reverse, sumN_rev]
  conv => rhs; rw [sumN_rev]
  rw [sumN_rev]
  refine sumN_congr (fun i hi => ?_)
  rw [getD_rev (by omega), getD_rev (by omega), h, show x.length - 1 - (x.length - 1 - (x.length - 1 - i)) = x.length - 1 - i by omega]
theorem count_rev (x : List Int) (v : Int) : countE x.reverse v = countE x v := by
  unfold countE
  rw [List.length_reverse, sumN_rev]
  refine (sumN_congr (fun i hi => ?_)).trans rfl
  rw [getD_rev (by omega), show x.length - 1 - (x.length - 1 - i) = i by omega]

theorem diff_iff (x : List Int) : noneN (diffP x) x.length = true ↔ x.Nodup := by
  unfold noneN
  rw [Bool.not_eq_true', List.any_eq_false]
  unfold List.Nodup
  rw [List.pairwise_iff_getElem]
  constructor
  · intro h i j hi hj hij e
    refine h j (List.mem_range.2 hj) ?_
    unfold diffP
    rw [List.any_eq_true]
    refine ⟨x[i], ?_, ?_⟩
    · rw [List.mem_take_iff_getElem]
      exact ⟨i, by omega, rfl⟩
    · rw [List.getD_eq_getElem?_getD, List.getElem?_eq_getElem hj, e]
      simp
  · intro h j hj
    rw [List.mem_range] at hj
    unfold diffP
    rw [List.any_eq_true]
    rintro ⟨z, hz, e⟩
    rw [List.mem_take_iff_getElem] at hz
    obtain ⟨i, hi, rfl⟩ := hz
    rw [List.getD_eq_getElem?_getD, List.getElem?_eq_getElem hj] at e
    exact h i j (by omega) hj (by omega) (by simpa using e)
theorem diff_rev (x : List Int) : noneN (diffP x.reverse) x.reverse.length = noneN (diffP x) x.length := by
  rw [Bool.eq_iff_iff, diff_iff, diff_iff]
  unfold List.Nodup
  rw [List.pairwise_reverse]
  constructor <;> intro h <;> exact h.imp (fun q e => q e.symm)

/-- A constraint with another order. -/
def backC (c : ConL) : ConL :=
  if 1 ≤ c.kind ∧ c.kind ≤ 4 then { c with A := c.A.reverse, C := c.C.reverse }
  else if c.kind = 17 ∨ c.kind = 21 then { c with A := c.A.reverse }
  else if c.kind = 12 then { c with A := c.A.reverse, B := c.B.reverse }
  else if c.kind = 19 then { c with A := c.A.reverse, C := c.C.reverse, D := c.D.reverse }
  else if c.kind = 18 then { c with rows := c.rows.reverse }
  else c
theorem back_kind (c : ConL) : (backC c).kind = c.kind := by
  unfold backC
  repeat' split
  all_goals rfl
theorem back_K (c : ConL) : (backC c).K = c.K := by
  unfold backC
  repeat' split
  all_goals rfl
theorem right_congr {c d : ConL} (n : Int) (hk : d.kind = c.kind) (hs : ∀ sh, sizesB d sh = sizesB c sh) (ha : d.A.any (outV n) = c.A.any (outV n)) (hb : d.B.any (outV n) = c.B.any (outV n)) (hn : numsB d = numsB c) : rightE d n = rightE c n := by
  unfold rightE
  rw [hk, hs, ha, hb, hn]
theorem right_back (c : ConL) (n : Int) : rightE (backC c) n = rightE c n := by
  refine right_congr n (back_kind c) (fun sh => ?_) ?_ ?_ ?_
  · unfold backC
    repeat' split
    all_goals simp [sizesB, sizeA, sizeB, sizeC, sizeL, rowsB]
  · unfold backC
    repeat' split
    all_goals simp
  · unfold backC
    repeat' split
    all_goals simp
  · by_cases h21 : c.kind = 21
    · unfold backC
      rw [if_neg (by omega), if_pos (by omega)]
      rfl
    · have h21' : (backC c).kind ≠ 21 := by rw [back_kind]; exact h21
      unfold numsB
      rw [show ((backC c).kind != 21 || countsB (backC c)) = true by simp [h21'], show (c.kind != 21 || countsB c) = true by simp [h21], back_K]
      unfold backC
      repeat' split
      all_goals simp [lowC, lowK]

theorem need_rev {c : ConL} {x : List Int} (t : Int) (hC : c.C.length = x.length) (hD : c.D.length = x.length) : needE { c with A := c.A.reverse, C := c.C.reverse, D := c.D.reverse } x.reverse t = needE c x t := by
  unfold needE
  rw [List.length_reverse, sumN_rev]
  refine (sumN_congr (fun i hi => ?_)).trans rfl
  unfold needF
  simp only
  rw [getD_rev (by omega), getD_rev (by omega), getD_rev (by omega), hC, hD, show x.length - 1 - (x.length - 1 - i) = i by omega]

theorem meets_back {c : ConL} {a : List Int} (h : rightE c (a.length : Nat) = 0) : meetsB (backC c) (valsE (backC c).A a) (valsE (backC c).B a) = meetsB c (valsE c.A a) (valsE c.B a) := by
  have r := con_r h
  by_cases h1 : 1 ≤ c.kind ∧ c.kind ≤ 4
  · have e : backC c = { c with A := c.A.reverse, C := c.C.reverse } := by unfold backC; rw [if_pos h1]
    rw [e]
    unfold meetsB linB
    simp only
    rw [if_pos h1, if_pos h1, vals_rev, dot_rev (by rw [vals_len]; exact r.lin h1.2)]
  · by_cases h17 : c.kind = 17
    · have e : backC c = { c with A := c.A.reverse } := by unfold backC; rw [if_neg h1, if_pos (.inl h17)]
      rw [e]
      unfold meetsB
      simp only [h17]
      simp only [show ¬ ((1 : Int) ≤ 17 ∧ (17 : Int) ≤ 4) by decide, show ¬ ((5 : Int) ≤ 17 ∧ (17 : Int) ≤ 10) by decide, show ¬ ((17 : Int) = 11) by decide, show ¬ ((17 : Int) = 12) by decide, show ¬ ((13 : Int) ≤ 17 ∧ (17 : Int) ≤ 16) by decide, if_false, if_true]
      rw [vals_rev, diff_rev]
    · by_cases h21 : c.kind = 21
      · have e : backC c = { c with A := c.A.reverse } := by unfold backC; rw [if_neg h1, if_pos (.inr h21)]
        rw [e]
        unfold meetsB
        simp only [h21]
        simp (config := { decide := true }) only [if_false, if_true]
        refine noneN_congr (fun i hi => ?_)
        unfold gccP
        simp only
        rw [vals_rev, count_rev]
      · by_cases h12 : c.kind = 12
        · have e : backC c = { c with A := c.A.reverse, B := c.B.reverse } := by unfold backC; rw [if_neg h1, if_neg (by omega), if_pos h12]
          rw [e]
          unfold meetsB
          simp only [h12]
          simp (config := { decide := true }) only [if_false, if_true]
          rw [vals_rev, vals_rev, List.any_reverse, List.any_reverse]
        · by_cases h19 : c.kind = 19
          · have e : backC c = { c with A := c.A.reverse, C := c.C.reverse, D := c.D.reverse } := by unfold backC; rw [if_neg h1, if_neg (by omega), if_neg h12, if_pos h19]
            rw [e]
            unfold meetsB
            simp only [h19]
            simp (config := { decide := true }) only [if_false, if_true]
            obtain ⟨l1, l2⟩ := r.cum h19
            rw [vals_rev, List.length_reverse, noneN_rev]
            refine noneN_congr (fun i hi => ?_)
            unfold cumP
            simp only
            rw [getD_rev (by omega), show (valsE c.A a).length - 1 - ((valsE c.A a).length - 1 - i) = i by omega, ← need_rev (c := c) (x := valsE c.A a) _ (by rw [vals_len]; exact l1) (by rw [vals_len]; exact l2)]
            rfl
          · by_cases h18 : c.kind = 18
            · have e : backC c = { c with rows := c.rows.reverse } := by unfold backC; rw [if_neg h1, if_neg (by omega), if_neg h12, if_neg h19, if_pos h18]
              rw [e]
              unfold meetsB
              simp only [h18]
              simp (config := { decide := true }) only [if_false, if_true]
              rw [List.any_reverse]
            · have e : backC c = c := by unfold backC; rw [if_neg h1, if_neg (by omega), if_neg h12, if_neg h19, if_neg h18]
              rw [e]
theorem holds_back (c : ConL) (a : List Int) : holdsE (backC c) a = holdsE c a := by
  unfold holdsE holdsB
  rw [right_back]
  by_cases h : rightE c (a.length : Nat) = 0
  · rw [meets_back h]
  · rw [show (rightE c (a.length : Nat) == 0) = false by simpa using h]
    simp
end Go.Proofs.YtppiemgdjkehkaaDoor
