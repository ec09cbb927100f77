/- Replaced bytes, as a text's bytes one by one; the texts of ParseBlanks: pure. -/
import Derived.Test.YtgemgmdnnjaghaaGreatDoorPblankm
import Derived.Test.YtgemgmdnnjaghaaGreatDoorPflt
import Derived.Lib.Replace
import Derived.Lib.SplitLaws
namespace Go.Proofs.YtgemgmdnnjaghaaGreatDoor
open Go.RowKit

def rep (x : UInt8) (new : Bs) (c : UInt8) : Bs := if c = x then new else [c]
theorem rep_none {x : UInt8} {new : Bs} : ∀ {s : Bs}, x ∉ s → s.flatMap (rep x new) = s
  | [], _ => rfl
  | c :: s, h => by
    rw [List.flatMap_cons, rep_none (fun hx => h (by simp [hx]))]
    unfold rep
    rw [if_neg (fun e => h (by simp [e]))]
    rfl
theorem rep_same (x : UInt8) : ∀ s : Bs, s.flatMap (rep x [x]) = s
  | [] => rfl
  | c :: s => by
    rw [List.flatMap_cons, rep_same x s]
    unfold rep
    split
    · next e => rw [e]; rfl
    · rfl
theorem index_hit (x : UInt8) (l : Bs) : Lib.index (x :: l) [x] = 0 := by
  simp [Lib.index, List.isPrefixOf]
theorem index_miss {c x : UInt8} (h : c ≠ x) (l : Bs) : Lib.index (c :: l) [x] = if Lib.index l [x] == -1 then -1 else Lib.index l [x] + 1 := by
  rw [Lib.index, if_neg]
  simp [List.isPrefixOf, Ne.symm h]
theorem replaceK_rep (x : UInt8) (new : Bs) : ∀ (s : Bs) (k : Nat), s.count x ≤ k → Lib.replaceK [x] new k s = s.flatMap (rep x new) := by
  intro s
  induction s with
  | nil =>
    intro k _
    cases k with
    | zero => rfl
    | succ k => rfl
  | cons c l ih =>
    intro k hk
    cases k with
    | zero =>
      have hx : x ∉ c :: l := by
        intro hm
        have := List.count_pos_iff.2 hm
        omega
      rw [rep_none hx]
      rfl
    | succ k =>
      by_cases hc : c = x
      · subst hc
        rw [Lib.replaceK_hit [c] new k (c :: l) 0 (index_hit c l)]
        simp only [List.take_zero, List.nil_append, Nat.zero_add, List.length_singleton, List.drop_succ_cons, List.drop_zero]
        rw [ih k (by simpa using hk), List.flatMap_cons]
        unfold rep
        rw [if_pos rfl]
      · have hl : l.count x ≤ k + 1 := by
          rw [List.count_cons_of_ne hc] at hk
          exact hk
        have hi := ih (k + 1) hl
        rw [List.flatMap_cons, ← hi]
        unfold rep
        rw [if_neg hc]
        simp only [Lib.replaceK, index_miss hc]
        by_cases hm : (Lib.index l [x] == -1) = true
        · rw [if_pos hm, if_pos (by decide), if_pos hm]
          rfl
        · have hge := Lib.index_ge l [x]
          have hm' : Lib.index l [x] ≠ -1 := by simpa using hm
          rw [if_neg hm, if_neg (by simp; omega), if_neg hm]
          obtain ⟨i, hi'⟩ : ∃ i : Nat, Lib.index l [x] = i := ⟨(Lib.index l [x]).toNat, by omega⟩
          rw [hi']
          have e1 : ((i : Int) + 1).toNat = i + 1 := by omega
          rw [e1]
          simp only [Int.toNat_natCast, List.take_succ_cons, List.length_singleton, List.drop_succ_cons, List.cons_append, List.nil_append]
theorem replaceAll_rep (x : UInt8) (new s : Bs) : Lib.replaceAll s [x] new = s.flatMap (rep x new) := by
  unfold Lib.replaceAll Lib.replace
  split
  · next h =>
    have : new = [x] := by have := beq_iff_eq.1 h; exact this.symm
    subst this
    rw [rep_same]
  · unfold Lib.replaceNum
    rw [if_pos (by omega)]
    exact replaceK_rep x new s _ (by rw [Lib.count_one]; exact Nat.le_refl _)

/-- Some signs, with gaps around them. -/
def sgx (xs : List UInt8) (c : UInt8) : Bs := if c ∈ xs then [10, c, 32, 9] else [c]
theorem sgx_step {xs : List UInt8} {x : UInt8} (hx : x ∉ xs) (h1 : (10 : UInt8) ≠ x) (h2 : (32 : UInt8) ≠ x) (h3 : (9 : UInt8) ≠ x) (s : Bs) : (s.flatMap (sgx xs)).flatMap (rep x [10, x, 32, 9]) = s.flatMap (sgx (xs ++ [x])) := by
  rw [List.flatMap_assoc]
  congr 1
  funext c
  unfold sgx
  by_cases hc : c ∈ xs
  · have hcx : c ≠ x := fun e => hx (e ▸ hc)
    rw [if_pos hc, if_pos (by simp [hc])]
    simp [rep, hcx, h1, h2, h3]
  · rw [if_neg hc]
    by_cases hcx : c = x
    · subst hcx
      rw [if_pos (by simp)]
      simp [rep]
    · rw [if_neg (by simp [hc, hcx])]
      simp [rep, hcx]
def signsL : List UInt8 := [40, 41, 91, 93, 123, 125, 44, 59, 58]
theorem sign_mem (c : UInt8) : signB c = true ↔ c ∈ signsL := by
  unfold signB signsL
  simp only [Bool.or_eq_true, beq_iff_eq, List.mem_cons, List.not_mem_nil, or_false, or_assoc]
/-- One step of the law's loop. -/
theorem signs_step (s : Bs) (i : Nat) (hi : i < 9) : (s.flatMap (sgx (signsL.take i))).flatMap (rep (signsL.getD i 0) [10, signsL.getD i 0, 32, 9]) = s.flatMap (sgx (signsL.take (i + 1))) := by
  have h9 : i = 0 ∨ i = 1 ∨ i = 2 ∨ i = 3 ∨ i = 4 ∨ i = 5 ∨ i = 6 ∨ i = 7 ∨ i = 8 := by omega
  rcases h9 with rfl | rfl | rfl | rfl | rfl | rfl | rfl | rfl | rfl <;> exact sgx_step (by decide) (by decide) (by decide) (by decide) s
theorem sgx_len (xs : List UInt8) : ∀ s : Bs, (s.flatMap (sgx xs)).length ≤ 4 * s.length
  | [] => by simp
  | c :: s => by
    have := sgx_len xs s
    rw [List.flatMap_cons, List.length_append, List.length_cons]
    have h1 : (sgx xs c).length ≤ 4 := by unfold sgx; split <;> simp
    omega
/-- The gaps of the second text. -/
def gapF (q : Bs) (c : UInt8) : Bs × Bs := if c = 59 then (10 :: comL q, [32, 9]) else ([10], [32, 9])
theorem gapF_ok {q : Bs} (hq : ∀ x ∈ q, x ≠ 10) : Gapped (gapF q) := by
  have hp : ∀ rest p, lexL ([32, 9] ++ rest) p = lexL rest (p + 2) := fun rest p => by
    rw [List.cons_append, lexL_blank (by decide), List.cons_append, lexL_blank (by decide)]
    rfl
  refine ⟨fun c _ rest p => ?_, fun c _ rest p => ?_, fun c _ => ?_⟩
  · unfold gapF
    split
    · simp only [List.cons_append, List.length_cons]
      rw [lexL_blank (by decide), lexL_comL hq, Nat.add_assoc, Nat.add_comm 1]
    · simp only [List.cons_append, List.nil_append, List.length_cons, List.length_nil]
      rw [lexL_blank (by decide)]
  · unfold gapF
    split <;> exact hp rest p
  · unfold gapF
    split
    · exact ⟨_, rfl⟩
    · exact ⟨_, rfl⟩
theorem second_is (q s : Bs) : (s.flatMap (sgx signsL)).flatMap (rep 59 (comL q ++ [59])) = s.flatMap (gaps (gapF q)) := by
  rw [List.flatMap_assoc]
  congr 1
  funext c
  unfold sgx gaps
  by_cases hc : signB c = true
  · rw [if_pos ((sign_mem c).1 hc), if_pos hc]
    unfold gapF
    by_cases h59 : c = 59
    · subst h59
      simp [rep]
    · rw [if_neg h59]
      simp [rep, h59]
  · rw [if_neg (fun e => hc ((sign_mem c).2 e)), if_neg hc]
    have h59 : c ≠ 59 := fun e => hc (by rw [e]; decide)
    simp [rep, h59]
theorem gaps_len (q : Bs) : ∀ s : Bs, (s.flatMap (gaps (gapF q))).length ≤ (q.length + 8) * s.length
  | [] => by simp
  | c :: s => by
    have := gaps_len q s
    rw [List.flatMap_cons, List.length_append, List.length_cons, Nat.mul_add, Nat.mul_one]
    have h1 : (gaps (gapF q) c).length ≤ q.length + 8 := by
      unfold gaps
      split
      · unfold gapF comL
        split <;> simp <;> omega
      · simp
    omega
/-- What both texts are parsed to. -/
theorem lex_of_good {bs : Bs} (h : (parseA bs).2.2 = 0) : ∃ l, lexL bs 0 = .ok l ∧ ∀ p e, itemsP bs.length l.length noMod l = .error (p, e) → e ≠ 0 := by
  have he0 : (lexA bs).2.2 = 0 := by
    unfold parseA at h
    split at h
    · exact h
    · next he => simpa using he
  have l3 := (lexA_ok he0).2.2.2
  have l1 := (lexA_ok he0).2.1
  rcases hr : lexL bs 0 with ⟨p, e⟩ | l
  · unfold lexA at he0
    rw [if_neg (by omega), hr] at he0
    exact absurd he0 (lexL_wrong hr)
  · refine ⟨l, rfl, fun p e hi => ?_⟩
    have hl : (lexA bs).1 = l := by
      unfold lexA
      rw [if_neg (by omega), hr]
      rfl
    rw [hl] at l3
    exact (itemsP_f _ _ _ _ (fun t ht => (l3 t ht).2) hi).2
theorem blanks_one {s q : Bs} (hq : ∀ x ∈ q, x ≠ 10) (hs : s.length ≤ 1000) (hl : q.length ≤ 20) (h : (parseA s).2.2 = 0) : parseA (comL q ++ s ++ 10 :: comL q) = ((parseA s).1, 0, 0) := by
  obtain ⟨l, h1, h2⟩ := lex_of_good h
  obtain ⟨l', h3, h4⟩ := lexL_around hq h1
  exact parse_alike (by unfold comL; simp; omega) h h1 h3 h4 h2
theorem blanks_two {s q : Bs} (hq : ∀ x ∈ q, x ≠ 10) (hs : s.length ≤ 1000) (hl : q.length ≤ 20) (hno : ∀ x ∈ s, x ≠ 37) (h : (parseA s).2.2 = 0) : parseA ((s.flatMap (sgx signsL)).flatMap (rep 59 (comL q ++ [59]))) = ((parseA s).1, 0, 0) := by
  obtain ⟨l, h1, h2⟩ := lex_of_good h
  obtain ⟨l', h3, h4⟩ := lexL_gaps (gapF_ok hq) s hno 0 0 l h1
  rw [second_is]
  refine parse_alike ?_ h h1 h3 h4 h2
  have := gaps_len q s
  have hm : (q.length + 8) * s.length ≤ 28 * 1000 := Nat.mul_le_mul (by omega) hs
  omega
/-- Line feeds replaced. -/
theorem rep_no10 (s : Bs) : ∀ x ∈ s.flatMap (rep 10 [32]), x ≠ 10 := by
  intro x hx
  obtain ⟨c, hc, hx⟩ := List.mem_flatMap.1 hx
  unfold rep at hx
  split at hx
  · have : x = 32 := by simpa using hx
    subst this
    decide
  · next h => have : x = c := by simpa using hx
              rw [this]; exact h
theorem rep_len1 (s : Bs) : (s.flatMap (rep 10 [32])).length = s.length := by
  induction s with
  | nil => rfl
  | cons c s ih =>
    rw [List.flatMap_cons, List.length_append, ih, List.length_cons]
    have : (rep 10 [32] c).length = 1 := by unfold rep; split <;> rfl
    omega
end Go.Proofs.YtgemgmdnnjaghaaGreatDoor
