/- What the document's Make makes may be. No walk. Made by tools/genmkr.py. -/
import Derived.Test.YtkhmocbfkpbpfaaGreatDoorMkmore
import Derived.Test.YtkhmocbfkpbpfaaGreatDoorRg2
import Derived.Test.YtkhmocbfkpbpfaaGreatDoorMnum
namespace Go.Proofs.YtkhmocbfkpbpfaaGreatDoor
open Go.RowKit

set_option linter.unusedSimpArgs false in
set_option linter.unusedVariables false in
theorem mk_arity1 (la lb lc : List Int) (K ch vars : Int) (n : Nat) (hb : 1 ≤ n ∧ n ≤ 4) : arityB (s9 lc n (s8 lc K ch (s7 lc n (s6 K 1 (s5 lc (s4 lc 1 n (s3 lb vars 0 n (s2 lb vars 0 (s1 la vars n 1))))))))) ⟨(shapesL.getD 1 []).toArray⟩ = true := by
  have e : shapesL.getD 1 [] = [99, 86, 107] := by kernel_rfl
  rw [e]
  have h3 := Nat.mod_lt lc.length (show 0 < 3 by decide)
  have h5 := Nat.mod_lt lc.length (show 0 < 5 by decide)
  have h6 := Nat.mod_lt lc.length (show 0 < 6 by decide)
  simp [s1, s2, s3, s4, s5, s6, s7, s8, s9, arityB, mkL_len, cntI, lenI, listB, bl, rowF]
  all_goals first | omega | (intros; omega)

set_option linter.unusedSimpArgs false in
set_option linter.unusedVariables false in
theorem mk_arity2 (la lb lc : List Int) (K ch vars : Int) (n : Nat) (hb : 1 ≤ n ∧ n ≤ 4) : arityB (s9 lc n (s8 lc K ch (s7 lc n (s6 K 1 (s5 lc (s4 lc 1 n (s3 lb vars 0 n (s2 lb vars 0 (s1 la vars n 2))))))))) ⟨(shapesL.getD 2 []).toArray⟩ = true := by
  have e : shapesL.getD 2 [] = [99, 86, 107] := by kernel_rfl
  rw [e]
  have h3 := Nat.mod_lt lc.length (show 0 < 3 by decide)
  have h5 := Nat.mod_lt lc.length (show 0 < 5 by decide)
  have h6 := Nat.mod_lt lc.length (show 0 < 6 by decide)
  simp [s1, s2, s3, s4, s5, s6, s7, s8, s9, arityB, mkL_len, cntI, lenI, listB, bl, rowF]
  all_goals first | omega | (intros; omega)

set_option linter.unusedSimpArgs false in
set_option linter.unusedVariables false in
theorem mk_arity3 (la lb lc : List Int) (K ch vars : Int) (n : Nat) (hb : 1 ≤ n ∧ n ≤ 4) : arityB (s9 lc n (s8 lc K ch (s7 lc n (s6 K 1 (s5 lc (s4 lc 1 n (s3 lb vars 0 n (s2 lb vars 0 (s1 la vars n 3))))))))) ⟨(shapesL.getD 3 []).toArray⟩ = true := by
  have e : shapesL.getD 3 [] = [99, 86, 107] := by kernel_rfl
  rw [e]
  have h3 := Nat.mod_lt lc.length (show 0 < 3 by decide)
  have h5 := Nat.mod_lt lc.length (show 0 < 5 by decide)
  have h6 := Nat.mod_lt lc.length (show 0 < 6 by decide)
  simp [s1, s2, s3, s4, s5, s6, s7, s8, s9, arityB, mkL_len, cntI, lenI, listB, bl, rowF]
  all_goals first | omega | (intros; omega)

set_option linter.unusedSimpArgs false in
set_option linter.unusedVariables false in
theorem mk_arity4 (la lb lc : List Int) (K ch vars : Int) (n : Nat) (hb : 1 ≤ n ∧ n ≤ 4) : arityB (s9 lc n (s8 lc K ch (s7 lc n (s6 K 1 (s5 lc (s4 lc 1 n (s3 lb vars 0 n (s2 lb vars 1 (s1 la vars n 4))))))))) ⟨(shapesL.getD 4 []).toArray⟩ = true := by
  have e : shapesL.getD 4 [] = [99, 86, 107, 119] := by kernel_rfl
  rw [e]
  have h3 := Nat.mod_lt lc.length (show 0 < 3 by decide)
  have h5 := Nat.mod_lt lc.length (show 0 < 5 by decide)
  have h6 := Nat.mod_lt lc.length (show 0 < 6 by decide)
  simp [s1, s2, s3, s4, s5, s6, s7, s8, s9, arityB, mkL_len, cntI, lenI, listB, bl, rowF]
  all_goals first | omega | (intros; omega)

set_option linter.unusedSimpArgs false in
set_option linter.unusedVariables false in
theorem mk_arity5 (la lb lc : List Int) (K ch vars : Int) : arityB (s9 lc 3 (s8 lc K ch (s7 lc 3 (s6 K 0 (s5 lc (s4 lc 0 3 (s3 lb vars 0 3 (s2 lb vars 0 (s1 la vars 3 5))))))))) ⟨(shapesL.getD 5 []).toArray⟩ = true := by
  have e : shapesL.getD 5 [] = [118, 118, 118] := by kernel_rfl
  rw [e]
  have h3 := Nat.mod_lt lc.length (show 0 < 3 by decide)
  have h5 := Nat.mod_lt lc.length (show 0 < 5 by decide)
  have h6 := Nat.mod_lt lc.length (show 0 < 6 by decide)
  simp [s1, s2, s3, s4, s5, s6, s7, s8, s9, arityB, mkL_len, cntI, lenI, listB, bl, rowF]
  all_goals first | omega | (intros; omega)

set_option linter.unusedSimpArgs false in
set_option linter.unusedVariables false in
theorem mk_arity6 (la lb lc : List Int) (K ch vars : Int) : arityB (s9 lc 3 (s8 lc K ch (s7 lc 3 (s6 K 0 (s5 lc (s4 lc 0 3 (s3 lb vars 0 3 (s2 lb vars 0 (s1 la vars 3 6))))))))) ⟨(shapesL.getD 6 []).toArray⟩ = true := by
  have e : shapesL.getD 6 [] = [118, 118, 118] := by kernel_rfl
  rw [e]
  have h3 := Nat.mod_lt lc.length (show 0 < 3 by decide)
  have h5 := Nat.mod_lt lc.length (show 0 < 5 by decide)
  have h6 := Nat.mod_lt lc.length (show 0 < 6 by decide)
  simp [s1, s2, s3, s4, s5, s6, s7, s8, s9, arityB, mkL_len, cntI, lenI, listB, bl, rowF]
  all_goals first | omega | (intros; omega)

set_option linter.unusedSimpArgs false in
set_option linter.unusedVariables false in
theorem mk_arity7 (la lb lc : List Int) (K ch vars : Int) : arityB (s9 lc 3 (s8 lc K ch (s7 lc 3 (s6 K 0 (s5 lc (s4 lc 0 3 (s3 lb vars 0 3 (s2 lb vars 0 (s1 la vars 3 7))))))))) ⟨(shapesL.getD 7 []).toArray⟩ = true := by
  have e : shapesL.getD 7 [] = [118, 118, 118] := by kernel_rfl
  rw [e]
  have h3 := Nat.mod_lt lc.length (show 0 < 3 by decide)
  have h5 := Nat.mod_lt lc.length (show 0 < 5 by decide)
  have h6 := Nat.mod_lt lc.length (show 0 < 6 by decide)
  simp [s1, s2, s3, s4, s5, s6, s7, s8, s9, arityB, mkL_len, cntI, lenI, listB, bl, rowF]
  all_goals first | omega | (intros; omega)

set_option linter.unusedSimpArgs false in
set_option linter.unusedVariables false in
theorem mk_arity8 (la lb lc : List Int) (K ch vars : Int) : arityB (s9 lc 2 (s8 lc K ch (s7 lc 2 (s6 K 0 (s5 lc (s4 lc 0 2 (s3 lb vars 0 2 (s2 lb vars 0 (s1 la vars 2 8))))))))) ⟨(shapesL.getD 8 []).toArray⟩ = true := by
  have e : shapesL.getD 8 [] = [118, 118] := by kernel_rfl
  rw [e]
  have h3 := Nat.mod_lt lc.length (show 0 < 3 by decide)
  have h5 := Nat.mod_lt lc.length (show 0 < 5 by decide)
  have h6 := Nat.mod_lt lc.length (show 0 < 6 by decide)
  simp [s1, s2, s3, s4, s5, s6, s7, s8, s9, arityB, mkL_len, cntI, lenI, listB, bl, rowF]
  all_goals first | omega | (intros; omega)

set_option linter.unusedSimpArgs false in
set_option linter.unusedVariables false in
theorem mk_arity9 (la lb lc : List Int) (K ch vars : Int) : arityB (s9 lc 3 (s8 lc K ch (s7 lc 3 (s6 K 0 (s5 lc (s4 lc 0 3 (s3 lb vars 0 3 (s2 lb vars 0 (s1 la vars 3 9))))))))) ⟨(shapesL.getD 9 []).toArray⟩ = true := by
  have e : shapesL.getD 9 [] = [118, 118, 118] := by kernel_rfl
  rw [e]
  have h3 := Nat.mod_lt lc.length (show 0 < 3 by decide)
  have h5 := Nat.mod_lt lc.length (show 0 < 5 by decide)
  have h6 := Nat.mod_lt lc.length (show 0 < 6 by decide)
  simp [s1, s2, s3, s4, s5, s6, s7, s8, s9, arityB, mkL_len, cntI, lenI, listB, bl, rowF]
  all_goals first | omega | (intros; omega)

set_option linter.unusedSimpArgs false in
set_option linter.unusedVariables false in
theorem mk_arity10 (la lb lc : List Int) (K ch vars : Int) : arityB (s9 lc 3 (s8 lc K ch (s7 lc 3 (s6 K 0 (s5 lc (s4 lc 0 3 (s3 lb vars 0 3 (s2 lb vars 0 (s1 la vars 3 10))))))))) ⟨(shapesL.getD 10 []).toArray⟩ = true := by
  have e : shapesL.getD 10 [] = [118, 118, 118] := by kernel_rfl
  rw [e]
  have h3 := Nat.mod_lt lc.length (show 0 < 3 by decide)
  have h5 := Nat.mod_lt lc.length (show 0 < 5 by decide)
  have h6 := Nat.mod_lt lc.length (show 0 < 6 by decide)
  simp [s1, s2, s3, s4, s5, s6, s7, s8, s9, arityB, mkL_len, cntI, lenI, listB, bl, rowF]
  all_goals first | omega | (intros; omega)

set_option linter.unusedSimpArgs false in
set_option linter.unusedVariables false in
theorem mk_arity11 (la lb lc : List Int) (K ch vars : Int) : arityB (s9 lc 2 (s8 lc K ch (s7 lc 2 (s6 K 0 (s5 lc (s4 lc 1 2 (s3 lb vars 0 2 (s2 lb vars 0 (s1 la vars 2 11))))))))) ⟨(shapesL.getD 11 []).toArray⟩ = true := by
  have e : shapesL.getD 11 [] = [118, 99, 118] := by kernel_rfl
  rw [e]
  have h3 := Nat.mod_lt lc.length (show 0 < 3 by decide)
  have h5 := Nat.mod_lt lc.length (show 0 < 5 by decide)
  have h6 := Nat.mod_lt lc.length (show 0 < 6 by decide)
  simp [s1, s2, s3, s4, s5, s6, s7, s8, s9, arityB, mkL_len, cntI, lenI, listB, bl, rowF]
  all_goals first | omega | (intros; omega)

set_option linter.unusedSimpArgs false in
set_option linter.unusedVariables false in
theorem mk_arity12 (la lb lc : List Int) (K ch vars : Int) (n : Nat) (hb : 1 ≤ n ∧ n ≤ 4) : arityB (s9 lc n (s8 lc K ch (s7 lc n (s6 K 0 (s5 lc (s4 lc 0 n (s3 lb vars 1 n (s2 lb vars 0 (s1 la vars n 12))))))))) ⟨(shapesL.getD 12 []).toArray⟩ = true := by
  have e : shapesL.getD 12 [] = [86, 87] := by kernel_rfl
  rw [e]
  have h3 := Nat.mod_lt lc.length (show 0 < 3 by decide)
  have h5 := Nat.mod_lt lc.length (show 0 < 5 by decide)
  have h6 := Nat.mod_lt lc.length (show 0 < 6 by decide)
  simp [s1, s2, s3, s4, s5, s6, s7, s8, s9, arityB, mkL_len, cntI, lenI, listB, bl, rowF]
  all_goals first | omega | (intros; omega)

set_option linter.unusedSimpArgs false in
set_option linter.unusedVariables false in
theorem mk_arity13 (la lb lc : List Int) (K ch vars : Int) : arityB (s9 lc 1 (s8 lc K ch (s7 lc 1 (s6 K 1 (s5 lc (s4 lc 0 1 (s3 lb vars 0 1 (s2 lb vars 1 (s1 la vars 1 13))))))))) ⟨(shapesL.getD 13 []).toArray⟩ = true := by
  have e : shapesL.getD 13 [] = [118, 107, 119] := by kernel_rfl
  rw [e]
  have h3 := Nat.mod_lt lc.length (show 0 < 3 by decide)
  have h5 := Nat.mod_lt lc.length (show 0 < 5 by decide)
  have h6 := Nat.mod_lt lc.length (show 0 < 6 by decide)
  simp [s1, s2, s3, s4, s5, s6, s7, s8, s9, arityB, mkL_len, cntI, lenI, listB, bl, rowF]
  all_goals first | omega | (intros; omega)

set_option linter.unusedSimpArgs false in
set_option linter.unusedVariables false in
theorem mk_arity14 (la lb lc : List Int) (K ch vars : Int) : arityB (s9 lc 1 (s8 lc K ch (s7 lc 1 (s6 K 1 (s5 lc (s4 lc 0 1 (s3 lb vars 0 1 (s2 lb vars 1 (s1 la vars 1 14))))))))) ⟨(shapesL.getD 14 []).toArray⟩ = true := by
  have e : shapesL.getD 14 [] = [118, 107, 119] := by kernel_rfl
  rw [e]
  have h3 := Nat.mod_lt lc.length (show 0 < 3 by decide)
  have h5 := Nat.mod_lt lc.length (show 0 < 5 by decide)
  have h6 := Nat.mod_lt lc.length (show 0 < 6 by decide)
  simp [s1, s2, s3, s4, s5, s6, s7, s8, s9, arityB, mkL_len, cntI, lenI, listB, bl, rowF]
  all_goals first | omega | (intros; omega)

set_option linter.unusedSimpArgs false in
set_option linter.unusedVariables false in
theorem mk_arity15 (la lb lc : List Int) (K ch vars : Int) : arityB (s9 lc 1 (s8 lc K ch (s7 lc 1 (s6 K 1 (s5 lc (s4 lc 0 1 (s3 lb vars 0 1 (s2 lb vars 1 (s1 la vars 1 15))))))))) ⟨(shapesL.getD 15 []).toArray⟩ = true := by
  have e : shapesL.getD 15 [] = [118, 107, 119] := by kernel_rfl
  rw [e]
  have h3 := Nat.mod_lt lc.length (show 0 < 3 by decide)
  have h5 := Nat.mod_lt lc.length (show 0 < 5 by decide)
  have h6 := Nat.mod_lt lc.length (show 0 < 6 by decide)
  simp [s1, s2, s3, s4, s5, s6, s7, s8, s9, arityB, mkL_len, cntI, lenI, listB, bl, rowF]
  all_goals first | omega | (intros; omega)

set_option linter.unusedSimpArgs false in
set_option linter.unusedVariables false in
theorem mk_arity16 (la lb lc : List Int) (K ch vars : Int) : arityB (s9 lc 1 (s8 lc K ch (s7 lc 1 (s6 K 1 (s5 lc (s4 lc 0 1 (s3 lb vars 0 1 (s2 lb vars 1 (s1 la vars 1 16))))))))) ⟨(shapesL.getD 16 []).toArray⟩ = true := by
  have e : shapesL.getD 16 [] = [118, 107, 119] := by kernel_rfl
  rw [e]
  have h3 := Nat.mod_lt lc.length (show 0 < 3 by decide)
  have h5 := Nat.mod_lt lc.length (show 0 < 5 by decide)
  have h6 := Nat.mod_lt lc.length (show 0 < 6 by decide)
  simp [s1, s2, s3, s4, s5, s6, s7, s8, s9, arityB, mkL_len, cntI, lenI, listB, bl, rowF]
  all_goals first | omega | (intros; omega)

set_option linter.unusedSimpArgs false in
set_option linter.unusedVariables false in
theorem mk_arity17 (la lb lc : List Int) (K ch vars : Int) (n : Nat) (hb : 1 ≤ n ∧ n ≤ 4) : arityB (s9 lc n (s8 lc K ch (s7 lc n (s6 K 0 (s5 lc (s4 lc 0 n (s3 lb vars 0 n (s2 lb vars 0 (s1 la vars n 17))))))))) ⟨(shapesL.getD 17 []).toArray⟩ = true := by
  have e : shapesL.getD 17 [] = [86] := by kernel_rfl
  rw [e]
  have h3 := Nat.mod_lt lc.length (show 0 < 3 by decide)
  have h5 := Nat.mod_lt lc.length (show 0 < 5 by decide)
  have h6 := Nat.mod_lt lc.length (show 0 < 6 by decide)
  simp [s1, s2, s3, s4, s5, s6, s7, s8, s9, arityB, mkL_len, cntI, lenI, listB, bl, rowF]
  all_goals first | omega | (intros; omega)

set_option linter.unusedSimpArgs false in
set_option linter.unusedVariables false in
theorem mk_arity18 (la lb lc : List Int) (K ch vars : Int) (n : Nat) (hb : 1 ≤ n ∧ n ≤ 4) : arityB (s9 lc n (s8 lc K ch (s7 lc n (s6 K 0 (s5 lc (s4 lc 0 n (s3 lb vars 0 n (s2 lb vars 0 (s1 la vars n 18))))))))) ⟨(shapesL.getD 18 []).toArray⟩ = true := by
  have e : shapesL.getD 18 [] = [86, 114] := by kernel_rfl
  rw [e]
  have h3 := Nat.mod_lt lc.length (show 0 < 3 by decide)
  have h5 := Nat.mod_lt lc.length (show 0 < 5 by decide)
  have h6 := Nat.mod_lt lc.length (show 0 < 6 by decide)
  simp [s1, s2, s3, s4, s5, s6, s7, s8, s9, arityB, mkL_len, cntI, lenI, listB, bl, rowF]
  all_goals first | omega | (intros; omega)

set_option linter.unusedSimpArgs false in
set_option linter.unusedVariables false in
theorem mk_arity19 (la lb lc : List Int) (K ch vars : Int) (n : Nat) (hb : 1 ≤ n ∧ n ≤ 4) : arityB (s9 lc n (s8 lc K ch (s7 lc n (s6 K 1 (s5 lc (s4 lc 1 n (s3 lb vars 0 n (s2 lb vars 0 (s1 la vars n 19))))))))) ⟨(shapesL.getD 19 []).toArray⟩ = true := by
  have e : shapesL.getD 19 [] = [86, 99, 100, 107] := by kernel_rfl
  rw [e]
  have h3 := Nat.mod_lt lc.length (show 0 < 3 by decide)
  have h5 := Nat.mod_lt lc.length (show 0 < 5 by decide)
  have h6 := Nat.mod_lt lc.length (show 0 < 6 by decide)
  simp [s1, s2, s3, s4, s5, s6, s7, s8, s9, arityB, mkL_len, cntI, lenI, listB, bl, rowF]
  all_goals first | omega | (intros; omega)

set_option linter.unusedSimpArgs false in
set_option linter.unusedVariables false in
theorem mk_arity20 (la lb lc : List Int) (K ch vars : Int) (n : Nat) (hb : 1 ≤ n ∧ n ≤ 4) : arityB (s9 lc n (s8 lc K ch (s7 lc n (s6 K 0 (s5 lc (s4 lc 0 n (s3 lb vars 0 n (s2 lb vars 0 (s1 la vars n 20))))))))) ⟨(shapesL.getD 20 []).toArray⟩ = true := by
  have e : shapesL.getD 20 [] = [86] := by kernel_rfl
  rw [e]
  have h3 := Nat.mod_lt lc.length (show 0 < 3 by decide)
  have h5 := Nat.mod_lt lc.length (show 0 < 5 by decide)
  have h6 := Nat.mod_lt lc.length (show 0 < 6 by decide)
  simp [s1, s2, s3, s4, s5, s6, s7, s8, s9, arityB, mkL_len, cntI, lenI, listB, bl, rowF]
  all_goals first | omega | (intros; omega)

set_option linter.unusedSimpArgs false in
set_option linter.unusedVariables false in
theorem mk_arity21 (la lb lc : List Int) (K ch vars : Int) (n : Nat) (hb : 1 ≤ n ∧ n ≤ 4) : arityB (s9 lc n (s8 lc K ch (s7 lc n (s6 K 0 (s5 lc (s4 lc 1 n (s3 lb vars 0 n (s2 lb vars 0 (s1 la vars n 21))))))))) ⟨(shapesL.getD 21 []).toArray⟩ = true := by
  have e : shapesL.getD 21 [] = [86, 99, 100, 101] := by kernel_rfl
  rw [e]
  have h3 := Nat.mod_lt lc.length (show 0 < 3 by decide)
  have h5 := Nat.mod_lt lc.length (show 0 < 5 by decide)
  have h6 := Nat.mod_lt lc.length (show 0 < 6 by decide)
  simp [s1, s2, s3, s4, s5, s6, s7, s8, s9, arityB, mkL_len, cntI, lenI, listB, bl, rowF]
  all_goals first | omega | (intros; omega)

set_option linter.unusedSimpArgs false in
set_option linter.unusedVariables false in
theorem mk_arity22 (la lb lc : List Int) (K ch vars : Int) (n : Nat) (hb : 1 ≤ n ∧ n ≤ 4) : arityB (s9 lc n (s8 lc K ch (s7 lc n (s6 K 0 (s5 lc (s4 lc 0 n (s3 lb vars 1 n (s2 lb vars 0 (s1 la vars n 22))))))))) ⟨(shapesL.getD 22 []).toArray⟩ = true := by
  have e : shapesL.getD 22 [] = [86, 87] := by kernel_rfl
  rw [e]
  have h3 := Nat.mod_lt lc.length (show 0 < 3 by decide)
  have h5 := Nat.mod_lt lc.length (show 0 < 5 by decide)
  have h6 := Nat.mod_lt lc.length (show 0 < 6 by decide)
  simp [s1, s2, s3, s4, s5, s6, s7, s8, s9, arityB, mkL_len, cntI, lenI, listB, bl, rowF]
  all_goals first | omega | (intros; omega)

set_option linter.unusedSimpArgs false in
set_option linter.unusedVariables false in
theorem mk_arity23 (la lb lc : List Int) (K ch vars : Int) (n : Nat) (hb : 1 ≤ n ∧ n ≤ 4) : arityB (s9 lc n (s8 lc K ch (s7 lc n (s6 K 0 (s5 lc (s4 lc 0 n (s3 lb vars 1 n (s2 lb vars 0 (s1 la vars n 23))))))))) ⟨(shapesL.getD 23 []).toArray⟩ = true := by
  have e : shapesL.getD 23 [] = [86, 87] := by kernel_rfl
  rw [e]
  have h3 := Nat.mod_lt lc.length (show 0 < 3 by decide)
  have h5 := Nat.mod_lt lc.length (show 0 < 5 by decide)
  have h6 := Nat.mod_lt lc.length (show 0 < 6 by decide)
  simp [s1, s2, s3, s4, s5, s6, s7, s8, s9, arityB, mkL_len, cntI, lenI, listB, bl, rowF]
  all_goals first | omega | (intros; omega)

end Go.Proofs.YtkhmocbfkpbpfaaGreatDoor

/- What the document's Make makes has right numbers. No walk. Made by tools/genmkr2.py. -/
namespace Go.Proofs.YtkhmocbfkpbpfaaGreatDoor
open Go.RowKit

theorem mkL_none {f : Nat → Int} {n : Nat} {p : Int → Bool} (h : ∀ i, i < n → p (f i) = false) : (mkL f n).any p = false := by
  rw [List.any_eq_false]
  intro v hv
  simp only [mkL, List.mem_map, List.mem_range] at hv
  obtain ⟨i, hi, rfl⟩ := hv
  rw [h i hi]
  simp
theorem out_no {lo hi z : Int} (h : lo ≤ z ∧ z ≤ hi) : outB lo hi z = false := by unfold outB; simp; omega
theorem numE_in (l : List Int) (fr : Nat) (least wide : Int) (hw : 1 ≤ wide) (i : Nat) : -wide < numE l fr least wide i ∧ numE l fr least wide i < wide ∧ (0 ≤ least → 0 ≤ numE l fr least wide i) := by
  unfold numE
  have := tmod_in (if fr + i < l.length then l.getD (fr + i) 0 else 1) wide hw
  generalize (if fr + i < l.length then l.getD (fr + i) 0 else 1).tmod wide = t at *
  unfold absIf
  split <;> omega
theorem n5 (lc : List Int) (fr m : Nat) : (mkL (numE lc fr (-1) 5) m).any (outB (-1000000) 1000000) = false := mkL_none fun i _ => out_no (by have := numE_in lc fr (-1) 5 (by omega) i; omega)
theorem n4 (lc : List Int) (fr m : Nat) : (mkL (numE lc fr (-1) 4) m).any (outB (-1000000) 1000000) = false := mkL_none fun i _ => out_no (by have := numE_in lc fr (-1) 4 (by omega) i; omega)
theorem p4 (lc : List Int) (fr m : Nat) : (mkL (numE lc fr 0 4) m).any (outB 0 1000000) = false := mkL_none fun i _ => out_no (by have := numE_in lc fr 0 4 (by omega) i; omega)
theorem p2 (lc : List Int) (fr m : Nat) : (mkL (numE lc fr 0 2) m).any (outB 0 1000000) = false := mkL_none fun i _ => out_no (by have := numE_in lc fr 0 2 (by omega) i; omega)
theorem g3 (K : Int) (m : Nat) (hm : m ≤ 3) : (mkL (gcF K) m).any (outB (-1000000) 1000000) = false := mkL_none fun i hi => out_no (by unfold gcF; have := tmod_in K 3 (by omega); omega)
theorem ge_in (lc : List Int) (ch : Int) (hch : 0 ≤ ch) (i : Nat) : numE lc 0 0 2 i ≤ geF lc ch i ∧ geF lc ch i ≤ 3 := by
  unfold geF
  have h1 := numE_in lc 0 0 2 (by omega) i
  have h2 := tmod_in (ch / 2 ^ i) 3 (by omega)
  have h3 : 0 ≤ (ch / 2 ^ i).tmod 3 := Int.tmod_nonneg _ (Int.ediv_nonneg hch (Int.le_of_lt (Int.pow_pos (by decide))))
  omega
theorem g2 (lc : List Int) (ch : Int) (hch : 0 ≤ ch) (m : Nat) : (mkL (geF lc ch) m).any (outB 0 1000000) = false := mkL_none fun i _ => out_no (by have := ge_in lc ch hch i; have := numE_in lc 0 0 2 (by omega) i; omega)
theorem k12 (K : Int) : outB (-9999999999) 9999999999 (K.tmod 12) = false := out_no (by have := tmod_in K 12 (by omega); omega)
theorem k0 : outB (-9999999999) 9999999999 0 = false := by decide
theorem kn12 (K : Int) : outB 0 9999999999 (negI (K.tmod 12)) = false := out_no (by unfold negI; have := tmod_in K 12 (by omega); split <;> omega)
theorem r4 (lc : List Int) (n m : Nat) : ((List.range m).map (rowF lc n)).any (fun r => r.any (outB (-1000000) 1000000)) = false := by
  rw [List.any_eq_false]
  intro v hv
  obtain ⟨i, _, rfl⟩ := List.mem_map.1 hv
  unfold rowF
  rw [n4]
  simp

set_option linter.unusedSimpArgs false in
set_option linter.unusedVariables false in
theorem mk_coefs1 (la lb lc : List Int) (K ch vars : Int) (n : Nat) : coefsB (s9 lc n (s8 lc K ch (s7 lc n (s6 K 1 (s5 lc (s4 lc 1 n (s3 lb vars 0 n (s2 lb vars 0 (s1 la vars n 1))))))))) = true := by
  unfold coefsB
  simp only [s1, s2, s3, s4, s5, s6, s7, s8, s9]
  simp [lowC, secD, lowK, n5, n4, p4, p2, k12, k0, kn12, -List.any_map, -List.any_eq_true, -List.any_eq_false, r4]

set_option linter.unusedSimpArgs false in
set_option linter.unusedVariables false in
theorem mk_coefs2 (la lb lc : List Int) (K ch vars : Int) (n : Nat) : coefsB (s9 lc n (s8 lc K ch (s7 lc n (s6 K 1 (s5 lc (s4 lc 1 n (s3 lb vars 0 n (s2 lb vars 0 (s1 la vars n 2))))))))) = true := by
  unfold coefsB
  simp only [s1, s2, s3, s4, s5, s6, s7, s8, s9]
  simp [lowC, secD, lowK, n5, n4, p4, p2, k12, k0, kn12, -List.any_map, -List.any_eq_true, -List.any_eq_false, r4]

set_option linter.unusedSimpArgs false in
set_option linter.unusedVariables false in
theorem mk_coefs3 (la lb lc : List Int) (K ch vars : Int) (n : Nat) : coefsB (s9 lc n (s8 lc K ch (s7 lc n (s6 K 1 (s5 lc (s4 lc 1 n (s3 lb vars 0 n (s2 lb vars 0 (s1 la vars n 3))))))))) = true := by
  unfold coefsB
  simp only [s1, s2, s3, s4, s5, s6, s7, s8, s9]
  simp [lowC, secD, lowK, n5, n4, p4, p2, k12, k0, kn12, -List.any_map, -List.any_eq_true, -List.any_eq_false, r4]

set_option linter.unusedSimpArgs false in
set_option linter.unusedVariables false in
theorem mk_coefs4 (la lb lc : List Int) (K ch vars : Int) (n : Nat) : coefsB (s9 lc n (s8 lc K ch (s7 lc n (s6 K 1 (s5 lc (s4 lc 1 n (s3 lb vars 0 n (s2 lb vars 1 (s1 la vars n 4))))))))) = true := by
  unfold coefsB
  simp only [s1, s2, s3, s4, s5, s6, s7, s8, s9]
  simp [lowC, secD, lowK, n5, n4, p4, p2, k12, k0, kn12, -List.any_map, -List.any_eq_true, -List.any_eq_false, r4]

set_option linter.unusedSimpArgs false in
set_option linter.unusedVariables false in
theorem mk_coefs5 (la lb lc : List Int) (K ch vars : Int) : coefsB (s9 lc 3 (s8 lc K ch (s7 lc 3 (s6 K 0 (s5 lc (s4 lc 0 3 (s3 lb vars 0 3 (s2 lb vars 0 (s1 la vars 3 5))))))))) = true := by
  unfold coefsB
  simp only [s1, s2, s3, s4, s5, s6, s7, s8, s9]
  simp [lowC, secD, lowK, n5, n4, p4, p2, k12, k0, kn12, -List.any_map, -List.any_eq_true, -List.any_eq_false, r4]

set_option linter.unusedSimpArgs false in
set_option linter.unusedVariables false in
theorem mk_coefs6 (la lb lc : List Int) (K ch vars : Int) : coefsB (s9 lc 3 (s8 lc K ch (s7 lc 3 (s6 K 0 (s5 lc (s4 lc 0 3 (s3 lb vars 0 3 (s2 lb vars 0 (s1 la vars 3 6))))))))) = true := by
  unfold coefsB
  simp only [s1, s2, s3, s4, s5, s6, s7, s8, s9]
  simp [lowC, secD, lowK, n5, n4, p4, p2, k12, k0, kn12, -List.any_map, -List.any_eq_true, -List.any_eq_false, r4]

set_option linter.unusedSimpArgs false in
set_option linter.unusedVariables false in
theorem mk_coefs7 (la lb lc : List Int) (K ch vars : Int) : coefsB (s9 lc 3 (s8 lc K ch (s7 lc 3 (s6 K 0 (s5 lc (s4 lc 0 3 (s3 lb vars 0 3 (s2 lb vars 0 (s1 la vars 3 7))))))))) = true := by
  unfold coefsB
  simp only [s1, s2, s3, s4, s5, s6, s7, s8, s9]
  simp [lowC, secD, lowK, n5, n4, p4, p2, k12, k0, kn12, -List.any_map, -List.any_eq_true, -List.any_eq_false, r4]

set_option linter.unusedSimpArgs false in
set_option linter.unusedVariables false in
theorem mk_coefs8 (la lb lc : List Int) (K ch vars : Int) : coefsB (s9 lc 2 (s8 lc K ch (s7 lc 2 (s6 K 0 (s5 lc (s4 lc 0 2 (s3 lb vars 0 2 (s2 lb vars 0 (s1 la vars 2 8))))))))) = true := by
  unfold coefsB
  simp only [s1, s2, s3, s4, s5, s6, s7, s8, s9]
  simp [lowC, secD, lowK, n5, n4, p4, p2, k12, k0, kn12, -List.any_map, -List.any_eq_true, -List.any_eq_false, r4]

set_option linter.unusedSimpArgs false in
set_option linter.unusedVariables false in
theorem mk_coefs9 (la lb lc : List Int) (K ch vars : Int) : coefsB (s9 lc 3 (s8 lc K ch (s7 lc 3 (s6 K 0 (s5 lc (s4 lc 0 3 (s3 lb vars 0 3 (s2 lb vars 0 (s1 la vars 3 9))))))))) = true := by
  unfold coefsB
  simp only [s1, s2, s3, s4, s5, s6, s7, s8, s9]
  simp [lowC, secD, lowK, n5, n4, p4, p2, k12, k0, kn12, -List.any_map, -List.any_eq_true, -List.any_eq_false, r4]

set_option linter.unusedSimpArgs false in
set_option linter.unusedVariables false in
theorem mk_coefs10 (la lb lc : List Int) (K ch vars : Int) : coefsB (s9 lc 3 (s8 lc K ch (s7 lc 3 (s6 K 0 (s5 lc (s4 lc 0 3 (s3 lb vars 0 3 (s2 lb vars 0 (s1 la vars 3 10))))))))) = true := by
  unfold coefsB
  simp only [s1, s2, s3, s4, s5, s6, s7, s8, s9]
  simp [lowC, secD, lowK, n5, n4, p4, p2, k12, k0, kn12, -List.any_map, -List.any_eq_true, -List.any_eq_false, r4]

set_option linter.unusedSimpArgs false in
set_option linter.unusedVariables false in
theorem mk_coefs11 (la lb lc : List Int) (K ch vars : Int) : coefsB (s9 lc 2 (s8 lc K ch (s7 lc 2 (s6 K 0 (s5 lc (s4 lc 1 2 (s3 lb vars 0 2 (s2 lb vars 0 (s1 la vars 2 11))))))))) = true := by
  unfold coefsB
  simp only [s1, s2, s3, s4, s5, s6, s7, s8, s9]
  simp [lowC, secD, lowK, n5, n4, p4, p2, k12, k0, kn12, -List.any_map, -List.any_eq_true, -List.any_eq_false, r4]

set_option linter.unusedSimpArgs false in
set_option linter.unusedVariables false in
theorem mk_coefs12 (la lb lc : List Int) (K ch vars : Int) (n : Nat) : coefsB (s9 lc n (s8 lc K ch (s7 lc n (s6 K 0 (s5 lc (s4 lc 0 n (s3 lb vars 1 n (s2 lb vars 0 (s1 la vars n 12))))))))) = true := by
  unfold coefsB
  simp only [s1, s2, s3, s4, s5, s6, s7, s8, s9]
  simp [lowC, secD, lowK, n5, n4, p4, p2, k12, k0, kn12, -List.any_map, -List.any_eq_true, -List.any_eq_false, r4]

set_option linter.unusedSimpArgs false in
set_option linter.unusedVariables false in
theorem mk_coefs13 (la lb lc : List Int) (K ch vars : Int) : coefsB (s9 lc 1 (s8 lc K ch (s7 lc 1 (s6 K 1 (s5 lc (s4 lc 0 1 (s3 lb vars 0 1 (s2 lb vars 1 (s1 la vars 1 13))))))))) = true := by
  unfold coefsB
  simp only [s1, s2, s3, s4, s5, s6, s7, s8, s9]
  simp [lowC, secD, lowK, n5, n4, p4, p2, k12, k0, kn12, -List.any_map, -List.any_eq_true, -List.any_eq_false, r4]

set_option linter.unusedSimpArgs false in
set_option linter.unusedVariables false in
theorem mk_coefs14 (la lb lc : List Int) (K ch vars : Int) : coefsB (s9 lc 1 (s8 lc K ch (s7 lc 1 (s6 K 1 (s5 lc (s4 lc 0 1 (s3 lb vars 0 1 (s2 lb vars 1 (s1 la vars 1 14))))))))) = true := by
  unfold coefsB
  simp only [s1, s2, s3, s4, s5, s6, s7, s8, s9]
  simp [lowC, secD, lowK, n5, n4, p4, p2, k12, k0, kn12, -List.any_map, -List.any_eq_true, -List.any_eq_false, r4]

set_option linter.unusedSimpArgs false in
set_option linter.unusedVariables false in
theorem mk_coefs15 (la lb lc : List Int) (K ch vars : Int) : coefsB (s9 lc 1 (s8 lc K ch (s7 lc 1 (s6 K 1 (s5 lc (s4 lc 0 1 (s3 lb vars 0 1 (s2 lb vars 1 (s1 la vars 1 15))))))))) = true := by
  unfold coefsB
  simp only [s1, s2, s3, s4, s5, s6, s7, s8, s9]
  simp [lowC, secD, lowK, n5, n4, p4, p2, k12, k0, kn12, -List.any_map, -List.any_eq_true, -List.any_eq_false, r4]

set_option linter.unusedSimpArgs false in
set_option linter.unusedVariables false in
theorem mk_coefs16 (la lb lc : List Int) (K ch vars : Int) : coefsB (s9 lc 1 (s8 lc K ch (s7 lc 1 (s6 K 1 (s5 lc (s4 lc 0 1 (s3 lb vars 0 1 (s2 lb vars 1 (s1 la vars 1 16))))))))) = true := by
  unfold coefsB
  simp only [s1, s2, s3, s4, s5, s6, s7, s8, s9]
  simp [lowC, secD, lowK, n5, n4, p4, p2, k12, k0, kn12, -List.any_map, -List.any_eq_true, -List.any_eq_false, r4]

set_option linter.unusedSimpArgs false in
set_option linter.unusedVariables false in
theorem mk_coefs17 (la lb lc : List Int) (K ch vars : Int) (n : Nat) : coefsB (s9 lc n (s8 lc K ch (s7 lc n (s6 K 0 (s5 lc (s4 lc 0 n (s3 lb vars 0 n (s2 lb vars 0 (s1 la vars n 17))))))))) = true := by
  unfold coefsB
  simp only [s1, s2, s3, s4, s5, s6, s7, s8, s9]
  simp [lowC, secD, lowK, n5, n4, p4, p2, k12, k0, kn12, -List.any_map, -List.any_eq_true, -List.any_eq_false, r4]

set_option linter.unusedSimpArgs false in
set_option linter.unusedVariables false in
theorem mk_coefs18 (la lb lc : List Int) (K ch vars : Int) (n : Nat) : coefsB (s9 lc n (s8 lc K ch (s7 lc n (s6 K 0 (s5 lc (s4 lc 0 n (s3 lb vars 0 n (s2 lb vars 0 (s1 la vars n 18))))))))) = true := by
  unfold coefsB
  simp only [s1, s2, s3, s4, s5, s6, s7, s8, s9]
  simp [lowC, secD, lowK, n5, n4, p4, p2, k12, k0, kn12, -List.any_map, -List.any_eq_true, -List.any_eq_false, r4]

set_option linter.unusedSimpArgs false in
set_option linter.unusedVariables false in
theorem mk_coefs19 (la lb lc : List Int) (K ch vars : Int) (n : Nat) : coefsB (s9 lc n (s8 lc K ch (s7 lc n (s6 K 1 (s5 lc (s4 lc 1 n (s3 lb vars 0 n (s2 lb vars 0 (s1 la vars n 19))))))))) = true := by
  unfold coefsB
  simp only [s1, s2, s3, s4, s5, s6, s7, s8, s9]
  simp [lowC, secD, lowK, n5, n4, p4, p2, k12, k0, kn12, -List.any_map, -List.any_eq_true, -List.any_eq_false, r4]

set_option linter.unusedSimpArgs false in
set_option linter.unusedVariables false in
theorem mk_coefs20 (la lb lc : List Int) (K ch vars : Int) (n : Nat) : coefsB (s9 lc n (s8 lc K ch (s7 lc n (s6 K 0 (s5 lc (s4 lc 0 n (s3 lb vars 0 n (s2 lb vars 0 (s1 la vars n 20))))))))) = true := by
  unfold coefsB
  simp only [s1, s2, s3, s4, s5, s6, s7, s8, s9]
  simp [lowC, secD, lowK, n5, n4, p4, p2, k12, k0, kn12, -List.any_map, -List.any_eq_true, -List.any_eq_false, r4]

set_option linter.unusedSimpArgs false in
set_option linter.unusedVariables false in
theorem mk_coefs22 (la lb lc : List Int) (K ch vars : Int) (n : Nat) : coefsB (s9 lc n (s8 lc K ch (s7 lc n (s6 K 0 (s5 lc (s4 lc 0 n (s3 lb vars 1 n (s2 lb vars 0 (s1 la vars n 22))))))))) = true := by
  unfold coefsB
  simp only [s1, s2, s3, s4, s5, s6, s7, s8, s9]
  simp [lowC, secD, lowK, n5, n4, p4, p2, k12, k0, kn12, -List.any_map, -List.any_eq_true, -List.any_eq_false, r4]

set_option linter.unusedSimpArgs false in
set_option linter.unusedVariables false in
theorem mk_coefs23 (la lb lc : List Int) (K ch vars : Int) (n : Nat) : coefsB (s9 lc n (s8 lc K ch (s7 lc n (s6 K 0 (s5 lc (s4 lc 0 n (s3 lb vars 1 n (s2 lb vars 0 (s1 la vars n 23))))))))) = true := by
  unfold coefsB
  simp only [s1, s2, s3, s4, s5, s6, s7, s8, s9]
  simp [lowC, secD, lowK, n5, n4, p4, p2, k12, k0, kn12, -List.any_map, -List.any_eq_true, -List.any_eq_false, r4]

theorem cnt_ok (lc : List Int) (K ch : Int) (hch : 0 ≤ ch) (m : Nat) (c : ConL) (hC : c.C = mkL (gcF K) m) (hD : c.D = mkL (numE lc 0 0 2) m) (hE : c.E = mkL (geF lc ch) m) : countsB c = true := by
  refine counts_yes fun j hj => ?_
  rw [hC, mkL_len] at hj
  unfold cntOK
  rw [hC, hD, hE, mkL_getD _ hj, mkL_getD _ hj, mkL_getD _ hj]
  rw [Bool.and_eq_true]
  refine ⟨by simpa using (ge_in lc ch hch j).1, ?_⟩
  rw [Bool.not_eq_true', List.any_eq_false]
  intro v hv
  obtain ⟨i, hi, rfl⟩ := List.getElem_of_mem hv
  have hij : i < j := by rw [List.length_take] at hi; omega
  have e : ((mkL (gcF K) m).take j)[i] = gcF K i := by
    rw [List.getElem_take]
    simp [mkL]
  rw [e]
  unfold gcF
  simp
  omega
theorem mk_coefs21 (la lb lc : List Int) (K ch vars : Int) (n : Nat) (hch : 0 ≤ ch) : coefsB (s9 lc n (s8 lc K ch (s7 lc n (s6 K 0 (s5 lc (s4 lc 1 n (s3 lb vars 0 n (s2 lb vars 0 (s1 la vars n 21))))))))) = true := by
  have h3 := Nat.mod_lt lc.length (show 0 < 3 by decide)
  have hc := cnt_ok lc K ch hch (1 + lc.length % 3) (s9 lc n (s8 lc K ch (s7 lc n (s6 K 0 (s5 lc (s4 lc 1 n (s3 lb vars 0 n (s2 lb vars 0 (s1 la vars n 21))))))))) (by simp [s1, s2, s3, s4, s5, s6, s7, s8, s9]) (by simp [s1, s2, s3, s4, s5, s6, s7, s8, s9]) (by simp [s1, s2, s3, s4, s5, s6, s7, s8, s9])
  unfold coefsB
  rw [hc]
  have e1 := g3 K (1 + lc.length % 3) (by omega)
  have e2 := g2 lc ch hch (1 + lc.length % 3)
  simp only [s1, s2, s3, s4, s5, s6, s7, s8, s9]
  simp [lowC, secD, lowK, e1, e2, p2, k0, -List.any_map, -List.any_eq_true, -List.any_eq_false]

end Go.Proofs.YtkhmocbfkpbpfaaGreatDoor
