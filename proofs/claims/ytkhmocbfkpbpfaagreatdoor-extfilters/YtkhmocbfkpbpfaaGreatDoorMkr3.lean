/- What the document's Make makes may be. No walk. Made by tools/genmkr3.py. -/
import Derived.Test.YtkhmocbfkpbpfaaGreatDoorMkr2
namespace Go.Proofs.YtkhmocbfkpbpfaaGreatDoor
open Go.RowKit

theorem ref_right {c : ConL} {vars : Int} (j : Nat) (hj : 1 ≤ j ∧ j ≤ 23) (hk : c.kind = (j : Int)) (ha : arityB c ⟨(shapesL.getD j []).toArray⟩ = true) (hA : c.A.any (outB 0 (highV vars)) = false) (hB : c.B.any (outB 0 (highV vars)) = false) (hc : coefsB c = true) : refRightE c vars = 0 := by
  unfold refRightE
  rw [if_neg (by omega), show c.kind.toNat = j by omega, ha, hA, hB, hc]
  rfl
theorem plc_none (l : List Int) (vars : Int) (hl : ∀ v ∈ l, 0 ≤ v ∧ v ≤ 255) (hv : 1 ≤ vars) (n : Nat) : (mkL (plcE l vars) n).any (outB 0 (highV vars)) = false := mkL_none fun i _ => out_no (by
  have h0 : 0 ≤ (if i < l.length then l.getD i 0 else (i : Int)) := by
    split
    · next h => exact (hl _ (getD_mem l i h)).1
    · omega
  have h1 := tmod_in (if i < l.length then l.getD i 0 else (i : Int)) vars hv
  have h2 := Int.tmod_nonneg vars h0
  unfold highV
  rw [if_pos (by omega)]
  unfold plcE
  omega)

set_option linter.unusedSimpArgs false in
set_option linter.unusedVariables false in
theorem mk_right1 (la lb lc : List Int) (K ch vars : Int) (n : Nat) (hb : 1 ≤ n ∧ n ≤ 4) (ba : ∀ v ∈ la, 0 ≤ v ∧ v ≤ 255) (bb : ∀ v ∈ lb, 0 ≤ v ∧ v ≤ 255) (hch : 0 ≤ ch) (hv : 1 ≤ vars) : refRightE (s9 lc n (s8 lc K ch (s7 lc n (s6 K 1 (s5 lc (s4 lc 1 n (s3 lb vars 0 n (s2 lb vars 0 (s1 la vars n 1))))))))) vars = 0 :=
  ref_right 1 (by omega) (by simp [s1, s2, s3, s4, s5, s6, s7, s8, s9]) (mk_arity1 la lb lc K ch vars n hb) (by
    simp only [s1, s2, s3, s4, s5, s6, s7, s8, s9]
    simp [plc_none la vars ba hv, -List.any_map, -List.any_eq_true, -List.any_eq_false]) (by
    simp only [s1, s2, s3, s4, s5, s6, s7, s8, s9]
    simp [plc_none lb vars bb hv, -List.any_map, -List.any_eq_true, -List.any_eq_false]) (mk_coefs1 la lb lc K ch vars n)

set_option linter.unusedSimpArgs false in
set_option linter.unusedVariables false in
theorem mk_right2 (la lb lc : List Int) (K ch vars : Int) (n : Nat) (hb : 1 ≤ n ∧ n ≤ 4) (ba : ∀ v ∈ la, 0 ≤ v ∧ v ≤ 255) (bb : ∀ v ∈ lb, 0 ≤ v ∧ v ≤ 255) (hch : 0 ≤ ch) (hv : 1 ≤ vars) : refRightE (s9 lc n (s8 lc K ch (s7 lc n (s6 K 1 (s5 lc (s4 lc 1 n (s3 lb vars 0 n (s2 lb vars 0 (s1 la vars n 2))))))))) vars = 0 :=
  ref_right 2 (by omega) (by simp [s1, s2, s3, s4, s5, s6, s7, s8, s9]) (mk_arity2 la lb lc K ch vars n hb) (by
    simp only [s1, s2, s3, s4, s5, s6, s7, s8, s9]
    simp [plc_none la vars ba hv, -List.any_map, -List.any_eq_true, -List.any_eq_false]) (by
    simp only [s1, s2, s3, s4, s5, s6, s7, s8, s9]
    simp [plc_none lb vars bb hv, -List.any_map, -List.any_eq_true, -List.any_eq_false]) (mk_coefs2 la lb lc K ch vars n)

set_option linter.unusedSimpArgs false in
set_option linter.unusedVariables false in
theorem mk_right3 (la lb lc : List Int) (K ch vars : Int) (n : Nat) (hb : 1 ≤ n ∧ n ≤ 4) (ba : ∀ v ∈ la, 0 ≤ v ∧ v ≤ 255) (bb : ∀ v ∈ lb, 0 ≤ v ∧ v ≤ 255) (hch : 0 ≤ ch) (hv : 1 ≤ vars) : refRightE (s9 lc n (s8 lc K ch (s7 lc n (s6 K 1 (s5 lc (s4 lc 1 n (s3 lb vars 0 n (s2 lb vars 0 (s1 la vars n 3))))))))) vars = 0 :=
  ref_right 3 (by omega) (by simp [s1, s2, s3, s4, s5, s6, s7, s8, s9]) (mk_arity3 la lb lc K ch vars n hb) (by
    simp only [s1, s2, s3, s4, s5, s6, s7, s8, s9]
    simp [plc_none la vars ba hv, -List.any_map, -List.any_eq_true, -List.any_eq_false]) (by
    simp only [s1, s2, s3, s4, s5, s6, s7, s8, s9]
    simp [plc_none lb vars bb hv, -List.any_map, -List.any_eq_true, -List.any_eq_false]) (mk_coefs3 la lb lc K ch vars n)

set_option linter.unusedSimpArgs false in
set_option linter.unusedVariables false in
theorem mk_right4 (la lb lc : List Int) (K ch vars : Int) (n : Nat) (hb : 1 ≤ n ∧ n ≤ 4) (ba : ∀ v ∈ la, 0 ≤ v ∧ v ≤ 255) (bb : ∀ v ∈ lb, 0 ≤ v ∧ v ≤ 255) (hch : 0 ≤ ch) (hv : 1 ≤ vars) : refRightE (s9 lc n (s8 lc K ch (s7 lc n (s6 K 1 (s5 lc (s4 lc 1 n (s3 lb vars 0 n (s2 lb vars 1 (s1 la vars n 4))))))))) vars = 0 :=
  ref_right 4 (by omega) (by simp [s1, s2, s3, s4, s5, s6, s7, s8, s9]) (mk_arity4 la lb lc K ch vars n hb) (by
    simp only [s1, s2, s3, s4, s5, s6, s7, s8, s9]
    simp [plc_none la vars ba hv, -List.any_map, -List.any_eq_true, -List.any_eq_false]) (by
    simp only [s1, s2, s3, s4, s5, s6, s7, s8, s9]
    simp [plc_none lb vars bb hv, -List.any_map, -List.any_eq_true, -List.any_eq_false]) (mk_coefs4 la lb lc K ch vars n)

set_option linter.unusedSimpArgs false in
set_option linter.unusedVariables false in
theorem mk_right5 (la lb lc : List Int) (K ch vars : Int) (ba : ∀ v ∈ la, 0 ≤ v ∧ v ≤ 255) (bb : ∀ v ∈ lb, 0 ≤ v ∧ v ≤ 255) (hch : 0 ≤ ch) (hv : 1 ≤ vars) : refRightE (s9 lc 3 (s8 lc K ch (s7 lc 3 (s6 K 0 (s5 lc (s4 lc 0 3 (s3 lb vars 0 3 (s2 lb vars 0 (s1 la vars 3 5))))))))) vars = 0 :=
  ref_right 5 (by omega) (by simp [s1, s2, s3, s4, s5, s6, s7, s8, s9]) (mk_arity5 la lb lc K ch vars) (by
    simp only [s1, s2, s3, s4, s5, s6, s7, s8, s9]
    simp [plc_none la vars ba hv, -List.any_map, -List.any_eq_true, -List.any_eq_false]) (by
    simp only [s1, s2, s3, s4, s5, s6, s7, s8, s9]
    simp [plc_none lb vars bb hv, -List.any_map, -List.any_eq_true, -List.any_eq_false]) (mk_coefs5 la lb lc K ch vars)

set_option linter.unusedSimpArgs false in
set_option linter.unusedVariables false in
theorem mk_right6 (la lb lc : List Int) (K ch vars : Int) (ba : ∀ v ∈ la, 0 ≤ v ∧ v ≤ 255) (bb : ∀ v ∈ lb, 0 ≤ v ∧ v ≤ 255) (hch : 0 ≤ ch) (hv : 1 ≤ vars) : refRightE (s9 lc 3 (s8 lc K ch (s7 lc 3 (s6 K 0 (s5 lc (s4 lc 0 3 (s3 lb vars 0 3 (s2 lb vars 0 (s1 la vars 3 6))))))))) vars = 0 :=
  ref_right 6 (by omega) (by simp [s1, s2, s3, s4, s5, s6, s7, s8, s9]) (mk_arity6 la lb lc K ch vars) (by
    simp only [s1, s2, s3, s4, s5, s6, s7, s8, s9]
    simp [plc_none la vars ba hv, -List.any_map, -List.any_eq_true, -List.any_eq_false]) (by
    simp only [s1, s2, s3, s4, s5, s6, s7, s8, s9]
    simp [plc_none lb vars bb hv, -List.any_map, -List.any_eq_true, -List.any_eq_false]) (mk_coefs6 la lb lc K ch vars)

set_option linter.unusedSimpArgs false in
set_option linter.unusedVariables false in
theorem mk_right7 (la lb lc : List Int) (K ch vars : Int) (ba : ∀ v ∈ la, 0 ≤ v ∧ v ≤ 255) (bb : ∀ v ∈ lb, 0 ≤ v ∧ v ≤ 255) (hch : 0 ≤ ch) (hv : 1 ≤ vars) : refRightE (s9 lc 3 (s8 lc K ch (s7 lc 3 (s6 K 0 (s5 lc (s4 lc 0 3 (s3 lb vars 0 3 (s2 lb vars 0 (s1 la vars 3 7))))))))) vars = 0 :=
  ref_right 7 (by omega) (by simp [s1, s2, s3, s4, s5, s6, s7, s8, s9]) (mk_arity7 la lb lc K ch vars) (by
    simp only [s1, s2, s3, s4, s5, s6, s7, s8, s9]
    simp [plc_none la vars ba hv, -List.any_map, -List.any_eq_true, -List.any_eq_false]) (by
    simp only [s1, s2, s3, s4, s5, s6, s7, s8, s9]
    simp [plc_none lb vars bb hv, -List.any_map, -List.any_eq_true, -List.any_eq_false]) (mk_coefs7 la lb lc K ch vars)

set_option linter.unusedSimpArgs false in
set_option linter.unusedVariables false in
theorem mk_right8 (la lb lc : List Int) (K ch vars : Int) (ba : ∀ v ∈ la, 0 ≤ v ∧ v ≤ 255) (bb : ∀ v ∈ lb, 0 ≤ v ∧ v ≤ 255) (hch : 0 ≤ ch) (hv : 1 ≤ vars) : refRightE (s9 lc 2 (s8 lc K ch (s7 lc 2 (s6 K 0 (s5 lc (s4 lc 0 2 (s3 lb vars 0 2 (s2 lb vars 0 (s1 la vars 2 8))))))))) vars = 0 :=
  ref_right 8 (by omega) (by simp [s1, s2, s3, s4, s5, s6, s7, s8, s9]) (mk_arity8 la lb lc K ch vars) (by
    simp only [s1, s2, s3, s4, s5, s6, s7, s8, s9]
    simp [plc_none la vars ba hv, -List.any_map, -List.any_eq_true, -List.any_eq_false]) (by
    simp only [s1, s2, s3, s4, s5, s6, s7, s8, s9]
    simp [plc_none lb vars bb hv, -List.any_map, -List.any_eq_true, -List.any_eq_false]) (mk_coefs8 la lb lc K ch vars)

set_option linter.unusedSimpArgs false in
set_option linter.unusedVariables false in
theorem mk_right9 (la lb lc : List Int) (K ch vars : Int) (ba : ∀ v ∈ la, 0 ≤ v ∧ v ≤ 255) (bb : ∀ v ∈ lb, 0 ≤ v ∧ v ≤ 255) (hch : 0 ≤ ch) (hv : 1 ≤ vars) : refRightE (s9 lc 3 (s8 lc K ch (s7 lc 3 (s6 K 0 (s5 lc (s4 lc 0 3 (s3 lb vars 0 3 (s2 lb vars 0 (s1 la vars 3 9))))))))) vars = 0 :=
  ref_right 9 (by omega) (by simp [s1, s2, s3, s4, s5, s6, s7, s8, s9]) (mk_arity9 la lb lc K ch vars) (by
    simp only [s1, s2, s3, s4, s5, s6, s7, s8, s9]
    simp [plc_none la vars ba hv, -List.any_map, -List.any_eq_true, -List.any_eq_false]) (by
    simp only [s1, s2, s3, s4, s5, s6, s7, s8, s9]
    simp [plc_none lb vars bb hv, -List.any_map, -List.any_eq_true, -List.any_eq_false]) (mk_coefs9 la lb lc K ch vars)

set_option linter.unusedSimpArgs false in
set_option linter.unusedVariables false in
theorem mk_right10 (la lb lc : List Int) (K ch vars : Int) (ba : ∀ v ∈ la, 0 ≤ v ∧ v ≤ 255) (bb : ∀ v ∈ lb, 0 ≤ v ∧ v ≤ 255) (hch : 0 ≤ ch) (hv : 1 ≤ vars) : refRightE (s9 lc 3 (s8 lc K ch (s7 lc 3 (s6 K 0 (s5 lc (s4 lc 0 3 (s3 lb vars 0 3 (s2 lb vars 0 (s1 la vars 3 10))))))))) vars = 0 :=
  ref_right 10 (by omega) (by simp [s1, s2, s3, s4, s5, s6, s7, s8, s9]) (mk_arity10 la lb lc K ch vars) (by
    simp only [s1, s2, s3, s4, s5, s6, s7, s8, s9]
    simp [plc_none la vars ba hv, -List.any_map, -List.any_eq_true, -List.any_eq_false]) (by
    simp only [s1, s2, s3, s4, s5, s6, s7, s8, s9]
    simp [plc_none lb vars bb hv, -List.any_map, -List.any_eq_true, -List.any_eq_false]) (mk_coefs10 la lb lc K ch vars)

set_option linter.unusedSimpArgs false in
set_option linter.unusedVariables false in
theorem mk_right11 (la lb lc : List Int) (K ch vars : Int) (ba : ∀ v ∈ la, 0 ≤ v ∧ v ≤ 255) (bb : ∀ v ∈ lb, 0 ≤ v ∧ v ≤ 255) (hch : 0 ≤ ch) (hv : 1 ≤ vars) : refRightE (s9 lc 2 (s8 lc K ch (s7 lc 2 (s6 K 0 (s5 lc (s4 lc 1 2 (s3 lb vars 0 2 (s2 lb vars 0 (s1 la vars 2 11))))))))) vars = 0 :=
  ref_right 11 (by omega) (by simp [s1, s2, s3, s4, s5, s6, s7, s8, s9]) (mk_arity11 la lb lc K ch vars) (by
    simp only [s1, s2, s3, s4, s5, s6, s7, s8, s9]
    simp [plc_none la vars ba hv, -List.any_map, -List.any_eq_true, -List.any_eq_false]) (by
    simp only [s1, s2, s3, s4, s5, s6, s7, s8, s9]
    simp [plc_none lb vars bb hv, -List.any_map, -List.any_eq_true, -List.any_eq_false]) (mk_coefs11 la lb lc K ch vars)

set_option linter.unusedSimpArgs false in
set_option linter.unusedVariables false in
theorem mk_right12 (la lb lc : List Int) (K ch vars : Int) (n : Nat) (hb : 1 ≤ n ∧ n ≤ 4) (ba : ∀ v ∈ la, 0 ≤ v ∧ v ≤ 255) (bb : ∀ v ∈ lb, 0 ≤ v ∧ v ≤ 255) (hch : 0 ≤ ch) (hv : 1 ≤ vars) : refRightE (s9 lc n (s8 lc K ch (s7 lc n (s6 K 0 (s5 lc (s4 lc 0 n (s3 lb vars 1 n (s2 lb vars 0 (s1 la vars n 12))))))))) vars = 0 :=
  ref_right 12 (by omega) (by simp [s1, s2, s3, s4, s5, s6, s7, s8, s9]) (mk_arity12 la lb lc K ch vars n hb) (by
    simp only [s1, s2, s3, s4, s5, s6, s7, s8, s9]
    simp [plc_none la vars ba hv, -List.any_map, -List.any_eq_true, -List.any_eq_false]) (by
    simp only [s1, s2, s3, s4, s5, s6, s7, s8, s9]
    simp [plc_none lb vars bb hv, -List.any_map, -List.any_eq_true, -List.any_eq_false]) (mk_coefs12 la lb lc K ch vars n)

set_option linter.unusedSimpArgs false in
set_option linter.unusedVariables false in
theorem mk_right13 (la lb lc : List Int) (K ch vars : Int) (ba : ∀ v ∈ la, 0 ≤ v ∧ v ≤ 255) (bb : ∀ v ∈ lb, 0 ≤ v ∧ v ≤ 255) (hch : 0 ≤ ch) (hv : 1 ≤ vars) : refRightE (s9 lc 1 (s8 lc K ch (s7 lc 1 (s6 K 1 (s5 lc (s4 lc 0 1 (s3 lb vars 0 1 (s2 lb vars 1 (s1 la vars 1 13))))))))) vars = 0 :=
  ref_right 13 (by omega) (by simp [s1, s2, s3, s4, s5, s6, s7, s8, s9]) (mk_arity13 la lb lc K ch vars) (by
    simp only [s1, s2, s3, s4, s5, s6, s7, s8, s9]
    simp [plc_none la vars ba hv, -List.any_map, -List.any_eq_true, -List.any_eq_false]) (by
    simp only [s1, s2, s3, s4, s5, s6, s7, s8, s9]
    simp [plc_none lb vars bb hv, -List.any_map, -List.any_eq_true, -List.any_eq_false]) (mk_coefs13 la lb lc K ch vars)

set_option linter.unusedSimpArgs false in
set_option linter.unusedVariables false in
theorem mk_right14 (la lb lc : List Int) (K ch vars : Int) (ba : ∀ v ∈ la, 0 ≤ v ∧ v ≤ 255) (bb : ∀ v ∈ lb, 0 ≤ v ∧ v ≤ 255) (hch : 0 ≤ ch) (hv : 1 ≤ vars) : refRightE (s9 lc 1 (s8 lc K ch (s7 lc 1 (s6 K 1 (s5 lc (s4 lc 0 1 (s3 lb vars 0 1 (s2 lb vars 1 (s1 la vars 1 14))))))))) vars = 0 :=
  ref_right 14 (by omega) (by simp [s1, s2, s3, s4, s5, s6, s7, s8, s9]) (mk_arity14 la lb lc K ch vars) (by
    simp only [s1, s2, s3, s4, s5, s6, s7, s8, s9]
    simp [plc_none la vars ba hv, -List.any_map, -List.any_eq_true, -List.any_eq_false]) (by
    simp only [s1, s2, s3, s4, s5, s6, s7, s8, s9]
    simp [plc_none lb vars bb hv, -List.any_map, -List.any_eq_true, -List.any_eq_false]) (mk_coefs14 la lb lc K ch vars)

set_option linter.unusedSimpArgs false in
set_option linter.unusedVariables false in
theorem mk_right15 (la lb lc : List Int) (K ch vars : Int) (ba : ∀ v ∈ la, 0 ≤ v ∧ v ≤ 255) (bb : ∀ v ∈ lb, 0 ≤ v ∧ v ≤ 255) (hch : 0 ≤ ch) (hv : 1 ≤ vars) : refRightE (s9 lc 1 (s8 lc K ch (s7 lc 1 (s6 K 1 (s5 lc (s4 lc 0 1 (s3 lb vars 0 1 (s2 lb vars 1 (s1 la vars 1 15))))))))) vars = 0 :=
  ref_right 15 (by omega) (by simp [s1, s2, s3, s4, s5, s6, s7, s8, s9]) (mk_arity15 la lb lc K ch vars) (by
    simp only [s1, s2, s3, s4, s5, s6, s7, s8, s9]
    simp [plc_none la vars ba hv, -List.any_map, -List.any_eq_true, -List.any_eq_false]) (by
    simp only [s1, s2, s3, s4, s5, s6, s7, s8, s9]
    simp [plc_none lb vars bb hv, -List.any_map, -List.any_eq_true, -List.any_eq_false]) (mk_coefs15 la lb lc K ch vars)

set_option linter.unusedSimpArgs false in
set_option linter.unusedVariables false in
theorem mk_right16 (la lb lc : List Int) (K ch vars : Int) (ba : ∀ v ∈ la, 0 ≤ v ∧ v ≤ 255) (bb : ∀ v ∈ lb, 0 ≤ v ∧ v ≤ 255) (hch : 0 ≤ ch) (hv : 1 ≤ vars) : refRightE (s9 lc 1 (s8 lc K ch (s7 lc 1 (s6 K 1 (s5 lc (s4 lc 0 1 (s3 lb vars 0 1 (s2 lb vars 1 (s1 la vars 1 16))))))))) vars = 0 :=
  ref_right 16 (by omega) (by simp [s1, s2, s3, s4, s5, s6, s7, s8, s9]) (mk_arity16 la lb lc K ch vars) (by
    simp only [s1, s2, s3, s4, s5, s6, s7, s8, s9]
    simp [plc_none la vars ba hv, -List.any_map, -List.any_eq_true, -List.any_eq_false]) (by
    simp only [s1, s2, s3, s4, s5, s6, s7, s8, s9]
    simp [plc_none lb vars bb hv, -List.any_map, -List.any_eq_true, -List.any_eq_false]) (mk_coefs16 la lb lc K ch vars)

set_option linter.unusedSimpArgs false in
set_option linter.unusedVariables false in
theorem mk_right17 (la lb lc : List Int) (K ch vars : Int) (n : Nat) (hb : 1 ≤ n ∧ n ≤ 4) (ba : ∀ v ∈ la, 0 ≤ v ∧ v ≤ 255) (bb : ∀ v ∈ lb, 0 ≤ v ∧ v ≤ 255) (hch : 0 ≤ ch) (hv : 1 ≤ vars) : refRightE (s9 lc n (s8 lc K ch (s7 lc n (s6 K 0 (s5 lc (s4 lc 0 n (s3 lb vars 0 n (s2 lb vars 0 (s1 la vars n 17))))))))) vars = 0 :=
  ref_right 17 (by omega) (by simp [s1, s2, s3, s4, s5, s6, s7, s8, s9]) (mk_arity17 la lb lc K ch vars n hb) (by
    simp only [s1, s2, s3, s4, s5, s6, s7, s8, s9]
    simp [plc_none la vars ba hv, -List.any_map, -List.any_eq_true, -List.any_eq_false]) (by
    simp only [s1, s2, s3, s4, s5, s6, s7, s8, s9]
    simp [plc_none lb vars bb hv, -List.any_map, -List.any_eq_true, -List.any_eq_false]) (mk_coefs17 la lb lc K ch vars n)

set_option linter.unusedSimpArgs false in
set_option linter.unusedVariables false in
theorem mk_right18 (la lb lc : List Int) (K ch vars : Int) (n : Nat) (hb : 1 ≤ n ∧ n ≤ 4) (ba : ∀ v ∈ la, 0 ≤ v ∧ v ≤ 255) (bb : ∀ v ∈ lb, 0 ≤ v ∧ v ≤ 255) (hch : 0 ≤ ch) (hv : 1 ≤ vars) : refRightE (s9 lc n (s8 lc K ch (s7 lc n (s6 K 0 (s5 lc (s4 lc 0 n (s3 lb vars 0 n (s2 lb vars 0 (s1 la vars n 18))))))))) vars = 0 :=
  ref_right 18 (by omega) (by simp [s1, s2, s3, s4, s5, s6, s7, s8, s9]) (mk_arity18 la lb lc K ch vars n hb) (by
    simp only [s1, s2, s3, s4, s5, s6, s7, s8, s9]
    simp [plc_none la vars ba hv, -List.any_map, -List.any_eq_true, -List.any_eq_false]) (by
    simp only [s1, s2, s3, s4, s5, s6, s7, s8, s9]
    simp [plc_none lb vars bb hv, -List.any_map, -List.any_eq_true, -List.any_eq_false]) (mk_coefs18 la lb lc K ch vars n)

set_option linter.unusedSimpArgs false in
set_option linter.unusedVariables false in
theorem mk_right19 (la lb lc : List Int) (K ch vars : Int) (n : Nat) (hb : 1 ≤ n ∧ n ≤ 4) (ba : ∀ v ∈ la, 0 ≤ v ∧ v ≤ 255) (bb : ∀ v ∈ lb, 0 ≤ v ∧ v ≤ 255) (hch : 0 ≤ ch) (hv : 1 ≤ vars) : refRightE (s9 lc n (s8 lc K ch (s7 lc n (s6 K 1 (s5 lc (s4 lc 1 n (s3 lb vars 0 n (s2 lb vars 0 (s1 la vars n 19))))))))) vars = 0 :=
  ref_right 19 (by omega) (by simp [s1, s2, s3, s4, s5, s6, s7, s8, s9]) (mk_arity19 la lb lc K ch vars n hb) (by
    simp only [s1, s2, s3, s4, s5, s6, s7, s8, s9]
    simp [plc_none la vars ba hv, -List.any_map, -List.any_eq_true, -List.any_eq_false]) (by
    simp only [s1, s2, s3, s4, s5, s6, s7, s8, s9]
    simp [plc_none lb vars bb hv, -List.any_map, -List.any_eq_true, -List.any_eq_false]) (mk_coefs19 la lb lc K ch vars n)

set_option linter.unusedSimpArgs false in
set_option linter.unusedVariables false in
theorem mk_right20 (la lb lc : List Int) (K ch vars : Int) (n : Nat) (hb : 1 ≤ n ∧ n ≤ 4) (ba : ∀ v ∈ la, 0 ≤ v ∧ v ≤ 255) (bb : ∀ v ∈ lb, 0 ≤ v ∧ v ≤ 255) (hch : 0 ≤ ch) (hv : 1 ≤ vars) : refRightE (s9 lc n (s8 lc K ch (s7 lc n (s6 K 0 (s5 lc (s4 lc 0 n (s3 lb vars 0 n (s2 lb vars 0 (s1 la vars n 20))))))))) vars = 0 :=
  ref_right 20 (by omega) (by simp [s1, s2, s3, s4, s5, s6, s7, s8, s9]) (mk_arity20 la lb lc K ch vars n hb) (by
    simp only [s1, s2, s3, s4, s5, s6, s7, s8, s9]
    simp [plc_none la vars ba hv, -List.any_map, -List.any_eq_true, -List.any_eq_false]) (by
    simp only [s1, s2, s3, s4, s5, s6, s7, s8, s9]
    simp [plc_none lb vars bb hv, -List.any_map, -List.any_eq_true, -List.any_eq_false]) (mk_coefs20 la lb lc K ch vars n)

set_option linter.unusedSimpArgs false in
set_option linter.unusedVariables false in
theorem mk_right21 (la lb lc : List Int) (K ch vars : Int) (n : Nat) (hb : 1 ≤ n ∧ n ≤ 4) (ba : ∀ v ∈ la, 0 ≤ v ∧ v ≤ 255) (bb : ∀ v ∈ lb, 0 ≤ v ∧ v ≤ 255) (hch : 0 ≤ ch) (hv : 1 ≤ vars) : refRightE (s9 lc n (s8 lc K ch (s7 lc n (s6 K 0 (s5 lc (s4 lc 1 n (s3 lb vars 0 n (s2 lb vars 0 (s1 la vars n 21))))))))) vars = 0 :=
  ref_right 21 (by omega) (by simp [s1, s2, s3, s4, s5, s6, s7, s8, s9]) (mk_arity21 la lb lc K ch vars n hb) (by
    simp only [s1, s2, s3, s4, s5, s6, s7, s8, s9]
    simp [plc_none la vars ba hv, -List.any_map, -List.any_eq_true, -List.any_eq_false]) (by
    simp only [s1, s2, s3, s4, s5, s6, s7, s8, s9]
    simp [plc_none lb vars bb hv, -List.any_map, -List.any_eq_true, -List.any_eq_false]) (mk_coefs21 la lb lc K ch vars n hch)

set_option linter.unusedSimpArgs false in
set_option linter.unusedVariables false in
theorem mk_right22 (la lb lc : List Int) (K ch vars : Int) (n : Nat) (hb : 1 ≤ n ∧ n ≤ 4) (ba : ∀ v ∈ la, 0 ≤ v ∧ v ≤ 255) (bb : ∀ v ∈ lb, 0 ≤ v ∧ v ≤ 255) (hch : 0 ≤ ch) (hv : 1 ≤ vars) : refRightE (s9 lc n (s8 lc K ch (s7 lc n (s6 K 0 (s5 lc (s4 lc 0 n (s3 lb vars 1 n (s2 lb vars 0 (s1 la vars n 22))))))))) vars = 0 :=
  ref_right 22 (by omega) (by simp [s1, s2, s3, s4, s5, s6, s7, s8, s9]) (mk_arity22 la lb lc K ch vars n hb) (by
    simp only [s1, s2, s3, s4, s5, s6, s7, s8, s9]
    simp [plc_none la vars ba hv, -List.any_map, -List.any_eq_true, -List.any_eq_false]) (by
    simp only [s1, s2, s3, s4, s5, s6, s7, s8, s9]
    simp [plc_none lb vars bb hv, -List.any_map, -List.any_eq_true, -List.any_eq_false]) (mk_coefs22 la lb lc K ch vars n)

set_option linter.unusedSimpArgs false in
set_option linter.unusedVariables false in
theorem mk_right23 (la lb lc : List Int) (K ch vars : Int) (n : Nat) (hb : 1 ≤ n ∧ n ≤ 4) (ba : ∀ v ∈ la, 0 ≤ v ∧ v ≤ 255) (bb : ∀ v ∈ lb, 0 ≤ v ∧ v ≤ 255) (hch : 0 ≤ ch) (hv : 1 ≤ vars) : refRightE (s9 lc n (s8 lc K ch (s7 lc n (s6 K 0 (s5 lc (s4 lc 0 n (s3 lb vars 1 n (s2 lb vars 0 (s1 la vars n 23))))))))) vars = 0 :=
  ref_right 23 (by omega) (by simp [s1, s2, s3, s4, s5, s6, s7, s8, s9]) (mk_arity23 la lb lc K ch vars n hb) (by
    simp only [s1, s2, s3, s4, s5, s6, s7, s8, s9]
    simp [plc_none la vars ba hv, -List.any_map, -List.any_eq_true, -List.any_eq_false]) (by
    simp only [s1, s2, s3, s4, s5, s6, s7, s8, s9]
    simp [plc_none lb vars bb hv, -List.any_map, -List.any_eq_true, -List.any_eq_false]) (mk_coefs23 la lb lc K ch vars n)

/-- What the document's Make makes may be. -/
theorem make_right (la lb lc : List Int) (k K ch vars : Int) (ba : ∀ v ∈ la, 0 ≤ v ∧ v ≤ 255) (bb : ∀ v ∈ lb, 0 ≤ v ∧ v ≤ 255) (hk : 0 ≤ k) (hch : 0 ≤ ch) (hv : 1 ≤ vars) : rightE (makeE la lb lc k K ch vars) vars = 0 := by
  rw [right_same]
  have h0 := Int.tmod_nonneg 23 hk
  have h1 := tmod_in k 23 (by omega)
  have hc : k.tmod 23 = 0 ∨ k.tmod 23 = 1 ∨ k.tmod 23 = 2 ∨ k.tmod 23 = 3 ∨ k.tmod 23 = 4 ∨ k.tmod 23 = 5 ∨ k.tmod 23 = 6 ∨ k.tmod 23 = 7 ∨ k.tmod 23 = 8 ∨ k.tmod 23 = 9 ∨ k.tmod 23 = 10 ∨ k.tmod 23 = 11 ∨ k.tmod 23 = 12 ∨ k.tmod 23 = 13 ∨ k.tmod 23 = 14 ∨ k.tmod 23 = 15 ∨ k.tmod 23 = 16 ∨ k.tmod 23 = 17 ∨ k.tmod 23 = 18 ∨ k.tmod 23 = 19 ∨ k.tmod 23 = 20 ∨ k.tmod 23 = 21 ∨ k.tmod 23 = 22 := by omega
  rcases hc with e | e | e | e | e | e | e | e | e | e | e | e | e | e | e | e | e | e | e | e | e | e | e
  · have h := makeE_eq la lb lc k K ch vars 1 [99, 86, 107] (by omega) (by kernel_rfl)
    rw [show (([99, 86, 107] : Bs).count 118) = 0 by kernel_rfl, show (([99, 86, 107] : Bs).count 119) = 0 by kernel_rfl, show (([99, 86, 107] : Bs).count 87) = 0 by kernel_rfl, show (([99, 86, 107] : Bs).count 99) = 1 by kernel_rfl, show (([99, 86, 107] : Bs).count 107) = 1 by kernel_rfl] at h
    rw [if_neg (by omega)] at h
    rw [h]
    exact mk_right1 la lb lc K ch vars (mkN0 la) (mkN0_in la) ba bb hch hv
  · have h := makeE_eq la lb lc k K ch vars 2 [99, 86, 107] (by omega) (by kernel_rfl)
    rw [show (([99, 86, 107] : Bs).count 118) = 0 by kernel_rfl, show (([99, 86, 107] : Bs).count 119) = 0 by kernel_rfl, show (([99, 86, 107] : Bs).count 87) = 0 by kernel_rfl, show (([99, 86, 107] : Bs).count 99) = 1 by kernel_rfl, show (([99, 86, 107] : Bs).count 107) = 1 by kernel_rfl] at h
    rw [if_neg (by omega)] at h
    rw [h]
    exact mk_right2 la lb lc K ch vars (mkN0 la) (mkN0_in la) ba bb hch hv
  · have h := makeE_eq la lb lc k K ch vars 3 [99, 86, 107] (by omega) (by kernel_rfl)
    rw [show (([99, 86, 107] : Bs).count 118) = 0 by kernel_rfl, show (([99, 86, 107] : Bs).count 119) = 0 by kernel_rfl, show (([99, 86, 107] : Bs).count 87) = 0 by kernel_rfl, show (([99, 86, 107] : Bs).count 99) = 1 by kernel_rfl, show (([99, 86, 107] : Bs).count 107) = 1 by kernel_rfl] at h
    rw [if_neg (by omega)] at h
    rw [h]
    exact mk_right3 la lb lc K ch vars (mkN0 la) (mkN0_in la) ba bb hch hv
  · have h := makeE_eq la lb lc k K ch vars 4 [99, 86, 107, 119] (by omega) (by kernel_rfl)
    rw [show (([99, 86, 107, 119] : Bs).count 118) = 0 by kernel_rfl, show (([99, 86, 107, 119] : Bs).count 119) = 1 by kernel_rfl, show (([99, 86, 107, 119] : Bs).count 87) = 0 by kernel_rfl, show (([99, 86, 107, 119] : Bs).count 99) = 1 by kernel_rfl, show (([99, 86, 107, 119] : Bs).count 107) = 1 by kernel_rfl] at h
    rw [if_neg (by omega)] at h
    rw [h]
    exact mk_right4 la lb lc K ch vars (mkN0 la) (mkN0_in la) ba bb hch hv
  · have h := makeE_eq la lb lc k K ch vars 5 [118, 118, 118] (by omega) (by kernel_rfl)
    rw [show (([118, 118, 118] : Bs).count 118) = 3 by kernel_rfl, show (([118, 118, 118] : Bs).count 119) = 0 by kernel_rfl, show (([118, 118, 118] : Bs).count 87) = 0 by kernel_rfl, show (([118, 118, 118] : Bs).count 99) = 0 by kernel_rfl, show (([118, 118, 118] : Bs).count 107) = 0 by kernel_rfl] at h
    rw [if_pos (by omega)] at h
    rw [h]
    exact mk_right5 la lb lc K ch vars ba bb hch hv
  · have h := makeE_eq la lb lc k K ch vars 6 [118, 118, 118] (by omega) (by kernel_rfl)
    rw [show (([118, 118, 118] : Bs).count 118) = 3 by kernel_rfl, show (([118, 118, 118] : Bs).count 119) = 0 by kernel_rfl, show (([118, 118, 118] : Bs).count 87) = 0 by kernel_rfl, show (([118, 118, 118] : Bs).count 99) = 0 by kernel_rfl, show (([118, 118, 118] : Bs).count 107) = 0 by kernel_rfl] at h
    rw [if_pos (by omega)] at h
    rw [h]
    exact mk_right6 la lb lc K ch vars ba bb hch hv
  · have h := makeE_eq la lb lc k K ch vars 7 [118, 118, 118] (by omega) (by kernel_rfl)
    rw [show (([118, 118, 118] : Bs).count 118) = 3 by kernel_rfl, show (([118, 118, 118] : Bs).count 119) = 0 by kernel_rfl, show (([118, 118, 118] : Bs).count 87) = 0 by kernel_rfl, show (([118, 118, 118] : Bs).count 99) = 0 by kernel_rfl, show (([118, 118, 118] : Bs).count 107) = 0 by kernel_rfl] at h
    rw [if_pos (by omega)] at h
    rw [h]
    exact mk_right7 la lb lc K ch vars ba bb hch hv
  · have h := makeE_eq la lb lc k K ch vars 8 [118, 118] (by omega) (by kernel_rfl)
    rw [show (([118, 118] : Bs).count 118) = 2 by kernel_rfl, show (([118, 118] : Bs).count 119) = 0 by kernel_rfl, show (([118, 118] : Bs).count 87) = 0 by kernel_rfl, show (([118, 118] : Bs).count 99) = 0 by kernel_rfl, show (([118, 118] : Bs).count 107) = 0 by kernel_rfl] at h
    rw [if_pos (by omega)] at h
    rw [h]
    exact mk_right8 la lb lc K ch vars ba bb hch hv
  · have h := makeE_eq la lb lc k K ch vars 9 [118, 118, 118] (by omega) (by kernel_rfl)
    rw [show (([118, 118, 118] : Bs).count 118) = 3 by kernel_rfl, show (([118, 118, 118] : Bs).count 119) = 0 by kernel_rfl, show (([118, 118, 118] : Bs).count 87) = 0 by kernel_rfl, show (([118, 118, 118] : Bs).count 99) = 0 by kernel_rfl, show (([118, 118, 118] : Bs).count 107) = 0 by kernel_rfl] at h
    rw [if_pos (by omega)] at h
    rw [h]
    exact mk_right9 la lb lc K ch vars ba bb hch hv
  · have h := makeE_eq la lb lc k K ch vars 10 [118, 118, 118] (by omega) (by kernel_rfl)
    rw [show (([118, 118, 118] : Bs).count 118) = 3 by kernel_rfl, show (([118, 118, 118] : Bs).count 119) = 0 by kernel_rfl, show (([118, 118, 118] : Bs).count 87) = 0 by kernel_rfl, show (([118, 118, 118] : Bs).count 99) = 0 by kernel_rfl, show (([118, 118, 118] : Bs).count 107) = 0 by kernel_rfl] at h
    rw [if_pos (by omega)] at h
    rw [h]
    exact mk_right10 la lb lc K ch vars ba bb hch hv
  · have h := makeE_eq la lb lc k K ch vars 11 [118, 99, 118] (by omega) (by kernel_rfl)
    rw [show (([118, 99, 118] : Bs).count 118) = 2 by kernel_rfl, show (([118, 99, 118] : Bs).count 119) = 0 by kernel_rfl, show (([118, 99, 118] : Bs).count 87) = 0 by kernel_rfl, show (([118, 99, 118] : Bs).count 99) = 1 by kernel_rfl, show (([118, 99, 118] : Bs).count 107) = 0 by kernel_rfl] at h
    rw [if_pos (by omega)] at h
    rw [h]
    exact mk_right11 la lb lc K ch vars ba bb hch hv
  · have h := makeE_eq la lb lc k K ch vars 12 [86, 87] (by omega) (by kernel_rfl)
    rw [show (([86, 87] : Bs).count 118) = 0 by kernel_rfl, show (([86, 87] : Bs).count 119) = 0 by kernel_rfl, show (([86, 87] : Bs).count 87) = 1 by kernel_rfl, show (([86, 87] : Bs).count 99) = 0 by kernel_rfl, show (([86, 87] : Bs).count 107) = 0 by kernel_rfl] at h
    rw [if_neg (by omega)] at h
    rw [h]
    exact mk_right12 la lb lc K ch vars (mkN0 la) (mkN0_in la) ba bb hch hv
  · have h := makeE_eq la lb lc k K ch vars 13 [118, 107, 119] (by omega) (by kernel_rfl)
    rw [show (([118, 107, 119] : Bs).count 118) = 1 by kernel_rfl, show (([118, 107, 119] : Bs).count 119) = 1 by kernel_rfl, show (([118, 107, 119] : Bs).count 87) = 0 by kernel_rfl, show (([118, 107, 119] : Bs).count 99) = 0 by kernel_rfl, show (([118, 107, 119] : Bs).count 107) = 1 by kernel_rfl] at h
    rw [if_pos (by omega)] at h
    rw [h]
    exact mk_right13 la lb lc K ch vars ba bb hch hv
  · have h := makeE_eq la lb lc k K ch vars 14 [118, 107, 119] (by omega) (by kernel_rfl)
    rw [show (([118, 107, 119] : Bs).count 118) = 1 by kernel_rfl, show (([118, 107, 119] : Bs).count 119) = 1 by kernel_rfl, show (([118, 107, 119] : Bs).count 87) = 0 by kernel_rfl, show (([118, 107, 119] : Bs).count 99) = 0 by kernel_rfl, show (([118, 107, 119] : Bs).count 107) = 1 by kernel_rfl] at h
    rw [if_pos (by omega)] at h
    rw [h]
    exact mk_right14 la lb lc K ch vars ba bb hch hv
  · have h := makeE_eq la lb lc k K ch vars 15 [118, 107, 119] (by omega) (by kernel_rfl)
    rw [show (([118, 107, 119] : Bs).count 118) = 1 by kernel_rfl, show (([118, 107, 119] : Bs).count 119) = 1 by kernel_rfl, show (([118, 107, 119] : Bs).count 87) = 0 by kernel_rfl, show (([118, 107, 119] : Bs).count 99) = 0 by kernel_rfl, show (([118, 107, 119] : Bs).count 107) = 1 by kernel_rfl] at h
    rw [if_pos (by omega)] at h
    rw [h]
    exact mk_right15 la lb lc K ch vars ba bb hch hv
  · have h := makeE_eq la lb lc k K ch vars 16 [118, 107, 119] (by omega) (by kernel_rfl)
    rw [show (([118, 107, 119] : Bs).count 118) = 1 by kernel_rfl, show (([118, 107, 119] : Bs).count 119) = 1 by kernel_rfl, show (([118, 107, 119] : Bs).count 87) = 0 by kernel_rfl, show (([118, 107, 119] : Bs).count 99) = 0 by kernel_rfl, show (([118, 107, 119] : Bs).count 107) = 1 by kernel_rfl] at h
    rw [if_pos (by omega)] at h
    rw [h]
    exact mk_right16 la lb lc K ch vars ba bb hch hv
  · have h := makeE_eq la lb lc k K ch vars 17 [86] (by omega) (by kernel_rfl)
    rw [show (([86] : Bs).count 118) = 0 by kernel_rfl, show (([86] : Bs).count 119) = 0 by kernel_rfl, show (([86] : Bs).count 87) = 0 by kernel_rfl, show (([86] : Bs).count 99) = 0 by kernel_rfl, show (([86] : Bs).count 107) = 0 by kernel_rfl] at h
    rw [if_neg (by omega)] at h
    rw [h]
    exact mk_right17 la lb lc K ch vars (mkN0 la) (mkN0_in la) ba bb hch hv
  · have h := makeE_eq la lb lc k K ch vars 18 [86, 114] (by omega) (by kernel_rfl)
    rw [show (([86, 114] : Bs).count 118) = 0 by kernel_rfl, show (([86, 114] : Bs).count 119) = 0 by kernel_rfl, show (([86, 114] : Bs).count 87) = 0 by kernel_rfl, show (([86, 114] : Bs).count 99) = 0 by kernel_rfl, show (([86, 114] : Bs).count 107) = 0 by kernel_rfl] at h
    rw [if_neg (by omega)] at h
    rw [h]
    exact mk_right18 la lb lc K ch vars (mkN0 la) (mkN0_in la) ba bb hch hv
  · have h := makeE_eq la lb lc k K ch vars 19 [86, 99, 100, 107] (by omega) (by kernel_rfl)
    rw [show (([86, 99, 100, 107] : Bs).count 118) = 0 by kernel_rfl, show (([86, 99, 100, 107] : Bs).count 119) = 0 by kernel_rfl, show (([86, 99, 100, 107] : Bs).count 87) = 0 by kernel_rfl, show (([86, 99, 100, 107] : Bs).count 99) = 1 by kernel_rfl, show (([86, 99, 100, 107] : Bs).count 107) = 1 by kernel_rfl] at h
    rw [if_neg (by omega)] at h
    rw [h]
    exact mk_right19 la lb lc K ch vars (mkN0 la) (mkN0_in la) ba bb hch hv
  · have h := makeE_eq la lb lc k K ch vars 20 [86] (by omega) (by kernel_rfl)
    rw [show (([86] : Bs).count 118) = 0 by kernel_rfl, show (([86] : Bs).count 119) = 0 by kernel_rfl, show (([86] : Bs).count 87) = 0 by kernel_rfl, show (([86] : Bs).count 99) = 0 by kernel_rfl, show (([86] : Bs).count 107) = 0 by kernel_rfl] at h
    rw [if_neg (by omega)] at h
    rw [h]
    exact mk_right20 la lb lc K ch vars (mkN0 la) (mkN0_in la) ba bb hch hv
  · have h := makeE_eq la lb lc k K ch vars 21 [86, 99, 100, 101] (by omega) (by kernel_rfl)
    rw [show (([86, 99, 100, 101] : Bs).count 118) = 0 by kernel_rfl, show (([86, 99, 100, 101] : Bs).count 119) = 0 by kernel_rfl, show (([86, 99, 100, 101] : Bs).count 87) = 0 by kernel_rfl, show (([86, 99, 100, 101] : Bs).count 99) = 1 by kernel_rfl, show (([86, 99, 100, 101] : Bs).count 107) = 0 by kernel_rfl] at h
    rw [if_neg (by omega)] at h
    rw [h]
    exact mk_right21 la lb lc K ch vars (mkN0 la) (mkN0_in la) ba bb hch hv
  · have h := makeE_eq la lb lc k K ch vars 22 [86, 87] (by omega) (by kernel_rfl)
    rw [show (([86, 87] : Bs).count 118) = 0 by kernel_rfl, show (([86, 87] : Bs).count 119) = 0 by kernel_rfl, show (([86, 87] : Bs).count 87) = 1 by kernel_rfl, show (([86, 87] : Bs).count 99) = 0 by kernel_rfl, show (([86, 87] : Bs).count 107) = 0 by kernel_rfl] at h
    rw [if_neg (by omega)] at h
    rw [h]
    exact mk_right22 la lb lc K ch vars (mkN0 la) (mkN0_in la) ba bb hch hv
  · have h := makeE_eq la lb lc k K ch vars 23 [86, 87] (by omega) (by kernel_rfl)
    rw [show (([86, 87] : Bs).count 118) = 0 by kernel_rfl, show (([86, 87] : Bs).count 119) = 0 by kernel_rfl, show (([86, 87] : Bs).count 87) = 1 by kernel_rfl, show (([86, 87] : Bs).count 99) = 0 by kernel_rfl, show (([86, 87] : Bs).count 107) = 0 by kernel_rfl] at h
    rw [if_neg (by omega)] at h
    rw [h]
    exact mk_right23 la lb lc K ch vars (mkN0 la) (mkN0_in la) ba bb hch hv

end Go.Proofs.YtkhmocbfkpbpfaaGreatDoor
