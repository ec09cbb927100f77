/- What the document's Make makes may be. No walk. Made by tools/genmkr3.py. -/
import Derived.Test.YtcmdgjkoalophaaGreatDoorMkr
import Derived.Test.YtcmdgjkoalophaaGreatDoorMnum
namespace Go.Proofs.YtcmdgjkoalophaaGreatDoor
open Go.RowKit

theorem mkL_none {f : Nat → Int} {n : Nat} {p : Int → Bool} (h : ∀ i, i < n → p (f i) = false) : (mkL f n).any p = false := by
  rw [List.any_eq_false]
  intro v hv
  simp only [mkL, List.mem_map, List.mem_range] at hv
  obtain ⟨i, hi, rfl⟩ := hv
  rw [h i hi]
  simp
theorem out_no {lo hi z : Int} (h : lo ≤ z ∧ z ≤ hi) : outB lo hi z = false := by unfold outB; simp; omega
theorem numE_in (l : List Int) (fr : Nat) (least wide : Int) (hw : 1 ≤ wide) (i : Nat) : -wide < numE l fr least wide i ∧ numE l fr least wide i < wide ∧ (0 ≤ least → 0 ≤ numE l fr least wide i) := by
  unfold numE
  have := tmod_in (if fr + i < l.length then l.getD (fr + i) 0 else 1) wide hw
  generalize (if fr + i < l.length then l.getD (fr + i) 0 else 1).tmod wide = t at *
  unfold absIf
  split <;> omega
theorem n5 (lc : List Int) (fr m : Nat) : (mkL (numE lc fr (-1) 5) m).any (outB (-1000000) 1000000) = false := mkL_none fun i _ => out_no (by have := numE_in lc fr (-1) 5 (by omega) i; omega)
theorem n4 (lc : List Int) (fr m : Nat) : (mkL (numE lc fr (-1) 4) m).any (outB (-1000000) 1000000) = false := mkL_none fun i _ => out_no (by have := numE_in lc fr (-1) 4 (by omega) i; omega)
theorem p4 (lc : List Int) (fr m : Nat) : (mkL (numE lc fr 0 4) m).any (outB 0 1000000) = false := mkL_none fun i _ => out_no (by have := numE_in lc fr 0 4 (by omega) i; omega)
theorem p2 (lc : List Int) (fr m : Nat) : (mkL (numE lc fr 0 2) m).any (outB 0 1000000) = false := mkL_none fun i _ => out_no (by have := numE_in lc fr 0 2 (by omega) i; omega)
theorem g3 (K : Int) (m : Nat) (hm : m ≤ 3) : (mkL (gcF K) m).any (outB (-1000000) 1000000) = false := mkL_none fun i hi => out_no (by unfold gcF; have := tmod_in K 3 (by omega); omega)
theorem ge_in (lc : List Int) (ch : Int) (hch : 0 ≤ ch) (i : Nat) : numE lc 0 0 2 i ≤ geF lc ch i ∧ geF lc ch i ≤ 3 := by
  unfold geF
  have h1 := numE_in lc 0 0 2 (by omega) i
  have h2 := tmod_in (ch / 2 ^ i) 3 (by omega)
  have h3 : 0 ≤ (ch / 2 ^ i).tmod 3 := Int.tmod_nonneg _ (Int.ediv_nonneg hch (Int.le_of_lt (Int.pow_pos (by decide))))
  omega
theorem g2 (lc : List Int) (ch : Int) (hch : 0 ≤ ch) (m : Nat) : (mkL (geF lc ch) m).any (outB 0 1000000) = false := mkL_none fun i _ => out_no (by have := ge_in lc ch hch i; have := numE_in lc 0 0 2 (by omega) i; omega)
theorem k12 (K : Int) : outB (-9999999999) 9999999999 (K.tmod 12) = false := out_no (by have := tmod_in K 12 (by omega); omega)
theorem k0 : outB (-9999999999) 9999999999 0 = false := by decide
theorem kn12 (K : Int) : outB 0 9999999999 (negI (K.tmod 12)) = false := out_no (by unfold negI; have := tmod_in K 12 (by omega); split <;> omega)
theorem r4 (lc : List Int) (n m : Nat) : ((List.range m).map (rowF lc n)).any (fun r => r.any (outB (-1000000) 1000000)) = false := by
  rw [List.any_eq_false]
  intro v hv
  obtain ⟨i, _, rfl⟩ := List.mem_map.1 hv
  unfold rowF
  rw [n4]
  simp

set_option linter.unusedSimpArgs false in
set_option linter.unusedVariables false in
theorem mk_coefs1 (la lb lc : List Int) (K ch vars : Int) (n : Nat) : coefsB (s9 lc n (s8 lc K ch (s7 lc n (s6 K 1 (s5 lc (s4 lc 1 n (s3 lb vars 0 n (s2 lb vars 0 (s1 la vars n 1))))))))) = true := by
  unfold coefsB
  simp only [s1, s2, s3, s4, s5, s6, s7, s8, s9]
  simp [lowC, secD, lowK, n5, n4, p4, p2, k12, k0, kn12, -List.any_map, -List.any_eq_true, -List.any_eq_false, r4]

set_option linter.unusedSimpArgs false in
set_option linter.unusedVariables false in
theorem mk_coefs2 (la lb lc : List Int) (K ch vars : Int) (n : Nat) : coefsB (s9 lc n (s8 lc K ch (s7 lc n (s6 K 1 (s5 lc (s4 lc 1 n (s3 lb vars 0 n (s2 lb vars 0 (s1 la vars n 2))))))))) = true := by
  unfold coefsB
  simp only [s1, s2, s3, s4, s5, s6, s7, s8, s9]
  simp [lowC, secD, lowK, n5, n4, p4, p2, k12, k0, kn12, -List.any_map, -List.any_eq_true, -List.any_eq_false, r4]

set_option linter.unusedSimpArgs false in
set_option linter.unusedVariables false in
theorem mk_coefs3 (la lb lc : List Int) (K ch vars : Int) (n : Nat) : coefsB (s9 lc n (s8 lc K ch (s7 lc n (s6 K 1 (s5 lc (s4 lc 1 n (s3 lb vars 0 n (s2 lb vars 0 (s1 la vars n 3))))))))) = true := by
  unfold coefsB
  simp only [s1, s2, s3, s4, s5, s6, s7, s8, s9]
  simp [lowC, secD, lowK, n5, n4, p4, p2, k12, k0, kn12, -List.any_map, -List.any_eq_true, -List.any_eq_false, r4]

set_option linter.unusedSimpArgs false in
set_option linter.unusedVariables false in
theorem mk_coefs4 (la lb lc : List Int) (K ch vars : Int) (n : Nat) : coefsB (s9 lc n (s8 lc K ch (s7 lc n (s6 K 1 (s5 lc (s4 lc 1 n (s3 lb vars 0 n (s2 lb vars 1 (s1 la vars n 4))))))))) = true := by
  unfold coefsB
  simp only [s1, s2, s3, s4, s5, s6, s7, s8, s9]
  simp [lowC, secD, lowK, n5, n4, p4, p2, k12, k0, kn12, -List.any_map, -List.any_eq_true, -List.any_eq_false, r4]

set_option linter.unusedSimpArgs false in
set_option linter.unusedVariables false in
theorem mk_coefs5 (la lb lc : List Int) (K ch vars : Int) : coefsB (s9 lc 3 (s8 lc K ch (s7 lc 3 (s6 K 0 (s5 lc (s4 lc 0 3 (s3 lb vars 0 3 (s2 lb vars 0 (s1 la vars 3 5))))))))) = true := by
  unfold coefsB
  simp only [s1, s2, s3, s4, s5, s6, s7, s8, s9]
  simp [lowC, secD, lowK, n5, n4, p4, p2, k12, k0, kn12, -List.any_map, -List.any_eq_true, -List.any_eq_false, r4]

set_option linter.unusedSimpArgs false in
set_option linter.unusedVariables false in
theorem mk_coefs6 (la lb lc : List Int) (K ch vars : Int) : coefsB (s9 lc 3 (s8 lc K ch (s7 lc 3 (s6 K 0 (s5 lc (s4 lc 0 3 (s3 lb vars 0 3 (s2 lb vars 0 (s1 la vars 3 6))))))))) = true := by
  unfold coefsB
  simp only [s1, s2, s3, s4, s5, s6, s7, s8, s9]
  simp [lowC, secD, lowK, n5, n4, p4, p2, k12, k0, kn12, -List.any_map, -List.any_eq_true, -List.any_eq_false, r4]

set_option linter.unusedSimpArgs false in
set_option linter.unusedVariables false in
theorem mk_coefs7 (la lb lc : List Int) (K ch vars : Int) : coefsB (s9 lc 3 (s8 lc K ch (s7 lc 3 (s6 K 0 (s5 lc (s4 lc 0 3 (s3 lb vars 0 3 (s2 lb vars 0 (s1 la vars 3 7))))))))) = true := by
  unfold coefsB
  simp only [s1, s2, s3, s4, s5, s6, s7, s8, s9]
  simp [lowC, secD, lowK, n5, n4, p4, p2, k12, k0, kn12, -List.any_map, -List.any_eq_true, -List.any_eq_false, r4]

set_option linter.unusedSimpArgs false in
set_option linter.unusedVariables false in
theorem mk_coefs8 (la lb lc : List Int) (K ch vars : Int) : coefsB (s9 lc 2 (s8 lc K ch (s7 lc 2 (s6 K 0 (s5 lc (s4 lc 0 2 (s3 lb vars 0 2 (s2 lb vars 0 (s1 la vars 2 8))))))))) = true := by
  unfold coefsB
  simp only [s1, s2, s3, s4, s5, s6, s7, s8, s9]
  simp [lowC, secD, lowK, n5, n4, p4, p2, k12, k0, kn12, -List.any_map, -List.any_eq_true, -List.any_eq_false, r4]

set_option linter.unusedSimpArgs false in
set_option linter.unusedVariables false in
theorem mk_coefs9 (la lb lc : List Int) (K ch vars : Int) : coefsB (s9 lc 3 (s8 lc K ch (s7 lc 3 (s6 K 0 (s5 lc (s4 lc 0 3 (s3 lb vars 0 3 (s2 lb vars 0 (s1 la vars 3 9))))))))) = true := by
  unfold coefsB
  simp only [s1, s2, s3, s4, s5, s6, s7, s8, s9]
  simp [lowC, secD, lowK, n5, n4, p4, p2, k12, k0, kn12, -List.any_map, -List.any_eq_true, -List.any_eq_false, r4]

set_option linter.unusedSimpArgs false in
set_option linter.unusedVariables false in
theorem mk_coefs10 (la lb lc : List Int) (K ch vars : Int) : coefsB (s9 lc 3 (s8 lc K ch (s7 lc 3 (s6 K 0 (s5 lc (s4 lc 0 3 (s3 lb vars 0 3 (s2 lb vars 0 (s1 la vars 3 10))))))))) = true := by
  unfold coefsB
  simp only [s1, s2, s3, s4, s5, s6, s7, s8, s9]
  simp [lowC, secD, lowK, n5, n4, p4, p2, k12, k0, kn12, -List.any_map, -List.any_eq_true, -List.any_eq_false, r4]

set_option linter.unusedSimpArgs false in
set_option linter.unusedVariables false in
theorem mk_coefs11 (la lb lc : List Int) (K ch vars : Int) : coefsB (s9 lc 2 (s8 lc K ch (s7 lc 2 (s6 K 0 (s5 lc (s4 lc 1 2 (s3 lb vars 0 2 (s2 lb vars 0 (s1 la vars 2 11))))))))) = true := by
  unfold coefsB
  simp only [s1, s2, s3, s4, s5, s6, s7, s8, s9]
  simp [lowC, secD, lowK, n5, n4, p4, p2, k12, k0, kn12, -List.any_map, -List.any_eq_true, -List.any_eq_false, r4]

set_option linter.unusedSimpArgs false in
set_option linter.unusedVariables false in
theorem mk_coefs12 (la lb lc : List Int) (K ch vars : Int) (n : Nat) : coefsB (s9 lc n (s8 lc K ch (s7 lc n (s6 K 0 (s5 lc (s4 lc 0 n (s3 lb vars 1 n (s2 lb vars 0 (s1 la vars n 12))))))))) = true := by
  unfold coefsB
  simp only [s1, s2, s3, s4, s5, s6, s7, s8, s9]
  simp [lowC, secD, lowK, n5, n4, p4, p2, k12, k0, kn12, -List.any_map, -List.any_eq_true, -List.any_eq_false, r4]

set_option linter.unusedSimpArgs false in
set_option linter.unusedVariables false in
theorem mk_coefs13 (la lb lc : List Int) (K ch vars : Int) : coefsB (s9 lc 1 (s8 lc K ch (s7 lc 1 (s6 K 1 (s5 lc (s4 lc 0 1 (s3 lb vars 0 1 (s2 lb vars 1 (s1 la vars 1 13))))))))) = true := by
  unfold coefsB
  simp only [s1, s2, s3, s4, s5, s6, s7, s8, s9]
  simp [lowC, secD, lowK, n5, n4, p4, p2, k12, k0, kn12, -List.any_map, -List.any_eq_true, -List.any_eq_false, r4]

set_option linter.unusedSimpArgs false in
set_option linter.unusedVariables false in
theorem mk_coefs14 (la lb lc : List Int) (K ch vars : Int) : coefsB (s9 lc 1 (s8 lc K ch (s7 lc 1 (s6 K 1 (s5 lc (s4 lc 0 1 (s3 lb vars 0 1 (s2 lb vars 1 (s1 la vars 1 14))))))))) = true := by
  unfold coefsB
  simp only [s1, s2, s3, s4, s5, s6, s7, s8, s9]
  simp [lowC, secD, lowK, n5, n4, p4, p2, k12, k0, kn12, -List.any_map, -List.any_eq_true, -List.any_eq_false, r4]

set_option linter.unusedSimpArgs false in
set_option linter.unusedVariables false in
theorem mk_coefs15 (la lb lc : List Int) (K ch vars : Int) : coefsB (s9 lc 1 (s8 lc K ch (s7 lc 1 (s6 K 1 (s5 lc (s4 lc 0 1 (s3 lb vars 0 1 (s2 lb vars 1 (s1 la vars 1 15))))))))) = true := by
  unfold coefsB
  simp only [s1, s2, s3, s4, s5, s6, s7, s8, s9]
  simp [lowC, secD, lowK, n5, n4, p4, p2, k12, k0, kn12, -List.any_map, -List.any_eq_true, -List.any_eq_false, r4]

set_option linter.unusedSimpArgs false in
set_option linter.unusedVariables false in
theorem mk_coefs16 (la lb lc : List Int) (K ch vars : Int) : coefsB (s9 lc 1 (s8 lc K ch (s7 lc 1 (s6 K 1 (s5 lc (s4 lc 0 1 (s3 lb vars 0 1 (s2 lb vars 1 (s1 la vars 1 16))))))))) = true := by
  unfold coefsB
  simp only [s1, s2, s3, s4, s5, s6, s7, s8, s9]
  simp [lowC, secD, lowK, n5, n4, p4, p2, k12, k0, kn12, -List.any_map, -List.any_eq_true, -List.any_eq_false, r4]

set_option linter.unusedSimpArgs false in
set_option linter.unusedVariables false in
theorem mk_coefs17 (la lb lc : List Int) (K ch vars : Int) (n : Nat) : coefsB (s9 lc n (s8 lc K ch (s7 lc n (s6 K 0 (s5 lc (s4 lc 0 n (s3 lb vars 0 n (s2 lb vars 0 (s1 la vars n 17))))))))) = true := by
  unfold coefsB
  simp only [s1, s2, s3, s4, s5, s6, s7, s8, s9]
  simp [lowC, secD, lowK, n5, n4, p4, p2, k12, k0, kn12, -List.any_map, -List.any_eq_true, -List.any_eq_false, r4]

set_option linter.unusedSimpArgs false in
set_option linter.unusedVariables false in
theorem mk_coefs18 (la lb lc : List Int) (K ch vars : Int) (n : Nat) : coefsB (s9 lc n (s8 lc K ch (s7 lc n (s6 K 0 (s5 lc (s4 lc 0 n (s3 lb vars 0 n (s2 lb vars 0 (s1 la vars n 18))))))))) = true := by
  unfold coefsB
  simp only [s1, s2, s3, s4, s5, s6, s7, s8, s9]
  simp [lowC, secD, lowK, n5, n4, p4, p2, k12, k0, kn12, -List.any_map, -List.any_eq_true, -List.any_eq_false, r4]

set_option linter.unusedSimpArgs false in
set_option linter.unusedVariables false in
theorem mk_coefs19 (la lb lc : List Int) (K ch vars : Int) (n : Nat) : coefsB (s9 lc n (s8 lc K ch (s7 lc n (s6 K 1 (s5 lc (s4 lc 1 n (s3 lb vars 0 n (s2 lb vars 0 (s1 la vars n 19))))))))) = true := by
  unfold coefsB
  simp only [s1, s2, s3, s4, s5, s6, s7, s8, s9]
  simp [lowC, secD, lowK, n5, n4, p4, p2, k12, k0, kn12, -List.any_map, -List.any_eq_true, -List.any_eq_false, r4]

set_option linter.unusedSimpArgs false in
set_option linter.unusedVariables false in
theorem mk_coefs20 (la lb lc : List Int) (K ch vars : Int) (n : Nat) : coefsB (s9 lc n (s8 lc K ch (s7 lc n (s6 K 0 (s5 lc (s4 lc 0 n (s3 lb vars 0 n (s2 lb vars 0 (s1 la vars n 20))))))))) = true := by
  unfold coefsB
  simp only [s1, s2, s3, s4, s5, s6, s7, s8, s9]
  simp [lowC, secD, lowK, n5, n4, p4, p2, k12, k0, kn12, -List.any_map, -List.any_eq_true, -List.any_eq_false, r4]

set_option linter.unusedSimpArgs false in
set_option linter.unusedVariables false in
theorem mk_coefs22 (la lb lc : List Int) (K ch vars : Int) (n : Nat) : coefsB (s9 lc n (s8 lc K ch (s7 lc n (s6 K 0 (s5 lc (s4 lc 0 n (s3 lb vars 1 n (s2 lb vars 0 (s1 la vars n 22))))))))) = true := by
  unfold coefsB
  simp only [s1, s2, s3, s4, s5, s6, s7, s8, s9]
  simp [lowC, secD, lowK, n5, n4, p4, p2, k12, k0, kn12, -List.any_map, -List.any_eq_true, -List.any_eq_false, r4]

set_option linter.unusedSimpArgs false in
set_option linter.unusedVariables false in
theorem mk_coefs23 (la lb lc : List Int) (K ch vars : Int) (n : Nat) : coefsB (s9 lc n (s8 lc K ch (s7 lc n (s6 K 0 (s5 lc (s4 lc 0 n (s3 lb vars 1 n (s2 lb vars 0 (s1 la vars n 23))))))))) = true := by
  unfold coefsB
  simp only [s1, s2, s3, s4, s5, s6, s7, s8, s9]
  simp [lowC, secD, lowK, n5, n4, p4, p2, k12, k0, kn12, -List.any_map, -List.any_eq_true, -List.any_eq_false, r4]

theorem cnt_ok (lc : List Int) (K ch : Int) (hch : 0 ≤ ch) (m : Nat) (c : ConL) (hC : c.C = mkL (gcF K) m) (hD : c.D = mkL (numE lc 0 0 2) m) (hE : c.E = mkL (geF lc ch) m) : countsB c = true := by
  refine counts_yes fun j hj => ?_
  rw [hC, mkL_len] at hj
  unfold cntOK
  rw [hC, hD, hE, mkL_getD _ hj, mkL_getD _ hj, mkL_getD _ hj]
  rw [Bool.and_eq_true]
  refine ⟨by simpa using (ge_in lc ch hch j).1, ?_⟩
  rw [Bool.not_eq_true', List.any_eq_false]
  intro v hv
  obtain ⟨i, hi, rfl⟩ := List.getElem_of_mem hv
  have hij : i < j := by rw [List.length_take] at hi; omega
  have e : ((mkL (gcF K) m).take j)[i] = gcF K i := by
    rw [List.getElem_take]
    simp [mkL]
  rw [e]
  unfold gcF
  simp
  omega
theorem mk_coefs21 (la lb lc : List Int) (K ch vars : Int) (n : Nat) (hch : 0 ≤ ch) : coefsB (s9 lc n (s8 lc K ch (s7 lc n (s6 K 0 (s5 lc (s4 lc 1 n (s3 lb vars 0 n (s2 lb vars 0 (s1 la vars n 21))))))))) = true := by
  have h3 := Nat.mod_lt lc.length (show 0 < 3 by decide)
  have hc := cnt_ok lc K ch hch (1 + lc.length % 3) (s9 lc n (s8 lc K ch (s7 lc n (s6 K 0 (s5 lc (s4 lc 1 n (s3 lb vars 0 n (s2 lb vars 0 (s1 la vars n 21))))))))) (by simp [s1, s2, s3, s4, s5, s6, s7, s8, s9]) (by simp [s1, s2, s3, s4, s5, s6, s7, s8, s9]) (by simp [s1, s2, s3, s4, s5, s6, s7, s8, s9])
  unfold coefsB
  rw [hc]
  have e1 := g3 K (1 + lc.length % 3) (by omega)
  have e2 := g2 lc ch hch (1 + lc.length % 3)
  simp only [s1, s2, s3, s4, s5, s6, s7, s8, s9]
  simp [lowC, secD, lowK, e1, e2, p2, k0, -List.any_map, -List.any_eq_true, -List.any_eq_false]

end Go.Proofs.YtcmdgjkoalophaaGreatDoor

namespace Go.Proofs.YtcmdgjkoalophaaGreatDoor
open Go.RowKit

theorem ref_right {c : ConL} {vars : Int} (j : Nat) (hj : 1 ≤ j ∧ j ≤ 23) (hk : c.kind = (j : Int)) (ha : arityB c ⟨(shapesL.getD j []).toArray⟩ = true) (hA : c.A.any (outB 0 (highV vars)) = false) (hB : c.B.any (outB 0 (highV vars)) = false) (hc : coefsB c = true) : refRightE c vars = 0 := by
  unfold refRightE
  rw [if_neg (by omega), show c.kind.toNat = j by omega, ha, hA, hB, hc]
  rfl
theorem plc_none (l : List Int) (vars : Int) (hl : ∀ v ∈ l, 0 ≤ v ∧ v ≤ 255) (hv : 1 ≤ vars) (n : Nat) : (mkL (plcE l vars) n).any (outB 0 (highV vars)) = false := mkL_none fun i _ => out_no (by
  have h0 : 0 ≤ (if i < l.length then l.getD i 0 else (i : Int)) := by
    split
    · next h => exact (hl _ (getD_mem l i h)).1
    · omega
  have h1 := tmod_in (if i < l.length then l.getD i 0 else (i : Int)) vars hv
  have h2 := Int.tmod_nonneg vars h0
  unfold highV
  rw [if_pos (by omega)]
  unfold plcE
  omega)

set_option linter.unusedSimpArgs false in
set_option linter.unusedVariables false in
theorem mk_right1 (la lb lc : List Int) (K ch vars : Int) (n : Nat) (hb : 1 ≤ n ∧ n ≤ 4) (ba : ∀ v ∈ la, 0 ≤ v ∧ v ≤ 255) (bb : ∀ v ∈ lb, 0 ≤ v ∧ v ≤ 255) (hch : 0 ≤ ch) (hv : 1 ≤ vars) : refRightE (s9 lc n (s8 lc K ch (s7 lc n (s6 K 1 (s5 lc (s4 lc 1 n (s3 lb vars 0 n (s2 lb vars 0 (s1 la vars n 1))))))))) vars = 0 :=
  ref_right 1 (by omega) (by simp [s1, s2, s3, s4, s5, s6, s7, s8, s9]) (mk_arity1 la lb lc K ch vars n hb) (by
    simp only [s1, s2, s3, s4, s5, s6, s7, s8, s9]
    simp [plc_none la vars ba hv, -List.any_map, -List.any_eq_true, -List.any_eq_false]) (by
    simp only [s1, s2, s3, s4, s5, s6, s7, s8, s9]
    simp [plc_none lb vars bb hv, -List.any_map, -List.any_eq_true, -List.any_eq_false]) (mk_coefs1 la lb lc K ch vars n)

set_option linter.unusedSimpArgs false in
set_option linter.unusedVariables false in
theorem mk_right2 (la lb lc : List Int) (K ch vars : Int) (n : Nat) (hb : 1 ≤ n ∧ n ≤ 4) (ba : ∀ v ∈ la, 0 ≤ v ∧ v ≤ 255) (bb : ∀ v ∈ lb, 0 ≤ v ∧ v ≤ 255) (hch : 0 ≤ ch) (hv : 1 ≤ vars) : refRightE (s9 lc n (s8 lc K ch (s7 lc n (s6 K 1 (s5 lc (s4 lc 1 n (s3 lb vars 0 n (s2 lb vars 0 (s1 la vars n 2))))))))) vars = 0 :=
  ref_right 2 (by omega) (by simp [s1, s2, s3, s4, s5, s6, s7, s8, s9]) (mk_arity2 la lb lc K ch vars n hb) (by
    simp only [s1, s2, s3, s4, s5, s6, s7, s8, s9]
    simp [plc_none la vars ba hv, -List.any_map, -List.any_eq_true, -List.any_eq_false]) (by
    simp only [s1, s2, s3, s4, s5, s6, s7, s8, s9]
    simp [plc_none lb vars bb hv, -List.any_map, -List.any_eq_true, -List.any_eq_false]) (mk_coefs2 la lb lc K ch vars n)

set_option linter.unusedSimpArgs false in
set_option linter.unusedVariables false in
theorem mk_right3 (la lb lc : List Int) (K ch vars : Int) (n : Nat) (hb : 1 ≤ n ∧ n ≤ 4) (ba : ∀ v ∈ la, 0 ≤ v ∧ v ≤ 255) (bb : ∀ v ∈ lb, 0 ≤ v ∧ v ≤ 255) (hch : 0 ≤ ch) (hv : 1 ≤ vars) : refRightE (s9 lc n (s8 lc K ch (s7 lc n (s6 K 1 (s5 lc (s4 lc 1 n (s3 lb vars 0 n (s2 lb vars 0 (s1 la vars n 3))))))))) vars = 0 :=
  ref_right 3 (by omega) (by simp [s1, s2, s3, s4, s5, s6, s7, s8, s9]) (mk_arity3 la lb lc K ch vars n hb) (by
    simp only [s1, s2, s3, s4, s5, s6, s7, s8, s9]
    simp [plc_none la vars ba hv, -List.any_map, -List.any_eq_true, -List.any_eq_false]) (by
    simp only [s1, s2, s3, s4, s5, s6, s7, s8, s9]
    simp [plc_none lb vars bb hv, -List.any_map, -List.any_eq_true, -List.any_eq_false]) (mk_coefs3 la lb lc K ch vars n)

set_option linter.unusedSimpArgs false in
set_option linter.unusedVariables false in
theorem mk_right4 (la lb lc : List Int) (K ch vars : Int) (n : Nat) (hb : 1 ≤ n ∧ n ≤ 4) (ba : ∀ v ∈ la, 0 ≤ v ∧ v ≤ 255) (bb : ∀ v ∈ lb, 0 ≤ v ∧ v ≤ 255) (hch : 0 ≤ ch) (hv : 1 ≤ vars) : refRightE (s9 lc n (s8 lc K ch (s7 lc n (s6 K 1 (s5 lc (s4 lc 1 n (s3 lb vars 0 n (s2 lb vars 1 (s1 la vars n 4))))))))) vars = 0 :=
  ref_right 4 (by omega) (by simp [s1, s2, s3, s4, s5, s6, s7, s8, s9]) (mk_arity4 la lb lc K ch vars n hb) (by
    simp only [s1, s2, s3, s4, s5, s6, s7, s8, s9]
    simp [plc_none la vars ba hv, -List.any_map, -List.any_eq_true, -List.any_eq_false]) (by
    simp only [s1, s2, s3, s4, s5, s6, s7, s8, s9]
    simp [plc_none lb vars bb hv, -List.any_map, -List.any_eq_true, -List.any_eq_false]) (mk_coefs4 la lb lc K ch vars n)

set_option linter.unusedSimpArgs false in
set_option linter.unusedVariables false in
theorem mk_right5 (la lb lc : List Int) (K ch vars : Int) (ba : ∀ v ∈ la, 0 ≤ v ∧ v ≤ 255) (bb : ∀ v ∈ lb, 0 ≤ v ∧ v ≤ 255) (hch : 0 ≤ ch) (hv : 1 ≤ vars) : refRightE (s9 lc 3 (s8 lc K ch (s7 lc 3 (s6 K 0 (s5 lc (s4 lc 0 3 (s3 lb vars 0 3 (s2 lb vars 0 (s1 la vars 3 5))))))))) vars = 0 :=
  ref_right 5 (by omega) (by simp [s1, s2, s3, s4, s5, s6, s7, s8, s9]) (mk_arity5 la lb lc K ch vars) (by
    simp only [s1, s2, s3, s4, s5, s6, s7, s8, s9]
    simp [plc_none la vars ba hv, -List.any_map, -List.any_eq_true, -List.any_eq_false]) (by
    simp only [s1, s2, s3, s4, s5, s6, s7, s8, s9]
    simp [plc_none lb vars bb hv, -List.any_map, -List.any_eq_true, -List.any_eq_false]) (mk_coefs5 la lb lc K ch vars)

set_option linter.unusedSimpArgs false in
set_option linter.unusedVariables false in
theorem mk_right6 (la lb lc : List Int) (K ch vars : Int) (ba : ∀ v ∈ la, 0 ≤ v ∧ v ≤ 255) (bb : ∀ v ∈ lb, 0 ≤ v ∧ v ≤ 255) (hch : 0 ≤ ch) (hv : 1 ≤ vars) : refRightE (s9 lc 3 (s8 lc K ch (s7 lc 3 (s6 K 0 (s5 lc (s4 lc 0 3 (s3 lb vars 0 3 (s2 lb vars 0 (s1 la vars 3 6))))))))) vars = 0 :=
  ref_right 6 (by omega) (by simp [s1, s2, s3, s4, s5, s6, s7, s8, s9]) (mk_arity6 la lb lc K ch vars) (by
    simp only [s1, s2, s3, s4, s5, s6, s7, s8, s9]
    simp [plc_none la vars ba hv, -List.any_map, -List.any_eq_true, -List.any_eq_false]) (by
    simp only [s1, s2, s3, s4, s5, s6, s7, s8, s9]
    simp [plc_none lb vars bb hv, -List.any_map, -List.any_eq_true, -List.any_eq_false]) (mk_coefs6 la lb lc K ch vars)

set_option linter.unusedSimpArgs false in
set_option linter.unusedVariables false in
theorem mk_right7 (la lb lc : List Int) (K ch vars : Int) (ba : ∀ v ∈ la, 0 ≤ v ∧ v ≤ 255) (bb : ∀ v ∈ lb, 0 ≤ v ∧ v ≤ 255) (hch : 0 ≤ ch) (hv : 1 ≤ vars) : refRightE (s9 lc 3 (s8 lc K ch (s7 lc 3 (s6 K 0 (s5 lc (s4 lc 0 3 (s3 lb vars 0 3 (s2 lb vars 0 (s1 la vars 3 7))))))))) vars = 0 :=
  ref_right 7 (by omega) (by simp [s1, s2, s3, s4, s5, s6, s7, s8, s9]) (mk_arity7 la lb lc K ch vars) (by
    simp only [s1, s2, s3, s4, s5, s6, s7, s8, s9]
    simp [plc_none la vars ba hv, -List.any_map, -List.any_eq_true, -List.any_eq_false]) (by
    simp only [s1, s2, s3, s4, s5, s6, s7, s8, s9]
    simp [plc_none lb vars bb hv, -List.any_map, -List.any_eq_true, -List.any_eq_false]) (mk_coefs7 la lb lc K ch vars)

set_option linter.unusedSimpArgs false in
set_option linter.unusedVariables false in
theorem mk_right8 (la lb lc : List Int) (K ch vars : Int) (ba : ∀ v ∈ la, 0 ≤ v ∧ v ≤ 255) (bb : ∀ v ∈ lb, 0 ≤ v ∧ v ≤ 255) (hch : 0 ≤ ch) (hv : 1 ≤ vars) : refRightE (s9 lc 2 (s8 lc K ch (s7 lc 2 (s6 K 0 (s5 lc (s4 lc 0 2 (s3 lb vars 0 2 (s2 lb vars 0 (s1 la vars 2 8))))))))) vars = 0 :=
  ref_right 8 (by omega) (by simp [s1, s2, s3, s4, s5, s6, s7, s8, s9]) (mk_arity8 la lb lc K ch vars) (by
    simp only [s1, s2, s3, s4, s5, s6, s7, s8, s9]
    simp [plc_none la vars ba hv, -List.any_map, -List.any_eq_true, -List.any_eq_false]) (by
    simp only [s1, s2, s3, s4, s5, s6, s7, s8, s9]
    simp [plc_none lb vars bb hv, -List.any_map, -List.any_eq_true, -List.any_eq_false]) (mk_coefs8 la lb lc K ch vars)

set_option linter.unusedSimpArgs false in
set_option linter.unusedVariables false in
theorem mk_right9 (la lb lc : List Int) (K ch vars : Int) (ba : ∀ v ∈ la, 0 ≤ v ∧ v ≤ 255) (bb : ∀ v ∈ lb, 0 ≤ v ∧ v ≤ 255) (hch : 0 ≤ ch) (hv : 1 ≤ vars) : refRightE (s9 lc 3 (s8 lc K ch (s7 lc 3 (s6 K 0 (s5 lc (s4 lc 0 3 (s3 lb vars 0 3 (s2 lb vars 0 (s1 la vars 3 9))))))))) vars = 0 :=
  ref_right 9 (by omega) (by simp [s1, s2, s3, s4, s5, s6, s7, s8, s9]) (mk_arity9 la lb lc K ch vars) (by
    simp only [s1, s2, s3, s4, s5, s6, s7, s8, s9]
    simp [plc_none la vars ba hv, -List.any_map, -List.any_eq_true, -List.any_eq_false]) (by
    simp only [s1, s2, s3, s4, s5, s6, s7, s8, s9]
    simp [plc_none lb vars bb hv, -List.any_map, -List.any_eq_true, -List.any_eq_false]) (mk_coefs9 la lb lc K ch vars)

set_option linter.unusedSimpArgs false in
set_option linter.unusedVariables false in
theorem mk_right10 (la lb lc : List Int) (K ch vars : Int) (ba : ∀ v ∈ la, 0 ≤ v ∧ v ≤ 255) (bb : ∀ v ∈ lb, 0 ≤ v ∧ v ≤ 255) (hch : 0 ≤ ch) (hv : 1 ≤ vars) : refRightE (s9 lc 3 (s8 lc K ch (s7 lc 3 (s6 K 0 (s5 lc (s4 lc 0 3 (s3 lb vars 0 3 (s2 lb vars 0 (s1 la vars 3 10))))))))) vars = 0 :=
  ref_right 10 (by omega) (by simp [s1, s2, s3, s4, s5, s6, s7, s8, s9]) (mk_arity10 la lb lc K ch vars) (by
    simp only [s1, s2, s3, s4, s5, s6, s7, s8, s9]
    simp [plc_none la vars ba hv, -List.any_map, -List.any_eq_true, -List.any_eq_false]) (by
    simp only [s1, s2, s3, s4, s5, s6, s7, s8, s9]
    simp [plc_none lb vars bb hv, -List.any_map, -List.any_eq_true, -List.any_eq_false]) (mk_coefs10 la lb lc K ch vars)

set_option linter.unusedSimpArgs false in
set_option linter.unusedVariables false in
theorem mk_right11 (la lb lc : List Int) (K ch vars : Int) (ba : ∀ v ∈ la, 0 ≤ v ∧ v ≤ 255) (bb : ∀ v ∈ lb, 0 ≤ v ∧ v ≤ 255) (hch : 0 ≤ ch) (hv : 1 ≤ vars) : refRightE (s9 lc 2 (s8 lc K ch (s7 lc 2 (s6 K 0 (s5 lc (s4 lc 1 2 (s3 lb vars 0 2 (s2 lb vars 0 (s1 la vars 2 11))))))))) vars = 0 :=
  ref_right 11 (by omega) (by simp [s1, s2, s3, s4, s5, s6, s7, s8, s9]) (mk_arity11 la lb lc K ch vars) (by
    simp only [s1, s2, s3, s4, s5, s6, s7, s8, s9]
    simp [plc_none la vars ba hv, -List.any_map, -List.any_eq_true, -List.any_eq_false]) (by
    simp only [s1, s2, s3, s4, s5, s6, s7, s8, s9]
    simp [plc_none lb vars bb hv, -List.any_map, -List.any_eq_true, -List.any_eq_false]) (mk_coefs11 la lb lc K ch vars)

set_option linter.unusedSimpArgs false in
set_option linter.unusedVariables false in
theorem mk_right12 (la lb lc : List Int) (K ch vars : Int) (n : Nat) (hb : 1 ≤ n ∧ n ≤ 4) (ba : ∀ v ∈ la, 0 ≤ v ∧ v ≤ 255) (bb : ∀ v ∈ lb, 0 ≤ v ∧ v ≤ 255) (hch : 0 ≤ ch) (hv : 1 ≤ vars) : refRightE (s9 lc n (s8 lc K ch (s7 lc n (s6 K 0 (s5 lc (s4 lc 0 n (s3 lb vars 1 n (s2 lb vars 0 (s1 la vars n 12))))))))) vars = 0 :=
  ref_right 12 (by omega) (by simp [s1, s2, s3, s4, s5, s6, s7, s8, s9]) (mk_arity12 la lb lc K ch vars n hb) (by
    simp only [s1, s2, s3, s4, s5, s6, s7, s8, s9]
    simp [plc_none la vars ba hv, -List.any_map, -List.any_eq_true, -List.any_eq_false]) (by
    simp only [s1, s2, s3, s4, s5, s6, s7, s8, s9]
    simp [plc_none lb vars bb hv, -List.any_map, -List.any_eq_true, -List.any_eq_false]) (mk_coefs12 la lb lc K ch vars n)

set_option linter.unusedSimpArgs false in
set_option linter.unusedVariables false in
theorem mk_right13 (la lb lc : List Int) (K ch vars : Int) (ba : ∀ v ∈ la, 0 ≤ v ∧ v ≤ 255) (bb : ∀ v ∈ lb, 0 ≤ v ∧ v ≤ 255) (hch : 0 ≤ ch) (hv : 1 ≤ vars) : refRightE (s9 lc 1 (s8 lc K ch (s7 lc 1 (s6 K 1 (s5 lc (s4 lc 0 1 (s3 lb vars 0 1 (s2 lb vars 1 (s1 la vars 1 13))))))))) vars = 0 :=
  ref_right 13 (by omega) (by simp [s1, s2, s3, s4, s5, s6, s7, s8, s9]) (mk_arity13 la lb lc K ch vars) (by
    simp only [s1, s2, s3, s4, s5, s6, s7, s8, s9]
    simp [plc_none la vars ba hv, -List.any_map, -List.any_eq_true, -List.any_eq_false]) (by
    simp only [s1, s2, s3, s4, s5, s6, s7, s8, s9]
    simp [plc_none lb vars bb hv, -List.any_map, -List.any_eq_true, -List.any_eq_false]) (mk_coefs13 la lb lc K ch vars)

set_option linter.unusedSimpArgs false in
set_option linter.unusedVariables false in
theorem mk_right14 (la lb lc : List Int) (K ch vars : Int) (ba : ∀ v ∈ la, 0 ≤ v ∧ v ≤ 255) (bb : ∀ v ∈ lb, 0 ≤ v ∧ v ≤ 255) (hch : 0 ≤ ch) (hv : 1 ≤ vars) : refRightE (s9 lc 1 (s8 lc K ch (s7 lc 1 (s6 K 1 (s5 lc (s4 lc 0 1 (s3 lb vars 0 1 (s2 lb vars 1 (s1 la vars 1 14))))))))) vars = 0 :=
  ref_right 14 (by omega) (by simp [s1, s2, s3, s4, s5, s6, s7, s8, s9]) (mk_arity14 la lb lc K ch vars) (by
    simp only [s1, s2, s3, s4, s5, s6, s7, s8, s9]
    simp [plc_none la vars ba hv, -List.any_map, -List.any_eq_true, -List.any_eq_false]) (by
    simp only [s1, s2, s3, s4, s5, s6, s7, s8, s9]
    simp [plc_none lb vars bb hv, -List.any_map, -List.any_eq_true, -List.any_eq_false]) (mk_coefs14 la lb lc K ch vars)

set_option linter.unusedSimpArgs false in
set_option linter.unusedVariables false in
theorem mk_right15 (la lb lc : List Int) (K ch vars : Int) (ba : ∀ v ∈ la, 0 ≤ v ∧ v ≤ 255) (bb : ∀ v ∈ lb, 0 ≤ v ∧ v ≤ 255) (hch : 0 ≤ ch) (hv : 1 ≤ vars) : refRightE (s9 lc 1 (s8 lc K ch (s7 lc 1 (s6 K 1 (s5 lc (s4 lc 0 1 (s3 lb vars 0 1 (s2 lb vars 1 (s1 la vars 1 15))))))))) vars = 0 :=
  ref_right 15 (by omega) (by simp [s1, s2, s3, s4, s5, s6, s7, s8, s9]) (mk_arity15 la lb lc K ch vars) (by
    simp only [s1, s2, s3, s4, s5, s6, s7, s8, s9]
    simp [plc_none la vars ba hv, -List.any_map, -List.any_eq_true, -List.any_eq_false]) (by
    simp only [s1, s2, s3, s4, s5, s6, s7, s8, s9]
    simp [plc_none lb vars bb hv, -List.any_map, -List.any_eq_true, -List.any_eq_false]) (mk_coefs15 la lb lc K ch vars)

set_option linter.unusedSimpArgs false in
set_option linter.unusedVariables false in
theorem mk_right16 (la lb lc : List Int) (K ch vars : Int) (ba : ∀ v ∈ la, 0 ≤ v ∧ v ≤ 255) (bb : ∀ v ∈ lb, 0 ≤ v ∧ v ≤ 255) (hch : 0 ≤ ch) (hv : 1 ≤ vars) : refRightE (s9 lc 1 (s8 lc K ch (s7 lc 1 (s6 K 1 (s5 lc (s4 lc 0 1 (s3 lb vars 0 1 (s2 lb vars 1 (s1 la vars 1 16))))))))) vars = 0 :=
  ref_right 16 (by omega) (by simp [s1, s2, s3, s4, s5, s6, s7, s8, s9]) (mk_arity16 la lb lc K ch vars) (by
    simp only [s1, s2, s3, s4, s5, s6, s7, s8, s9]
    simp [plc_none la vars ba hv, -List.any_map, -List.any_eq_true, -List.any_eq_false]) (by
    simp only [s1, s2, s3, s4, s5, s6, s7, s8, s9]
    simp [plc_none lb vars bb hv, -List.any_map, -List.any_eq_true, -List.any_eq_false]) (mk_coefs16 la lb lc K ch vars)

set_option linter.unusedSimpArgs false in
set_option linter.unusedVariables false in
theorem mk_right17 (la lb lc : List Int) (K ch vars : Int) (n : Nat) (hb : 1 ≤ n ∧ n ≤ 4) (ba : ∀ v ∈ la, 0 ≤ v ∧ v ≤ 255) (bb : ∀ v ∈ lb, 0 ≤ v ∧ v ≤ 255) (hch : 0 ≤ ch) (hv : 1 ≤ vars) : refRightE (s9 lc n (s8 lc K ch (s7 lc n (s6 K 0 (s5 lc (s4 lc 0 n (s3 lb vars 0 n (s2 lb vars 0 (s1 la vars n 17))))))))) vars = 0 :=
  ref_right 17 (by omega) (by simp [s1, s2, s3, s4, s5, s6, s7, s8, s9]) (mk_arity17 la lb lc K ch vars n hb) (by
    simp only [s1, s2, s3, s4, s5, s6, s7, s8, s9]
    simp [plc_none la vars ba hv, -List.any_map, -List.any_eq_true, -List.any_eq_false]) (by
    simp only [s1, s2, s3, s4, s5, s6, s7, s8, s9]
    simp [plc_none lb vars bb hv, -List.any_map, -List.any_eq_true, -List.any_eq_false]) (mk_coefs17 la lb lc K ch vars n)

set_option linter.unusedSimpArgs false in
set_option linter.unusedVariables false in
theorem mk_right18 (la lb lc : List Int) (K ch vars : Int) (n : Nat) (hb : 1 ≤ n ∧ n ≤ 4) (ba : ∀ v ∈ la, 0 ≤ v ∧ v ≤ 255) (bb : ∀ v ∈ lb, 0 ≤ v ∧ v ≤ 255) (hch : 0 ≤ ch) (hv : 1 ≤ vars) : refRightE (s9 lc n (s8 lc K ch (s7 lc n (s6 K 0 (s5 lc (s4 lc 0 n (s3 lb vars 0 n (s2 lb vars 0 (s1 la vars n 18))))))))) vars = 0 :=
  ref_right 18 (by omega) (by simp [s1, s2, s3, s4, s5, s6, s7, s8, s9]) (mk_arity18 la lb lc K ch vars n hb) (by
    simp only [s1, s2, s3, s4, s5, s6, s7, s8, s9]
    simp [plc_none la vars ba hv, -List.any_map, -List.any_eq_true, -List.any_eq_false]) (by
    simp only [s1, s2, s3, s4, s5, s6, s7, s8, s9]
    simp [plc_none lb vars bb hv, -List.any_map, -List.any_eq_true, -List.any_eq_false]) (mk_coefs18 la lb lc K ch vars n)

set_option linter.unusedSimpArgs false in
set_option linter.unusedVariables false in
theorem mk_right19 (la lb lc : List Int) (K ch vars : Int) (n : Nat) (hb : 1 ≤ n ∧ n ≤ 4) (ba : ∀ v ∈ la, 0 ≤ v ∧ v ≤ 255) (bb : ∀ v ∈ lb, 0 ≤ v ∧ v ≤ 255) (hch : 0 ≤ ch) (hv : 1 ≤ vars) : refRightE (s9 lc n (s8 lc K ch (s7 lc n (s6 K 1 (s5 lc (s4 lc 1 n (s3 lb vars 0 n (s2 lb vars 0 (s1 la vars n 19))))))))) vars = 0 :=
  ref_right 19 (by omega) (by simp [s1, s2, s3, s4, s5, s6, s7, s8, s9]) (mk_arity19 la lb lc K ch vars n hb) (by
    simp only [s1, s2, s3, s4, s5, s6, s7, s8, s9]
    simp [plc_none la vars ba hv, -List.any_map, -List.any_eq_true, -List.any_eq_false]) (by
    simp only [s1, s2, s3, s4, s5, s6, s7, s8, s9]
    simp [plc_none lb vars bb hv, -List.any_map, -List.any_eq_true, -List.any_eq_false]) (mk_coefs19 la lb lc K ch vars n)

set_option linter.unusedSimpArgs false in
set_option linter.unusedVariables false in
theorem mk_right20 (la lb lc : List Int) (K ch vars : Int) (n : Nat) (hb : 1 ≤ n ∧ n ≤ 4) (ba : ∀ v ∈ la, 0 ≤ v ∧ v ≤ 255) (bb : ∀ v ∈ lb, 0 ≤ v ∧ v ≤ 255) (hch : 0 ≤ ch) (hv : 1 ≤ vars) : refRightE (s9 lc n (s8 lc K ch (s7 lc n (s6 K 0 (s5 lc (s4 lc 0 n (s3 lb vars 0 n (s2 lb vars 0 (s1 la vars n 20))))))))) vars = 0 :=
  ref_right 20 (by omega) (by simp [s1, s2, s3, s4, s5, s6, s7, s8, s9]) (mk_arity20 la lb lc K ch vars n hb) (by
    simp only [s1, s2, s3, s4, s5, s6, s7, s8, s9]
    simp [plc_none la vars ba hv, -List.any_map, -List.any_eq_true, -List.any_eq_false]) (by
    simp only [s1, s2, s3, s4, s5, s6, s7, s8, s9]
    simp [plc_none lb vars bb hv, -List.any_map, -List.any_eq_true, -List.any_eq_false]) (mk_coefs20 la lb lc K ch vars n)

set_option linter.unusedSimpArgs false in
set_option linter.unusedVariables false in
theorem mk_right21 (la lb lc : List Int) (K ch vars : Int) (n : Nat) (hb : 1 ≤ n ∧ n ≤ 4) (ba : ∀ v ∈ la, 0 ≤ v ∧ v ≤ 255) (bb : ∀ v ∈ lb, 0 ≤ v ∧ v ≤ 255) (hch : 0 ≤ ch) (hv : 1 ≤ vars) : refRightE (s9 lc n (s8 lc K ch (s7 lc n (s6 K 0 (s5 lc (s4 lc 1 n (s3 lb vars 0 n (s2 lb vars 0 (s1 la vars n 21))))))))) vars = 0 :=
  ref_right 21 (by omega) (by simp [s1, s2, s3, s4, s5, s6, s7, s8, s9]) (mk_arity21 la lb lc K ch vars n hb) (by
    simp only [s1, s2, s3, s4, s5, s6, s7, s8, s9]
    simp [plc_none la vars ba hv, -List.any_map, -List.any_eq_true, -List.any_eq_false]) (by
    simp only [s1, s2, s3, s4, s5, s6, s7, s8, s9]
    simp [plc_none lb vars bb hv, -List.any_map, -List.any_eq_true, -List.any_eq_false]) (mk_coefs21 la lb lc K ch vars n hch)

set_option linter.unusedSimpArgs false in
set_option linter.unusedVariables false in
theorem mk_right22 (la lb lc : List Int) (K ch vars : Int) (n : Nat) (hb : 1 ≤ n ∧ n ≤ 4) (ba : ∀ v ∈ la, 0 ≤ v ∧ v ≤ 255) (bb : ∀ v ∈ lb, 0 ≤ v ∧ v ≤ 255) (hch : 0 ≤ ch) (hv : 1 ≤ vars) : refRightE (s9 lc n (s8 lc K ch (s7 lc n (s6 K 0 (s5 lc (s4 lc 0 n (s3 lb vars 1 n (s2 lb vars 0 (s1 la vars n 22))))))))) vars = 0 :=
  ref_right 22 (by omega) (by simp [s1, s2, s3, s4, s5, s6, s7, s8, s9]) (mk_arity22 la lb lc K ch vars n hb) (by
    simp only [s1, s2, s3, s4, s5, s6, s7, s8, s9]
    simp [plc_none la vars ba hv, -List.any_map, -List.any_eq_true, -List.any_eq_false]) (by
    simp only [s1, s2, s3, s4, s5, s6, s7, s8, s9]
    simp [plc_none lb vars bb hv, -List.any_map, -List.any_eq_true, -List.any_eq_false]) (mk_coefs22 la lb lc K ch vars n)

set_option linter.unusedSimpArgs false in
set_option linter.unusedVariables false in
theorem mk_right23 (la lb lc : List Int) (K ch vars : Int) (n : Nat) (hb : 1 ≤ n ∧ n ≤ 4) (ba : ∀ v ∈ la, 0 ≤ v ∧ v ≤ 255) (bb : ∀ v ∈ lb, 0 ≤ v ∧ v ≤ 255) (hch : 0 ≤ ch) (hv : 1 ≤ vars) : refRightE (s9 lc n (s8 lc K ch (s7 lc n (s6 K 0 (s5 lc (s4 lc 0 n (s3 lb vars 1 n (s2 lb vars 0 (s1 la vars n 23))))))))) vars = 0 :=
  ref_right 23 (by omega) (by simp [s1, s2, s3, s4, s5, s6, s7, s8, s9]) (mk_arity23 la lb lc K ch vars n hb) (by
    simp only [s1, s2, s3, s4, s5, s6, s7, s8, s9]
    simp [plc_none la vars ba hv, -List.any_map, -List.any_eq_true, -List.any_eq_false]) (by
    simp only [s1, s2, s3, s4, s5, s6, s7, s8, s9]
    simp [plc_none lb vars bb hv, -List.any_map, -List.any_eq_true, -List.any_eq_false]) (mk_coefs23 la lb lc K ch vars n)

/-- What the document's Make makes may be. -/
theorem make_right (la lb lc : List Int) (k K ch vars : Int) (ba : ∀ v ∈ la, 0 ≤ v ∧ v ≤ 255) (bb : ∀ v ∈ lb, 0 ≤ v ∧ v ≤ 255) (hk : 0 ≤ k) (hch : 0 ≤ ch) (hv : 1 ≤ vars) : rightE (makeE la lb lc k K ch vars) vars = 0 := by
  rw [right_same]
  have h0 := Int.tmod_nonneg 23 hk
  have h1 := tmod_in k 23 (by omega)
  have hc : k.tmod 23 = 0 ∨ k.tmod 23 = 1 ∨ k.tmod 23 = 2 ∨ k.tmod 23 = 3 ∨ k.tmod 23 = 4 ∨ k.tmod 23 = 5 ∨ k.tmod 23 = 6 ∨ k.tmod 23 = 7 ∨ k.tmod 23 = 8 ∨ k.tmod 23 = 9 ∨ k.tmod 23 = 10 ∨ k.tmod 23 = 11 ∨ k.tmod 23 = 12 ∨ k.tmod 23 = 13 ∨ k.tmod 23 = 14 ∨ k.tmod 23 = 15 ∨ k.tmod 23 = 16 ∨ k.tmod 23 = 17 ∨ k.tmod 23 = 18 ∨ k.tmod 23 = 19 ∨ k.tmod 23 = 20 ∨ k.tmod 23 = 21 ∨ k.tmod 23 = 22 := by omega
  rcases hc with e | e | e | e | e | e | e | e | e | e | e | e | e | e | e | e | e | e | e | e | e | e | e
  · have h := makeE_eq la lb lc k K ch vars 1 [99, 86, 107] (by omega) (by kernel_rfl)
    rw [show (([99, 86, 107] : Bs).count 118) = 0 by kernel_rfl, show (([99, 86, 107] : Bs).count 119) = 0 by kernel_rfl, show (([99, 86, 107] : Bs).count 87) = 0 by kernel_rfl, show (([99, 86, 107] : Bs).count 99) = 1 by kernel_rfl, show (([99, 86, 107] : Bs).count 107) = 1 by kernel_rfl] at h
    rw [if_neg (by omega)] at h
    rw [h]
    exact mk_right1 la lb lc K ch vars (mkN0 la) (mkN0_in la) ba bb hch hv
  · have h := makeE_eq la lb lc k K ch vars 2 [99, 86, 107] (by omega) (by kernel_rfl)
    rw [show (([99, 86, 107] : Bs).count 118) = 0 by kernel_rfl, show (([99, 86, 107] : Bs).count 119) = 0 by kernel_rfl, show (([99, 86, 107] : Bs).count 87) = 0 by kernel_rfl, show (([99, 86, 107] : Bs).count 99) = 1 by kernel_rfl, show (([99, 86, 107] : Bs).count 107) = 1 by kernel_rfl] at h
    rw [if_neg (by omega)] at h
    rw [h]
    exact mk_right2 la lb lc K ch vars (mkN0 la) (mkN0_in la) ba bb hch hv
  · have h := makeE_eq la lb lc k K ch vars 3 [99, 86, 107] (by omega) (by kernel_rfl)
    rw [show (([99, 86, 107] : Bs).count 118) = 0 by kernel_rfl, show (([99, 86, 107] : Bs).count 119) = 0 by kernel_rfl, show (([99, 86, 107] : Bs).count 87) = 0 by kernel_rfl, show (([99, 86, 107] : Bs).count 99) = 1 by kernel_rfl, show (([99, 86, 107] : Bs).count 107) = 1 by kernel_rfl] at h
    rw [if_neg (by omega)] at h
    rw [h]
    exact mk_right3 la lb lc K ch vars (mkN0 la) (mkN0_in la) ba bb hch hv
  · have h := makeE_eq la lb lc k K ch vars 4 [99, 86, 107, 119] (by omega) (by kernel_rfl)
    rw [show (([99, 86, 107, 119] : Bs).count 118) = 0 by kernel_rfl, show (([99, 86, 107, 119] : Bs).count 119) = 1 by kernel_rfl, show (([99, 86, 107, 119] : Bs).count 87) = 0 by kernel_rfl, show (([99, 86, 107, 119] : Bs).count 99) = 1 by kernel_rfl, show (([99, 86, 107, 119] : Bs).count 107) = 1 by kernel_rfl] at h
    rw [if_neg (by omega)] at h
    rw [h]
    exact mk_right4 la lb lc K ch vars (mkN0 la) (mkN0_in la) ba bb hch hv
  · have h := makeE_eq la lb lc k K ch vars 5 [118, 118, 118] (by omega) (by kernel_rfl)
    rw [show (([118, 118, 118] : Bs).count 118) = 3 by kernel_rfl, show (([118, 118, 118] : Bs).count 119) = 0 by kernel_rfl, show (([118, 118, 118] : Bs).count 87) = 0 by kernel_rfl, show (([118, 118, 118] : Bs).count 99) = 0 by kernel_rfl, show (([118, 118, 118] : Bs).count 107) = 0 by kernel_rfl] at h
    rw [if_pos (by omega)] at h
    rw [h]
    exact mk_right5 la lb lc K ch vars ba bb hch hv
  · have h := makeE_eq la lb lc k K ch vars 6 [118, 118, 118] (by omega) (by kernel_rfl)
    rw [show (([118, 118, 118] : Bs).count 118) = 3 by kernel_rfl, show (([118, 118, 118] : Bs).count 119) = 0 by kernel_rfl, show (([118, 118, 118] : Bs).count 87) = 0 by kernel_rfl, show (([118, 118, 118] : Bs).count 99) = 0 by kernel_rfl, show (([118, 118, 118] : Bs).count 107) = 0 by kernel_rfl] at h
    rw [if_pos (by omega)] at h
    rw [h]
    exact mk_right6 la lb lc K ch vars ba bb hch hv
  · have h := makeE_eq la lb lc k K ch vars 7 [118, 118, 118] (by omega) (by kernel_rfl)
    rw [show (([118, 118, 118] : Bs).count 118) = 3 by kernel_rfl, show (([118, 118, 118] : Bs).count 119) = 0 by kernel_rfl, show (([118, 118, 118] : Bs).count 87) = 0 by kernel_rfl, show (([118, 118, 118] : Bs).count 99) = 0 by kernel_rfl, show (([118, 118, 118] : Bs).count 107) = 0 by kernel_rfl] at h
    rw [if_pos (by omega)] at h
    rw [h]
    exact mk_right7 la lb lc K ch vars ba bb hch hv
  · have h := makeE_eq la lb lc k K ch vars 8 [118, 118] (by omega) (by kernel_rfl)
    rw [show (([118, 118] : Bs).count 118) = 2 by kernel_rfl, show (([118, 118] : Bs).count 119) = 0 by kernel_rfl, show (([118, 118] : Bs).count 87) = 0 by kernel_rfl, show (([118, 118] : Bs).count 99) = 0 by kernel_rfl, show (([118, 118] : Bs).count 107) = 0 by kernel_rfl] at h
    rw [if_pos (by omega)] at h
    rw [h]
    exact mk_right8 la lb lc K ch vars ba bb hch hv
  · have h := makeE_eq la lb lc k K ch vars 9 [118, 118, 118] (by omega) (by kernel_rfl)
    rw [show (([118, 118, 118] : Bs).count 118) = 3 by kernel_rfl, show (([118, 118, 118] : Bs).count 119) = 0 by kernel_rfl, show (([118, 118, 118] : Bs).count 87) = 0 by kernel_rfl, show (([118, 118, 118] : Bs).count 99) = 0 by kernel_rfl, show (([118, 118, 118] : Bs).count 107) = 0 by kernel_rfl] at h
    rw [if_pos (by omega)] at h
    rw [h]
    exact mk_right9 la lb lc K ch vars ba bb hch hv
  · have h := makeE_eq la lb lc k K ch vars 10 [118, 118, 118] (by omega) (by kernel_rfl)
    rw [show (([118, 118, 118] : Bs).count 118) = 3 by kernel_rfl, show (([118, 118, 118] : Bs).count 119) = 0 by kernel_rfl, show (([118, 118, 118] : Bs).count 87) = 0 by kernel_rfl, show (([118, 118, 118] : Bs).count 99) = 0 by kernel_rfl, show (([118, 118, 118] : Bs).count 107) = 0 by kernel_rfl] at h
    rw [if_pos (by omega)] at h
    rw [h]
    exact mk_right10 la lb lc K ch vars ba bb hch hv
  · have h := makeE_eq la lb lc k K ch vars 11 [118, 99, 118] (by omega) (by kernel_rfl)
    rw [show (([118, 99, 118] : Bs).count 118) = 2 by kernel_rfl, show (([118, 99, 118] : Bs).count 119) = 0 by kernel_rfl, show (([118, 99, 118] : Bs).count 87) = 0 by kernel_rfl, show (([118, 99, 118] : Bs).count 99) = 1 by kernel_rfl, show (([118, 99, 118] : Bs).count 107) = 0 by kernel_rfl] at h
    rw [if_pos (by omega)] at h
    rw [h]
    exact mk_right11 la lb lc K ch vars ba bb hch hv
  · have h := makeE_eq la lb lc k K ch vars 12 [86, 87] (by omega) (by kernel_rfl)
    rw [show (([86, 87] : Bs).count 118) = 0 by kernel_rfl, show (([86, 87] : Bs).count 119) = 0 by kernel_rfl, show (([86, 87] : Bs).count 87) = 1 by kernel_rfl, show (([86, 87] : Bs).count 99) = 0 by kernel_rfl, show (([86, 87] : Bs).count 107) = 0 by kernel_rfl] at h
    rw [if_neg (by omega)] at h
    rw [h]
    exact mk_right12 la lb lc K ch vars (mkN0 la) (mkN0_in la) ba bb hch hv
  · have h := makeE_eq la lb lc k K ch vars 13 [118, 107, 119] (by omega) (by kernel_rfl)
    rw [show (([118, 107, 119] : Bs).count 118) = 1 by kernel_rfl, show (([118, 107, 119] : Bs).count 119) = 1 by kernel_rfl, show (([118, 107, 119] : Bs).count 87) = 0 by kernel_rfl, show (([118, 107, 119] : Bs).count 99) = 0 by kernel_rfl, show (([118, 107, 119] : Bs).count 107) = 1 by kernel_rfl] at h
    rw [if_pos (by omega)] at h
    rw [h]
    exact mk_right13 la lb lc K ch vars ba bb hch hv
  · have h := makeE_eq la lb lc k K ch vars 14 [118, 107, 119] (by omega) (by kernel_rfl)
    rw [show (([118, 107, 119] : Bs).count 118) = 1 by kernel_rfl, show (([118, 107, 119] : Bs).count 119) = 1 by kernel_rfl, show (([118, 107, 119] : Bs).count 87) = 0 by kernel_rfl, show (([118, 107, 119] : Bs).count 99) = 0 by kernel_rfl, show (([118, 107, 119] : Bs).count 107) = 1 by kernel_rfl] at h
    rw [if_pos (by omega)] at h
    rw [h]
    exact mk_right14 la lb lc K ch vars ba bb hch hv
  · have h := makeE_eq la lb lc k K ch vars 15 [118, 107, 119] (by omega) (by kernel_rfl)
    rw [show (([118, 107, 119] : Bs).count 118) = 1 by kernel_rfl, show (([118, 107, 119] : Bs).count 119) = 1 by kernel_rfl, show (([118, 107, 119] : Bs).count 87) = 0 by kernel_rfl, show (([118, 107, 119] : Bs).count 99) = 0 by kernel_rfl, show (([118, 107, 119] : Bs).count 107) = 1 by kernel_rfl] at h
    rw [if_pos (by omega)] at h
    rw [h]
    exact mk_right15 la lb lc K ch vars ba bb hch hv
  · have h := makeE_eq la lb lc k K ch vars 16 [118, 107, 119] (by omega) (by kernel_rfl)
    rw [show (([118, 107, 119] : Bs).count 118) = 1 by kernel_rfl, show (([118, 107, 119] : Bs).count 119) = 1 by kernel_rfl, show (([118, 107, 119] : Bs).count 87) = 0 by kernel_rfl, show (([118, 107, 119] : Bs).count 99) = 0 by kernel_rfl, show (([118, 107, 119] : Bs).count 107) = 1 by kernel_rfl] at h
    rw [if_pos (by omega)] at h
    rw [h]
    exact mk_right16 la lb lc K ch vars ba bb hch hv
  · have h := makeE_eq la lb lc k K ch vars 17 [86] (by omega) (by kernel_rfl)
    rw [show (([86] : Bs).count 118) = 0 by kernel_rfl, show (([86] : Bs).count 119) = 0 by kernel_rfl, show (([86] : Bs).count 87) = 0 by kernel_rfl, show (([86] : Bs).count 99) = 0 by kernel_rfl, show (([86] : Bs).count 107) = 0 by kernel_rfl] at h
    rw [if_neg (by omega)] at h
    rw [h]
    exact mk_right17 la lb lc K ch vars (mkN0 la) (mkN0_in la) ba bb hch hv
  · have h := makeE_eq la lb lc k K ch vars 18 [86, 114] (by omega) (by kernel_rfl)
    rw [show (([86, 114] : Bs).count 118) = 0 by kernel_rfl, show (([86, 114] : Bs).count 119) = 0 by kernel_rfl, show (([86, 114] : Bs).count 87) = 0 by kernel_rfl, show (([86, 114] : Bs).count 99) = 0 by kernel_rfl, show (([86, 114] : Bs).count 107) = 0 by kernel_rfl] at h
    rw [if_neg (by omega)] at h
    rw [h]
    exact mk_right18 la lb lc K ch vars (mkN0 la) (mkN0_in la) ba bb hch hv
  · have h := makeE_eq la lb lc k K ch vars 19 [86, 99, 100, 107] (by omega) (by kernel_rfl)
    rw [show (([86, 99, 100, 107] : Bs).count 118) = 0 by kernel_rfl, show (([86, 99, 100, 107] : Bs).count 119) = 0 by kernel_rfl, show (([86, 99, 100, 107] : Bs).count 87) = 0 by kernel_rfl, show (([86, 99, 100, 107] : Bs).count 99) = 1 by kernel_rfl, show (([86, 99, 100, 107] : Bs).count 107) = 1 by kernel_rfl] at h
    rw [if_neg (by omega)] at h
    rw [h]
    exact mk_right19 la lb lc K ch vars (mkN0 la) (mkN0_in la) ba bb hch hv
  · have h := makeE_eq la lb lc k K ch vars 20 [86] (by omega) (by kernel_rfl)
    rw [show (([86] : Bs).count 118) = 0 by kernel_rfl, show (([86] : Bs).count 119) = 0 by kernel_rfl, show (([86] : Bs).count 87) = 0 by kernel_rfl, show (([86] : Bs).count 99) = 0 by kernel_rfl, show (([86] : Bs).count 107) = 0 by kernel_rfl] at h
    rw [if_neg (by omega)] at h
    rw [h]
    exact mk_right20 la lb lc K ch vars (mkN0 la) (mkN0_in la) ba bb hch hv
  · have h := makeE_eq la lb lc k K ch vars 21 [86, 99, 100, 101] (by omega) (by kernel_rfl)
    rw [show (([86, 99, 100, 101] : Bs).count 118) = 0 by kernel_rfl, show (([86, 99, 100, 101] : Bs).count 119) = 0 by kernel_rfl, show (([86, 99, 100, 101] : Bs).count 87) = 0 by kernel_rfl, show (([86, 99, 100, 101] : Bs).count 99) = 1 by kernel_rfl, show (([86, 99, 100, 101] : Bs).count 107) = 0 by kernel_rfl] at h
    rw [if_neg (by omega)] at h
    rw [h]
    exact mk_right21 la lb lc K ch vars (mkN0 la) (mkN0_in la) ba bb hch hv
  · have h := makeE_eq la lb lc k K ch vars 22 [86, 87] (by omega) (by kernel_rfl)
    rw [show (([86, 87] : Bs).count 118) = 0 by kernel_rfl, show (([86, 87] : Bs).count 119) = 0 by kernel_rfl, show (([86, 87] : Bs).count 87) = 1 by kernel_rfl, show (([86, 87] : Bs).count 99) = 0 by kernel_rfl, show (([86, 87] : Bs).count 107) = 0 by kernel_rfl] at h
    rw [if_neg (by omega)] at h
    rw [h]
    exact mk_right22 la lb lc K ch vars (mkN0 la) (mkN0_in la) ba bb hch hv
  · have h := makeE_eq la lb lc k K ch vars 23 [86, 87] (by omega) (by kernel_rfl)
    rw [show (([86, 87] : Bs).count 118) = 0 by kernel_rfl, show (([86, 87] : Bs).count 119) = 0 by kernel_rfl, show (([86, 87] : Bs).count 87) = 1 by kernel_rfl, show (([86, 87] : Bs).count 99) = 0 by kernel_rfl, show (([86, 87] : Bs).count 107) = 0 by kernel_rfl] at h
    rw [if_neg (by omega)] at h
    rw [h]
    exact mk_right23 la lb lc K ch vars (mkN0 la) (mkN0_in la) ba bb hch hv

end Go.Proofs.YtcmdgjkoalophaaGreatDoor
