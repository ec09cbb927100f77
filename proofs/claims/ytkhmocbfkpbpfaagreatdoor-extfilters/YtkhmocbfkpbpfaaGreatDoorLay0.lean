/- Contract of the document's low (layer 12). -/
import Derived.Test.YtkhmocbfkpbpfaaGreatDoorExd1
import Derived.Test.YtkhmocbfkpbpfaaGreatDoorLay00
import Derived.Test.YtkhmocbfkpbpfaaGreatDoorExth0
import Derived.Test.YtkhmocbfkpbpfaaGreatDoorFix
import Derived.Test.YtkhmocbfkpbpfaaGreatDoorSh6
import Derived.Test.YtkhmocbfkpbpfaaGreatDoorMkr3
namespace Go.Proofs.YtkhmocbfkpbpfaaGreatDoor
open Go.RowKit Go.Sort

/-- What is left of great domains, of a minimum, as the document says. -/
def lowE (A B C : List Int) : Option (List (List Int)) :=
  if betweenE C (selV 9 (A.head?.getD 0) (B.head?.getD 0)) (selV 9 (A.getLast?.getD 0) (B.getLast?.getD 0)) = [] then none
  else if betweenE A ((betweenE C (selV 9 (A.head?.getD 0) (B.head?.getD 0)) (selV 9 (A.getLast?.getD 0) (B.getLast?.getD 0))).head?.getD 0) 2000000 = [] ∨ betweenE B ((betweenE C (selV 9 (A.head?.getD 0) (B.head?.getD 0)) (selV 9 (A.getLast?.getD 0) (B.getLast?.getD 0))).head?.getD 0) 2000000 = [] then none
  else some [betweenE A ((betweenE C (selV 9 (A.head?.getD 0) (B.head?.getD 0)) (selV 9 (A.getLast?.getD 0) (B.getLast?.getD 0))).head?.getD 0) 2000000, betweenE B ((betweenE C (selV 9 (A.head?.getD 0) (B.head?.getD 0)) (selV 9 (A.getLast?.getD 0) (B.getLast?.getD 0))).head?.getD 0) 2000000, betweenE C (selV 9 (A.head?.getD 0) (B.head?.getD 0)) (selV 9 (A.getLast?.getD 0) (B.getLast?.getD 0))]

theorem ints_first {W : World} {y : Sl} {L : List Int} (h : IsInts W y L) (h0 : 0 < L.length) : ∃ ad : Addr, y.A = some ad ∧ W.cell? ad = some (.int .i64 (L.head?.getD 0)) ∧ W.cell? (ad.add (L.length - 1)) = some (.int .i64 (L.getLast?.getD 0)) := by
  have hn : y.n = L.length := h.len
  obtain ⟨ad, eA, hbk, hcl⟩ := h.lies (by omega)
  refine ⟨ad, eA, ?_, ?_⟩
  · have := hcl 0 (by omega)
    rw [add_zero] at this
    rw [this]
    cases L with
    | nil => simp at h0
    | cons a l => rfl
  · rw [hcl (L.length - 1) (by omega)]
    show some (Value.int .i64 (L.getD (L.length - 1) 0)) = _
    rw [List.getLast?_eq_getElem?, List.getD_eq_getElem?_getD]

set_option maxHeartbeats 8000000 in
set_option maxRecDepth 100000 in
theorem low_any (x : Sl) (A Bs C : List Int) (w : World) (h : IsRows w x [A, Bs, C]) (lA : A.length ≤ 200000) (lB : Bs.length ≤ 200000) (lC : C.length ≤ 200000) (ha : A ≠ []) (hb : Bs ≠ []) :
    Calls Tryz.prog 61 #[.slice x.A x.n x.c] w fun e w' => (∃ y : Sl, e = .returned (.tuple #[.slice y.A y.n y.c, .bool (lowE A Bs C).isSome]) ∧ IsRows w' y ((lowE A Bs C).getD [])) ∧ Below w.heap.size w w' := by
  obtain ⟨xA, xn, xc⟩ := x
  have hxn : xn = 3 := h.len
  subst hxn
  obtain ⟨ad, uA, e0, c0, hA0⟩ := rows_at h 0 (show 0 < 3 by omega)
  obtain ⟨ad1, uB, e1, c1, hB0⟩ := rows_at h 1 (show 1 < 3 by omega)
  obtain ⟨ad2, uC, e2, c2, hC0⟩ := rows_at h 2 (show 2 < 3 by omega)
  simp only at e0 e1 e2
  subst e0
  obtain rfl : ad = ad1 := Option.some.inj e1
  obtain rfl : ad = ad2 := Option.some.inj e2
  obtain ⟨ab, ao, af⟩ := ad
  obtain ⟨aA, aN, aC⟩ := uA
  obtain ⟨bA, bN, bC⟩ := uB
  obtain ⟨cA, cN, cC⟩ := uC
  have hA1 : IsInts w ⟨aA, aN, aC⟩ A := hA0
  have hB1 : IsInts w ⟨bA, bN, bC⟩ Bs := hB0
  have hC1 : IsInts w ⟨cA, cN, cC⟩ C := hC0
  obtain rfl : aN = A.length := hA1.len
  obtain rfl : bN = Bs.length := hB1.len
  obtain rfl : cN = C.length := hC1.len
  have hAp : 0 < A.length := List.length_pos_iff.2 ha
  have hBp : 0 < Bs.length := List.length_pos_iff.2 hb
  obtain ⟨pa, ea, va0, va1⟩ := ints_first hA1 hAp
  obtain ⟨pb, eb, vb0, vb1⟩ := ints_first hB1 hBp
  simp only at ea eb
  subst ea
  subst eb
  have c0 : w.cell? ⟨ab, ao, af⟩ = some (.slice (some pa) A.length aC) := by rw [add_zero] at c0; exact c0
  have c1 : w.cell? ⟨ab, ao + 1, none⟩ = some (.slice (some pb) Bs.length bC) := by simpa [Addr.add] using c1
  have c2 : w.cell? ⟨ab, ao + 2, none⟩ = some (.slice cA C.length cC) := by simpa [Addr.add] using c2
  have HAI := Lib.hid hA1
  have HBI := Lib.hid hB1
  have HCI := Lib.hid hC1
  have HC2 := Lib.hid c2
  have w1 : IntKind.i64.wrap (((A.length : Nat) : Int) - 1) = ((A.length - 1 : Nat) : Int) := by rw [show ((A.length : Nat) : Int) - 1 = ((A.length - 1 : Nat) : Int) by omega]; exact IntWalk.i64_in _ (by omega)
  have w2 : IntKind.i64.wrap (((Bs.length : Nat) : Int) - 1) = ((Bs.length - 1 : Nat) : Int) := by rw [show ((Bs.length : Nat) : Int) - 1 = ((Bs.length - 1 : Nat) : Int) by omega]; exact IntWalk.i64_in _ (by omega)
  have hl1 : A.length - 1 < A.length := by omega
  have hl2 : Bs.length - 1 < Bs.length := by omega
  obtain ⟨R, hR⟩ : ∃ R, R = lowE A Bs C := ⟨_, rfl⟩
  rw [← hR]
  unfold lowE at hR
  obtain ⟨lo, hlo⟩ : ∃ v, v = selV 9 (A.head?.getD 0) (Bs.head?.getD 0) := ⟨_, rfl⟩
  obtain ⟨hi, hhi⟩ : ∃ v, v = selV 9 (A.getLast?.getD 0) (Bs.getLast?.getD 0) := ⟨_, rfl⟩
  rw [← hlo, ← hhi] at hR
  have CS1 := Lib.hid (gin_regrown (w := w) (fun W _ => rless_any (A.head?.getD 0) (Bs.head?.getD 0) W))
  have CS2 := Lib.hid (fun w0 => gin_regrown (w := w0) (fun W _ => rless_any (A.getLast?.getD 0) (Bs.getLast?.getD 0) W))
  rw [← hlo] at CS1
  rw [← hhi] at CS2
  generalize A.head?.getD 0 = a0 at *
  generalize A.getLast?.getD 0 = a1 at *
  generalize Bs.head?.getD 0 = b0 at *
  generalize Bs.getLast?.getD 0 = b1 at *
  have HV := Lib.hid hR
  have CBC := Lib.hid (fun W (hW : Below w.heap.size w W) => between_of ⟨cA, C.length, cC⟩ C lo hi W (HCI.out.below hW) lC)
  have CBA := Lib.hid (fun z W (hW : Below w.heap.size w W) => between_of ⟨some pa, A.length, aC⟩ A z 2000000 W (HAI.out.below hW) lA)
  have CBB := Lib.hid (fun z W (hW : Below w.heap.size w W) => between_of ⟨some pb, Bs.length, bC⟩ Bs z 2000000 W (HBI.out.below hW) lB)
  have HLA : Hid (∀ lo hi, (betweenE A lo hi).length ≤ 200000) := Lib.hid (fun _ _ => Nat.le_trans (List.length_filter_le _ _) lA)
  have HLB : Hid (∀ lo hi, (betweenE Bs lo hi).length ≤ 200000) := Lib.hid (fun _ _ => Nat.le_trans (List.length_filter_le _ _) lB)
  have HLC : Hid ((betweenE C lo hi).length ≤ 200000) := Lib.hid (Nat.le_trans (List.length_filter_le _ _) lC)
  obtain ⟨na, hna⟩ : ∃ n, n = A.length - 1 := ⟨_, rfl⟩
  obtain ⟨nb, hnb⟩ : ∃ n, n = Bs.length - 1 := ⟨_, rfl⟩
  rw [← hna] at w1 va1 hl1
  rw [← hnb] at w2 vb1 hl2
  obtain ⟨T, hT⟩ : ∃ T, T = betweenE C lo hi := ⟨_, rfl⟩
  rw [← hT] at HV CBC HLC
  have q0 := cell_regrown va0
  have q1 := cell_regrown vb0
  have HVA := Lib.hid (And.intro va1 vb1)
  have HQ := Lib.hid (And.intro c0 c1)
  clear hA0 hB0 hC0 hA1 hB1 hC1 h e1 e2 lA lB lC ha hb hR hlo hhi c2 hna hnb hT HAI HBI HCI hAp hBp
  go_enter Tryz.func61, Tryz.ntmps61
  go_upto_region 3 with fail
  clear c0 c1 va1 vb1 va0 vb0
  generalize hla : A.length = la at *
  generalize hlb : Bs.length = lb at *
  refine wp_region_quiet_below (by kernel_rfl) (by kernel_rfl) ?_
  repeat (first | go_big_quiet_step (first | (go_at_call 126; with_reducible exact CS1.out _ _)) | quiet_step (fail))
  refine wpQuiet_nil ?_
  intro _ hw'
  obtain ⟨⟨dq, osq⟩, hw''⟩ := hw'
  subst hw''
  have b5 := below_regrown w dq osq
  generalize grow (redrawn w dq) osq = w5 at *
  have B5 := Lib.hid b5
  have r0 := cell_regrown ((b5.cell (World.block_lt_of_cell? _ _ HVA.out.1)).trans HVA.out.1)
  have r1 := cell_regrown ((b5.cell (World.block_lt_of_cell? _ _ HVA.out.2)).trans HVA.out.2)
  have CS5 := Lib.hid (CS2.out w5)
  clear q0 q1 CS1 b5 CS2 HVA
  go_upto_region 4 with fail
  refine wp_region_quiet_below (by kernel_rfl) (by kernel_rfl) ?_
  repeat (first | go_big_quiet_step (first | (go_at_call 126; with_reducible exact CS5.out _ _)) | quiet_step (fail))
  refine wpQuiet_nil ?_
  intro _ hw'
  obtain ⟨⟨dq, osq⟩, hw''⟩ := hw'
  subst hw''
  have b6 := below_regrown w5 dq osq
  generalize grow (redrawn w5 dq) osq = w6 at *
  have B6 := Lib.hid (B5.out.trans (b6.mono B5.out.size))
  have k2 := (B6.out.cell (World.block_lt_of_cell? _ _ HC2.out)).trans HC2.out
  have CC := Lib.hid (CBC.out w6 B6.out)
  clear r0 r1 CS5 b6 B5 w1 w2 hl1 hl2 CBC HC2
  go_wp2_with fail
  refine CC.out.mono ?_
  rintro e w7 ⟨⟨y7, rfl, h7⟩, b7⟩
  have B7 := Lib.hid (B6.out.trans (b7.mono B6.out.size))
  have hY7 : IsInts w7 y7 T := ints_own h7 (by have := HLC.out; omega)
  have hy7 : y7.n = T.length := hY7.len
  have HY7 := Lib.hid hY7
  rw [hy7]
  clear hY7 h7 b7 CC k2 B6
  by_cases g : T.length = 0
  · have HF : Hid (R = none) := Lib.hid (by rw [HV.out, if_pos (List.eq_nil_of_length_eq_zero g)])
    rw [g]
    clear HV g HY7 hy7
    go_wp2_with fail
    go_ret2
    rw [HF.out]
    exact ⟨⟨⟨none, 0, 0⟩, rfl, IsRows.nil _⟩, B7.out⟩
  · have z1 : (((T.length : Nat) : Int) == 0) = false := by rw [beq_eq_false_iff_ne]; omega
    have HTL : Hid (0 < T.length) := Lib.hid (by omega)
    obtain ⟨p7, e7, v70, -⟩ := ints_first HY7.out HTL.out
    obtain ⟨A7, n7, k7⟩ := y7
    simp only at e7 hy7
    subst e7
    subst hy7
    have HY7' : Hid (IsInts w7 ⟨some p7, T.length, k7⟩ T) := HY7
    have HP7 := Lib.hid v70
    have HV2 : Hid (R = if betweenE A (T.head?.getD 0) 2000000 = [] ∨ betweenE Bs (T.head?.getD 0) 2000000 = [] then none else some [betweenE A (T.head?.getD 0) 2000000, betweenE Bs (T.head?.getD 0) 2000000, T]) := Lib.hid (by rw [HV.out, if_neg (fun q => g (by rw [q]; rfl))])
    generalize T.head?.getD 0 = z at *
    have hLX := HLA.out z 2000000
    have hLY := HLB.out z 2000000
    have CA := Lib.hid (CBA.out z w7 B7.out)
    have CB := Lib.hid (fun W (hW : Below w.heap.size w W) => CBB.out z W hW)
    obtain ⟨X, hX⟩ : ∃ X, X = betweenE A z 2000000 := ⟨_, rfl⟩
    obtain ⟨Y, hY⟩ : ∃ Y, Y = betweenE Bs z 2000000 := ⟨_, rfl⟩
    rw [← hX] at hLX CA HV2
    rw [← hY] at hLY CB HV2
    obtain ⟨tn, htn⟩ : ∃ n, n = T.length := ⟨_, rfl⟩
    rw [← htn] at z1 HTL HY7' ⊢
    have htp : 0 < tn := HTL.out
    clear HV g HLA HLB CBA CBB hX hY HY7 htn hla hlb
    go_wp2_with fail
    refine CA.out.mono ?_
    rintro e w8 ⟨⟨y8, rfl, h8⟩, b8⟩
    have B8 := Lib.hid (B7.out.trans (b8.mono B7.out.size))
    have hY8 : IsInts w8 y8 X := ints_own h8 (by omega)
    have hy8 : y8.n = X.length := hY8.len
    have HY8 := Lib.hid hY8
    have HT8 := Lib.hid (HY7'.out.below b8)
    have v80 := (b8.cell (World.block_lt_of_cell? _ _ HP7.out)).trans HP7.out
    have CB8 := Lib.hid (CB.out w8 B8.out)
    rw [hy8]
    clear hY8 h8 b8 CA CB v70 HP7 HY7' B7
    go_wp2_with fail
    refine CB8.out.mono ?_
    rintro e w9 ⟨⟨y9, rfl, h9⟩, b9⟩
    have B9 := Lib.hid (B8.out.trans (b9.mono B8.out.size))
    have hY9 : IsInts w9 y9 Y := ints_own h9 (by omega)
    have hy9 : y9.n = Y.length := hY9.len
    have HY9 := Lib.hid hY9
    have HX9 := Lib.hid (HY8.out.below b9)
    have HT9 := Lib.hid (HT8.out.below b9)
    rw [hy9]
    clear hY9 h9 b9 CB8 v80 HT8 HY8 B8
    by_cases gx : X.length = 0
    · have HF : Hid (R = none) := Lib.hid (by rw [HV2.out, if_pos (.inl (List.eq_nil_of_length_eq_zero gx))])
      rw [gx]
      clear HV2 gx HX9 HY9 hy8 hy9 HT9
      go_wp2_with fail
      go_ret2
      rw [HF.out]
      exact ⟨⟨⟨none, 0, 0⟩, rfl, IsRows.nil _⟩, B9.out⟩
    · have zx : (((X.length : Nat) : Int) == 0) = false := by rw [beq_eq_false_iff_ne]; omega
      by_cases gy : Y.length = 0
      · have HF : Hid (R = none) := Lib.hid (by rw [HV2.out, if_pos (.inr (List.eq_nil_of_length_eq_zero gy))])
        rw [gy]
        clear HV2 gx gy HX9 HY9 hy8 hy9 HT9
        go_wp2_with fail
        go_ret2
        rw [HF.out]
        exact ⟨⟨⟨none, 0, 0⟩, rfl, IsRows.nil _⟩, B9.out⟩
      · have zy : (((Y.length : Nat) : Int) == 0) = false := by rw [beq_eq_false_iff_ne]; omega
        have HF : Hid (R = some [X, Y, T]) := Lib.hid (by
          rw [HV2.out, if_neg]
          rintro (q | q)
          · exact gx (by rw [q]; rfl)
          · exact gy (by rw [q]; rfl))
        have HR9 := Lib.hid (rows_build3 (y1 := y8) (y2 := y9) (y3 := ⟨some p7, tn, k7⟩) HX9.out HY9.out HT9.out)
        have BF := Lib.hid (B9.out.trans ((below1 w9 (.cells #[.slice y8.A y8.n y8.c, .slice y9.A y9.n y9.c, .slice (some p7) tn k7] 30)).mono B9.out.size))
        rw [hy8, hy9] at HR9 BF
        clear HV2 gx gy HX9 HY9 hy8 hy9 HT9
        go_wp2_with fail
        go_ret2
        rw [HF.out]
        exact ⟨⟨⟨some ⟨w9.heap.size, 0, none⟩, 3, 3⟩, rfl, HR9.out⟩, BF.out⟩
end Go.Proofs.YtkhmocbfkpbpfaaGreatDoor

/- What the document leaves of an absolute value's, a minimum's, a maximum's domains is what the program leaves. No walk. -/
namespace Go.Proofs.YtkhmocbfkpbpfaaGreatDoor
open Go.RowKit

theorem absmarks_tell {A B : List Int} {MA MB MC : List Bool} {an : Bool} (hA : DomL A) (hB : DomL B) (h : Marks (hitA A B) A.length B.length 1 A.length 0 0 MA MB MC an) :
    an = decide (absA A B ≠ []) ∧ (an = true → thoseE A MA A.length = ofL (absA A B) ∧ thoseE B MB B.length = ofL (absB A B)) := by
  obtain ⟨ha, hb, -, han⟩ := h.full
  have hne : an = true ↔ absA A B ≠ [] := by
    rw [han]
    constructor
    · rintro ⟨i, k, j, hi, hk, hj, hh⟩ e
      have : A.getD i 0 ∈ absA A B := mem_absA.2 ⟨getD_mem A i hi, by rw [show absV (A.getD i 0) = B.getD k 0 from hh]; exact getD_mem B k hk⟩
      rw [e] at this
      cases this
    · intro e
      obtain ⟨t, ht⟩ := List.exists_mem_of_ne_nil _ e
      obtain ⟨q1, q2⟩ := mem_absA.1 ht
      obtain ⟨i, hi, rfl⟩ := mem_getD_iff.1 q1
      obtain ⟨k, hk, e2⟩ := mem_getD_iff.1 q2
      exact ⟨i, k, 0, hi, hk, by omega, e2.symm⟩
  refine ⟨?_, fun hyes => ?_⟩
  · rw [Bool.eq_iff_iff, decide_eq_true_eq]; exact hne
  · have n1 := hne.1 hyes
    have n2 := absB_ne n1
    refine ⟨?_, ?_⟩
    · rw [thoseE_is (S := absA A B) A.length (Nat.le_refl _) (fun i hi => ?_), List.take_of_length_le (Nat.le_refl _), filter_is hA n1 (fun v hv => (mem_absA.1 hv).1)]
      rw [ha i hi, mem_absA]
      constructor
      · rintro ⟨k, j, hk, hj, hh⟩
        exact ⟨getD_mem A i hi, by rw [show absV (A.getD i 0) = B.getD k 0 from hh]; exact getD_mem B k hk⟩
      · rintro ⟨-, q⟩
        obtain ⟨k, hk, e2⟩ := mem_getD_iff.1 q
        exact ⟨k, 0, hk, by omega, e2.symm⟩
    · rw [thoseE_is (S := absB A B) B.length (Nat.le_refl _) (fun k hk => ?_), List.take_of_length_le (Nat.le_refl _), filter_is hB n2 (fun v hv => (mem_absB.1 hv).1)]
      rw [hb k hk, mem_absB]
      constructor
      · rintro ⟨i, j, hi, hj, hh⟩
        exact ⟨getD_mem B k hk, _, getD_mem A i hi, hh⟩
      · rintro ⟨-, a, q1, q2⟩
        obtain ⟨i, hi, rfl⟩ := mem_getD_iff.1 q1
        exact ⟨i, 0, hi, by omega, q2⟩

theorem third_between (kind : Int) (A B C : List Int) : thirdX kind A B C = betweenE C (lowX kind A B) (highX kind A B) := by
  unfold thirdX betweenE
  rw [List.filter_filter]
  apply List.filter_congr
  intro u _
  by_cases g1 : lowX kind A B ≤ u <;> by_cases g2 : u ≤ highX kind A B <;> simp [g1, g2]
theorem between_up {A : List Int} (h : ∀ v ∈ A, -1000000 ≤ v ∧ v ≤ 1000000) (z : Int) : betweenE A z 2000000 = A.filter fun u => decide (z ≤ u) := by
  unfold betweenE
  apply List.filter_congr
  intro u hu
  have := h u hu
  by_cases g1 : z ≤ u <;> simp [g1] <;> omega
theorem between_down {A : List Int} (h : ∀ v ∈ A, -1000000 ≤ v ∧ v ≤ 1000000) (z : Int) : betweenE A (-2000000) z = A.filter fun u => decide (u ≤ z) := by
  unfold betweenE
  apply List.filter_congr
  intro u hu
  have := h u hu
  by_cases g1 : u ≤ z <;> simp [g1] <;> omega
theorem minus_between (C : List Int) (lo hi : Int) : betweenE (minusE C) lo hi = minusE (betweenE C (-hi) (-lo)) := by
  unfold betweenE minusE
  rw [List.filter_reverse, List.filter_map]
  congr 2
  apply List.filter_congr
  intro u _
  simp only [Function.comp]
  by_cases g1 : lo ≤ -u <;> by_cases g2 : -u ≤ hi <;> simp [g1, g2] <;> omega
theorem minus_minus (L : List Int) : minusE (minusE L) = L := by
  unfold minusE
  rw [List.map_reverse, List.reverse_reverse, List.map_map]
  have : ((fun v : Int => -v) ∘ fun v => -v) = id := by funext v; simp
  rw [this, List.map_id]
theorem minus_head {L : List Int} (h : L ≠ []) : (minusE L).head?.getD 0 = -(L.getLast?.getD 0) := by
  unfold minusE
  rw [List.head?_reverse, List.getLast?_map, List.getLast?_eq_some_getLast h]
  rfl
theorem minus_last {L : List Int} (h : L ≠ []) : (minusE L).getLast?.getD 0 = -(L.head?.getD 0) := by
  unfold minusE
  rw [List.getLast?_reverse, List.head?_map, List.head?_eq_some_head h]
  rfl
theorem minus_ne {L : List Int} : minusE L = [] ↔ L = [] := by simp [minusE]
theorem minus_len (L : List Int) : (minusE L).length = L.length := by simp [minusE]
theorem minus_in {L : List Int} (h : ∀ v ∈ L, -1000000 ≤ v ∧ v ≤ 1000000) : ∀ v ∈ minusE L, -1000000 ≤ v ∧ v ≤ 1000000 := by
  intro v hv
  unfold minusE at hv
  rw [List.mem_reverse, List.mem_map] at hv
  obtain ⟨u, hu, rfl⟩ := hv
  have := h u hu
  omega

theorem low_nine {c : ConL} {A B C : List Int} (hf : fitsE c [A, B, C] 8 10 = true) (hk : c.kind = 9) (hn : ¬ A.length * B.length ≤ 4096) (iA : ∀ v ∈ A, -1000000 ≤ v ∧ v ≤ 1000000) (iB : ∀ v ∈ B, -1000000 ≤ v ∧ v ≤ 1000000) :
    extE c [A, B, C] = lowE A B C := by
  have hm : extL c.kind A B C = [A.filter fun u => decide ((thirdX 9 A B C).head?.getD 0 ≤ u), B.filter fun u => decide ((thirdX 9 A B C).head?.getD 0 ≤ u), thirdX 9 A B C] := by unfold extL; rw [if_neg hn, hk]; rfl
  rw [extE_is hf, extR_thr (.inl hk), hm]
  unfold lowE
  have ht : betweenE C (selV 9 (A.head?.getD 0) (B.head?.getD 0)) (selV 9 (A.getLast?.getD 0) (B.getLast?.getD 0)) = thirdX 9 A B C := (third_between 9 A B C).symm
  rw [ht, between_up iA, between_up iB]
  generalize thirdX 9 A B C = T
  generalize (A.filter fun u => decide (T.head?.getD 0 ≤ u)) = X
  generalize (B.filter fun u => decide (T.head?.getD 0 ≤ u)) = Y
  by_cases g : T = []
  · rw [if_pos g, g]; simp
  · rw [if_neg g]
    by_cases gx : X = []
    · simp [gx]
    · by_cases gy : Y = []
      · simp [gy]
      · simp [g, gx, gy]
theorem low_ten {c : ConL} {A B C : List Int} (hf : fitsE c [A, B, C] 8 10 = true) (hk : c.kind = 10) (hn : ¬ A.length * B.length ≤ 4096) (ha : A ≠ []) (hb : B ≠ []) (iA : ∀ v ∈ A, -1000000 ≤ v ∧ v ≤ 1000000) (iB : ∀ v ∈ B, -1000000 ≤ v ∧ v ≤ 1000000) :
    extE c [A, B, C] = (lowE (minusE A) (minusE B) (minusE C)).map fun E => E.map minusE := by
  have hm : extL c.kind A B C = [A.filter fun u => decide (u ≤ (thirdX 10 A B C).getLast?.getD 0), B.filter fun u => decide (u ≤ (thirdX 10 A B C).getLast?.getD 0), thirdX 10 A B C] := by unfold extL; rw [if_neg hn, hk]; rfl
  rw [extE_is hf, extR_thr (.inr hk), hm]
  unfold lowE
  have s1 : ∀ x y : Int, selV 9 (-x) (-y) = -(selV 10 x y) := fun x y => by show min (-x) (-y) = -(max x y); omega
  have ht : betweenE (minusE C) (selV 9 ((minusE A).head?.getD 0) ((minusE B).head?.getD 0)) (selV 9 ((minusE A).getLast?.getD 0) ((minusE B).getLast?.getD 0)) = minusE (thirdX 10 A B C) := by
    rw [minus_head ha, minus_head hb, minus_last ha, minus_last hb, s1, s1, minus_between, Int.neg_neg, Int.neg_neg, third_between]
    rfl
  rw [ht]
  by_cases g : thirdX 10 A B C = []
  · rw [g, if_pos (show minusE [] = [] from rfl)]
    simp
  · rw [if_neg (fun q => g (minus_ne.1 q)), minus_head g, minus_between, minus_between, Int.neg_neg]
    have e2 : (-2000000 : Int) = -2000000 := rfl
    rw [between_down iA, between_down iB]
    generalize thirdX 10 A B C = T at g
    generalize (A.filter fun u => decide (u ≤ T.getLast?.getD 0)) = X
    generalize (B.filter fun u => decide (u ≤ T.getLast?.getD 0)) = Y
    by_cases gx : X = []
    · simp [gx, minus_ne]
    · by_cases gy : Y = []
      · simp [gy, minus_ne]
      · simp [g, gx, gy, minus_ne, minus_minus]
end Go.Proofs.YtkhmocbfkpbpfaaGreatDoor

/- Contracts of ext's less, greater, chooser, empty. -/
namespace Go.Proofs.YtkhmocbfkpbpfaaGreatDoor
open Go.RowKit Go.Sort

theorem lessX_any (a b : Int) (w : World) : Calls Tryz.prog 172 #[.int .i64 a, .int .i64 b] w fun e w' => e = .returned (.int .i64 (selV 9 a b)) ∧ w = w' := by
  have HV : Hid (selV 9 a b = min a b) := Lib.hid rfl
  go_enter Tryz.func172, Tryz.ntmps172
  go_wp2_with fail
  go_ret
  exact ⟨by rw [HV.out]; rfl, rfl⟩
theorem greaterX_any (a b : Int) (w : World) : Calls Tryz.prog 173 #[.int .i64 a, .int .i64 b] w fun e w' => e = .returned (.int .i64 (selV 10 a b)) ∧ w = w' := by
  have HV : Hid (selV 10 a b = max a b) := Lib.hid rfl
  go_enter Tryz.func173, Tryz.ntmps173
  go_wp2_with fail
  go_ret
  exact ⟨by rw [HV.out]; rfl, rfl⟩
/-- The function's number that a kind is given. -/
def fnX (kind : Int) : FuncId := if kind = 9 then 172 else 173
theorem fnX_tells (kind a b : Int) (w : World) (hk : kind = 9 ∨ kind = 10) : Calls Tryz.prog (fnX kind) #[.int .i64 a, .int .i64 b] w fun e w' => e = .returned (.int .i64 (selV kind a b)) ∧ w = w' := by
  rcases hk with rfl | rfl
  · exact lessX_any a b w
  · exact greaterX_any a b w
theorem eFnX (kind : Int) : ∀ args w, (callFunc (fnX kind) args).run Tryz.prog w = .ok (.enter (fnX kind) args) w := by
  unfold fnX
  split
  · exact enters_of Tryz.func172 (by kernel_rfl) rfl
  · exact enters_of Tryz.func173 (by kernel_rfl) rfl
theorem chooser_any (kind : Int) (w : World) (hk : kind = 9 ∨ kind = 10) : Calls Tryz.prog 115 #[.int .i64 kind] w fun e w' => e = .returned (.func (.func (fnX kind)) #[] #[]) ∧ w = w' := by
  rcases hk with rfl | rfl <;>
  · go_enter Tryz.func115, Tryz.ntmps115
    go_wp2_with fail
    go_ret
    exact ⟨rfl, rfl⟩
theorem selV_lim {kind a b : Int} (ha : -2000000 ≤ a ∧ a ≤ 2000000) (hb : -2000000 ≤ b ∧ b ≤ 2000000) : -2000000 ≤ selV kind a b ∧ selV kind a b ≤ 2000000 := by
  unfold selV
  split <;> omega

/-- Has a domain nothing? For every function that asks just that. -/
theorem isEmptyX_any (d : Dv) (L : List Int) (w : World) (h : IsDom w d.val L) : Calls Tryz.prog 57 #[.agg #[.int .i64 d.s, .slice d.A d.n d.c, .int .i64 d.z]] w fun e w' => e = .returned (.bool (L.length == 0)) ∧ Below w.heap.size w w' := by
  have CS : Hid (∀ W, Below w.heap.size w W → Calls Tryz.prog 90 #[.agg #[.int .i64 d.s, .slice d.A d.n d.c, .int .i64 d.z]] W fun e w' => e = .returned (.int .i64 (L.length : Nat)) ∧ Below W.heap.size W w') := Lib.hid (fun W hW => D.size_dom d.val L W (h.below hW))
  obtain ⟨n, hn⟩ : ∃ n, n = L.length := ⟨_, rfl⟩
  rw [← hn] at CS ⊢
  clear h hn
  by_cases h0 : n = 0
  · have e1 : (((n : Nat) : Int) == 0) = true := by simp [h0]
    have HF : Hid (true = (n == 0)) := Lib.hid (by simp [h0])
    clear h0
    go_enter Tryz.func57, Tryz.ntmps57
    go_wp2_with (go_at_call 90; with_reducible refine (CS.out _ (below1 _ _)).mono ?_; rintro e w1 ⟨rfl, b1⟩; have B1 := Lib.hid ((below1 w _).trans (b1.mono (below1 w _).size)); clear b1)
    go_ret
    exact ⟨ret_bool HF.out, B1.out⟩
  · have e1 : (((n : Nat) : Int) == 0) = false := by simp [h0]
    have HF : Hid (false = (n == 0)) := Lib.hid (by simp [h0])
    clear h0
    go_enter Tryz.func57, Tryz.ntmps57
    go_wp2_with (go_at_call 90; with_reducible refine (CS.out _ (below1 _ _)).mono ?_; rintro e w1 ⟨rfl, b1⟩; have B1 := Lib.hid ((below1 w _).trans (b1.mono (below1 w _).size)); clear b1)
    go_ret
    exact ⟨ret_bool HF.out, B1.out⟩
theorem eEmptyX : ∀ args w, (callFunc 57 args).run Tryz.prog w = .ok (.enter 57 args) w := enters_of Tryz.func57 (by kernel_rfl) rfl
/-- Is any of the domains empty? -/
theorem anyEmptyX_any (x : Sl) (R : List (List Int)) (w : World) (h : DomsIn w x R) : Calls Tryz.prog 56 #[.slice x.A x.n x.c, .func (.func 57) #[] #[]] w fun e w' => e = .returned (.bool (R.any fun l => l.length == 0)) ∧ Below w.heap.size w w' :=
  containsFunc_doms 57 #[] eEmptyX _ x R w h (fun d r W _ hd => isEmptyX_any d r W hd)
end Go.Proofs.YtkhmocbfkpbpfaaGreatDoor

/- Lists that are domains, a case's domains, fixed values: what all layers' laws want of them (layers 10 to 22). No walk. -/
namespace Go.Proofs.YtkhmocbfkpbpfaaGreatDoor
open Go.RowKit Go.Sort

/-- The domains that a case has. -/
def caseD (DD : List (List Int)) (wd : Int) (n : Nat) : List (List Int) := (List.range n).map (domsE DD wd)
theorem caseD_dom (DD : List (List Int)) (wd : Int) (n : Nat) : ∀ l ∈ caseD DD wd n, DomL l ∧ l.length ≤ 6 := by
  intro l hl
  unfold caseD at hl
  obtain ⟨i, -, rfl⟩ := List.mem_map.1 hl
  unfold domsE smallW
  exact ⟨domL_ofL _, Nat.le_trans (ofL_short _) (modW_len _ _ _)⟩
theorem caseD_ofL (DD : List (List Int)) (wd : Int) (n : Nat) : (caseD DD wd n).map ofL = caseD DD wd n := by
  have : ∀ l ∈ caseD DD wd n, ofL l = l := fun l hl => ofL_dom (caseD_dom DD wd n l hl).1
  exact (List.map_congr_left this).trans (List.map_id' _)
theorem caseD_len (DD : List (List Int)) (wd : Int) (n : Nat) : (caseD DD wd n).length = n := by simp [caseD]
theorem zero_drew (W : World) : (W.alloc (.cells #[.int .i64 0, .slice none 0 0, .slice none 0 0, .slice none 0 0, .slice none 0 0, .slice none 0 0, .int .i64 0, .slice none 0 0] 32)).drew.heap[W.heap.size]? = some (.cells zeroC 32 (0, 0)) := by
  have h := heap_new W (.cells #[.int .i64 0, .slice none 0 0, .slice none 0 0, .slice none 0 0, .slice none 0 0, .slice none 0 0, .int .i64 0, .slice none 0 0] 32)
  exact h
theorem makeE_kind (la lb lc : List Int) (k K ch vars : Int) (hk : 0 ≤ k) : (makeE la lb lc k K ch vars).kind = 1 + k.tmod 23 := by
  have h0 := Int.tmod_nonneg 23 hk
  unfold makeE
  simp only [s9_kind, s8_kind, s7_kind, s6_kind, s5_kind, s4_kind, s3_kind, s2_kind]
  show (((1 + k.tmod 23).toNat : Nat) : Int) = _
  omega
/-- What may be of fewer variables may be of more. -/
theorem right_more {c : ConL} {n m : Int} (h : rightE c n = 0) (hm : n ≤ m) : rightE c m = 0 := by
  obtain ⟨k1, k2, hs, ha, hb, hn⟩ := right_parts h
  have hf : (foundF (kindP c.kind)).2 ≠ false := by
    intro e
    unfold rightE at h
    rw [if_pos e] at h
    cases h
  have hout : ∀ l : List Int, l.any (outV n) = false → l.any (outV m) = false := fun l hl => by
    rw [List.any_eq_false] at hl ⊢
    intro x hx
    have := hl x hx
    simp only [outV, Bool.or_eq_true, decide_eq_true_eq, not_or] at this ⊢
    omega
  unfold rightE
  rw [if_neg hf, hs, hout _ ha, hout _ hb, hn]
  rfl
/-- The fixed values. -/
def fixE (a : List Int) (i : Nat) : Int := if i < a.length then a.getD i 0 else 1 + (i : Int)
def ones1 (l : List Int) : List (List Int) := l.map fun n => [n]
theorem ones1_app (l m : List Int) : ones1 (l ++ m) = ones1 l ++ ones1 m := by simp [ones1]
theorem ones1_short (l : List Int) : ∀ r ∈ ones1 l, r.length ≤ 100000 := fun r hr => by
  obtain ⟨n, -, rfl⟩ := List.mem_map.1 hr
  simp
theorem fixE_in (l : List Int) (bx : ∀ v ∈ l, -128 ≤ v ∧ v ≤ 127) (i : Nat) (hi : i < 1000) : -1000000 ≤ fixE l i ∧ fixE l i ≤ 1000000 := by
  unfold fixE
  split
  · next h => have := bx _ (getD_mem l i h); omega
  · omega
theorem fix_rows (l : List Int) (bx : ∀ v ∈ l, -128 ≤ v ∧ v ≤ 127) (N : Nat) (hN : N ≤ 1000) : (ones1 (mkL (fixE l) N)).map ofL = ones1 (mkL (fixE l) N) := by
  unfold ones1
  rw [List.map_map]
  apply List.map_congr_left
  intro q hq
  simp only [mkL, List.mem_map, List.mem_range] at hq
  obtain ⟨i, hi, rfl⟩ := hq
  exact ofL_one (fixE_in l bx i (by omega))
end Go.Proofs.YtkhmocbfkpbpfaaGreatDoor
