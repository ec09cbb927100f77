/- What the document leaves of an absolute value's, a minimum's, a maximum's domains is what the program leaves. No walk. -/
import Derived.Test.YtkhmocbfkpbpfaaGreatDoorExd2
import Derived.Test.YtkhmocbfkpbpfaaGreatDoorExth0
import Derived.Test.YtkhmocbfkpbpfaaGreatDoorExt3
import Derived.Test.YtkhmocbfkpbpfaaGreatDoorDMore
import Derived.Lib.MinMax
namespace Go.Proofs.YtkhmocbfkpbpfaaGreatDoor
open Go.RowKit

theorem absmarks_tell {A B : List Int} {MA MB MC : List Bool} {an : Bool} (hA : DomL A) (hB : DomL B) (h : Marks (hitA A B) A.length B.length 1 A.length 0 0 MA MB MC an) :
    an = decide (absA A B ≠ []) ∧ (an = true → thoseE A MA A.length = ofL (absA A B) ∧ thoseE B MB B.length = ofL (absB A B)) := by
  obtain ⟨ha, hb, -, han⟩ := h.full
  have hne : an = true ↔ absA A B ≠ [] := by
    rw [han]
    constructor
    · rintro ⟨i, k, j, hi, hk, hj, hh⟩ e
      have : A.getD i 0 ∈ absA A B := mem_absA.2 ⟨getD_mem A i hi, by rw [show absV (A.getD i 0) = B.getD k 0 from hh]; exact getD_mem B k hk⟩
      rw [e] at this
      cases this
    · intro e
      obtain ⟨t, ht⟩ := List.exists_mem_of_ne_nil _ e
      obtain ⟨q1, q2⟩ := mem_absA.1 ht
      obtain ⟨i, hi, rfl⟩ := mem_getD_iff.1 q1
      obtain ⟨k, hk, e2⟩ := mem_getD_iff.1 q2
      exact ⟨i, k, 0, hi, hk, by omega, e2.symm⟩
  refine ⟨?_, fun hyes => ?_⟩
  · rw [Bool.eq_iff_iff, decide_eq_true_eq]; exact hne
  · have n1 := hne.1 hyes
    have n2 := absB_ne n1
    refine ⟨?_, ?_⟩
    · rw [thoseE_is (S := absA A B) A.length (Nat.le_refl _) (fun i hi => ?_), List.take_of_length_le (Nat.le_refl _), filter_is hA n1 (fun v hv => (mem_absA.1 hv).1)]
      rw [ha i hi, mem_absA]
      constructor
      · rintro ⟨k, j, hk, hj, hh⟩
        exact ⟨getD_mem A i hi, by rw [show absV (A.getD i 0) = B.getD k 0 from hh]; exact getD_mem B k hk⟩
      · rintro ⟨-, q⟩
        obtain ⟨k, hk, e2⟩ := mem_getD_iff.1 q
        exact ⟨k, 0, hk, by omega, e2.symm⟩
    · rw [thoseE_is (S := absB A B) B.length (Nat.le_refl _) (fun k hk => ?_), List.take_of_length_le (Nat.le_refl _), filter_is hB n2 (fun v hv => (mem_absB.1 hv).1)]
      rw [hb k hk, mem_absB]
      constructor
      · rintro ⟨i, j, hi, hj, hh⟩
        exact ⟨getD_mem B k hk, _, getD_mem A i hi, hh⟩
      · rintro ⟨-, a, q1, q2⟩
        obtain ⟨i, hi, rfl⟩ := mem_getD_iff.1 q1
        exact ⟨i, 0, hi, by omega, q2⟩

theorem third_between (kind : Int) (A B C : List Int) : thirdX kind A B C = betweenE C (lowX kind A B) (highX kind A B) := by
  unfold thirdX betweenE
  rw [List.filter_filter]
  apply List.filter_congr
  intro u _
  by_cases g1 : lowX kind A B ≤ u <;> by_cases g2 : u ≤ highX kind A B <;> simp [g1, g2]
theorem between_up {A : List Int} (h : ∀ v ∈ A, -1000000 ≤ v ∧ v ≤ 1000000) (z : Int) : betweenE A z 2000000 = A.filter fun u => decide (z ≤ u) := by
  unfold betweenE
  apply List.filter_congr
  intro u hu
  have := h u hu
  by_cases g1 : z ≤ u <;> simp [g1] <;> omega
theorem between_down {A : List Int} (h : ∀ v ∈ A, -1000000 ≤ v ∧ v ≤ 1000000) (z : Int) : betweenE A (-2000000) z = A.filter fun u => decide (u ≤ z) := by
  unfold betweenE
  apply List.filter_congr
  intro u hu
  have := h u hu
  by_cases g1 : u ≤ z <;> simp [g1] <;> omega
theorem minus_between (C : List Int) (lo hi : Int) : betweenE (minusE C) lo hi = minusE (betweenE C (-hi) (-lo)) := by
  unfold betweenE minusE
  rw [List.filter_reverse, List.filter_map]
  congr 2
  apply List.filter_congr
  intro u _
  simp only [Function.comp]
  by_cases g1 : lo ≤ -u <;> by_cases g2 : -u ≤ hi <;> simp [g1, g2] <;> omega
theorem minus_minus (L : List Int) : minusE (minusE L) = L := by
  unfold minusE
  rw [List.map_reverse, List.reverse_reverse, List.map_map]
  have : ((fun v : Int => -v) ∘ fun v => -v) = id := by funext v; simp
  rw [this, List.map_id]
theorem minus_head {L : List Int} (h : L ≠ []) : (minusE L).head?.getD 0 = -(L.getLast?.getD 0) := by
  unfold minusE
  rw [List.head?_reverse, List.getLast?_map, List.getLast?_eq_some_getLast h]
  rfl
theorem minus_last {L : List Int} (h : L ≠ []) : (minusE L).getLast?.getD 0 = -(L.head?.getD 0) := by
  unfold minusE
  rw [List.getLast?_reverse, List.head?_map, List.head?_eq_some_head h]
  rfl
theorem minus_ne {L : List Int} : minusE L = [] ↔ L = [] := by simp [minusE]
theorem minus_len (L : List Int) : (minusE L).length = L.length := by simp [minusE]
theorem minus_in {L : List Int} (h : ∀ v ∈ L, -1000000 ≤ v ∧ v ≤ 1000000) : ∀ v ∈ minusE L, -1000000 ≤ v ∧ v ≤ 1000000 := by
  intro v hv
  unfold minusE at hv
  rw [List.mem_reverse, List.mem_map] at hv
  obtain ⟨u, hu, rfl⟩ := hv
  have := h u hu
  omega

theorem low_nine {c : ConL} {A B C : List Int} (hf : fitsE c [A, B, C] 8 10 = true) (hk : c.kind = 9) (hn : ¬ A.length * B.length ≤ 4096) (iA : ∀ v ∈ A, -1000000 ≤ v ∧ v ≤ 1000000) (iB : ∀ v ∈ B, -1000000 ≤ v ∧ v ≤ 1000000) :
    extE c [A, B, C] = lowE A B C := by
  have hm : extL c.kind A B C = [A.filter fun u => decide ((thirdX 9 A B C).head?.getD 0 ≤ u), B.filter fun u => decide ((thirdX 9 A B C).head?.getD 0 ≤ u), thirdX 9 A B C] := by unfold extL; rw [if_neg hn, hk]; rfl
  rw [extE_is hf, extR_thr (.inl hk), hm]
  unfold lowE
  have ht : betweenE C (selV 9 (A.head?.getD 0) (B.head?.getD 0)) (selV 9 (A.getLast?.getD 0) (B.getLast?.getD 0)) = thirdX 9 A B C := (third_between 9 A B C).symm
  rw [ht, between_up iA, between_up iB]
  generalize thirdX 9 A B C = T
  generalize (A.filter fun u => decide (T.head?.getD 0 ≤ u)) = X
  generalize (B.filter fun u => decide (T.head?.getD 0 ≤ u)) = Y
  by_cases g : T = []
  · rw [if_pos g, g]; simp
  · rw [if_neg g]
    by_cases gx : X = []
    · simp [gx]
    · by_cases gy : Y = []
      · simp [gy]
      · simp [g, gx, gy]
theorem low_ten {c : ConL} {A B C : List Int} (hf : fitsE c [A, B, C] 8 10 = true) (hk : c.kind = 10) (hn : ¬ A.length * B.length ≤ 4096) (ha : A ≠ []) (hb : B ≠ []) (iA : ∀ v ∈ A, -1000000 ≤ v ∧ v ≤ 1000000) (iB : ∀ v ∈ B, -1000000 ≤ v ∧ v ≤ 1000000) :
    extE c [A, B, C] = (lowE (minusE A) (minusE B) (minusE C)).map fun E => E.map minusE := by
  have hm : extL c.kind A B C = [A.filter fun u => decide (u ≤ (thirdX 10 A B C).getLast?.getD 0), B.filter fun u => decide (u ≤ (thirdX 10 A B C).getLast?.getD 0), thirdX 10 A B C] := by unfold extL; rw [if_neg hn, hk]; rfl
  rw [extE_is hf, extR_thr (.inr hk), hm]
  unfold lowE
  have s1 : ∀ x y : Int, selV 9 (-x) (-y) = -(selV 10 x y) := fun x y => by show min (-x) (-y) = -(max x y); omega
  have ht : betweenE (minusE C) (selV 9 ((minusE A).head?.getD 0) ((minusE B).head?.getD 0)) (selV 9 ((minusE A).getLast?.getD 0) ((minusE B).getLast?.getD 0)) = minusE (thirdX 10 A B C) := by
    rw [minus_head ha, minus_head hb, minus_last ha, minus_last hb, s1, s1, minus_between, Int.neg_neg, Int.neg_neg, third_between]
    rfl
  rw [ht]
  by_cases g : thirdX 10 A B C = []
  · rw [g, if_pos (show minusE [] = [] from rfl)]
    simp
  · rw [if_neg (fun q => g (minus_ne.1 q)), minus_head g, minus_between, minus_between, Int.neg_neg]
    have e2 : (-2000000 : Int) = -2000000 := rfl
    rw [between_down iA, between_down iB]
    generalize thirdX 10 A B C = T at g
    generalize (A.filter fun u => decide (u ≤ T.getLast?.getD 0)) = X
    generalize (B.filter fun u => decide (u ≤ T.getLast?.getD 0)) = Y
    by_cases gx : X = []
    · simp [gx, minus_ne]
    · by_cases gy : Y = []
      · simp [gy, minus_ne]
      · simp [g, gx, gy, minus_ne, minus_minus]
end Go.Proofs.YtkhmocbfkpbpfaaGreatDoor

/- Contract of ext's unsigned: what is left of an absolute value's domains. -/
namespace Go.Proofs.YtkhmocbfkpbpfaaGreatDoor
open Go.RowKit Go.Sort

theorem absA_step (A B : List Int) (k : Nat) (h : k < A.length) : absA (A.take (k + 1)) B = absA (A.take k) B ++ if absV (A.getD k 0) ∈ B then [A.getD k 0] else [] := by
  unfold absA
  rw [List.take_succ_eq_append_getElem h, List.filter_append, List.getD_eq_getElem?_getD, List.getElem?_eq_getElem h]
  congr 1
  rw [List.filter_cons]
  simp
theorem absB_step (A B : List Int) (k : Nat) (h : k < A.length) : absB (A.take (k + 1)) B = absB (A.take k) B ++ if absV (A.getD k 0) ∈ B then [absV (A.getD k 0)] else [] := by
  unfold absB
  rw [absA_step A B k h, List.map_append]
  split <;> simp

set_option maxHeartbeats 4000000 in
set_option maxRecDepth 100000 in
theorem unsigned_any (d1 d2 : Dv) (A Bs : List Int) (w : World) (h1 : IsDom w d1.val A) (h2 : IsDom w d2.val Bs) (hT : TabZ w) (hA : A.length ≤ 100000) :
    Calls Tryz.prog 113 #[.agg #[.int .i64 d1.s, .slice d1.A d1.n d1.c, .int .i64 d1.z], .agg #[.int .i64 d2.s, .slice d2.A d2.n d2.c, .int .i64 d2.z]] w fun e w' => (∃ y : Sl, e = .returned (.slice y.A y.n y.c) ∧ DomsIn w' y [ofL (absA A Bs), ofL (absB A Bs)]) ∧ Below w.heap.size w w' := by
  obtain ⟨wa, hwa⟩ : ∃ wa, w.alloc (.cells #[.int .i64 d1.s, .slice d1.A d1.n d1.c, .int .i64 d1.z] 53) = wa := ⟨_, rfl⟩
  obtain ⟨wb, hwb⟩ : ∃ wb, wa.alloc (.cells #[.int .i64 d2.s, .slice d2.A d2.n d2.c, .int .i64 d2.z] 53) = wb := ⟨_, rfl⟩
  have hw2 : (w.alloc (.cells #[.int .i64 d1.s, .slice d1.A d1.n d1.c, .int .i64 d1.z] 53)).alloc (.cells #[.int .i64 d2.s, .slice d2.A d2.n d2.c, .int .i64 d2.z] 53) = wb := by rw [hwa, hwb]
  have sa : wa.heap.size = w.heap.size + 1 := by rw [← hwa]; simp
  have sb : wb.heap.size = w.heap.size + 1 + 1 := by rw [← hwb]; simp [sa]
  have ba : Below w.heap.size w wa := hwa ▸ below1 w _
  have bb : Below wa.heap.size wa wb := hwb ▸ below1 wa _
  have n1 : wa.heap[w.heap.size]? = some (.cells #[.int .i64 d1.s, .slice d1.A d1.n d1.c, .int .i64 d1.z] 53 (0, 0)) := hwa ▸ heap_new w _
  have n2 : wb.heap[w.heap.size + 1]? = some (.cells #[.int .i64 d2.s, .slice d2.A d2.n d2.c, .int .i64 d2.z] 53 (0, 0)) := by rw [← sa, ← hwb]; exact heap_new wa _
  have b2 : Below w.heap.size w wb := ba.trans (bb.mono ba.size)
  have hk1 := (bb.block _ (Array.getElem?_eq_some_iff.1 n1).1).trans n1
  have c0 := box_cell hk1 (j := 0) (x := .int .i64 d1.s) rfl
  have c1 := box_cell hk1 (j := 1) (x := .slice d1.A d1.n d1.c) rfl
  have c2 := box_cell hk1 (j := 2) (x := .int .i64 d1.z) rfl
  have HN2 := Lib.hid n2
  have B0 := Lib.hid b2
  have HD2 := Lib.hid (h2.below b2)
  have HT := Lib.hid (hT.below b2)
  have CL := Lib.hid (list_dom d1.val A wb (h1.below b2) (hT.below b2))
  have HLA := Lib.hid h1.lim
  obtain ⟨O1, hO1⟩ : ∃ O, O = ofL (absA A Bs) := ⟨_, rfl⟩
  obtain ⟨O2, hO2⟩ : ∃ O, O = ofL (absB A Bs) := ⟨_, rfl⟩
  rw [← hO1, ← hO2]
  have HO1 := Lib.hid hO1
  have HO2 := Lib.hid hO2
  clear hwa hwb sa sb ba bb n1 n2 b2 hk1 h1 h2 hT hO1 hO2
  go_enter Tryz.func113, Tryz.ntmps113
  go_upto_region 2 with fail
  clear hw2
  go_wp2_with fail
  refine CL.out.mono ?_
  rintro e w1 ⟨v1, rfl, hB1, b1⟩
  obtain ⟨YA, kA, rfl⟩ := slice_row hB1
  have S1 : SepL wb.heap.size w1 [(⟨YA, A.length, kA⟩, A)] := (SepL.nil _ wb (Nat.le_refl _)).cons b1 hB1 (fun g hg => (own_lt' hB1 hg).1)
  have S3 : SepL wb.heap.size w1 [(⟨none, 0, 0⟩, []), (⟨none, 0, 0⟩, []), (⟨YA, A.length, kA⟩, A)] :=
    (S1.cons (Below.refl _ _) (Row3.nil _ _) (by intro g hg; cases hg)).cons (Below.refl _ _) (Row3.nil _ _) (by intro g hg; cases hg)
  have HS3 := Lib.hid S3
  have B1 := Lib.hid b1
  clear CL S1 S3 hB1 b1 c0 c1 c2
  go_wp2_with fail
  go_loopw [5, 6, 13] (fun a b i wr => ∃ (k : Nat) (y1 y2 : Sl), a = .slice y1.A y1.n y1.c ∧ b = .slice y2.A y2.n y2.c ∧ i = .int .i64 (k : Nat) ∧ k ≤ A.length ∧
      Hid (SepL wb.heap.size wr [(y1, absA (A.take k) Bs), (y2, absB (A.take k) Bs), (⟨YA, A.length, kA⟩, A)]) ∧ Hid (Below wb.heap.size wb wr)) (fun _ _ i _ => A.length - (intOf i).toNat)
  case atStart => exact ⟨0, ⟨none, 0, 0⟩, ⟨none, 0, 0⟩, rfl, rfl, rfl, by omega, HS3, B1⟩
  case round =>
    clear HS3 B1
    obtain ⟨k, y1, y2, rfl, rfl, rfl, hk, HS, HB⟩ := hrel
    by_cases hlt : k < A.length
    · obtain ⟨adA, eA, -, -, cA⟩ := row_cell (HS.out.row (k := 2) rfl) (k := k) hlt
      simp only at eA
      subst eA
      have hav := HLA.out _ (getD_mem A k hlt)
      have HS1 := Lib.hid (absA_step A Bs k hlt)
      have HS2 := Lib.hid (absB_step A Bs k hlt)
      have N1 : Hid ((absA (A.take k) Bs).length < 1000000) := Lib.hid (by
        have h := List.length_filter_le (fun v => decide (absV v ∈ Bs)) (A.take k)
        rw [List.length_take] at h
        unfold absA
        omega)
      have N2 : Hid ((absB (A.take k) Bs).length < 1000000) := Lib.hid (by unfold absB; rw [List.length_map]; exact N1.out)
      obtain ⟨vv, hvv⟩ : ∃ vv, vv = A.getD k 0 := ⟨_, rfl⟩
      rw [← hvv] at cA hav HS1 HS2
      have wn : IntKind.i64.wrap (-vv) = -vv := IntWalk.i64_in _ (by omega)
      have hm0 : absV vv = max vv (-vv) := rfl
      obtain ⟨m, hm⟩ : ∃ m, max vv (-vv) = m := ⟨_, rfl⟩
      rw [hm] at hm0
      rw [hm0] at HS1 HS2
      have hm' : max (-vv) vv = m := by omega
      have hml : -2000000 ≤ m ∧ m ≤ 2000000 := by omega
      have K2 := (HB.out.block _ (Array.getElem?_eq_some_iff.1 HN2.out).1).trans HN2.out
      have e0 := box_cell K2 (j := 0) (x := .int .i64 d2.s) rfl
      have e1 := box_cell K2 (j := 1) (x := .slice d2.A d2.n d2.c) rfl
      have e2 := box_cell K2 (j := 2) (x := .int .i64 d2.z) rfl
      have CH := Lib.hid (D.has_dom d2.val Bs m wr (HD2.out.below HB.out) (by omega) (by omega))
      clear hvv hav hm0 K2 hml
      by_cases hin : m ∈ Bs
      · rw [decide_eq_true hin] at CH
        have HE1 : Hid (absA (A.take (k + 1)) Bs = absA (A.take k) Bs ++ [vv]) := Lib.hid (by rw [HS1.out, if_pos hin])
        have HE2 : Hid (absB (A.take (k + 1)) Bs = absB (A.take k) Bs ++ [m]) := Lib.hid (by rw [HS2.out, if_pos hin])
        clear HS1 HS2 hin
        go_wp2_with fail
        refine CH.out.mono ?_
        rintro e w3 ⟨rfl, b3⟩
        have HS3 := Lib.hid (HS.out.below b3)
        have HB3 := Lib.hid (HB.out.trans (b3.mono HB.out.size))
        clear CH b3 HS HB e0 e1 e2
        go_wp2_with (first
          | (at_builtin; refine wpList_append_sep rfl _ _ 30 rfl Tryz.underlying30 Tryz.info3 HS3.out 0 y1 _ vv rfl rfl rfl N1.out ?_; intro y1' w4 S4 b4; have HS4 := Lib.hid S4; have HB4 := Lib.hid (HB3.out.trans b4); clear S4 b4)
          | (at_builtin; refine wpList_append_sep rfl _ _ 30 rfl Tryz.underlying30 Tryz.info3 HS4.out 1 y2 _ m rfl rfl rfl N2.out ?_; intro y2' w5 S5 b5; have HS5 := Lib.hid S5; have HB5 := Lib.hid (HB4.out.trans b5); clear S5 b5))
        go_roundw
        case rel => exact ⟨k + 1, y1', y2', rfl, rfl, by go_num, by omega, Lib.hid (by
          rw [HE1.out, HE2.out]
          exact HS5.out), HB5⟩
        case measure => simp [intOf]; omega
      · rw [decide_eq_false hin] at CH
        have HE1 : Hid (absA (A.take (k + 1)) Bs = absA (A.take k) Bs) := Lib.hid (by rw [HS1.out, if_neg hin, List.append_nil])
        have HE2 : Hid (absB (A.take (k + 1)) Bs = absB (A.take k) Bs) := Lib.hid (by rw [HS2.out, if_neg hin, List.append_nil])
        clear HS1 HS2 hin
        go_wp2_with fail
        refine CH.out.mono ?_
        rintro e w3 ⟨rfl, b3⟩
        have HS3 := Lib.hid (HS.out.below b3)
        have HB3 := Lib.hid (HB.out.trans (b3.mono HB.out.size))
        clear CH b3 HS HB e0 e1 e2
        go_wp2_with fail
        go_roundw
        case rel => exact ⟨k + 1, y1, y2, rfl, rfl, by go_num, by omega, Lib.hid (by rw [HE1.out, HE2.out]; exact HS3.out), HB3⟩
        case measure => simp [intOf]; omega
    · have HS7 : Hid (SepL wb.heap.size wr [(y1, absA A Bs), (y2, absB A Bs), (⟨YA, A.length, kA⟩, A)]) := Lib.hid (by
        have := HS.out
        rwa [List.take_of_length_le (show A.length ≤ k by omega)] at this)
      have hE : (absA A Bs).length ≤ A.length := List.length_filter_le _ _
      have hE2 : (absB A Bs).length ≤ A.length := by unfold absB; rw [List.length_map]; exact hE
      have R1 := HS7.out.row (k := 0) rfl
      have R2 := HS7.out.row (k := 1) rfl
      have I1 := Lib.hid (ints_own R1 (by omega))
      have I2 := Lib.hid (ints_own R2 (by omega))
      have C1 := Lib.hid (extOf_any y1 (absA A Bs) wr I1.out.len (by have := I1.out.lies; rwa [I1.out.len] at this) (by omega))
      have C2 := Lib.hid (fun W (hW : Below wr.heap.size wr W) => extOf_any y2 (absB A Bs) W I2.out.len (by have := (I2.out.below hW).lies; rwa [I2.out.len] at this) (by omega))
      rw [← HO1.out] at C1
      rw [← HO2.out] at C2
      clear HO1 HO2 HS7 R1 R2 I1 I2 HS hE hE2
      go_wp2_with fail
      refine C1.out.mono ?_
      rintro e w3 ⟨⟨v1, rfl, k1⟩, b3⟩
      have K1 := Lib.hid k1
      have B3 := Lib.hid b3
      clear k1 b3 C1
      go_wp2_with fail
      refine (C2.out w3 B3.out).mono ?_
      rintro e w4 ⟨⟨v2, rfl, k2⟩, b4⟩
      have B4 := Lib.hid (HB.out.trans ((B3.out.trans (b4.mono B3.out.size)).mono HB.out.size))
      have HDD := Lib.hid (doms_build2 (K1.out.below b4) k2)
      clear k2 b4 C2 K1 B3
      go_wp2_with fail
      go_ret
      have B5 := B0.out.trans (B4.out.mono B0.out.size)
      exact ⟨⟨⟨some ⟨w4.heap.size, 0, none⟩, 2, 2⟩, rfl, HDD.out⟩, B5.trans ((below1 w4 _).mono B5.size)⟩
end Go.Proofs.YtkhmocbfkpbpfaaGreatDoor
