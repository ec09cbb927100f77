/- What the document's Pairs leaves is what the program's solved leaves. No walk. -/
import Derived.Test.YtkhmocbfkpbpfaaGreatDoorLay00
import Derived.Test.YtkhmocbfkpbpfaaGreatDoorMrd3
import Derived.Test.YtkhmocbfkpbpfaaGreatDoorFix
import Derived.Test.YtkhmocbfkpbpfaaGreatDoorExth0
namespace Go.Proofs.YtkhmocbfkpbpfaaGreatDoor
open Go.RowKit

/-- The numbers of a domain that are among others: as a set of these. -/
theorem filter_is {L S : List Int} (hL : DomL L) (hs : S ≠ []) (hm : ∀ v ∈ S, v ∈ L) : L.filter (fun v => decide (v ∈ S)) = ofL S := by
  rw [ofL_ok _ (ofErr_sub (hL.2 (fun e => by
    obtain ⟨v, hv⟩ := List.exists_mem_of_ne_nil S hs
    have := hm v hv
    rw [e] at this
    cases this)) hs hm)]
  apply eq_of_rising _ _ (hL.1.filter _) (rising_setOf _)
  intro v
  rw [List.mem_filter, mem_setOf, decide_eq_true_eq]
  exact ⟨fun h => h.2, fun h => ⟨hm v h, h⟩⟩
theorem thoseE_is {L S : List Int} {M : List Bool} (k : Nat) (hk : k ≤ L.length) (h : ∀ i, i < L.length → (M.getD i false = true ↔ L.getD i 0 ∈ S)) : thoseE L M k = (L.take k).filter fun v => decide (v ∈ S) := by
  induction k with
  | zero => simp [thoseE]
  | succ k ih =>
    rw [thoseE_step, ih (by omega), List.take_succ_eq_append_getElem (show k < L.length by omega), List.filter_append]
    congr 1
    have := h k (by omega)
    have eL : L.getD k 0 = L[k] := by rw [List.getD_eq_getElem?_getD, List.getElem?_eq_getElem (show k < L.length by omega)]; rfl
    rw [eL] at this ⊢
    rw [List.filter_cons]
    by_cases hc : M.getD k false = true
    · rw [if_pos hc, if_pos (by simpa using this.1 hc)]; rfl
    · rw [if_neg hc, if_neg (by simpa using fun q => hc (this.2 q))]; rfl
section
variable {f : Int → Int → Option Int} {A B C : List Int}
/-- What the marks tell, all gone through. -/
theorem marks_tell {MA MB MC : List Bool} {an : Bool} (hA : DomL A) (hB : DomL B) (hC : DomL C) (h : Marks (hitN f A B C) A.length B.length C.length A.length 0 0 MA MB MC an) :
    an = decide (hitsE f C A B ≠ []) ∧ (an = true → thoseE A MA A.length = ofL (h1 (hitsE f C A B)) ∧ thoseE B MB B.length = ofL (h2 (hitsE f C A B)) ∧ thoseE C MC C.length = ofL (h3 (hitsE f C A B))) := by
  obtain ⟨ha, hb, hc, han⟩ := h.full
  have hne : an = true ↔ hitsE f C A B ≠ [] := by
    rw [han]
    constructor
    · rintro ⟨i, k, j, hi, hk, hj, hh⟩ e
      have : (A.getD i 0, B.getD k 0, C.getD j 0) ∈ hitsE f C A B := mem_hitsE.2 ⟨getD_mem A i hi, getD_mem B k hk, hh, getD_mem C j hj⟩
      rw [e] at this
      cases this
    · intro e
      obtain ⟨t, ht⟩ := List.exists_mem_of_ne_nil _ e
      obtain ⟨q1, q2, q3, q4⟩ := mem_hitsE.1 ht
      obtain ⟨i, hi, e1⟩ := mem_getD_iff.1 q1
      obtain ⟨k, hk, e2⟩ := mem_getD_iff.1 q2
      obtain ⟨j, hj, e3⟩ := mem_getD_iff.1 q4
      exact ⟨i, k, j, hi, hk, hj, by unfold hitN; rw [e1, e2, e3]; exact q3⟩
  refine ⟨?_, fun hyes => ?_⟩
  · rw [Bool.eq_iff_iff, decide_eq_true_eq]; exact hne
  · obtain ⟨n1, n2, n3⟩ := h_ne (hne.1 hyes)
    refine ⟨?_, ?_, ?_⟩
    · rw [thoseE_is (S := h1 (hitsE f C A B)) A.length (Nat.le_refl _) (fun i hi => ?_), List.take_of_length_le (Nat.le_refl _), filter_is hA n1 (fun v hv => (mem_h1.1 hv).1)]
      rw [ha i hi, mem_h1]
      constructor
      · rintro ⟨k, j, hk, hj, hh⟩
        exact ⟨getD_mem A i hi, _, _, getD_mem B k hk, getD_mem C j hj, hh⟩
      · rintro ⟨-, b, r, q1, q2, q3⟩
        obtain ⟨k, hk, e2⟩ := mem_getD_iff.1 q1
        obtain ⟨j, hj, e3⟩ := mem_getD_iff.1 q2
        exact ⟨k, j, hk, hj, by unfold hitN; rw [e2, e3]; exact q3⟩
    · rw [thoseE_is (S := h2 (hitsE f C A B)) B.length (Nat.le_refl _) (fun k hk => ?_), List.take_of_length_le (Nat.le_refl _), filter_is hB n2 (fun v hv => (mem_h2.1 hv).1)]
      rw [hb k hk, mem_h2]
      constructor
      · rintro ⟨i, j, hi, hj, hh⟩
        exact ⟨getD_mem B k hk, _, _, getD_mem A i hi, getD_mem C j hj, hh⟩
      · rintro ⟨-, a, r, q1, q2, q3⟩
        obtain ⟨i, hi, e2⟩ := mem_getD_iff.1 q1
        obtain ⟨j, hj, e3⟩ := mem_getD_iff.1 q2
        exact ⟨i, j, hi, hj, by unfold hitN; rw [e2, e3]; exact q3⟩
    · rw [thoseE_is (S := h3 (hitsE f C A B)) C.length (Nat.le_refl _) (fun j hj => ?_), List.take_of_length_le (Nat.le_refl _), filter_is hC n3 (fun v hv => (mem_h3.1 hv).1)]
      rw [hc j hj, mem_h3]
      constructor
      · rintro ⟨i, k, hi, hk, hh⟩
        exact ⟨getD_mem C j hj, _, _, getD_mem A i hi, getD_mem B k hk, hh⟩
      · rintro ⟨-, a, b, q1, q2, q3⟩
        obtain ⟨i, hi, e2⟩ := mem_getD_iff.1 q1
        obtain ⟨k, hk, e3⟩ := mem_getD_iff.1 q2
        exact ⟨i, k, hi, hk, by unfold hitN; rw [e2, e3]; exact q3⟩
end
/-- Where few pairs are looked at: what is left. -/
theorem mulE_few {c : ConL} {A B C : List Int} (hf : fitsE c [A, B, C] 5 7 = true) (hA : DomL A) (hB : DomL B) (hC : DomL C) (hn : A.length * B.length ≤ 4096) :
    mulE c [A, B, C] = if hitsE (kindV c.kind) C A B = [] then none else some [ofL (h1 (hitsE (kindV c.kind) C A B)), ofL (h2 (hitsE (kindV c.kind) C A B)), ofL (h3 (hitsE (kindV c.kind) C A B))] := by
  have hm : mulL c.kind A B C = [ofL (h1 (hitsE (kindV c.kind) C A B)), ofL (h2 (hitsE (kindV c.kind) C A B)), ofL (h3 (hitsE (kindV c.kind) C A B))] := by unfold mulL; rw [if_pos hn]
  unfold mulE
  rw [if_pos hf]
  have e0 : ([A, B, C] : List (List Int)).getD 0 [] = A := rfl
  have e1 : ([A, B, C] : List (List Int)).getD 1 [] = B := rfl
  have e2 : ([A, B, C] : List (List Int)).getD 2 [] = C := rfl
  rw [e0, e1, e2, hm]
  by_cases h : hitsE (kindV c.kind) C A B = []
  · rw [if_pos h, h]
    rfl
  · rw [if_neg h]
    obtain ⟨n1, n2, n3⟩ := h_ne h
    obtain ⟨t, ht⟩ := List.exists_mem_of_ne_nil _ h
    obtain ⟨q1, q2, q3, q4⟩ := mem_hitsE.1 ht
    have k1 := ofL_ne (ofErr_sub (hA.2 (List.ne_nil_of_mem q1)) n1 (fun v hv => (mem_h1.1 hv).1)) n1
    have k2 := ofL_ne (ofErr_sub (hB.2 (List.ne_nil_of_mem q2)) n2 (fun v hv => (mem_h2.1 hv).1)) n2
    have k3 := ofL_ne (ofErr_sub (hC.2 (List.ne_nil_of_mem q4)) n3 (fun v hv => (mem_h3.1 hv).1)) n3
    rw [if_neg]
    simp [k1, k2, k3]
end Go.Proofs.YtkhmocbfkpbpfaaGreatDoor

/- Contracts of the document's Range and Between (layer 11): numbers one behind the other, those of a list within bounds. -/
namespace Go.Proofs.YtkhmocbfkpbpfaaGreatDoor
open Go.RowKit Go.Sort

/-- So many numbers, from one on. -/
def rangeFrom (a : Int) (n : Nat) : List Int := (List.range n).map fun (i : Nat) => a + (i : Int)
theorem rangeFrom_step (a : Int) (k : Nat) : rangeFrom a (k + 1) = rangeFrom a k ++ [a + (k : Int)] := by
  unfold rangeFrom
  rw [List.range_succ, List.map_append]
  rfl
theorem rangeFrom_len (a : Int) (n : Nat) : (rangeFrom a n).length = n := by simp [rangeFrom]
/-- Those of a list's first ones within bounds. -/
def betweenE (L : List Int) (lo hi : Int) : List Int := L.filter fun v => decide (lo ≤ v ∧ v ≤ hi)

set_option maxHeartbeats 2000000 in
set_option maxRecDepth 100000 in
theorem rangeFrom_any (a : Int) (n : Nat) (w : World) (ha : -1000000 ≤ a ∧ a ≤ 1000000) (hn : n ≤ 200000) :
    Calls Tryz.prog 32 #[.int .i64 a, .int .i64 (n : Nat)] w fun e w' => (∃ y : Sl, e = .returned (.slice y.A y.n y.c) ∧ Row3 w' w.heap.size y (rangeFrom a n)) ∧ Below w.heap.size w w' := by
  go_enter Tryz.func32, Tryz.ntmps32
  go_wp2_with fail
  go_loopw [5, 6] (fun s i wr => ∃ (k : Nat) (y : Sl), s = .slice y.A y.n y.c ∧ i = .int .i64 (k : Nat) ∧ k ≤ n ∧ Hid (SepL w.heap.size wr [(y, rangeFrom a k)]) ∧ Hid (Below w.heap.size w wr)) (fun _ i _ => n - (intOf i).toNat)
  case atStart => exact ⟨0, ⟨none, 0, 0⟩, rfl, rfl, by omega, Lib.hid ((SepL.nil _ w (Nat.le_refl _)).cons (Below.refl _ _) (Row3.nil _ _) (by intro g hg; cases hg)), Lib.hid (Below.refl _ _)⟩
  case round =>
    obtain ⟨k, y, rfl, rfl, hk, HS, HB⟩ := hrel
    by_cases hlt : k < n
    · have HE := Lib.hid (rangeFrom_step a k)
      have NL : Hid ((rangeFrom a k).length < 1000000) := Lib.hid (by rw [rangeFrom_len]; omega)
      have w1 : IntKind.i64.wrap (a + (k : Int)) = a + (k : Int) := IntWalk.i64_in _ (by omega)
      go_wp2_with (at_builtin; refine wpList_append_sep rfl _ _ 30 rfl Tryz.underlying30 Tryz.info3 HS.out 0 y _ (a + (k : Int)) rfl rfl rfl NL.out ?_; intro y1 w4 S4 b4; have HS4 := Lib.hid S4; have HB4 := Lib.hid (HB.out.trans b4); clear S4 b4)
      go_roundw
      case rel => exact ⟨k + 1, y1, rfl, by go_num, by omega, Lib.hid (by rw [HE.out]; exact HS4.out), HB4⟩
      case measure => simp [intOf]; omega
    · have HR := Lib.hid (HS.out.row (k := 0) rfl)
      have e3 : k = n := by omega
      subst e3
      clear hlt
      go_wp2_with fail
      go_ret
      exact ⟨⟨y, rfl, HR.out⟩, HB.out⟩

set_option maxHeartbeats 2000000 in
set_option maxRecDepth 100000 in
theorem between_of (x : Sl) (L : List Int) (lo hi : Int) (w : World) (h : IsInts w x L) (hb : L.length ≤ 200000) :
    Calls Tryz.prog 88 #[.slice x.A x.n x.c, .int .i64 lo, .int .i64 hi] w fun e w' => (∃ y : Sl, e = .returned (.slice y.A y.n y.c) ∧ Row3 w' w.heap.size y (betweenE L lo hi)) ∧ Below w.heap.size w w' := by
  obtain ⟨A, n, c⟩ := x
  have HI := Lib.hid h
  have hn : n = L.length := h.len
  subst hn
  clear h
  go_enter Tryz.func88, Tryz.ntmps88
  go_wp2_with fail
  go_loopw [7, 8] (fun s i wr => ∃ (k : Nat) (y : Sl), s = .slice y.A y.n y.c ∧ i = .int .i64 (k : Nat) ∧ k ≤ L.length ∧ Hid (SepL w.heap.size wr [(y, betweenE (L.take k) lo hi)]) ∧ Hid (Below w.heap.size w wr)) (fun _ i _ => L.length - (intOf i).toNat)
  case atStart => exact ⟨0, ⟨none, 0, 0⟩, rfl, rfl, by omega, Lib.hid ((SepL.nil _ w (Nat.le_refl _)).cons (Below.refl _ _) (Row3.nil _ _) (by intro g hg; cases hg)), Lib.hid (Below.refl _ _)⟩
  case round =>
    obtain ⟨k, y, rfl, rfl, hk, HS, HB⟩ := hrel
    by_cases hlt : k < L.length
    · obtain ⟨ad, eA, hbk, hcl⟩ := (HI.out.below HB.out).lies (show 0 < L.length by omega)
      simp only at eA
      subst eA
      have hv : wr.cell? (ad.add k) = some (.int .i64 (L.getD k 0)) := hcl k hlt
      have HST : Hid (betweenE (L.take (k + 1)) lo hi = betweenE (L.take k) lo hi ++ if lo ≤ L.getD k 0 ∧ L.getD k 0 ≤ hi then [L.getD k 0] else []) := Lib.hid (by
        unfold betweenE
        rw [List.take_succ_eq_append_getElem hlt, List.filter_append, List.getD_eq_getElem?_getD, List.getElem?_eq_getElem hlt]
        congr 1
        rw [List.filter_cons]
        simp)
      have NL : Hid ((betweenE (L.take k) lo hi).length < 1000000) := Lib.hid (by
        have := List.length_filter_le (fun v => decide (lo ≤ v ∧ v ≤ hi)) (L.take k)
        rw [List.length_take] at this
        unfold betweenE
        omega)
      obtain ⟨vv, hvv⟩ : ∃ vv, vv = L.getD k 0 := ⟨_, rfl⟩
      rw [← hvv] at hv HST
      clear hvv hcl hbk
      by_cases g1 : lo ≤ vv
      · by_cases g2 : vv ≤ hi
        · have HE : Hid (betweenE (L.take (k + 1)) lo hi = betweenE (L.take k) lo hi ++ [vv]) := Lib.hid (by rw [HST.out, if_pos ⟨g1, g2⟩])
          have t1 : decide (lo ≤ vv) = true := by simpa using g1
          have t2 : decide (vv ≤ hi) = true := by simpa using g2
          clear HST g1 g2
          go_wp2_with (at_builtin; refine wpList_append_sep rfl _ _ 30 rfl Tryz.underlying30 Tryz.info3 HS.out 0 y _ vv rfl rfl rfl NL.out ?_; intro y1 w4 S4 b4; have HS4 := Lib.hid S4; have HB4 := Lib.hid (HB.out.trans b4); clear S4 b4)
          go_roundw
          case rel => exact ⟨k + 1, y1, rfl, by go_num, by omega, Lib.hid (by rw [HE.out]; exact HS4.out), HB4⟩
          case measure => simp [intOf]; omega
        · have HE : Hid (betweenE (L.take (k + 1)) lo hi = betweenE (L.take k) lo hi) := Lib.hid (by rw [HST.out, if_neg (fun q => g2 q.2), List.append_nil])
          have t1 : decide (lo ≤ vv) = true := by simpa using g1
          have t2 : decide (vv ≤ hi) = false := by simpa using g2
          clear HST g1 g2
          go_wp2_with fail
          go_roundw
          case rel => exact ⟨k + 1, y, rfl, by go_num, by omega, Lib.hid (by rw [HE.out]; exact HS.out), HB⟩
          case measure => simp [intOf]; omega
      · have HE : Hid (betweenE (L.take (k + 1)) lo hi = betweenE (L.take k) lo hi) := Lib.hid (by rw [HST.out, if_neg (fun q => g1 q.1), List.append_nil])
        have t1 : decide (lo ≤ vv) = false := by simpa using g1
        clear HST g1
        go_wp2_with fail
        go_roundw
        case rel => exact ⟨k + 1, y, rfl, by go_num, by omega, Lib.hid (by rw [HE.out]; exact HS.out), HB⟩
        case measure => simp [intOf]; omega
    · have HR := Lib.hid (HS.out.row (k := 0) rfl)
      have e3 : k = L.length := by omega
      subst e3
      rw [List.take_of_length_le (Nat.le_refl _)] at HR
      clear hlt
      go_wp2_with fail
      go_ret
      exact ⟨⟨y, rfl, HR.out⟩, HB.out⟩
end Go.Proofs.YtkhmocbfkpbpfaaGreatDoor

/- Contracts of the document's less, minus, abs (layer 12). -/
namespace Go.Proofs.YtkhmocbfkpbpfaaGreatDoor
open Go.RowKit Go.Sort

theorem rless_any (a b : Int) (w : World) : Calls Tryz.prog 126 #[.int .i64 a, .int .i64 b] w fun e w' => e = .returned (.int .i64 (selV 9 a b)) ∧ w = w' := by
  have HV : Hid (selV 9 a b = min a b) := Lib.hid rfl
  by_cases g : a < b
  · have HW : Hid (min a b = a) := Lib.hid (by omega)
    have t1 : decide (a < b) = true := by simpa using g
    clear g
    go_enter Tryz.func126, Tryz.ntmps126
    go_wp2_with fail
    go_ret
    exact ⟨by rw [HV.out, HW.out]; rfl, rfl⟩
  · have HW : Hid (min a b = b) := Lib.hid (by omega)
    have t1 : decide (a < b) = false := by simpa using g
    clear g
    go_enter Tryz.func126, Tryz.ntmps126
    go_wp2_with fail
    go_ret
    exact ⟨by rw [HV.out, HW.out]; rfl, rfl⟩

/-- All of a list with the other sign, the last one first; from a place on. -/
def minusTo (L : List Int) (k : Nat) : List Int := ((L.drop k).map fun v => -v).reverse
def minusE (L : List Int) : List Int := (L.map fun v => -v).reverse
theorem minusTo_step (L : List Int) (k : Nat) (h : k < L.length) : minusTo L k = minusTo L (k + 1) ++ [-(L.getD k 0)] := by
  unfold minusTo
  rw [List.drop_eq_getElem_cons h, List.map_cons, List.reverse_cons, List.getD_eq_getElem?_getD, List.getElem?_eq_getElem h]
  rfl
theorem minusTo_all (L : List Int) : minusTo L L.length = [] := by simp [minusTo]
theorem minusTo_zero (L : List Int) : minusTo L 0 = minusE L := by simp [minusTo, minusE]

set_option maxHeartbeats 2000000 in
set_option maxRecDepth 100000 in
theorem minus_any (x : Sl) (L : List Int) (w : World) (h : IsInts w x L) (hb : L.length ≤ 200000) (iL : ∀ v ∈ L, -1000000 ≤ v ∧ v ≤ 1000000) :
    Calls Tryz.prog 62 #[.slice x.A x.n x.c] w fun e w' => (∃ y : Sl, e = .returned (.slice y.A y.n y.c) ∧ Row3 w' w.heap.size y (minusE L)) ∧ Below w.heap.size w w' := by
  obtain ⟨A, n, c⟩ := x
  have hn : n = L.length := h.len
  subst hn
  have HI := Lib.hid h
  have HIL := Lib.hid iL
  have w0 : IntKind.i64.wrap (((L.length : Nat) : Int) - 1) = ((L.length : Nat) : Int) - 1 := IntWalk.i64_in _ (by omega)
  have HA0 : Hid (minusTo L L.length = []) := Lib.hid (minusTo_all L)
  have HZ0 : Hid (minusTo L 0 = minusE L) := Lib.hid (minusTo_zero L)
  clear h iL
  obtain ⟨ln, hln⟩ : ∃ ln, ln = L.length := ⟨_, rfl⟩
  have HLN := Lib.hid hln
  rw [← hln] at w0 HA0 HI hb ⊢
  clear hln
  go_enter Tryz.func62, Tryz.ntmps62
  go_wp2_with fail
  go_loopw [3, 4] (fun s i wr => ∃ (k : Nat) (y : Sl) (z : Int), s = .slice y.A y.n y.c ∧ i = .int .i64 z ∧ Hid (z = (k : Int) - 1) ∧ k ≤ ln ∧ Hid (SepL w.heap.size wr [(y, minusTo L k)]) ∧ Hid (Below w.heap.size w wr)) (fun _ i _ => (intOf i + 1).toNat)
  case atStart => exact ⟨ln, ⟨none, 0, 0⟩, _, rfl, rfl, Lib.hid rfl, Nat.le_refl _, Lib.hid (by rw [HA0.out]; exact (SepL.nil _ w (Nat.le_refl _)).cons (Below.refl _ _) (Row3.nil _ _) (by intro g hg; cases hg)), Lib.hid (Below.refl _ _)⟩
  case round =>
    obtain ⟨k, y, z, rfl, rfl, HZ, hk, HS, HB⟩ := hrel
    clear w0
    cases k with
    | zero =>
      have t1 : decide ((0 : Int) ≤ z) = false := by have := HZ.out; simp; omega
      have HR := Lib.hid (HS.out.row (k := 0) rfl)
      clear hk
      go_wp2_with fail
      go_ret
      exact ⟨⟨y, rfl, by have := HR.out; rwa [HZ0.out] at this⟩, HB.out⟩
    | succ m =>
      have hzm : z = ((m : Nat) : Int) := by have := HZ.out; omega
      subst hzm
      clear HZ
      have hlt : m < ln := by omega
      obtain ⟨ad, eA, hbk, hcl⟩ := (HI.out.below HB.out).lies (show 0 < ln by omega)
      simp only at eA
      subst eA
      have hv : wr.cell? (ad.add m) = some (.int .i64 (L.getD m 0)) := hcl m hlt
      have hin := HIL.out _ (getD_mem L m (by rw [← HLN.out]; exact hlt))
      have HST := Lib.hid (minusTo_step L m (by rw [← HLN.out]; exact hlt))
      have NL : Hid ((minusTo L (m + 1)).length < 1000000) := Lib.hid (by
        have h := HLN.out
        unfold minusTo
        simp only [List.length_reverse, List.length_map, List.length_drop]
        omega)
      obtain ⟨vv, hvv⟩ : ∃ vv, vv = L.getD m 0 := ⟨_, rfl⟩
      rw [← hvv] at hv hin HST
      have wn : IntKind.i64.wrap (-vv) = -vv := IntWalk.i64_in _ (by omega)
      have w1 : IntKind.i64.wrap (((m : Nat) : Int) - 1) = ((m : Nat) : Int) - 1 := IntWalk.i64_in _ (by omega)
      clear hvv hcl hbk hin
      go_wp2_with (at_builtin; refine wpList_append_sep rfl _ _ 30 rfl Tryz.underlying30 Tryz.info3 HS.out 0 y _ (-vv) rfl rfl rfl NL.out ?_; intro y1 w4 S4 b4; have HS4 := Lib.hid S4; have HB4 := Lib.hid (HB.out.trans b4); clear S4 b4)
      go_roundw
      case rel => exact ⟨m, y1, _, rfl, rfl, Lib.hid rfl, by omega, Lib.hid (by rw [HST.out]; exact HS4.out), HB4⟩
      case measure => simp [intOf]

/-- A hit of an absolute value, by its places. -/
def hitA (A B : List Int) (i k _j : Nat) : Prop := absV (A.getD i 0) = B.getD k 0
/-- Two rows made into a slice. -/
theorem rows_build2 {W : World} {y1 y2 : Sl} {L1 L2 : List Int} (h1 : IsInts W y1 L1) (h2 : IsInts W y2 L2) :
    IsRows (W.alloc (.cells #[.slice y1.A y1.n y1.c, .slice y2.A y2.n y2.c] 30)) ⟨some ⟨W.heap.size, 0, none⟩, 2, 2⟩ [L1, L2] := by
  have b := below1 W (.cells #[.slice y1.A y1.n y1.c, .slice y2.A y2.n y2.c] 30)
  have hn := heap_alloc_new W (.cells #[.slice y1.A y1.n y1.c, .slice y2.A y2.n y2.c] 30)
  refine ⟨rfl, by simp, fun _ => ⟨⟨W.heap.size, 0, none⟩, rfl, (Array.getElem?_eq_some_iff.1 hn).1, fun i hi => ?_⟩⟩
  match i, hi with
  | 0, _ => exact ⟨y1, by rw [add_zero]; exact blk_cell hn rfl, h1.below b⟩
  | 1, _ => exact ⟨y2, by simp [Addr.add], h2.below b⟩

set_option maxHeartbeats 8000000 in
set_option maxRecDepth 100000 in
theorem refabs_walk (x : Sl) (A Bs : List Int) (w : World) (h : IsRows w x [A, Bs]) (hA : A.length ≤ 200000) (hB : Bs.length ≤ 200000) (iA : ∀ v ∈ A, -1000000 ≤ v ∧ v ≤ 1000000) :
    Calls Tryz.prog 59 #[.slice x.A x.n x.c] w fun e w' => (∃ (an : Bool) (MA MB MC : List Bool), Marks (hitA A Bs) A.length Bs.length 1 A.length 0 0 MA MB MC an ∧
      ∃ (y : Sl), e = .returned (.tuple #[.slice y.A y.n y.c, .bool an]) ∧ IsRows w' y (if an = true then [thoseE A MA A.length, thoseE Bs MB Bs.length] else [])) ∧ Below w.heap.size w w' := by
  obtain ⟨xA, xn, xc⟩ := x
  have hxn : xn = 2 := h.len
  subst hxn
  obtain ⟨ad, uA, e0, c0, hA0⟩ := rows_at h 0 (show 0 < 2 by omega)
  obtain ⟨ad1, uB, e1, c1, hB0⟩ := rows_at h 1 (show 1 < 2 by omega)
  simp only at e0 e1
  subst e0
  obtain rfl : ad = ad1 := Option.some.inj e1
  obtain ⟨ab, ao, af⟩ := ad
  have c0 : w.cell? ⟨ab, ao, af⟩ = some (.slice uA.A uA.n uA.c) := by rw [add_zero] at c0; exact c0
  have c1 : w.cell? ⟨ab, ao + 1, none⟩ = some (.slice uB.A uB.n uB.c) := by simpa [Addr.add] using c1
  obtain ⟨aA, aN, aC⟩ := uA
  obtain ⟨bA, bN, bC⟩ := uB
  have hA1 : IsInts w ⟨aA, aN, aC⟩ A := hA0
  have hB1 : IsInts w ⟨bA, bN, bC⟩ Bs := hB0
  obtain rfl : aN = A.length := hA1.len
  obtain rfl : bN = Bs.length := hB1.len
  have HA := Lib.hid hA1
  have HB := Lib.hid hB1
  have HIA := Lib.hid iA
  have mA := make_bits A.length hA
  have mB := make_bits Bs.length hB
  obtain ⟨wa, hwa⟩ : ∃ wa, w.alloc (.cells (Array.replicate A.length (Value.bool false)) 4) = wa := ⟨_, rfl⟩
  obtain ⟨wb, hwb⟩ : ∃ wb, wa.alloc (.cells (Array.replicate Bs.length (Value.bool false)) 4) = wb := ⟨_, rfl⟩
  have n1 : MarkB wa w.heap.size (List.replicate A.length false) := hwa ▸ mark_new w _
  have n2 : MarkB wb wa.heap.size (List.replicate Bs.length false) := hwb ▸ mark_new wa _
  have ba : Below w.heap.size w wa := hwa ▸ below1 w _
  have bb : Below wa.heap.size wa wb := hwb ▸ below1 wa _
  have b0 : Below w.heap.size w wb := ba.trans (bb.mono ba.size)
  have l1 : w.heap.size < wa.heap.size := n1.lt
  have HM0 : Hid (MarkB wb w.heap.size (List.replicate A.length false) ∧ MarkB wb wa.heap.size (List.replicate Bs.length false)) := Lib.hid ⟨n1.below bb, n2⟩
  have HL : Hid (w.heap.size < wa.heap.size) := Lib.hid l1
  have B0 := Lib.hid b0
  have adlt : ab < w.heap.size := World.block_lt_of_cell? _ _ c0
  have qa : ∀ {W : World}, Below w.heap.size w W → W.cell? ⟨ab, ao, af⟩ = some (.slice aA A.length aC) := fun hW => (hW.cell (p := ⟨ab, ao, af⟩) adlt).trans c0
  have qb : ∀ {W : World}, Below w.heap.size w W → W.cell? ⟨ab, ao + 1, none⟩ = some (.slice bA Bs.length bC) := fun hW => (hW.cell (p := ⟨ab, ao + 1, none⟩) adlt).trans c1
  have HQ := Lib.hid (fun W (hW : Below w.heap.size w W) => And.intro (qa hW) (qb hW))
  have p1 : wa.cell? ⟨ab, ao + 1, none⟩ = some (.slice bA Bs.length bC) := qb ba
  clear hA0 hB0 hA1 hB1 h n1 n2 ba bb b0 l1 qa qb e1 adlt iA
  go_enter Tryz.func59, Tryz.ntmps59
  go_upto_region 3 with fail
  clear hwa hwb mA mB p1 c0 c1
  obtain ⟨ga, hga⟩ : ∃ g, g = w.heap.size := ⟨_, rfl⟩
  obtain ⟨gb, hgb⟩ : ∃ g, g = wa.heap.size := ⟨_, rfl⟩
  have HGA := Lib.hid hga
  rw [← hga, ← hgb] at HM0
  rw [← hga, ← hgb] at HL
  rw [← hga, ← hgb]
  clear hga hgb
  go_wp2_with fail
  go_loopw [6, 7] (fun a b wr => ∃ (i : Nat) (MA MB MC : List Bool) (an : Bool), a = .bool an ∧ b = .int .i64 (i : Nat) ∧ i ≤ A.length ∧ Hid (Marks (hitA A Bs) A.length Bs.length 1 i 0 0 MA MB MC an) ∧ Hid (MarkB wr ga MA ∧ MarkB wr gb MB) ∧ Hid (Below w.heap.size w wr)) (fun _ b _ => A.length - (intOf b).toNat)
  case atStart => exact ⟨0, _, _, _, false, rfl, rfl, by omega, Lib.hid (Marks.start _ _ _ _), HM0, B0⟩
  case round =>
    clear HM0 B0
    obtain ⟨i, MA, MB, MC, an, rfl, rfl, hi, HMK, HMB, HBR⟩ := hrel
    obtain ⟨q0, -⟩ := HQ.out wr HBR.out
    by_cases hlt : i < A.length
    · obtain ⟨wo, rfl⟩ : ∃ wo, wo = wr := ⟨_, rfl⟩
      go_wp2_with fail
      go_loopw [6, 8] (fun a b wr => ∃ (k : Nat) (MA MB MC : List Bool) (an : Bool), a = .bool an ∧ b = .int .i64 (k : Nat) ∧ k ≤ Bs.length ∧ Hid (Marks (hitA A Bs) A.length Bs.length 1 i k 0 MA MB MC an) ∧ Hid (MarkB wr ga MA ∧ MarkB wr gb MB) ∧ Hid (Below w.heap.size w wr)) (fun _ b _ => Bs.length - (intOf b).toNat)
      case atStart => exact ⟨0, MA, MB, MC, an, rfl, rfl, by omega, HMK, HMB, HBR⟩
      case round =>
        clear HMK HMB HBR q0
        obtain ⟨k, MA, MB, MC, an, rfl, rfl, hk, HMK, HMB, HBR⟩ := hrel
        obtain ⟨q0, q1⟩ := HQ.out wr HBR.out
        by_cases hltk : k < Bs.length
        · obtain ⟨adA, eA, hbA, hcA⟩ := (HA.out.below HBR.out).lies (show 0 < A.length by omega)
          obtain ⟨adB, eB, hbB, hcB⟩ := (HB.out.below HBR.out).lies (show 0 < Bs.length by omega)
          simp only at eA eB
          have va : wr.cell? (adA.add i) = some (.int .i64 (A.getD i 0)) := hcA i hlt
          have vb : wr.cell? (adB.add k) = some (.int .i64 (Bs.getD k 0)) := hcB k hltk
          have inA := HIA.out _ (getD_mem A i hlt)
          subst eA
          subst eB
          have HHIT : Hid (hitA A Bs i k 0 ↔ absV (A.getD i 0) = Bs.getD k 0) := Lib.hid Iff.rfl
          obtain ⟨av, hav⟩ : ∃ v, v = A.getD i 0 := ⟨_, rfl⟩
          obtain ⟨bv, hbv⟩ : ∃ v, v = Bs.getD k 0 := ⟨_, rfl⟩
          rw [← hav] at va HHIT inA
          rw [← hbv] at vb HHIT
          have wn : IntKind.i64.wrap (-av) = -av := IntWalk.i64_in _ (by omega)
          clear hcA hcB hbA hbB inA hav hbv
          have HS : Hid ((decide (av < 0) = true ∧ absV av = -av) ∨ (decide (av < 0) = false ∧ absV av = av)) := Lib.hid (by
            unfold absV
            by_cases g : av < 0
            · exact .inl ⟨by simpa using g, by omega⟩
            · exact .inr ⟨by simpa using g, by omega⟩)
          by_cases hh : absV av = bv
          · have HNX := Lib.hid (HMK.out.yes (HHIT.out.2 hh) hlt hltk (show 0 < 1 by omega)).next
            have hlA : i < MA.length := by rw [HMK.out.la]; exact hlt
            have hlB : k < MB.length := by rw [HMK.out.lb]; exact hltk
            have LL := HL.out
            have LG := HGA.out
            have m1 := HMB.out.1
            have a1 := m1.cell hlA
            have f1 := m1.free i
            obtain ⟨x1, hx1⟩ : ∃ x1, wr.setCell ⟨ga, i, none⟩ (.bool true) = x1 := ⟨_, rfl⟩
            have M1 : Hid (MarkB x1 ga (MA.set i true) ∧ MarkB x1 gb MB) := Lib.hid (hx1 ▸ ⟨m1.put i, HMB.out.2.far (by omega) i _⟩)
            have a2 := M1.out.2.cell hlB
            have f2 := M1.out.2.free k
            obtain ⟨x2, hx2⟩ : ∃ x2, x1.setCell ⟨gb, k, none⟩ (.bool true) = x2 := ⟨_, rfl⟩
            have M2 : Hid (MarkB x2 ga (MA.set i true) ∧ MarkB x2 gb (MB.set k true)) := Lib.hid (hx2 ▸ ⟨M1.out.1.far (by omega) k _, M1.out.2.put k⟩)
            have y1 := HBR.out.setCell (p := ⟨ga, i, none⟩) (show w.heap.size ≤ ga by omega) (.bool true)
            rw [hx1] at y1
            have y2 := y1.setCell (p := ⟨gb, k, none⟩) (show w.heap.size ≤ gb by omega) (.bool true)
            rw [hx2] at y2
            have B3 := Lib.hid y2
            clear m1 LL LG HMB HBR HMK M1 y1 y2 HHIT
            rcases HS.out with ⟨t1, e1⟩ | ⟨t1, e1⟩
            · have t2 : (-av == bv) = true := by rw [← e1, hh]; simp
              clear e1 hh HS
              go_wp2_with fail
              go_roundw
              case rel => exact ⟨k + 1, _, _, _, true, rfl, by go_num, by omega, HNX, M2, B3⟩
              case measure => simp [intOf]; omega
            · have t2 : (av == bv) = true := by rw [← hh, e1]; simp
              clear e1 hh HS
              go_wp2_with fail
              go_roundw
              case rel => exact ⟨k + 1, _, _, _, true, rfl, by go_num, by omega, HNX, M2, B3⟩
              case measure => simp [intOf]; omega
          · have HNX := Lib.hid (HMK.out.skip (fun j (q : hitA A Bs i k j) => hh (HHIT.out.1 q)))
            clear HHIT HMK
            rcases HS.out with ⟨t1, e1⟩ | ⟨t1, e1⟩
            · have t2 : (-av == bv) = false := by rw [beq_eq_false_iff_ne, ← e1]; exact hh
              clear e1 hh HS
              go_wp2_with fail
              go_roundw
              case rel => exact ⟨k + 1, MA, MB, MC, an, rfl, by go_num, by omega, HNX, HMB, HBR⟩
              case measure => simp [intOf]; omega
            · have t2 : (av == bv) = false := by rw [beq_eq_false_iff_ne, ← e1]; exact hh
              clear e1 hh HS
              go_wp2_with fail
              go_roundw
              case rel => exact ⟨k + 1, MA, MB, MC, an, rfl, by go_num, by omega, HNX, HMB, HBR⟩
              case measure => simp [intOf]; omega
        · have HNX := Lib.hid ((show Marks (hitA A Bs) A.length Bs.length 1 i Bs.length 0 MA MB MC an by have := HMK.out; rwa [show k = Bs.length by omega] at this).down)
          clear HMK q0
          go_wp2_with fail
          go_roundw
          case rel => exact ⟨i + 1, MA, MB, MC, an, rfl, by go_num, by omega, HNX, HMB, HBR⟩
          case measure => simp [intOf]; omega
    · have e3 : i = A.length := by omega
      subst e3
      clear hlt
      cases an with
      | false =>
        go_wp2_with fail
        go_ret2
        exact ⟨⟨false, MA, MB, MC, HMK.out, ⟨none, 0, 0⟩, rfl, IsRows.nil _⟩, HBR.out⟩
      | true =>
        have C1 := Lib.hid (those_any ⟨aA, A.length, aC⟩ A ga A.length MA wr (HA.out.below HBR.out) HMB.out.1 HMK.out.la hA)
        go_wp2_with fail
        refine C1.out.mono ?_
        rintro e w1 ⟨⟨y1, rfl, r1⟩, b1⟩
        have R1 := Lib.hid (ints_own r1 (by have := thoseE_len A MA A.length; omega))
        have B1 := Lib.hid (HBR.out.trans (b1.mono HBR.out.size))
        have HM1 : Hid (MarkB w1 gb MB) := Lib.hid (HMB.out.2.below b1)
        obtain ⟨-, q1⟩ := HQ.out w1 B1.out
        have C2 := Lib.hid (those_any ⟨bA, Bs.length, bC⟩ Bs gb Bs.length MB w1 (HB.out.below B1.out) HM1.out HMK.out.lb hB)
        clear C1 r1 b1 HMB q0
        go_wp2_with fail
        refine C2.out.mono ?_
        rintro e w2 ⟨⟨y2, rfl, r2⟩, b2⟩
        have R2 := Lib.hid (ints_own r2 (by have := thoseE_len Bs MB Bs.length; omega))
        have HF := Lib.hid (rows_build2 (R1.out.below b2) R2.out)
        have B2 := Lib.hid (B1.out.trans (b2.mono B1.out.size))
        have BF := Lib.hid (B2.out.trans ((below1 w2 (.cells #[.slice y1.A y1.n y1.c, .slice y2.A y2.n y2.c] 30)).mono B2.out.size))
        clear C2 r2 b2 HM1 q1 R1 R2 B1 B2
        go_wp2_with fail
        go_ret2
        exact ⟨⟨true, MA, MB, MC, HMK.out, ⟨some ⟨w2.heap.size, 0, none⟩, 2, 2⟩, rfl, HF.out⟩, BF.out⟩
end Go.Proofs.YtkhmocbfkpbpfaaGreatDoor
