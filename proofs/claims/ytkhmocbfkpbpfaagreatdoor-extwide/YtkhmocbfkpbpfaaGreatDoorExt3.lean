/- Numbers one behind the other are a domain's. No walk. -/
import Derived.Test.YtkhmocbfkpbpfaaGreatDoorMrd2
import Derived.Test.YtkhmocbfkpbpfaaGreatDoorLay00
import Derived.Test.YtkhmocbfkpbpfaaGreatDoorMrd3
import Derived.Test.YtkhmocbfkpbpfaaGreatDoorDWakes
import Derived.Test.YtkhmocbfkpbpfaaGreatDoorDMore
namespace Go.Proofs.YtkhmocbfkpbpfaaGreatDoor
open Go.RowKit

theorem rangeFrom_in {a v : Int} {n : Nat} (h : v ∈ rangeFrom a n) : a ≤ v ∧ v < a + (n : Int) := by
  unfold rangeFrom at h
  obtain ⟨i, hi, rfl⟩ := List.mem_map.1 h
  have := List.mem_range.1 hi
  omega
theorem rangeFrom_dom {a : Int} {n : Nat} (ha : -40000 ≤ a ∧ a ≤ 40000) (hn : n ≤ 200) : DomL (rangeFrom a n) := by
  refine ⟨?_, fun hne => ?_⟩
  · unfold rangeFrom
    rw [List.pairwise_map]
    exact List.pairwise_lt_range.imp fun h => by omega
  · unfold ofErr
    rw [if_neg (by simpa using hne), if_neg, if_neg]
    · intro e
      rw [List.any_eq_true] at e
      obtain ⟨u, hu, e⟩ := e
      rw [List.any_eq_true] at e
      obtain ⟨v, hv, e⟩ := e
      have h1 := rangeFrom_in hu
      have h2 := rangeFrom_in hv
      simp at e
      omega
    · intro e
      rw [List.any_eq_true] at e
      obtain ⟨u, hu, e⟩ := e
      have h1 := rangeFrom_in hu
      simp [mayB] at e
      omega
end Go.Proofs.YtkhmocbfkpbpfaaGreatDoor

/- What the document's Pairs leaves is what the program's solved leaves. No walk. -/
namespace Go.Proofs.YtkhmocbfkpbpfaaGreatDoor
open Go.RowKit

/-- The numbers of a domain that are among others: as a set of these. -/
theorem filter_is {L S : List Int} (hL : DomL L) (hs : S ≠ []) (hm : ∀ v ∈ S, v ∈ L) : L.filter (fun v => decide (v ∈ S)) = ofL S := by
  rw [ofL_ok _ (ofErr_sub (hL.2 (fun e => by
    obtain ⟨v, hv⟩ := List.exists_mem_of_ne_nil S hs
    have := hm v hv
    rw [e] at this
    cases this)) hs hm)]
  apply eq_of_rising _ _ (hL.1.filter _) (rising_setOf _)
  intro v
  rw [List.mem_filter, mem_setOf, decide_eq_true_eq]
  exact ⟨fun h => h.2, fun h => ⟨hm v h, h⟩⟩
theorem thoseE_is {L S : List Int} {M : List Bool} (k : Nat) (hk : k ≤ L.length) (h : ∀ i, i < L.length → (M.getD i false = true ↔ L.getD i 0 ∈ S)) : thoseE L M k = (L.take k).filter fun v => decide (v ∈ S) := by
  induction k with
  | zero => simp [thoseE]
  | succ k ih =>
    rw [thoseE_step, ih (by omega), List.take_succ_eq_append_getElem (show k < L.length by omega), List.filter_append]
    congr 1
    have := h k (by omega)
    have eL : L.getD k 0 = L[k] := by rw [List.getD_eq_getElem?_getD, List.getElem?_eq_getElem (show k < L.length by omega)]; rfl
    rw [eL] at this ⊢
    rw [List.filter_cons]
    by_cases hc : M.getD k false = true
    · rw [if_pos hc, if_pos (by simpa using this.1 hc)]; rfl
    · rw [if_neg hc, if_neg (by simpa using fun q => hc (this.2 q))]; rfl
section
variable {f : Int → Int → Option Int} {A B C : List Int}
/-- What the marks tell, all gone through. -/
theorem marks_tell {MA MB MC : List Bool} {an : Bool} (hA : DomL A) (hB : DomL B) (hC : DomL C) (h : Marks (hitN f A B C) A.length B.length C.length A.length 0 0 MA MB MC an) :
    an = decide (hitsE f C A B ≠ []) ∧ (an = true → thoseE A MA A.length = ofL (h1 (hitsE f C A B)) ∧ thoseE B MB B.length = ofL (h2 (hitsE f C A B)) ∧ thoseE C MC C.length = ofL (h3 (hitsE f C A B))) := by
  obtain ⟨ha, hb, hc, han⟩ := h.full
  have hne : an = true ↔ hitsE f C A B ≠ [] := by
    rw [han]
    constructor
    · rintro ⟨i, k, j, hi, hk, hj, hh⟩ e
      have : (A.getD i 0, B.getD k 0, C.getD j 0) ∈ hitsE f C A B := mem_hitsE.2 ⟨getD_mem A i hi, getD_mem B k hk, hh, getD_mem C j hj⟩
      rw [e] at this
      cases this
    · intro e
      obtain ⟨t, ht⟩ := List.exists_mem_of_ne_nil _ e
      obtain ⟨q1, q2, q3, q4⟩ := mem_hitsE.1 ht
      obtain ⟨i, hi, e1⟩ := mem_getD_iff.1 q1
      obtain ⟨k, hk, e2⟩ := mem_getD_iff.1 q2
      obtain ⟨j, hj, e3⟩ := mem_getD_iff.1 q4
      exact ⟨i, k, j, hi, hk, hj, by unfold hitN; rw [e1, e2, e3]; exact q3⟩
  refine ⟨?_, fun hyes => ?_⟩
  · rw [Bool.eq_iff_iff, decide_eq_true_eq]; exact hne
  · obtain ⟨n1, n2, n3⟩ := h_ne (hne.1 hyes)
    refine ⟨?_, ?_, ?_⟩
    · rw [thoseE_is (S := h1 (hitsE f C A B)) A.length (Nat.le_refl _) (fun i hi => ?_), List.take_of_length_le (Nat.le_refl _), filter_is hA n1 (fun v hv => (mem_h1.1 hv).1)]
      rw [ha i hi, mem_h1]
      constructor
      · rintro ⟨k, j, hk, hj, hh⟩
        exact ⟨getD_mem A i hi, _, _, getD_mem B k hk, getD_mem C j hj, hh⟩
      · rintro ⟨-, b, r, q1, q2, q3⟩
        obtain ⟨k, hk, e2⟩ := mem_getD_iff.1 q1
        obtain ⟨j, hj, e3⟩ := mem_getD_iff.1 q2
        exact ⟨k, j, hk, hj, by unfold hitN; rw [e2, e3]; exact q3⟩
    · rw [thoseE_is (S := h2 (hitsE f C A B)) B.length (Nat.le_refl _) (fun k hk => ?_), List.take_of_length_le (Nat.le_refl _), filter_is hB n2 (fun v hv => (mem_h2.1 hv).1)]
      rw [hb k hk, mem_h2]
      constructor
      · rintro ⟨i, j, hi, hj, hh⟩
        exact ⟨getD_mem B k hk, _, _, getD_mem A i hi, getD_mem C j hj, hh⟩
      · rintro ⟨-, a, r, q1, q2, q3⟩
        obtain ⟨i, hi, e2⟩ := mem_getD_iff.1 q1
        obtain ⟨j, hj, e3⟩ := mem_getD_iff.1 q2
        exact ⟨i, j, hi, hj, by unfold hitN; rw [e2, e3]; exact q3⟩
    · rw [thoseE_is (S := h3 (hitsE f C A B)) C.length (Nat.le_refl _) (fun j hj => ?_), List.take_of_length_le (Nat.le_refl _), filter_is hC n3 (fun v hv => (mem_h3.1 hv).1)]
      rw [hc j hj, mem_h3]
      constructor
      · rintro ⟨i, k, hi, hk, hh⟩
        exact ⟨getD_mem C j hj, _, _, getD_mem A i hi, getD_mem B k hk, hh⟩
      · rintro ⟨-, a, b, q1, q2, q3⟩
        obtain ⟨i, hi, e2⟩ := mem_getD_iff.1 q1
        obtain ⟨k, hk, e3⟩ := mem_getD_iff.1 q2
        exact ⟨i, k, hi, hk, by unfold hitN; rw [e2, e3]; exact q3⟩
end
/-- Where few pairs are looked at: what is left. -/
theorem mulE_few {c : ConL} {A B C : List Int} (hf : fitsE c [A, B, C] 5 7 = true) (hA : DomL A) (hB : DomL B) (hC : DomL C) (hn : A.length * B.length ≤ 4096) :
    mulE c [A, B, C] = if hitsE (kindV c.kind) C A B = [] then none else some [ofL (h1 (hitsE (kindV c.kind) C A B)), ofL (h2 (hitsE (kindV c.kind) C A B)), ofL (h3 (hitsE (kindV c.kind) C A B))] := by
  have hm : mulL c.kind A B C = [ofL (h1 (hitsE (kindV c.kind) C A B)), ofL (h2 (hitsE (kindV c.kind) C A B)), ofL (h3 (hitsE (kindV c.kind) C A B))] := by unfold mulL; rw [if_pos hn]
  unfold mulE
  rw [if_pos hf]
  have e0 : ([A, B, C] : List (List Int)).getD 0 [] = A := rfl
  have e1 : ([A, B, C] : List (List Int)).getD 1 [] = B := rfl
  have e2 : ([A, B, C] : List (List Int)).getD 2 [] = C := rfl
  rw [e0, e1, e2, hm]
  by_cases h : hitsE (kindV c.kind) C A B = []
  · rw [if_pos h, h]
    rfl
  · rw [if_neg h]
    obtain ⟨n1, n2, n3⟩ := h_ne h
    obtain ⟨t, ht⟩ := List.exists_mem_of_ne_nil _ h
    obtain ⟨q1, q2, q3, q4⟩ := mem_hitsE.1 ht
    have k1 := ofL_ne (ofErr_sub (hA.2 (List.ne_nil_of_mem q1)) n1 (fun v hv => (mem_h1.1 hv).1)) n1
    have k2 := ofL_ne (ofErr_sub (hB.2 (List.ne_nil_of_mem q2)) n2 (fun v hv => (mem_h2.1 hv).1)) n2
    have k3 := ofL_ne (ofErr_sub (hC.2 (List.ne_nil_of_mem q4)) n3 (fun v hv => (mem_h3.1 hv).1)) n3
    rw [if_neg]
    simp [k1, k2, k3]
end Go.Proofs.YtkhmocbfkpbpfaaGreatDoor

/- Contract of the document's Pairs: what is left is the solutions' values. -/
namespace Go.Proofs.YtkhmocbfkpbpfaaGreatDoor
open Go.RowKit Go.Sort

set_option maxHeartbeats 4000000 in
set_option maxRecDepth 100000 in
theorem pairs_any (kind : Int) (x : Sl) (A Bs C : List Int) (w : World) (hk : kind = 5 ∨ kind = 6 ∨ kind = 7 ∨ kind = 9 ∨ kind = 10) (h : IsRows w x [A, Bs, C]) (hA : DomL A) (hB : DomL Bs) (hC : DomL C) (lA : A.length ≤ 200000) (lB : Bs.length ≤ 200000) (lC : C.length ≤ 200000) :
    Calls Tryz.prog 60 #[.int .i64 kind, .slice x.A x.n x.c] w fun e w' => (∃ (y : Sl), e = .returned (.tuple #[.slice y.A y.n y.c, .bool (decide (hitsE (kindV kind) C A Bs ≠ []))]) ∧
      IsRows w' y (if hitsE (kindV kind) C A Bs = [] then [] else [ofL (h1 (hitsE (kindV kind) C A Bs)), ofL (h2 (hitsE (kindV kind) C A Bs)), ofL (h3 (hitsE (kindV kind) C A Bs))])) ∧ Below w.heap.size w w' := by
  refine (pairs_walk kind x A Bs C w hk h lA lB lC (domL_in hA) (domL_in hB)).mono ?_
  rintro e w' ⟨⟨an, MA, MB, MC, hM, y, rfl, hy⟩, b⟩
  obtain ⟨han, htell⟩ := marks_tell hA hB hC hM
  refine ⟨⟨y, by rw [han], ?_⟩, b⟩
  by_cases hh : hitsE (kindV kind) C A Bs = []
  · rw [if_pos hh]
    rw [if_neg (by rw [han]; simp [hh])] at hy
    exact hy
  · have hy1 : an = true := by rw [han]; simpa using hh
    rw [if_neg hh]
    rw [if_pos hy1] at hy
    obtain ⟨t1, t2, t3⟩ := htell hy1
    rw [t1, t2, t3] at hy
    exact hy
end Go.Proofs.YtkhmocbfkpbpfaaGreatDoor

/- Contract of ext's of. -/
namespace Go.Proofs.YtkhmocbfkpbpfaaGreatDoor
open Go.RowKit Go.Sort

/-- of: the domain of some values, none of none. -/
theorem extOf_any (y : Sl) (zs : List Int) (w : World) (hn : y.n = zs.length) (hl : Lies w y.A zs.length (i64f zs)) (hs : zs.length ≤ 1000000) :
    Calls Tryz.prog 171 #[.slice y.A y.n y.c] w fun e w' => (∃ d : Dv, e = .returned d.val ∧ IsDom w' d.val (ofL zs)) ∧ Below w.heap.size w w' := by
  obtain ⟨A, n, c⟩ := y
  simp only at hn hl ⊢
  subst hn
  obtain ⟨w0, hw0⟩ : ∃ w0, w.alloc (.cells #[.int .i64 0, .slice none 0 0, .int .i64 0] 53) = w0 := ⟨_, rfl⟩
  have hnew := heap_alloc_new w (.cells #[.int .i64 0, .slice none 0 0, .int .i64 0] 53)
  rw [hw0] at hnew
  have b0 : Below w.heap.size w w0 := hw0 ▸ below1 w _
  have hlt : w.heap.size < w0.heap.size := (Array.getElem?_eq_some_iff.1 hnew).1
  have CO := Lib.hid (of_dom A zs c w0 (hl.below b0) hs)
  have HN := Lib.hid hnew
  have B0 := Lib.hid b0
  have HLT := Lib.hid hlt
  generalize ofL zs = R at CO ⊢
  generalize zs.length = n at CO ⊢
  clear hl hs hnew b0 hlt
  go_enter Tryz.func171, Tryz.ntmps171
  go_upto_region 1 with fail
  clear hw0
  go_wp2_with fail
  refine CO.out.mono ?_
  rintro e w1 ⟨d, rfl, hd, b1⟩
  obtain ⟨dv, rfl, hdL⟩ := Dv.of hd
  have HD := Lib.hid hd
  have B1 := Lib.hid (B0.out.trans (b1.mono B0.out.size))
  have hk : w1.heap[w.heap.size]? = some (.cells #[.int .i64 0, .slice none 0 0, .int .i64 0] 53 (0, 0)) := (b1.block _ HLT.out).trans HN.out
  have HK := Lib.hid hk
  clear CO hd hdL b1 hk
  obtain ⟨w2, hw2⟩ : ∃ w2, w1.alloc (.cells dv.cells.toArray 53) = w2 := ⟨_, rfl⟩
  have hnew := heap_alloc_new w1 (.cells dv.cells.toArray 53)
  rw [hw2] at hnew
  have b2 : Below w1.heap.size w1 w2 := hw2 ▸ below1 w1 _
  have c0 : w2.cell? ⟨w1.heap.size, 0, none⟩ = some (.int .i64 dv.s) := blk_cell hnew rfl
  have c1 : w2.cell? ⟨w1.heap.size, 1, none⟩ = some (.slice dv.A dv.n dv.c) := blk_cell hnew rfl
  have c2 : w2.cell? ⟨w1.heap.size, 2, none⟩ = some (.int .i64 dv.z) := blk_cell hnew rfl
  have hk2 : w2.heap[w.heap.size]? = some (.cells #[.int .i64 0, .slice none 0 0, .int .i64 0] 53 (0, 0)) := (b2.block _ (Array.getElem?_eq_some_iff.1 HK.out).1).trans HK.out
  have e0 := box_cell hk2 (j := 0) rfl
  have e1 := box_cell hk2 (j := 1) rfl
  have e2 := box_cell hk2 (j := 2) rfl
  have f0 := box_free hk2 0
  have f1 := box_free hk2 1
  have f2 := box_free hk2 2
  have HD2 := Lib.hid (HD.out.below b2)
  have B2 := Lib.hid (B1.out.trans (b2.mono B1.out.size))
  have HK2 := Lib.hid hk2
  clear hnew b2 hk2 HK HD B1 B0
  go_upto_region 2 with fail
  clear hw2
  go_wp2_with fail
  obtain ⟨q0, q1, q2⟩ := out_cells w2 w.heap.size _ _ _ (.int .i64 dv.s) (.slice dv.A dv.n dv.c) (.int .i64 dv.z) e0 e1 e2
  refine bodyPost_ret (v := .agg #[.int .i64 dv.s, .slice dv.A dv.n dv.c, .int .i64 dv.z]) (by simp [results, Tryz.results171, go_sem, q0, q1, q2]) rfl ⟨⟨dv, rfl, ?_⟩, ?_⟩
  · exact HD2.out.put3 HK2.out (plain_int _ _ (by decide)) (plain_sl _ _ _) (plain_int _ _ (by decide)) _ _ _ (plain_int _ _ (by decide)) (plain_sl _ _ _)
  · exact out_below B2.out _ (Nat.le_refl _) _ _ _
end Go.Proofs.YtkhmocbfkpbpfaaGreatDoor

/- Contract of ext's solved: the values that are in a solution, domain by domain. -/
namespace Go.Proofs.YtkhmocbfkpbpfaaGreatDoor
open Go.RowKit Go.Sort

set_option maxHeartbeats 4000000 in
set_option maxRecDepth 100000 in
theorem solvedX_any (g : Nat) (eg : ∀ args w, (callFunc g args).run Tryz.prog w = .ok (.enter g args) w) (s : Int → Int → Int) (x : Sl) (A Bs C : List Int) (w : World) (h : DomsIn w x [A, Bs, C]) (hT : TabZ w) (hlen : A.length * Bs.length ≤ 4096) (hA : A.length ≤ 4096) (hB : Bs.length ≤ 4096)
    (hf : ∀ a b W, Calls Tryz.prog g #[.int .i64 a, .int .i64 b] W fun e w' => e = .returned (.int .i64 (s a b)) ∧ W = w')
    (hr : ∀ a b, -2000000 ≤ a ∧ a ≤ 2000000 → -2000000 ≤ b ∧ b ≤ 2000000 → -2000000 ≤ s a b ∧ s a b ≤ 2000000) :
    Calls Tryz.prog 114 #[.func (.func g) #[] #[], .slice x.A x.n x.c] w fun e w' => (∃ y : Sl, e = .returned (.slice y.A y.n y.c) ∧ DomsIn w' y [ofL (h1 (hitsE (fun a b => some (s a b)) C A Bs)), ofL (h2 (hitsE (fun a b => some (s a b)) C A Bs)), ofL (h3 (hitsE (fun a b => some (s a b)) C A Bs))]) ∧ Below w.heap.size w w' := by
  have HD := Lib.hid h
  have HT := Lib.hid hT
  have HF := Lib.hid hf
  have HR := Lib.hid hr
  have hxn : x.n = 3 := h.len
  obtain ⟨gb, o, d0, ex, p0, p1, p2, hD0⟩ := h.at_ 0 (by omega)
  obtain ⟨gb', o', d1, ex', q0, q1, q2, hD1⟩ := h.at_ 1 (by omega)
  have eg1 : gb' = gb ∧ o' = o := by rw [ex] at ex'; injection ex' with ex'; injection ex' with e1 e2 _; exact ⟨e1.symm, e2.symm⟩
  obtain ⟨rfl, rfl⟩ := eg1
  have hD0' : IsDom w d0.val A := hD0
  have hD1' : IsDom w d1.val Bs := hD1
  have HDA := Lib.hid hD0'
  have CL1 := Lib.hid (list_dom d1.val Bs w hD1' hT)
  have HLA := Lib.hid hD0'.lim
  have HLB := Lib.hid hD1'.lim
  obtain ⟨O1, hO1⟩ : ∃ O, O = ofL (h1 (hitsE (fun a b => some (s a b)) C A Bs)) := ⟨_, rfl⟩
  obtain ⟨O2, hO2⟩ : ∃ O, O = ofL (h2 (hitsE (fun a b => some (s a b)) C A Bs)) := ⟨_, rfl⟩
  obtain ⟨O3, hO3⟩ : ∃ O, O = ofL (h3 (hitsE (fun a b => some (s a b)) C A Bs)) := ⟨_, rfl⟩
  rw [← hO1, ← hO2, ← hO3]
  have HO1 := Lib.hid hO1
  have HO2 := Lib.hid hO2
  have HO3 := Lib.hid hO3
  clear hD0 hD1 hD0' hD1' h hT hf hr ex' hO1 hO2 hO3
  rw [ex]
  rw [Nat.zero_mul, Nat.add_zero] at p0 p1 p2
  rw [Nat.one_mul] at q0 q1 q2
  go_enter Tryz.func114, Tryz.ntmps114
  go_wp2_with fail
  refine CL1.out.mono ?_
  rintro e w1 ⟨v1, rfl, hB1, b1⟩
  obtain ⟨YB, kB, rfl⟩ := slice_row hB1
  have S1 : SepL w.heap.size w1 [(⟨YB, Bs.length, kB⟩, Bs)] := (SepL.nil _ w (Nat.le_refl _)).cons b1 hB1 (fun g hg => (own_lt' hB1 hg).1)
  have HS1 := Lib.hid S1
  have B1 := Lib.hid b1
  have CL0 := Lib.hid (list_dom d0.val A w1 (HDA.out.below b1) (HT.out.below b1))
  have p0 := (b1.cell (p := ⟨gb', o', none⟩) (World.block_lt_of_cell? _ _ p0)).trans p0
  have p1 := (b1.cell (p := ⟨gb', o' + 1, none⟩) (World.block_lt_of_cell? _ _ p1)).trans p1
  have p2 := (b1.cell (p := ⟨gb', o' + 2, none⟩) (World.block_lt_of_cell? _ _ p2)).trans p2
  clear CL1 S1 hB1 b1 q0 q1 q2
  go_wp2_with fail
  refine CL0.out.mono ?_
  rintro e w2 ⟨v2, rfl, hA2, b2⟩
  obtain ⟨YA, kA, rfl⟩ := slice_row hA2
  have S2 : SepL w.heap.size w2 [(⟨YA, A.length, kA⟩, A), (⟨YB, Bs.length, kB⟩, Bs)] := HS1.out.cons b2 (own_base hA2 HS1.out.lo) (fun g hg => (own_lt' hA2 hg).1)
  have S5 : SepL w.heap.size w2 [(⟨none, 0, 0⟩, []), (⟨none, 0, 0⟩, []), (⟨none, 0, 0⟩, []), (⟨YA, A.length, kA⟩, A), (⟨YB, Bs.length, kB⟩, Bs)] :=
    ((S2.cons (Below.refl _ _) (Row3.nil _ _) (by intro g hg; cases hg)).cons (Below.refl _ _) (Row3.nil _ _) (by intro g hg; cases hg)).cons (Below.refl _ _) (Row3.nil _ _) (by intro g hg; cases hg)
  have HS5 := Lib.hid S5
  have B2 := Lib.hid (B1.out.trans (b2.mono B1.out.size))
  clear CL0 S2 S5 hA2 b2 p0 p1 p2 HS1 B1 HDA
  go_wp2_with fail
  go_loopw [5, 6, 7, 23] (fun a b c i wr => ∃ (k : Nat) (y1 y2 y3 : Sl), a = .slice y1.A y1.n y1.c ∧ b = .slice y2.A y2.n y2.c ∧ c = .slice y3.A y3.n y3.c ∧ i = .int .i64 (k : Nat) ∧ k ≤ A.length ∧
      Hid (SepL w.heap.size wr [(y1, h1 (hitsE (fun a b => some (s a b)) C (A.take k) Bs)), (y2, h2 (hitsE (fun a b => some (s a b)) C (A.take k) Bs)), (y3, h3 (hitsE (fun a b => some (s a b)) C (A.take k) Bs)), (⟨YA, A.length, kA⟩, A), (⟨YB, Bs.length, kB⟩, Bs)]) ∧ Hid (Below w.heap.size w wr)) (fun _ _ _ i _ => A.length - (intOf i).toNat)
  case atStart => exact ⟨0, ⟨none, 0, 0⟩, ⟨none, 0, 0⟩, ⟨none, 0, 0⟩, rfl, rfl, rfl, rfl, by omega, HS5, B2⟩
  case round =>
    clear HS5 B2
    obtain ⟨k, y1, y2, y3, rfl, rfl, rfl, rfl, hk, HS, HB⟩ := hrel
    by_cases hlt : k < A.length
    · obtain ⟨adA, eA, -, -, cA⟩ := row_cell (HS.out.row (k := 3) rfl) (k := k) hlt
      simp only at eA
      subst eA
      have hav := HLA.out _ (getD_mem A k hlt)
      have HST := Lib.hid (hitsE_step (fun a b => some (s a b)) C A Bs k hlt)
      have HLN : Hid ((hitsE (fun a b => some (s a b)) C (A.take k) Bs).length ≤ 4096) := Lib.hid (by
        have h1 := hitsE_len (fun a b => some (s a b)) C (A.take k) Bs
        have h2 : (A.take k).length * Bs.length ≤ A.length * Bs.length := Nat.mul_le_mul_right _ (by rw [List.length_take]; omega)
        omega)
      obtain ⟨av, hav'⟩ : ∃ av, av = A.getD k 0 := ⟨_, rfl⟩
      rw [← hav'] at cA hav HST
      generalize hitsE (fun a b => some (s a b)) C (A.take k) Bs = X at HS HST HLN
      have HAV := Lib.hid hav
      clear hav' hav
      obtain ⟨wo, rfl⟩ : ∃ wo, wo = wr := ⟨_, rfl⟩
      go_wp2_with fail
      go_loopw [5, 6, 7, 29] (fun a b c j wr => ∃ (j' : Nat) (y1 y2 y3 : Sl), a = .slice y1.A y1.n y1.c ∧ b = .slice y2.A y2.n y2.c ∧ c = .slice y3.A y3.n y3.c ∧ j = .int .i64 (j' : Nat) ∧ j' ≤ Bs.length ∧
          Hid (SepL w.heap.size wr [(y1, h1 (X ++ hitsR (fun a b => some (s a b)) C av (Bs.take j'))), (y2, h2 (X ++ hitsR (fun a b => some (s a b)) C av (Bs.take j'))), (y3, h3 (X ++ hitsR (fun a b => some (s a b)) C av (Bs.take j'))), (⟨some adA, A.length, kA⟩, A), (⟨YB, Bs.length, kB⟩, Bs)]) ∧ Hid (Below w.heap.size w wr)) (fun _ _ _ j _ => Bs.length - (intOf j).toNat)
      case atStart => exact ⟨0, y1, y2, y3, rfl, rfl, rfl, rfl, by omega, Lib.hid (by have := HS.out; simpa [hitsR] using this), HB⟩
      case round =>
        clear HS HB
        obtain ⟨j, y1, y2, y3, rfl, rfl, rfl, rfl, hj, HS, HB⟩ := hrel
        by_cases hlj : j < Bs.length
        · obtain ⟨adB, eB, -, -, cB⟩ := row_cell (HS.out.row (k := 4) rfl) (k := j) hlj
          simp only at eB
          subst eB
          have hbv := HLB.out _ (getD_mem Bs j hlj)
          have hSTb := hitsR_step (fun a b => some (s a b)) C av Bs j hlj
          have HLR : Hid ((hitsR (fun a b => some (s a b)) C av (Bs.take j)).length ≤ 4096) := Lib.hid (by
            have h1 := hitsR_len (fun a b => some (s a b)) C av (Bs.take j)
            rw [List.length_take] at h1
            omega)
          obtain ⟨bv, hbv'⟩ : ∃ bv, bv = Bs.getD j 0 := ⟨_, rfl⟩
          rw [← hbv'] at cB hbv hSTb
          have CF := Lib.hid (HF.out av bv wr)
          have hrl := HR.out av bv HAV.out hbv
          have HITM : Hid (s av bv ∉ C → hitsR (fun a b => some (s a b)) C av (Bs.take (j + 1)) = hitsR (fun a b => some (s a b)) C av (Bs.take j)) := Lib.hid (fun hr => by rw [hSTb]; simp [hitP, hr])
          have HITY : Hid (s av bv ∈ C → hitsR (fun a b => some (s a b)) C av (Bs.take (j + 1)) = hitsR (fun a b => some (s a b)) C av (Bs.take j) ++ [(av, bv, s av bv)]) := Lib.hid (fun hr => by rw [hSTb]; simp [hitP, hr])
          generalize hitsR (fun a b => some (s a b)) C av (Bs.take j) = Y at HS HITM HITY HLR
          have HBV := Lib.hid hbv
          generalize s av bv = r at CF hrl HITM HITY
          clear hSTb hbv' hbv
          · skip
            obtain ⟨g2, o2, d2, e2, r0, r1, r2, hD2⟩ := (HD.out.below HB.out).at_ 2 (by omega)
            have eg2 : g2 = gb' ∧ o2 = o' := by rw [ex] at e2; injection e2 with e2; injection e2 with e3 e4 _; exact ⟨e3.symm, e4.symm⟩
            obtain ⟨rfl, rfl⟩ := eg2
            have hD2' : IsDom wr d2.val C := hD2
            have r0' : wr.cell? ⟨g2, o2 + 6, none⟩ = some (.int .i64 d2.s) := r0
            have r1' : wr.cell? ⟨g2, o2 + 6 + 1, none⟩ = some (.slice d2.A d2.n d2.c) := r1
            have r2' : wr.cell? ⟨g2, o2 + 6 + 2, none⟩ = some (.int .i64 d2.z) := r2
            have CH := Lib.hid (D.has_dom d2.val C r wr hD2' (by omega) (by omega))
            clear hrl e2 r0 r1 r2 hD2 hD2'
            by_cases hm : r ∈ C
            · rw [decide_eq_true hm] at CH
              have HY := Lib.hid (HITY.out hm)
              clear HITM HITY hm
              go_wp2_with fail
              refine CF.out.mono ?_
              rintro e w3 ⟨rfl, rfl⟩
              clear CF
              go_wp2_with fail
              refine CH.out.mono ?_
              rintro e w3 ⟨rfl, b3⟩
              have HS3 := Lib.hid (HS.out.below b3)
              have HB3 := Lib.hid (HB.out.trans (b3.mono HB.out.size))
              have N1 : Hid ((h1 (X ++ Y)).length < 1000000) := Lib.hid (by have := HLN.out; have := HLR.out; simp [h1]; omega)
              have N2 : Hid ((h2 (X ++ Y)).length < 1000000) := Lib.hid (by have := HLN.out; have := HLR.out; simp [h2]; omega)
              have N3 : Hid ((h3 (X ++ Y)).length < 1000000) := Lib.hid (by have := HLN.out; have := HLR.out; simp [h3]; omega)
              have LO := Lib.hid (HB.out.size)
              clear CH b3 HS HB r0' r1' r2'
              go_wp2_with (first
                | (at_builtin; refine wpList_append_sep rfl _ _ 30 rfl Tryz.underlying30 Tryz.info3 HS3.out 0 y1 _ av rfl rfl rfl N1.out ?_; intro y1' w4 S4 b4; have HS4 := Lib.hid S4; have HB4 := Lib.hid (HB3.out.trans b4); clear S4 b4)
                | (at_builtin; refine wpList_append_sep rfl _ _ 30 rfl Tryz.underlying30 Tryz.info3 HS4.out 1 y2 _ bv rfl rfl rfl N2.out ?_; intro y2' w5 S5 b5; have HS5 := Lib.hid S5; have HB5 := Lib.hid (HB4.out.trans b5); clear S5 b5)
                | (at_builtin; refine wpList_append_sep rfl _ _ 30 rfl Tryz.underlying30 Tryz.info3 HS5.out 2 y3 _ r rfl rfl rfl N3.out ?_; intro y3' w6 S6 b6; have HS6 := Lib.hid S6; have HB6 := Lib.hid (HB5.out.trans b6); clear S6 b6))
              go_roundw
              case rel => exact ⟨j + 1, y1', y2', y3', rfl, rfl, rfl, by go_num, by omega, Lib.hid (by
                rw [HY.out, ← List.append_assoc, h1_app (X ++ Y), h2_app (X ++ Y), h3_app (X ++ Y)]
                exact HS6.out), HB6⟩
              case measure => simp [intOf]; omega
            · rw [decide_eq_false hm] at CH
              have HY := Lib.hid (HITM.out hm)
              clear HITM HITY hm
              go_wp2_with fail
              refine CF.out.mono ?_
              rintro e w3 ⟨rfl, rfl⟩
              clear CF
              go_wp2_with fail
              refine CH.out.mono ?_
              rintro e w3 ⟨rfl, b3⟩
              have HS3 := Lib.hid (HS.out.below b3)
              have HB3 := Lib.hid (HB.out.trans (b3.mono HB.out.size))
              clear CH b3 HS HB r0' r1' r2'
              go_wp2_with fail
              go_roundw
              case rel => exact ⟨j + 1, y1, y2, y3, rfl, rfl, rfl, by go_num, by omega, Lib.hid (by rw [HY.out]; exact HS3.out), HB3⟩
              case measure => simp [intOf]; omega
        · have HS7 : Hid (SepL w.heap.size wr [(y1, h1 (X ++ hitsR (fun a b => some (s a b)) C av Bs)), (y2, h2 (X ++ hitsR (fun a b => some (s a b)) C av Bs)), (y3, h3 (X ++ hitsR (fun a b => some (s a b)) C av Bs)), (⟨some adA, A.length, kA⟩, A), (⟨YB, Bs.length, kB⟩, Bs)]) := Lib.hid (by
            have := HS.out
            rwa [List.take_of_length_le (show Bs.length ≤ j by omega)] at this)
          clear HS
          go_wp2_with fail
          go_roundw
          case rel => exact ⟨k + 1, y1, y2, y3, rfl, rfl, rfl, by go_num, by omega, Lib.hid (by rw [HST.out]; exact HS7.out), HB⟩
          case measure => simp [intOf]; omega
    · have HS7 : Hid (SepL w.heap.size wr [(y1, h1 (hitsE (fun a b => some (s a b)) C A Bs)), (y2, h2 (hitsE (fun a b => some (s a b)) C A Bs)), (y3, h3 (hitsE (fun a b => some (s a b)) C A Bs)), (⟨YA, A.length, kA⟩, A), (⟨YB, Bs.length, kB⟩, Bs)]) := Lib.hid (by
        have := HS.out
        rwa [List.take_of_length_le (show A.length ≤ k by omega)] at this)
      have hE : (hitsE (fun a b => some (s a b)) C A Bs).length ≤ 4096 := Nat.le_trans (hitsE_len (fun a b => some (s a b)) C A Bs) hlen
      obtain ⟨X, hX⟩ : ∃ X, X = hitsE (fun a b => some (s a b)) C A Bs := ⟨_, rfl⟩
      rw [← hX] at HS7 hE HO1 HO2 HO3
      have R1 := HS7.out.row (k := 0) rfl
      have R2 := HS7.out.row (k := 1) rfl
      have R3 := HS7.out.row (k := 2) rfl
      have L1 : (h1 X).length = X.length := by simp [h1]
      have L2 : (h2 X).length = X.length := by simp [h2]
      have L3 : (h3 X).length = X.length := by simp [h3]
      have I1 := Lib.hid (ints_own R1 (by omega))
      have I2 := Lib.hid (ints_own R2 (by omega))
      have I3 := Lib.hid (ints_own R3 (by omega))
      have C1 := Lib.hid (extOf_any y1 (h1 X) wr I1.out.len (by have := I1.out.lies; rwa [I1.out.len] at this) (by omega))
      have C2 := Lib.hid (fun W (hW : Below wr.heap.size wr W) => extOf_any y2 (h2 X) W I2.out.len (by have := (I2.out.below hW).lies; rwa [I2.out.len] at this) (by omega))
      have C3 := Lib.hid (fun W (hW : Below wr.heap.size wr W) => extOf_any y3 (h3 X) W I3.out.len (by have := (I3.out.below hW).lies; rwa [I3.out.len] at this) (by omega))
      rw [← HO1.out] at C1
      rw [← HO2.out] at C2
      rw [← HO3.out] at C3
      clear hX HO1 HO2 HO3 HS7 R1 R2 R3 L1 L2 L3 I1 I2 I3 HS hE
      go_wp2_with fail
      refine C1.out.mono ?_
      rintro e w3 ⟨⟨v1, rfl, k1⟩, b3⟩
      have K1 := Lib.hid k1
      have B3 := Lib.hid b3
      clear k1 b3 C1
      go_wp2_with fail
      refine (C2.out w3 B3.out).mono ?_
      rintro e w4 ⟨⟨v2, rfl, k2⟩, b4⟩
      have K2 := Lib.hid k2
      have B4 := Lib.hid (B3.out.trans (b4.mono B3.out.size))
      have K1' := Lib.hid (K1.out.below b4)
      clear k2 b4 C2 K1
      go_wp2_with fail
      refine (C3.out w4 B4.out).mono ?_
      rintro e w5 ⟨⟨v3, rfl, k3⟩, b5⟩
      have B5 := Lib.hid (HB.out.trans ((B4.out.trans (b5.mono B4.out.size)).mono HB.out.size))
      have HDD := Lib.hid (doms_build3 (K1'.out.below b5) (K2.out.below b5) k3)
      clear k3 b5 C3 K1' K2 B3 B4
      go_wp2_with fail
      go_ret
      exact ⟨⟨⟨some ⟨w5.heap.size, 0, none⟩, 3, 3⟩, rfl, HDD.out⟩, B5.out.trans ((below1 w5 _).mono B5.out.size)⟩
end Go.Proofs.YtkhmocbfkpbpfaaGreatDoor
