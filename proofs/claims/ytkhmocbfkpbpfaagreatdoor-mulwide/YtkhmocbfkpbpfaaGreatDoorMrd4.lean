/- Contracts of the law's doms and lists. Made by tools/gensdl.py. -/
import Derived.Test.YtkhmocbfkpbpfaaGreatDoorMul1
import Derived.Test.YtkhmocbfkpbpfaaGreatDoorDWakes
import Derived.Test.YtkhmocbfkpbpfaaGreatDoorDMore
import Derived.Test.YtkhmocbfkpbpfaaGreatDoorMkmore
import Derived.Test.YtkhmocbfkpbpfaaGreatDoorDput
import Derived.Test.YtkhmocbfkpbpfaaGreatDoorDKeep
import Derived.Test.YtkhmocbfkpbpfaaGreatDoorMrd3
import Derived.Lib.MinMax
namespace Go.Proofs.YtkhmocbfkpbpfaaGreatDoor
open Go.RowKit Go.Sort

set_option maxHeartbeats 4000000 in
set_option maxRecDepth 100000 in
theorem doms_any (x : Sl) (LL : List (List Int)) (w : World) (hx : IsRows w x LL) (hn : LL.length ≤ 1000) (hs : ∀ l ∈ LL, l.length ≤ 1000000) :
    Calls Tryz.prog 35 #[.slice x.A x.n x.c] w fun e w' => (∃ (y : Sl) (ds : List Dv), e = .returned (.slice y.A y.n y.c) ∧ DomsO w.heap.size w' y ds (LL.map ofL)) ∧ Below w.heap.size w w' := by
  obtain ⟨i0, hi, hz0, hz1, hz2⟩ := info_parts infoDom
  have HI := Lib.hid (And.intro hi (And.intro hz0 (And.intro hz1 hz2)))
  have HX := Lib.hid hx
  have hlen := hx.len
  have hxn : x.n ≤ 1000 := by omega
  have HLN := Lib.hid hlen
  have HSS : Hid (∀ k, k < x.n → (LL.getD k []).length ≤ 1000000) := Lib.hid (fun k hk => hs _ (by
    have hk' : k < LL.length := by omega
    rw [List.getD_eq_getElem?_getD, List.getElem?_eq_getElem hk']
    exact List.getElem_mem hk'))
  clear hi hz0 hz1 hz2 hx hn hs hlen
  go_enter Tryz.func35, Tryz.ntmps35
  go_wp2_with fail
  go_loopw [3, 10] (fun v i wr => ∃ (k : Nat) (y : Sl) (ds : List Dv), v = .slice y.A y.n y.c ∧ i = .int .i64 (k : Nat) ∧ k ≤ x.n ∧ Hid (DomsO w.heap.size wr y ds ((LL.take k).map ofL)) ∧ Hid (ds.length = k) ∧ Hid (Below w.heap.size w wr)) (fun _ i _ => x.n - (intOf i).toNat)
  case atStart => exact ⟨0, ⟨none, 0, 0⟩, [], rfl, rfl, by omega, Lib.hid (DomsO.nil _ _), Lib.hid rfl, Lib.hid (Below.refl _ _)⟩
  case round =>
    obtain ⟨k, y, ds, rfl, rfl, hk, HO, HK, HB⟩ := hrel
    by_cases hlt : k < x.n
    · obtain ⟨ad, u, ex, qx, ux⟩ := rows_at (HX.out.below HB.out) k hlt
      rw [ex]
      obtain ⟨uA, un, uc⟩ := u
      have hul : un = (LL.getD k []).length := ux.len
      have CO := Lib.hid (of_dom uA (LL.getD k []) uc wr (by have := ux.lies; simp only at this; rw [hul] at this; exact this) (HSS.out k hlt))
      rw [← hul] at CO
      have HT : Hid ((LL.take (k + 1)).map ofL = (LL.take k).map ofL ++ [ofL (LL.getD k [])]) := Lib.hid (by
        have hk' : k < LL.length := by rw [← HLN.out]; exact hlt
        rw [List.take_succ_eq_append_getElem hk', List.map_append, List.getD_eq_getElem?_getD, List.getElem?_eq_getElem hk']
        rfl)
      generalize ofL (LL.getD k []) = R at CO HT
      clear ux hul ex
      go_wp2_with fail
      refine CO.out.mono ?_
      rintro e w1 ⟨d, rfl, hd, b1⟩
      obtain ⟨dv, rfl, hdL⟩ := Dv.of hd
      have HD := Lib.hid hd
      have HDL := Lib.hid hdL
      have HO1 := Lib.hid (HO.out.below b1)
      have HB1 := Lib.hid (HB.out.trans (b1.mono HB.out.size))
      clear CO hd hdL b1 HO HB
      obtain ⟨w2, hw2⟩ : ∃ w2, w1.alloc (.cells dv.cells.toArray 53) = w2 := ⟨_, rfl⟩
      have hnew := heap_alloc_new w1 (.cells dv.cells.toArray 53)
      rw [hw2] at hnew
      have b12 : Below w1.heap.size w1 w2 := hw2 ▸ below1 w1 _
      have c0 : w2.cell? ⟨w1.heap.size, 0, none⟩ = some (.int .i64 dv.s) := blk_cell hnew rfl
      have c1 : w2.cell? ⟨w1.heap.size, 1, none⟩ = some (.slice dv.A dv.n dv.c) := blk_cell hnew rfl
      have c2 : w2.cell? ⟨w1.heap.size, 2, none⟩ = some (.int .i64 dv.z) := blk_cell hnew rfl
      have HO2 := Lib.hid (HO1.out.below b12)
      have HD2 := Lib.hid (HD.out.below b12)
      have HB2 := Lib.hid (HB1.out.trans (b12.mono HB1.out.size))
      have HR2 := Lib.hid ((HO2.out.row).below (below1 w2 (.cells #[.int .i64 dv.s, .slice dv.A dv.n dv.c, .int .i64 dv.z] 53)))
      have C3 : Hid (∀ j u, dv.cells[j]? = some u → (w2.alloc (.cells #[.int .i64 dv.s, .slice dv.A dv.n dv.c, .int .i64 dv.z] 53)).cell? ((⟨w2.heap.size, 0, none⟩ : Addr).add j) = some u) := Lib.hid (fun j u hj => by
        have hn := heap_alloc_new w2 (.cells #[.int .i64 dv.s, .slice dv.A dv.n dv.c, .int .i64 dv.z] 53)
        rw [Addr.add_mid, Nat.zero_add]
        match j, hj with
        | 0, hj => exact blk_cell hn hj
        | 1, hj => exact blk_cell hn hj
        | 2, hj => exact blk_cell hn hj)
      have Z1 : Hid (∀ u ∈ (Value.agg #[.int .i64 0, .slice none 0 0, .int .i64 0]).cells, plainV u) := Lib.hid (fun u hu => dv_plain ⟨0, none, 0, 0, 0⟩ u (by simpa [Value.cells] using hu))
      have Z2 : Hid (∀ u ∈ dv.cells, u.oneCell' = true) := Lib.hid (fun u hu => by
        simp only [Dv.cells, List.mem_cons, List.not_mem_nil, or_false] at hu
        rcases hu with rfl | rfl | rfl <;> rfl)
      have P3 := Lib.hid (dv_plain dv)
      have Z3 : Hid (ds.length + 1 ≤ maxLen) := Lib.hid (by have := HK.out; unfold maxLen; omega)
      have Z4 : Hid ((ds.length + 1) * 40 ≤ 140737488355328) := Lib.hid (by have := HK.out; omega)
      have Z6 : Hid (w.heap.size ≤ (w2.alloc (.cells #[.int .i64 dv.s, .slice dv.A dv.n dv.c, .int .i64 dv.z] 53)).heap.size) := Lib.hid (by have := HB2.out.size; simp; omega)
      clear hnew b12 HO1 HD HB1
      go_upto_region 6 with fail
      clear hw2
      go_wp2_with (at_builtin; refine wpList_append_rowp _ rfl _ _ 36 rfl w.heap.size 53 i0 (.agg #[.int .i64 0, .slice none 0 0, .int .i64 0]) 3 40 Tryz.underlying36 HI.out.1 HI.out.2.1 HI.out.2.2.1 HI.out.2.2.2 rfl (by decide) Z1.out _ _ _ rfl HR2.out ⟨w2.heap.size, 0, none⟩ 1 dv.cells rfl rfl C3.out Z2.out P3.out Z3.out Z4.out Z6.out ?_; intro v' w6 R6 G6)
      obtain ⟨Y, kY, rfl⟩ := slice_row R6.1
      have K2 := below1 w2 (.cells #[.int .i64 dv.s, .slice dv.A dv.n dv.c, .int .i64 dv.z] 53)
      have HO6 : Hid (DomsO w.heap.size w6 ⟨Y, ds.length + 1, kY⟩ (ds ++ [dv]) ((LL.take (k + 1)).map ofL)) := Lib.hid (by
        rw [HT.out]
        exact (HO2.out.below K2).step (HD2.out.below K2) R6 G6)
      have HB6 : Hid (Below w.heap.size w w6) := Lib.hid ((HB2.out.trans (K2.mono HB2.out.size)).trans (HR2.out.low G6 Z6.out (Nat.le_refl _)))
      have HK6 : Hid ((ds ++ [dv]).length = k + 1) := Lib.hid (by simp [HK.out])
      clear K2 R6 G6 HO2 HD2 HR2 C3 Z1 Z2 P3 Z3 Z4 Z6 HB2 HT c0 c1 c2
      go_wp2_with fail
      go_roundw
      case rel => exact ⟨k + 1, ⟨Y, _, kY⟩, ds ++ [dv], rfl, by go_num, by omega, HO6, HK6, HB6⟩
      case measure => simp [intOf]; omega
    · have HF : Hid (DomsO w.heap.size wr y ds (LL.map ofL)) := Lib.hid (by
        have := HO.out
        rwa [List.take_of_length_le (by rw [← HLN.out]; omega)] at this)
      clear HO
      go_wp2_with fail
      go_ret
      exact ⟨⟨y, ds, rfl, HF.out⟩, HB.out⟩

set_option maxHeartbeats 4000000 in
set_option maxRecDepth 100000 in
theorem lists_any (x : Sl) (LL : List (List Int)) (w : World) (hx : DomsIn w x LL) (hT : TabZ w) (hn : LL.length ≤ 1000) :
    Calls Tryz.prog 38 #[.slice x.A x.n x.c] w fun e w' => (∃ (y : Sl) (xs : List Sl), e = .returned (.slice y.A y.n y.c) ∧ RowsO w.heap.size w' y xs LL) ∧ Below w.heap.size w w' := by
  obtain ⟨i0, hi, hz0, hz1, hz2⟩ := info_parts infoSl'
  have HI := Lib.hid (And.intro hi (And.intro hz0 (And.intro hz1 hz2)))
  have HX := Lib.hid hx
  have HT := Lib.hid hT
  have hlen := hx.len
  have hxn : x.n ≤ 1000 := by omega
  have HLN := Lib.hid hlen
  clear hi hz0 hz1 hz2 hx hn hlen hT
  go_enter Tryz.func38, Tryz.ntmps38
  go_wp2_with fail
  go_loopw [3, 8] (fun v i wr => ∃ (k : Nat) (y : Sl) (xs : List Sl), v = .slice y.A y.n y.c ∧ i = .int .i64 (k : Nat) ∧ k ≤ x.n ∧ Hid (RowsO w.heap.size wr y xs (LL.take k)) ∧ Hid (xs.length = k) ∧ Hid (Below w.heap.size w wr)) (fun _ i _ => x.n - (intOf i).toNat)
  case atStart => exact ⟨0, ⟨none, 0, 0⟩, [], rfl, rfl, by omega, Lib.hid (RowsO.nil _ _), Lib.hid rfl, Lib.hid (Below.refl _ _)⟩
  case round =>
    obtain ⟨k, y, xs, rfl, rfl, hk, HO, HK, HB⟩ := hrel
    by_cases hlt : k < x.n
    · obtain ⟨g, o, ex, hg, hc⟩ := (HX.out.below HB.out).lies (by omega)
      obtain ⟨d, hd, hD⟩ := hc k hlt
      rw [ex]
      have q0 : wr.cell? ⟨g, o + k * 3, none⟩ = some (.int .i64 d.s) := hd 0 _ rfl
      have q1 : wr.cell? ⟨g, o + k * 3 + 1, none⟩ = some (.slice d.A d.n d.c) := hd 1 _ rfl
      have q2 : wr.cell? ⟨g, o + k * 3 + 2, none⟩ = some (.int .i64 d.z) := hd 2 _ rfl
      obtain ⟨w1, hw1⟩ : ∃ w1, wr.alloc (.cells #[.int .i64 d.s, .slice d.A d.n d.c, .int .i64 d.z] 53) = w1 := ⟨_, rfl⟩
      have hnew := heap_alloc_new wr (.cells #[.int .i64 d.s, .slice d.A d.n d.c, .int .i64 d.z] 53)
      rw [hw1] at hnew
      have b1 : Below wr.heap.size wr w1 := hw1 ▸ below1 wr _
      have c0 : w1.cell? ⟨wr.heap.size, 0, none⟩ = some (.int .i64 d.s) := blk_cell hnew rfl
      have c1 : w1.cell? ⟨wr.heap.size, 1, none⟩ = some (.slice d.A d.n d.c) := blk_cell hnew rfl
      have c2 : w1.cell? ⟨wr.heap.size, 2, none⟩ = some (.int .i64 d.z) := blk_cell hnew rfl
      have HT2 : Hid (LL.take (k + 1) = LL.take k ++ [LL.getD k []]) := Lib.hid (by
        have hk' : k < LL.length := by rw [← HLN.out]; exact hlt
        rw [List.take_succ_eq_append_getElem hk', List.getD_eq_getElem?_getD, List.getElem?_eq_getElem hk']
        rfl)
      generalize LL.getD k [] = R at hD HT2
      have HB1 := Lib.hid (HB.out.trans (b1.mono HB.out.size))
      have HO1 := Lib.hid (HO.out.below b1)
      have CL := Lib.hid (list_dom d.val R w1 (hD.below b1) (HT.out.below HB1.out))
      clear hc hd hD ex hg hnew b1 HO HB
      go_wp2_with fail
      refine CL.out.mono ?_
      rintro e w2 ⟨v2, rfl, h2, b2⟩
      obtain ⟨Y2, k2, rfl⟩ := slice_row h2
      have HN : Hid (Row3 w2 w.heap.size ⟨Y2, R.length, k2⟩ R) := Lib.hid (own_base h2 HB1.out.size)
      have HO2 := Lib.hid (HO1.out.below b2)
      have HB2 := Lib.hid (HB1.out.trans (b2.mono HB1.out.size))
      have K2 := below1 w2 (.cells #[.slice Y2 R.length k2] 30)
      have HO3 := Lib.hid (HO2.out.below K2)
      have HN3 : Hid (Row3 (w2.alloc (.cells #[.slice Y2 R.length k2] 30)) w.heap.size ⟨Y2, R.length, k2⟩ R) := Lib.hid (own_keep' HN.out fun g hg => K2.block g (own_lt' HN.out hg).2)
      have HB3 := Lib.hid (HB2.out.trans (K2.mono HB2.out.size))
      have Z3 : Hid (xs.length + 1 ≤ maxLen) := Lib.hid (by have := HK.out; unfold maxLen; omega)
      have Z4 : Hid ((xs.length + 1) * 24 ≤ 140737488355328) := Lib.hid (by have := HK.out; omega)
      clear h2 b2 K2 CL HO1 HB1 HO2 HN c0 c1 c2 q0 q1 q2 hw1
      go_wp2_with (at_builtin; refine wpList_append_own _ rfl _ _ 27 rfl w.heap.size 30 i0 (.slice none 0 0) 1 24 Tryz.underlying27 HI.out.1 HI.out.2.1 HI.out.2.2.1 HI.out.2.2.2 rfl (by decide) _ _ _ rfl HO3.out.row ⟨_, 0, none⟩ 1 1 [.slice Y2 R.length k2] rfl rfl ?c1 ?c2 Z3.out Z4.out HB3.out.size ?_)
      case c1 => intro j u hj; match j, hj with | 0, hj => simp at hj; subst hj; simp [Addr.add]
      case c2 => intro u hu; simp at hu; subst hu; rfl
      intro v' w7 hown' hgrow _
      obtain ⟨Y, kY, rfl⟩ := slice_row hown'
      have HO7 : Hid (RowsO w.heap.size w7 ⟨Y, xs.length + 1, kY⟩ (xs ++ [⟨Y2, R.length, k2⟩]) (LL.take (k + 1))) := Lib.hid (by
        rw [HT2.out]
        exact HO3.out.step HN3.out hown' hgrow)
      have HB7 := Lib.hid (HB3.out.grown hgrow HB3.out.size (own_ge HO3.out.row))
      have HK7 : Hid ((xs ++ [(⟨Y2, R.length, k2⟩ : Sl)]).length = k + 1) := Lib.hid (by simp [HK.out])
      clear hown' hgrow HO3 HN3 HB3 HB2 HT2 Z3 Z4 HK
      go_wp2_with fail
      go_roundw
      case rel => exact ⟨k + 1, ⟨Y, _, kY⟩, xs ++ [⟨Y2, R.length, k2⟩], rfl, by go_num, by omega, HO7, HK7, HB7⟩
      case measure => simp [intOf]; omega
    · have HF : Hid (RowsO w.heap.size wr y xs LL) := Lib.hid (by
        have := HO.out
        rwa [List.take_of_length_le (by rw [← HLN.out]; omega)] at this)
      clear HO
      go_wp2_with fail
      go_ret
      exact ⟨⟨y, xs, rfl, HF.out⟩, HB.out⟩
end Go.Proofs.YtkhmocbfkpbpfaaGreatDoor

/- Contracts of mul's of and between. -/
namespace Go.Proofs.YtkhmocbfkpbpfaaGreatDoor
open Go.RowKit Go.Sort

/-- of: the domain of some values, none of none. -/
theorem mulOf_any (y : Sl) (zs : List Int) (w : World) (hn : y.n = zs.length) (hl : Lies w y.A zs.length (i64f zs)) (hs : zs.length ≤ 1000000) :
    Calls Tryz.prog 181 #[.slice y.A y.n y.c] w fun e w' => (∃ d : Dv, e = .returned d.val ∧ IsDom w' d.val (ofL zs)) ∧ Below w.heap.size w w' := by
  obtain ⟨A, n, c⟩ := y
  simp only at hn hl ⊢
  subst hn
  obtain ⟨w0, hw0⟩ : ∃ w0, w.alloc (.cells #[.int .i64 0, .slice none 0 0, .int .i64 0] 53) = w0 := ⟨_, rfl⟩
  have hnew := heap_alloc_new w (.cells #[.int .i64 0, .slice none 0 0, .int .i64 0] 53)
  rw [hw0] at hnew
  have b0 : Below w.heap.size w w0 := hw0 ▸ below1 w _
  have hlt : w.heap.size < w0.heap.size := (Array.getElem?_eq_some_iff.1 hnew).1
  have CO := Lib.hid (of_dom A zs c w0 (hl.below b0) hs)
  have HN := Lib.hid hnew
  have B0 := Lib.hid b0
  have HLT := Lib.hid hlt
  generalize ofL zs = R at CO ⊢
  generalize zs.length = n at CO ⊢
  clear hl hs hnew b0 hlt
  go_enter Tryz.func181, Tryz.ntmps181
  go_upto_region 1 with fail
  clear hw0
  go_wp2_with fail
  refine CO.out.mono ?_
  rintro e w1 ⟨d, rfl, hd, b1⟩
  obtain ⟨dv, rfl, hdL⟩ := Dv.of hd
  have HD := Lib.hid hd
  have B1 := Lib.hid (B0.out.trans (b1.mono B0.out.size))
  have hk : w1.heap[w.heap.size]? = some (.cells #[.int .i64 0, .slice none 0 0, .int .i64 0] 53 (0, 0)) := (b1.block _ HLT.out).trans HN.out
  have HK := Lib.hid hk
  clear CO hd hdL b1 hk
  obtain ⟨w2, hw2⟩ : ∃ w2, w1.alloc (.cells dv.cells.toArray 53) = w2 := ⟨_, rfl⟩
  have hnew := heap_alloc_new w1 (.cells dv.cells.toArray 53)
  rw [hw2] at hnew
  have b2 : Below w1.heap.size w1 w2 := hw2 ▸ below1 w1 _
  have c0 : w2.cell? ⟨w1.heap.size, 0, none⟩ = some (.int .i64 dv.s) := blk_cell hnew rfl
  have c1 : w2.cell? ⟨w1.heap.size, 1, none⟩ = some (.slice dv.A dv.n dv.c) := blk_cell hnew rfl
  have c2 : w2.cell? ⟨w1.heap.size, 2, none⟩ = some (.int .i64 dv.z) := blk_cell hnew rfl
  have hk2 : w2.heap[w.heap.size]? = some (.cells #[.int .i64 0, .slice none 0 0, .int .i64 0] 53 (0, 0)) := (b2.block _ (Array.getElem?_eq_some_iff.1 HK.out).1).trans HK.out
  have e0 := box_cell hk2 (j := 0) rfl
  have e1 := box_cell hk2 (j := 1) rfl
  have e2 := box_cell hk2 (j := 2) rfl
  have f0 := box_free hk2 0
  have f1 := box_free hk2 1
  have f2 := box_free hk2 2
  have HD2 := Lib.hid (HD.out.below b2)
  have B2 := Lib.hid (B1.out.trans (b2.mono B1.out.size))
  have HK2 := Lib.hid hk2
  clear hnew b2 hk2 HK HD B1 B0
  go_upto_region 2 with fail
  clear hw2
  go_wp2_with fail
  obtain ⟨q0, q1, q2⟩ := out_cells w2 w.heap.size _ _ _ (.int .i64 dv.s) (.slice dv.A dv.n dv.c) (.int .i64 dv.z) e0 e1 e2
  refine bodyPost_ret (v := .agg #[.int .i64 dv.s, .slice dv.A dv.n dv.c, .int .i64 dv.z]) (by simp [results, Tryz.results181, go_sem, q0, q1, q2]) rfl ⟨⟨dv, rfl, ?_⟩, ?_⟩
  · exact HD2.out.put3 HK2.out (plain_int _ _ (by decide)) (plain_sl _ _ _) (plain_int _ _ (by decide)) _ _ _ (plain_int _ _ (by decide)) (plain_sl _ _ _)
  · exact out_below B2.out _ (Nat.le_refl _) _ _ _
end Go.Proofs.YtkhmocbfkpbpfaaGreatDoor

/- What the document's Pairs leaves is what the program's solved leaves. No walk. -/
namespace Go.Proofs.YtkhmocbfkpbpfaaGreatDoor
open Go.RowKit

/-- The numbers of a domain that are among others: as a set of these. -/
theorem filter_is {L S : List Int} (hL : DomL L) (hs : S ≠ []) (hm : ∀ v ∈ S, v ∈ L) : L.filter (fun v => decide (v ∈ S)) = ofL S := by
  rw [ofL_ok _ (ofErr_sub (hL.2 (fun e => by
    obtain ⟨v, hv⟩ := List.exists_mem_of_ne_nil S hs
    have := hm v hv
    rw [e] at this
    cases this)) hs hm)]
  apply eq_of_rising _ _ (hL.1.filter _) (rising_setOf _)
  intro v
  rw [List.mem_filter, mem_setOf, decide_eq_true_eq]
  exact ⟨fun h => h.2, fun h => ⟨hm v h, h⟩⟩
theorem thoseE_is {L S : List Int} {M : List Bool} (k : Nat) (hk : k ≤ L.length) (h : ∀ i, i < L.length → (M.getD i false = true ↔ L.getD i 0 ∈ S)) : thoseE L M k = (L.take k).filter fun v => decide (v ∈ S) := by
  induction k with
  | zero => simp [thoseE]
  | succ k ih =>
    rw [thoseE_step, ih (by omega), List.take_succ_eq_append_getElem (show k < L.length by omega), List.filter_append]
    congr 1
    have := h k (by omega)
    have eL : L.getD k 0 = L[k] := by rw [List.getD_eq_getElem?_getD, List.getElem?_eq_getElem (show k < L.length by omega)]; rfl
    rw [eL] at this ⊢
    rw [List.filter_cons]
    by_cases hc : M.getD k false = true
    · rw [if_pos hc, if_pos (by simpa using this.1 hc)]; rfl
    · rw [if_neg hc, if_neg (by simpa using fun q => hc (this.2 q))]; rfl
section
variable {f : Int → Int → Option Int} {A B C : List Int}
/-- What the marks tell, all gone through. -/
theorem marks_tell {MA MB MC : List Bool} {an : Bool} (hA : DomL A) (hB : DomL B) (hC : DomL C) (h : Marks (hitN f A B C) A.length B.length C.length A.length 0 0 MA MB MC an) :
    an = decide (hitsE f C A B ≠ []) ∧ (an = true → thoseE A MA A.length = ofL (h1 (hitsE f C A B)) ∧ thoseE B MB B.length = ofL (h2 (hitsE f C A B)) ∧ thoseE C MC C.length = ofL (h3 (hitsE f C A B))) := by
  obtain ⟨ha, hb, hc, han⟩ := h.full
  have hne : an = true ↔ hitsE f C A B ≠ [] := by
    rw [han]
    constructor
    · rintro ⟨i, k, j, hi, hk, hj, hh⟩ e
      have : (A.getD i 0, B.getD k 0, C.getD j 0) ∈ hitsE f C A B := mem_hitsE.2 ⟨getD_mem A i hi, getD_mem B k hk, hh, getD_mem C j hj⟩
      rw [e] at this
      cases this
    · intro e
      obtain ⟨t, ht⟩ := List.exists_mem_of_ne_nil _ e
      obtain ⟨q1, q2, q3, q4⟩ := mem_hitsE.1 ht
      obtain ⟨i, hi, e1⟩ := mem_getD_iff.1 q1
      obtain ⟨k, hk, e2⟩ := mem_getD_iff.1 q2
      obtain ⟨j, hj, e3⟩ := mem_getD_iff.1 q4
      exact ⟨i, k, j, hi, hk, hj, by unfold hitN; rw [e1, e2, e3]; exact q3⟩
  refine ⟨?_, fun hyes => ?_⟩
  · rw [Bool.eq_iff_iff, decide_eq_true_eq]; exact hne
  · obtain ⟨n1, n2, n3⟩ := h_ne (hne.1 hyes)
    refine ⟨?_, ?_, ?_⟩
    · rw [thoseE_is (S := h1 (hitsE f C A B)) A.length (Nat.le_refl _) (fun i hi => ?_), List.take_of_length_le (Nat.le_refl _), filter_is hA n1 (fun v hv => (mem_h1.1 hv).1)]
      rw [ha i hi, mem_h1]
      constructor
      · rintro ⟨k, j, hk, hj, hh⟩
        exact ⟨getD_mem A i hi, _, _, getD_mem B k hk, getD_mem C j hj, hh⟩
      · rintro ⟨-, b, r, q1, q2, q3⟩
        obtain ⟨k, hk, e2⟩ := mem_getD_iff.1 q1
        obtain ⟨j, hj, e3⟩ := mem_getD_iff.1 q2
        exact ⟨k, j, hk, hj, by unfold hitN; rw [e2, e3]; exact q3⟩
    · rw [thoseE_is (S := h2 (hitsE f C A B)) B.length (Nat.le_refl _) (fun k hk => ?_), List.take_of_length_le (Nat.le_refl _), filter_is hB n2 (fun v hv => (mem_h2.1 hv).1)]
      rw [hb k hk, mem_h2]
      constructor
      · rintro ⟨i, j, hi, hj, hh⟩
        exact ⟨getD_mem B k hk, _, _, getD_mem A i hi, getD_mem C j hj, hh⟩
      · rintro ⟨-, a, r, q1, q2, q3⟩
        obtain ⟨i, hi, e2⟩ := mem_getD_iff.1 q1
        obtain ⟨j, hj, e3⟩ := mem_getD_iff.1 q2
        exact ⟨i, j, hi, hj, by unfold hitN; rw [e2, e3]; exact q3⟩
    · rw [thoseE_is (S := h3 (hitsE f C A B)) C.length (Nat.le_refl _) (fun j hj => ?_), List.take_of_length_le (Nat.le_refl _), filter_is hC n3 (fun v hv => (mem_h3.1 hv).1)]
      rw [hc j hj, mem_h3]
      constructor
      · rintro ⟨i, k, hi, hk, hh⟩
        exact ⟨getD_mem C j hj, _, _, getD_mem A i hi, getD_mem B k hk, hh⟩
      · rintro ⟨-, a, b, q1, q2, q3⟩
        obtain ⟨i, hi, e2⟩ := mem_getD_iff.1 q1
        obtain ⟨k, hk, e3⟩ := mem_getD_iff.1 q2
        exact ⟨i, k, hi, hk, by unfold hitN; rw [e2, e3]; exact q3⟩
end
/-- Where few pairs are looked at: what is left. -/
theorem mulE_few {c : ConL} {A B C : List Int} (hf : fitsE c [A, B, C] 5 7 = true) (hA : DomL A) (hB : DomL B) (hC : DomL C) (hn : A.length * B.length ≤ 4096) :
    mulE c [A, B, C] = if hitsE (kindV c.kind) C A B = [] then none else some [ofL (h1 (hitsE (kindV c.kind) C A B)), ofL (h2 (hitsE (kindV c.kind) C A B)), ofL (h3 (hitsE (kindV c.kind) C A B))] := by
  have hm : mulL c.kind A B C = [ofL (h1 (hitsE (kindV c.kind) C A B)), ofL (h2 (hitsE (kindV c.kind) C A B)), ofL (h3 (hitsE (kindV c.kind) C A B))] := by unfold mulL; rw [if_pos hn]
  unfold mulE
  rw [if_pos hf]
  have e0 : ([A, B, C] : List (List Int)).getD 0 [] = A := rfl
  have e1 : ([A, B, C] : List (List Int)).getD 1 [] = B := rfl
  have e2 : ([A, B, C] : List (List Int)).getD 2 [] = C := rfl
  rw [e0, e1, e2, hm]
  by_cases h : hitsE (kindV c.kind) C A B = []
  · rw [if_pos h, h]
    rfl
  · rw [if_neg h]
    obtain ⟨n1, n2, n3⟩ := h_ne h
    obtain ⟨t, ht⟩ := List.exists_mem_of_ne_nil _ h
    obtain ⟨q1, q2, q3, q4⟩ := mem_hitsE.1 ht
    have k1 := ofL_ne (ofErr_sub (hA.2 (List.ne_nil_of_mem q1)) n1 (fun v hv => (mem_h1.1 hv).1)) n1
    have k2 := ofL_ne (ofErr_sub (hB.2 (List.ne_nil_of_mem q2)) n2 (fun v hv => (mem_h2.1 hv).1)) n2
    have k3 := ofL_ne (ofErr_sub (hC.2 (List.ne_nil_of_mem q4)) n3 (fun v hv => (mem_h3.1 hv).1)) n3
    rw [if_neg]
    simp [k1, k2, k3]
end Go.Proofs.YtkhmocbfkpbpfaaGreatDoor
