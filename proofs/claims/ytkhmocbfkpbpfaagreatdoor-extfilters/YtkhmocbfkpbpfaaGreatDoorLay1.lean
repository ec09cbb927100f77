/- Contracts of the law's doms and lists. Made by tools/gensdl.py. -/
import Derived.Test.YtkhmocbfkpbpfaaGreatDoorCtd
import Derived.Test.YtkhmocbfkpbpfaaGreatDoorDWakes
import Derived.Test.YtkhmocbfkpbpfaaGreatDoorDMore
import Derived.Test.YtkhmocbfkpbpfaaGreatDoorMkr
import Derived.Test.YtkhmocbfkpbpfaaGreatDoorLay0
import Derived.Test.YtkhmocbfkpbpfaaGreatDoorFix
import Derived.Lib.MinMax
namespace Go.Proofs.YtkhmocbfkpbpfaaGreatDoor
open Go.RowKit Go.Sort

set_option maxHeartbeats 4000000 in
set_option maxRecDepth 100000 in
theorem doms_any (x : Sl) (LL : List (List Int)) (w : World) (hx : IsRows w x LL) (hn : LL.length ≤ 1000) (hs : ∀ l ∈ LL, l.length ≤ 1000000) :
    Calls Tryz.prog 18 #[.slice x.A x.n x.c] w fun e w' => (∃ (y : Sl) (ds : List Dv), e = .returned (.slice y.A y.n y.c) ∧ DomsO w.heap.size w' y ds (LL.map ofL)) ∧ Below w.heap.size w w' := by
  obtain ⟨i0, hi, hz0, hz1, hz2⟩ := info_parts infoDom
  have HI := Lib.hid (And.intro hi (And.intro hz0 (And.intro hz1 hz2)))
  have HX := Lib.hid hx
  have hlen := hx.len
  have hxn : x.n ≤ 1000 := by omega
  have HLN := Lib.hid hlen
  have HSS : Hid (∀ k, k < x.n → (LL.getD k []).length ≤ 1000000) := Lib.hid (fun k hk => hs _ (by
    have hk' : k < LL.length := by omega
    rw [List.getD_eq_getElem?_getD, List.getElem?_eq_getElem hk']
    exact List.getElem_mem hk'))
  clear hi hz0 hz1 hz2 hx hn hs hlen
  go_enter Tryz.func18, Tryz.ntmps18
  go_wp2_with fail
  go_loopw [3, 10] (fun v i wr => ∃ (k : Nat) (y : Sl) (ds : List Dv), v = .slice y.A y.n y.c ∧ i = .int .i64 (k : Nat) ∧ k ≤ x.n ∧ Hid (DomsO w.heap.size wr y ds ((LL.take k).map ofL)) ∧ Hid (ds.length = k) ∧ Hid (Below w.heap.size w wr)) (fun _ i _ => x.n - (intOf i).toNat)
  case atStart => exact ⟨0, ⟨none, 0, 0⟩, [], rfl, rfl, by omega, Lib.hid (DomsO.nil _ _), Lib.hid rfl, Lib.hid (Below.refl _ _)⟩
  case round =>
    obtain ⟨k, y, ds, rfl, rfl, hk, HO, HK, HB⟩ := hrel
    by_cases hlt : k < x.n
    · obtain ⟨ad, u, ex, qx, ux⟩ := rows_at (HX.out.below HB.out) k hlt
      rw [ex]
      obtain ⟨uA, un, uc⟩ := u
      have hul : un = (LL.getD k []).length := ux.len
      have CO := Lib.hid (of_dom uA (LL.getD k []) uc wr (by have := ux.lies; simp only at this; rw [hul] at this; exact this) (HSS.out k hlt))
      rw [← hul] at CO
      have HT : Hid ((LL.take (k + 1)).map ofL = (LL.take k).map ofL ++ [ofL (LL.getD k [])]) := Lib.hid (by
        have hk' : k < LL.length := by rw [← HLN.out]; exact hlt
        rw [List.take_succ_eq_append_getElem hk', List.map_append, List.getD_eq_getElem?_getD, List.getElem?_eq_getElem hk']
        rfl)
      generalize ofL (LL.getD k []) = R at CO HT
      clear ux hul ex
      go_wp2_with fail
      refine CO.out.mono ?_
      rintro e w1 ⟨d, rfl, hd, b1⟩
      obtain ⟨dv, rfl, hdL⟩ := Dv.of hd
      have HD := Lib.hid hd
      have HDL := Lib.hid hdL
      have HO1 := Lib.hid (HO.out.below b1)
      have HB1 := Lib.hid (HB.out.trans (b1.mono HB.out.size))
      clear CO hd hdL b1 HO HB
      obtain ⟨w2, hw2⟩ : ∃ w2, w1.alloc (.cells dv.cells.toArray 53) = w2 := ⟨_, rfl⟩
      have hnew := heap_alloc_new w1 (.cells dv.cells.toArray 53)
      rw [hw2] at hnew
      have b12 : Below w1.heap.size w1 w2 := hw2 ▸ below1 w1 _
      have c0 : w2.cell? ⟨w1.heap.size, 0, none⟩ = some (.int .i64 dv.s) := blk_cell hnew rfl
      have c1 : w2.cell? ⟨w1.heap.size, 1, none⟩ = some (.slice dv.A dv.n dv.c) := blk_cell hnew rfl
      have c2 : w2.cell? ⟨w1.heap.size, 2, none⟩ = some (.int .i64 dv.z) := blk_cell hnew rfl
      have HO2 := Lib.hid (HO1.out.below b12)
      have HD2 := Lib.hid (HD.out.below b12)
      have HB2 := Lib.hid (HB1.out.trans (b12.mono HB1.out.size))
      have HR2 := Lib.hid ((HO2.out.row).below (below1 w2 (.cells #[.int .i64 dv.s, .slice dv.A dv.n dv.c, .int .i64 dv.z] 53)))
      have C3 : Hid (∀ j u, dv.cells[j]? = some u → (w2.alloc (.cells #[.int .i64 dv.s, .slice dv.A dv.n dv.c, .int .i64 dv.z] 53)).cell? ((⟨w2.heap.size, 0, none⟩ : Addr).add j) = some u) := Lib.hid (fun j u hj => by
        have hn := heap_alloc_new w2 (.cells #[.int .i64 dv.s, .slice dv.A dv.n dv.c, .int .i64 dv.z] 53)
        rw [Addr.add_mid, Nat.zero_add]
        match j, hj with
        | 0, hj => exact blk_cell hn hj
        | 1, hj => exact blk_cell hn hj
        | 2, hj => exact blk_cell hn hj)
      have Z1 : Hid (∀ u ∈ (Value.agg #[.int .i64 0, .slice none 0 0, .int .i64 0]).cells, plainV u) := Lib.hid (fun u hu => dv_plain ⟨0, none, 0, 0, 0⟩ u (by simpa [Value.cells] using hu))
      have Z2 : Hid (∀ u ∈ dv.cells, u.oneCell' = true) := Lib.hid (fun u hu => by
        simp only [Dv.cells, List.mem_cons, List.not_mem_nil, or_false] at hu
        rcases hu with rfl | rfl | rfl <;> rfl)
      have P3 := Lib.hid (dv_plain dv)
      have Z3 : Hid (ds.length + 1 ≤ maxLen) := Lib.hid (by have := HK.out; unfold maxLen; omega)
      have Z4 : Hid ((ds.length + 1) * 40 ≤ 140737488355328) := Lib.hid (by have := HK.out; omega)
      have Z6 : Hid (w.heap.size ≤ (w2.alloc (.cells #[.int .i64 dv.s, .slice dv.A dv.n dv.c, .int .i64 dv.z] 53)).heap.size) := Lib.hid (by have := HB2.out.size; simp; omega)
      clear hnew b12 HO1 HD HB1
      go_upto_region 6 with fail
      clear hw2
      go_wp2_with (at_builtin; refine wpList_append_rowp _ rfl _ _ 36 rfl w.heap.size 53 i0 (.agg #[.int .i64 0, .slice none 0 0, .int .i64 0]) 3 40 Tryz.underlying36 HI.out.1 HI.out.2.1 HI.out.2.2.1 HI.out.2.2.2 rfl (by decide) Z1.out _ _ _ rfl HR2.out ⟨w2.heap.size, 0, none⟩ 1 dv.cells rfl rfl C3.out Z2.out P3.out Z3.out Z4.out Z6.out ?_; intro v' w6 R6 G6)
      obtain ⟨Y, kY, rfl⟩ := slice_row R6.1
      have K2 := below1 w2 (.cells #[.int .i64 dv.s, .slice dv.A dv.n dv.c, .int .i64 dv.z] 53)
      have HO6 : Hid (DomsO w.heap.size w6 ⟨Y, ds.length + 1, kY⟩ (ds ++ [dv]) ((LL.take (k + 1)).map ofL)) := Lib.hid (by
        rw [HT.out]
        exact (HO2.out.below K2).step (HD2.out.below K2) R6 G6)
      have HB6 : Hid (Below w.heap.size w w6) := Lib.hid ((HB2.out.trans (K2.mono HB2.out.size)).trans (HR2.out.low G6 Z6.out (Nat.le_refl _)))
      have HK6 : Hid ((ds ++ [dv]).length = k + 1) := Lib.hid (by simp [HK.out])
      clear K2 R6 G6 HO2 HD2 HR2 C3 Z1 Z2 P3 Z3 Z4 Z6 HB2 HT c0 c1 c2
      go_wp2_with fail
      go_roundw
      case rel => exact ⟨k + 1, ⟨Y, _, kY⟩, ds ++ [dv], rfl, by go_num, by omega, HO6, HK6, HB6⟩
      case measure => simp [intOf]; omega
    · have HF : Hid (DomsO w.heap.size wr y ds (LL.map ofL)) := Lib.hid (by
        have := HO.out
        rwa [List.take_of_length_le (by rw [← HLN.out]; omega)] at this)
      clear HO
      go_wp2_with fail
      go_ret
      exact ⟨⟨y, ds, rfl, HF.out⟩, HB.out⟩

set_option maxHeartbeats 4000000 in
set_option maxRecDepth 100000 in
theorem lists_any (x : Sl) (LL : List (List Int)) (w : World) (hx : DomsIn w x LL) (hT : TabZ w) (hn : LL.length ≤ 1000) :
    Calls Tryz.prog 22 #[.slice x.A x.n x.c] w fun e w' => (∃ (y : Sl) (xs : List Sl), e = .returned (.slice y.A y.n y.c) ∧ RowsO w.heap.size w' y xs LL) ∧ Below w.heap.size w w' := by
  obtain ⟨i0, hi, hz0, hz1, hz2⟩ := info_parts infoSl'
  have HI := Lib.hid (And.intro hi (And.intro hz0 (And.intro hz1 hz2)))
  have HX := Lib.hid hx
  have HT := Lib.hid hT
  have hlen := hx.len
  have hxn : x.n ≤ 1000 := by omega
  have HLN := Lib.hid hlen
  clear hi hz0 hz1 hz2 hx hn hlen hT
  go_enter Tryz.func22, Tryz.ntmps22
  go_wp2_with fail
  go_loopw [3, 8] (fun v i wr => ∃ (k : Nat) (y : Sl) (xs : List Sl), v = .slice y.A y.n y.c ∧ i = .int .i64 (k : Nat) ∧ k ≤ x.n ∧ Hid (RowsO w.heap.size wr y xs (LL.take k)) ∧ Hid (xs.length = k) ∧ Hid (Below w.heap.size w wr)) (fun _ i _ => x.n - (intOf i).toNat)
  case atStart => exact ⟨0, ⟨none, 0, 0⟩, [], rfl, rfl, by omega, Lib.hid (RowsO.nil _ _), Lib.hid rfl, Lib.hid (Below.refl _ _)⟩
  case round =>
    obtain ⟨k, y, xs, rfl, rfl, hk, HO, HK, HB⟩ := hrel
    by_cases hlt : k < x.n
    · obtain ⟨g, o, ex, hg, hc⟩ := (HX.out.below HB.out).lies (by omega)
      obtain ⟨d, hd, hD⟩ := hc k hlt
      rw [ex]
      have q0 : wr.cell? ⟨g, o + k * 3, none⟩ = some (.int .i64 d.s) := hd 0 _ rfl
      have q1 : wr.cell? ⟨g, o + k * 3 + 1, none⟩ = some (.slice d.A d.n d.c) := hd 1 _ rfl
      have q2 : wr.cell? ⟨g, o + k * 3 + 2, none⟩ = some (.int .i64 d.z) := hd 2 _ rfl
      obtain ⟨w1, hw1⟩ : ∃ w1, wr.alloc (.cells #[.int .i64 d.s, .slice d.A d.n d.c, .int .i64 d.z] 53) = w1 := ⟨_, rfl⟩
      have hnew := heap_alloc_new wr (.cells #[.int .i64 d.s, .slice d.A d.n d.c, .int .i64 d.z] 53)
      rw [hw1] at hnew
      have b1 : Below wr.heap.size wr w1 := hw1 ▸ below1 wr _
      have c0 : w1.cell? ⟨wr.heap.size, 0, none⟩ = some (.int .i64 d.s) := blk_cell hnew rfl
      have c1 : w1.cell? ⟨wr.heap.size, 1, none⟩ = some (.slice d.A d.n d.c) := blk_cell hnew rfl
      have c2 : w1.cell? ⟨wr.heap.size, 2, none⟩ = some (.int .i64 d.z) := blk_cell hnew rfl
      have HT2 : Hid (LL.take (k + 1) = LL.take k ++ [LL.getD k []]) := Lib.hid (by
        have hk' : k < LL.length := by rw [← HLN.out]; exact hlt
        rw [List.take_succ_eq_append_getElem hk', List.getD_eq_getElem?_getD, List.getElem?_eq_getElem hk']
        rfl)
      generalize LL.getD k [] = R at hD HT2
      have HB1 := Lib.hid (HB.out.trans (b1.mono HB.out.size))
      have HO1 := Lib.hid (HO.out.below b1)
      have CL := Lib.hid (list_dom d.val R w1 (hD.below b1) (HT.out.below HB1.out))
      clear hc hd hD ex hg hnew b1 HO HB
      go_wp2_with fail
      refine CL.out.mono ?_
      rintro e w2 ⟨v2, rfl, h2, b2⟩
      obtain ⟨Y2, k2, rfl⟩ := slice_row h2
      have HN : Hid (Row3 w2 w.heap.size ⟨Y2, R.length, k2⟩ R) := Lib.hid (own_base h2 HB1.out.size)
      have HO2 := Lib.hid (HO1.out.below b2)
      have HB2 := Lib.hid (HB1.out.trans (b2.mono HB1.out.size))
      have K2 := below1 w2 (.cells #[.slice Y2 R.length k2] 30)
      have HO3 := Lib.hid (HO2.out.below K2)
      have HN3 : Hid (Row3 (w2.alloc (.cells #[.slice Y2 R.length k2] 30)) w.heap.size ⟨Y2, R.length, k2⟩ R) := Lib.hid (own_keep' HN.out fun g hg => K2.block g (own_lt' HN.out hg).2)
      have HB3 := Lib.hid (HB2.out.trans (K2.mono HB2.out.size))
      have Z3 : Hid (xs.length + 1 ≤ maxLen) := Lib.hid (by have := HK.out; unfold maxLen; omega)
      have Z4 : Hid ((xs.length + 1) * 24 ≤ 140737488355328) := Lib.hid (by have := HK.out; omega)
      clear h2 b2 K2 CL HO1 HB1 HO2 HN c0 c1 c2 q0 q1 q2 hw1
      go_wp2_with (at_builtin; refine wpList_append_own _ rfl _ _ 27 rfl w.heap.size 30 i0 (.slice none 0 0) 1 24 Tryz.underlying27 HI.out.1 HI.out.2.1 HI.out.2.2.1 HI.out.2.2.2 rfl (by decide) _ _ _ rfl HO3.out.row ⟨_, 0, none⟩ 1 1 [.slice Y2 R.length k2] rfl rfl ?c1 ?c2 Z3.out Z4.out HB3.out.size ?_)
      case c1 => intro j u hj; match j, hj with | 0, hj => simp at hj; subst hj; simp [Addr.add]
      case c2 => intro u hu; simp at hu; subst hu; rfl
      intro v' w7 hown' hgrow _
      obtain ⟨Y, kY, rfl⟩ := slice_row hown'
      have HO7 : Hid (RowsO w.heap.size w7 ⟨Y, xs.length + 1, kY⟩ (xs ++ [⟨Y2, R.length, k2⟩]) (LL.take (k + 1))) := Lib.hid (by
        rw [HT2.out]
        exact HO3.out.step HN3.out hown' hgrow)
      have HB7 := Lib.hid (HB3.out.grown hgrow HB3.out.size (own_ge HO3.out.row))
      have HK7 : Hid ((xs ++ [(⟨Y2, R.length, k2⟩ : Sl)]).length = k + 1) := Lib.hid (by simp [HK.out])
      clear hown' hgrow HO3 HN3 HB3 HB2 HT2 Z3 Z4 HK
      go_wp2_with fail
      go_roundw
      case rel => exact ⟨k + 1, ⟨Y, _, kY⟩, xs ++ [⟨Y2, R.length, k2⟩], rfl, by go_num, by omega, HO7, HK7, HB7⟩
      case measure => simp [intOf]; omega
    · have HF : Hid (RowsO w.heap.size wr y xs LL) := Lib.hid (by
        have := HO.out
        rwa [List.take_of_length_le (by rw [← HLN.out]; omega)] at this)
      clear HO
      go_wp2_with fail
      go_ret
      exact ⟨⟨y, xs, rfl, HF.out⟩, HB.out⟩
end Go.Proofs.YtkhmocbfkpbpfaaGreatDoor

/- What the laws on refused constraints need (layers 10 to 22): a shorter slice, a row taken away, a block of eight cells written. No walk. -/
namespace Go.Proofs.YtkhmocbfkpbpfaaGreatDoor
open Go.RowKit Go.Sort

theorem getD_take' {α : Type} (R : List α) (d : α) {k i : Nat} (h : i < k) : (R.take k).getD i d = R.getD i d := by
  rw [List.getD_eq_getElem?_getD, List.getD_eq_getElem?_getD, List.getElem?_take_of_lt h]
theorem IsRows.cut {w : World} {y : Sl} {R : List (List Int)} (h : IsRows w y R) {k : Nat} (hk : k ≤ y.n) : IsRows w ⟨y.A, k, y.c⟩ (R.take k) := by
  refine ⟨by have := h.len; simp only [List.length_take]; omega, by have := h.big; simp only; omega, fun hp => ?_⟩
  simp only at hp
  obtain ⟨ad, e, hb, hc⟩ := h.lies (by omega)
  refine ⟨ad, e, hb, fun i hi => ?_⟩
  simp only at hi
  obtain ⟨u, h1, h2⟩ := hc i (by omega)
  rw [getD_take' _ _ hi]
  exact ⟨u, h1, h2⟩
theorem IsNs.cut {w : World} {x : Sl} {L : List Int} (h : IsNs .i64 w x L) {k : Nat} (hk : k ≤ x.n) (h5 : k ≤ 1000) : IsInts w ⟨x.A, k, x.c⟩ (L.take k) := by
  refine ⟨by have := h.len; simp only [List.length_take]; omega, fun hp => ?_, by simp only; omega, by have := h.cap; simp only; omega⟩
  simp only at hp
  obtain ⟨ad, e, hb, hc⟩ := h.lies (by omega)
  refine ⟨ad, e, hb, fun i hi => ?_⟩
  simp only at hi
  rw [hc i (by omega)]
  show some (Value.int .i64 (L.getD i 0)) = some (Value.int .i64 ((L.take k).getD i 0))
  rw [getD_take' _ _ hi]
/-- The first row is taken away. -/
theorem RowsO.nil0 {B : Nat} {W : World} {y : Sl} {xs : List Sl} {R : List (List Int)} (h : RowsO B W y xs R) {g : Nat} (hA : y.A = some ⟨g, 0, none⟩) : RowsO B (W.setCell ⟨g, 0, none⟩ (.slice none 0 0)) y (xs.set 0 ⟨none, 0, 0⟩) (R.set 0 []) := by
  have hrow := h.row
  obtain ⟨A', c', e⟩ := slice_row h.row
  simp only [Value.slice.injEq] at e
  obtain ⟨-, hyn, -⟩ := e
  rw [hA, hyn] at hrow
  obtain ⟨h1, hG⟩ := World.ownsRow.stored hrow 0 (.slice none 0 0)
  refine ⟨?_, by rw [List.length_set, List.length_set]; exact h.len, fun k x r e1 e2 => ?_⟩
  · rw [List.length_set, List.map_set, hA, hyn]
    exact h1
  · by_cases hk : k = 0
    · subst hk
      rw [List.getElem?_set] at e1 e2
      simp only [if_true] at e1 e2
      split at e1
      · injection e1 with e1
        split at e2
        · injection e2 with e2
          subst e1
          subst e2
          exact Row3.nil _ _
        · cases e2
      · cases e1
    · rw [List.getElem?_set_ne (Ne.symm hk)] at e1 e2
      have hx := h.each k x r e1 e2
      refine own_keep' hx fun q hq => hG.block q (own_lt' hx hq).2 fun e => ?_
      obtain ⟨c1, k1⟩ := own_type hx hq
      have hoy : (Value.slice y.A y.n y.c).ownBlock = some g := by rw [hA]; rfl
      obtain ⟨c2, k2⟩ := own_type h.row hoy
      injection e with e
      rw [← e, k1] at k2
      simp at k2
/-- A block of eight cells, written whole. -/
theorem put8 {W : World} {g : Nat} {ty : TypeId} {b0 b1 b2 b3 b4 b5 b6 b7 : Value} (hb : W.heap[g]? = some (.cells #[b0, b1, b2, b3, b4, b5, b6, b7] ty (0, 0))) (a0 a1 a2 a3 a4 a5 a6 a7 : Value) :
    ((((((((W.setCell ⟨g, 0, none⟩ a0).setCell ⟨g, 1, none⟩ a1).setCell ⟨g, 2, none⟩ a2).setCell ⟨g, 3, none⟩ a3).setCell ⟨g, 4, none⟩ a4).setCell ⟨g, 5, none⟩ a5).setCell ⟨g, 6, none⟩ a6).setCell ⟨g, 7, none⟩ a7).heap[g]? = some (.cells #[a0, a1, a2, a3, a4, a5, a6, a7] ty (0, 0)) ∧
    Kp g W ((((((((W.setCell ⟨g, 0, none⟩ a0).setCell ⟨g, 1, none⟩ a1).setCell ⟨g, 2, none⟩ a2).setCell ⟨g, 3, none⟩ a3).setCell ⟨g, 4, none⟩ a4).setCell ⟨g, 5, none⟩ a5).setCell ⟨g, 6, none⟩ a6).setCell ⟨g, 7, none⟩ a7) := by
  have h0 : (W.setCell ⟨g, 0, none⟩ a0).heap[g]? = some (.cells #[a0, b1, b2, b3, b4, b5, b6, b7] ty (0, 0)) := by simpa using box_put (j := 0) (x := a0) hb
  have h1 : ((W.setCell ⟨g, 0, none⟩ a0).setCell ⟨g, 1, none⟩ a1).heap[g]? = some (.cells #[a0, a1, b2, b3, b4, b5, b6, b7] ty (0, 0)) := by simpa using box_put (j := 1) (x := a1) h0
  have h2 : (((W.setCell ⟨g, 0, none⟩ a0).setCell ⟨g, 1, none⟩ a1).setCell ⟨g, 2, none⟩ a2).heap[g]? = some (.cells #[a0, a1, a2, b3, b4, b5, b6, b7] ty (0, 0)) := by simpa using box_put (j := 2) (x := a2) h1
  have h3 : ((((W.setCell ⟨g, 0, none⟩ a0).setCell ⟨g, 1, none⟩ a1).setCell ⟨g, 2, none⟩ a2).setCell ⟨g, 3, none⟩ a3).heap[g]? = some (.cells #[a0, a1, a2, a3, b4, b5, b6, b7] ty (0, 0)) := by simpa using box_put (j := 3) (x := a3) h2
  have h4 : (((((W.setCell ⟨g, 0, none⟩ a0).setCell ⟨g, 1, none⟩ a1).setCell ⟨g, 2, none⟩ a2).setCell ⟨g, 3, none⟩ a3).setCell ⟨g, 4, none⟩ a4).heap[g]? = some (.cells #[a0, a1, a2, a3, a4, b5, b6, b7] ty (0, 0)) := by simpa using box_put (j := 4) (x := a4) h3
  have h5 : ((((((W.setCell ⟨g, 0, none⟩ a0).setCell ⟨g, 1, none⟩ a1).setCell ⟨g, 2, none⟩ a2).setCell ⟨g, 3, none⟩ a3).setCell ⟨g, 4, none⟩ a4).setCell ⟨g, 5, none⟩ a5).heap[g]? = some (.cells #[a0, a1, a2, a3, a4, a5, b6, b7] ty (0, 0)) := by simpa using box_put (j := 5) (x := a5) h4
  have h6 : (((((((W.setCell ⟨g, 0, none⟩ a0).setCell ⟨g, 1, none⟩ a1).setCell ⟨g, 2, none⟩ a2).setCell ⟨g, 3, none⟩ a3).setCell ⟨g, 4, none⟩ a4).setCell ⟨g, 5, none⟩ a5).setCell ⟨g, 6, none⟩ a6).heap[g]? = some (.cells #[a0, a1, a2, a3, a4, a5, a6, b7] ty (0, 0)) := by simpa using box_put (j := 6) (x := a6) h5
  have h7 : ((((((((W.setCell ⟨g, 0, none⟩ a0).setCell ⟨g, 1, none⟩ a1).setCell ⟨g, 2, none⟩ a2).setCell ⟨g, 3, none⟩ a3).setCell ⟨g, 4, none⟩ a4).setCell ⟨g, 5, none⟩ a5).setCell ⟨g, 6, none⟩ a6).setCell ⟨g, 7, none⟩ a7).heap[g]? = some (.cells #[a0, a1, a2, a3, a4, a5, a6, a7] ty (0, 0)) := by simpa using box_put (j := 7) (x := a7) h6
  exact ⟨h7, (((((((Kp.refl g W).put 0 a0).put 1 a1).put 2 a2).put 3 a3).put 4 a4).put 5 a5).put 6 a6 |>.put 7 a7⟩
theorem some_of {c : ConL} {n : Nat} (h : rightE c (n : Int) = 0) : 1 ≤ c.A.length + c.B.length ∧ c.A.length + c.B.length ≤ 128 := by
  have r := con_r h
  have h1 := r.a64
  have h2 := r.b64
  by_cases hk : c.kind = 12
  · obtain ⟨-, -, hs, -⟩ := right_parts h
    rw [size_12 c hk] at hs
    omega
  · have := r.a1 hk
    omega
/-- append of a new row of one number, at the walk's operation: blocks of another type stay. -/
theorem wpList_append_row1 {ops : Array Oper} {rest : List Oper} {o : Oper} {a : Act} {Q : Exit → Act → World → Prop} (hgd : o.guard = none) (s x : Operand)
    (ho : o.op = .call { callee := .builtin .append, args := #[s, x], argTypes := #[27, 27] })
    {B : Nat} {w : World} {y : Sl} {xs : List Sl} {R : List (List Int)} (hF : RowsO B w y xs R) (hlo : B ≤ w.heap.size) (v : Int) (hs : a.eval s = .slice y.A y.n y.c) (hx : a.eval x = .slice (some ⟨w.heap.size + 1, 0, none⟩) 1 1) (hn : xs.length < 1000000)
    (h : ∀ (y' : Sl) w', RowsO B w' y' (xs ++ [⟨some ⟨w.heap.size, 0, none⟩, 1, 1⟩]) (R ++ [[v]]) → Below B w w' → (∀ (k : Nat) (cs : Array Value) (t : TypeId), w.heap[k]? = some (.cells cs t (0, 0)) → t ≠ 30 → w'.heap[k]? = w.heap[k]?) → wpList Tryz.prog ops Q rest (a.put o.dst (.slice y'.A y'.n y'.c)) w') :
    wpList Tryz.prog ops Q (o :: rest) a ((w.alloc (.cells #[.int .i64 v] 3)).alloc (.cells #[.slice (some ⟨w.heap.size, 0, none⟩) 1 1] 30)) := by
  obtain ⟨i0, hi, hz0, hz1, hz2⟩ := info_parts infoSl'
  have b1 := below1 w (.cells #[.int .i64 v] 3)
  have s1 : (w.alloc (.cells #[.int .i64 v] 3)).heap.size = w.heap.size + 1 := by simp
  have b2 := below1 (w.alloc (.cells #[.int .i64 v] 3)) (.cells #[.slice (some ⟨w.heap.size, 0, none⟩) 1 1] 30)
  have hN : Row3 (w.alloc (.cells #[.int .i64 v] 3)) B ⟨some ⟨w.heap.size, 0, none⟩, 1, 1⟩ [v] := World.ownsRow_lit (base := B) (e := 3) (size := 1) w #[.int .i64 v] 1 hlo (by decide) rfl
  have hN2 := row3_below hN b2
  have hF2 := (hF.below b1).below b2
  have hlo2 : B ≤ ((w.alloc (.cells #[.int .i64 v] 3)).alloc (.cells #[.slice (some ⟨w.heap.size, 0, none⟩) 1 1] 30)).heap.size := by simp; omega
  refine wpList_plain hgd fun K hK => ?_
  obtain ⟨v', w', hr, h2, h3, h4, h5⟩ := run_append_own_at (P := Tryz.prog) ((w.alloc (.cells #[.int .i64 v] 3)).alloc (.cells #[.slice (some ⟨w.heap.size, 0, none⟩) 1 1] 30)) B 27 o.type 30 i0 (.slice none 0 0) 1 24 Tryz.underlying27 hi hz0 hz1 hz2 rfl (by decide) (.slice y.A y.n y.c) _ _ hF2.row ⟨w.heap.size + 1, 0, none⟩ 1 1 [.slice (some ⟨w.heap.size, 0, none⟩) 1 1] rfl
    (by have := new1_cells' (w.alloc (.cells #[.int .i64 v] 3)) (.slice (some ⟨w.heap.size, 0, none⟩) 1 1) 30; rw [s1] at this; exact this) (fun u hu => by simp at hu; subst hu; rfl) (by unfold maxLen; omega) (by omega) hlo2
  obtain ⟨Y, cY, rfl⟩ := slice_row h2
  unfold Oper.wp execOp
  simp only [ho, resolve, invoke, builtin, Sem.run_bind, Sem.run_pure, Result.andThen_ok, List.map_toArray, List.map_cons, List.map_nil, hs, hx, hr]
  have hO := hF2.step (y' := ⟨Y, xs.length + 1, cY⟩) hN2 h2 h3
  refine hK _ _ (h ⟨Y, xs.length + 1, cY⟩ w' hO ?_ (fun k cs t hk ht => ?_))
  · have b3 : Below B ((w.alloc (.cells #[.int .i64 v] 3)).alloc (.cells #[.slice (some ⟨w.heap.size, 0, none⟩) 1 1] 30)) w' := ⟨h3.os, h3.tape, h3.output, h3.size, fun q hq => h3.block q (by omega) (fun e => by have := (own_lt' hF2.row e.symm).1; omega)⟩
    exact ((b1.mono hlo).trans (b2.mono (by simp; omega))).trans b3
  · have hlt := (Array.getElem?_eq_some_iff.1 hk).1
    have k1 := (b1.block k hlt).trans hk
    have k2 := (b2.block k (Array.getElem?_eq_some_iff.1 k1).1).trans k1
    have h4 := h3.block k (Array.getElem?_eq_some_iff.1 k2).1 (fun e => by
      obtain ⟨c2, q2⟩ := own_type hF2.row e.symm
      rw [k2] at q2
      injection q2 with q2
      injection q2 with _ q2 _
      exact ht q2)
    rw [h4, k2, hk]
/-- Rows stay, when a block of another type is written. -/
theorem RowsO.far8 {B g : Nat} {W W' : World} {y : Sl} {xs : List Sl} {R : List (List Int)} {cs : Array Value} (h : RowsO B W y xs R) (hg : W.heap[g]? = some (.cells cs 32 (0, 0))) (k : Kp g W W') : RowsO B W' y xs R := by
  refine ⟨own_keep' h.row fun q hq => k.block q (own_lt' h.row hq).2 fun e => ?_, h.len, fun i x r h1 h2 => own_keep' (h.each i x r h1 h2) fun q hq => k.block q (own_lt' (h.each i x r h1 h2) hq).2 fun e => ?_⟩
  · obtain ⟨c1, k1⟩ := own_type h.row hq
    rw [e, hg] at k1
    simp at k1
  · obtain ⟨c1, k1⟩ := own_type (h.each i x r h1 h2) hq
    rw [e, hg] at k1
    simp at k1
def cut5 (n : Nat) : Nat := if n < 5 then n else 5
theorem cut5_le (n : Nat) : cut5 n ≤ n ∧ cut5 n ≤ 5 := by unfold cut5; split <;> omega
theorem cut5_min (n : Nat) : min ((n : Nat) : Int) 5 = (cut5 n : Nat) := by unfold cut5; split <;> omega
theorem cut5_run (A : Option Addr) (n c m : Nat) (h : m ≤ c) (W : World) : (Instr.slice 30 (.slice A n c) none (some (.int .i64 (m : Nat))) none).run Tryz.prog W = .ok (.slice A m c) W := by
  have hu := run_underlying Tryz.underlying30 W
  simp [Instr.slice, hu, Instr.sliceBounds, Instr.sliceBound, asIntOf, go_sem]
  intro h'
  omega
theorem cutR_run (A : Option Addr) (n c m : Nat) (h : m ≤ c) (W : World) : (Instr.slice 27 (.slice A n c) none (some (.int .i64 (m : Nat))) none).run Tryz.prog W = .ok (.slice A m c) W := by
  have hu := run_underlying Tryz.underlying27 W
  simp [Instr.slice, hu, Instr.sliceBounds, Instr.sliceBound, asIntOf, go_sem]
  intro h'
  omega
end Go.Proofs.YtkhmocbfkpbpfaaGreatDoor
