/- Contract of the reference's Back (layer 3). -/
import Derived.Test.YtegiaonlneamfaaDoorRef3p
namespace Go.Proofs.YtegiaonlneamfaaDoor
open Go.RowKit

theorem refback_bad (A1 A2 : Option Addr) (n c1 n2 c2 : Nat) (l : Int) (w : World) (hbig : n ≤ 100) (hl : l < 0 ∨ (n : Int) - 1 < l) :
    Calls Tryd.prog 12 #[.agg #[.slice A1 n c1, .slice A2 n2 c2], .int .i64 l] w fun e w' => e = .returned (.tuple #[.agg #[.slice A1 n c1, .slice A2 n2 c2], .int .i64 2]) ∧ Below w.heap.size w w' := by
  have K : ∀ o o', Below w.heap.size w ((w.alloc o).alloc o') := fun o o' => below2 w o o'
  have w1 : IntKind.i64.wrap ((n : Int) - 1) = (n : Int) - 1 := IntWalk.i64_in _ (by omega)
  by_cases h0 : l < 0
  · have h1 : decide (l < 0) = true := by simpa using h0
    clear hl h0
    go_enter Tryd.func12, Tryd.ntmps12
    go_wp2
    exact bodyPost_ret (v := .tuple #[.agg #[.slice A1 n c1, .slice A2 n2 c2], .int .i64 2]) (by simp [results, Tryd.results12, go_sem]) rfl ⟨rfl, K _ _⟩
  · have h1 : decide (l < 0) = false := by simpa using h0
    have h2 : decide ((n : Int) - 1 < l) = true := by simp; omega
    clear hl h0
    go_enter Tryd.func12, Tryd.ntmps12
    go_wp2
    exact bodyPost_ret (v := .tuple #[.agg #[.slice A1 n c1, .slice A2 n2 c2], .int .i64 2]) (by simp [results, Tryd.results12, go_sem]) rfl ⟨rfl, K _ _⟩

set_option maxHeartbeats 4000000 in
set_option maxRecDepth 100000 in
theorem refback_ok (lv ev : Value) (H : List (List (List Int))) (l : Nat) (w : World) (h : LevT w lv H) (hlt' : l < H.length) (hev : ∃ A n c, ev = .slice A n c) (hbig : H.length ≤ 100) :
    Calls Tryd.prog 12 #[.agg #[lv, ev], .int .i64 (l : Nat)] w fun e w' => ∃ lv', e = .returned (.tuple #[.agg #[lv', .slice none 0 0], .int .i64 0]) ∧ LevT w' lv' (H.take (l + 1)) ∧ Below w.heap.size w w' := by
  obtain ⟨i1, hi1, hz0, hz1, hz2⟩ := info_parts info22
  obtain ⟨vs, hrow, hrs⟩ := h
  have hvl : vs.length = H.length := by have := hrow.1; omega
  obtain ⟨A2, n2, c2, rfl⟩ := hev
  obtain ⟨A1, c1, rfl⟩ := slice_row hrow
  have HRow := Lib.hid hrow
  have HRs := Lib.hid hrs
  obtain ⟨n, hn⟩ : ∃ n, n = H.length := ⟨_, rfl⟩
  have Hn := Lib.hid hn
  rw [← hn] at hbig hlt' ⊢
  have Hvl : Hid (vs.length = n) := Lib.hid (by rw [hn]; exact hvl)
  rw [← hn] at HRow
  have w1 : IntKind.i64.wrap ((n : Int) - 1) = (n : Int) - 1 := IntWalk.i64_in _ (by omega)
  have h2 : decide ((n : Int) - 1 < (l : Int)) = false := by simp; omega
  clear hrow hrs hvl hn
  go_enter Tryd.func12, Tryd.ntmps12
  go_wp2_with fail
  have HC0 : Hid (Copy w (((w.alloc (.cells #[.slice A1 n c1, .slice A2 n2 c2] 32)).alloc (.cells #[.slice none 0 0, .slice none 0 0] 32)).alloc (.cells #[.slice none 0 0, .slice none 0 0] 32)) w.heap.size (w.heap.size + 1 + 1) (.slice A1 n c1) (.slice A2 n2 c2) (.slice none 0 0) (.slice none 0 0) 0 (vs.take 0) ∧ Blk (((w.alloc (.cells #[.slice A1 n c1, .slice A2 n2 c2] 32)).alloc (.cells #[.slice none 0 0, .slice none 0 0] 32)).alloc (.cells #[.slice none 0 0, .slice none 0 0] 32)) (w.heap.size + 1) #[.slice none 0 0, .slice none 0 0] 32) := Lib.hid (by
    have b1 := Blk.new w #[.slice A1 n c1, .slice A2 n2 c2] 32
    have b2 := Blk.new (w.alloc (.cells #[.slice A1 n c1, .slice A2 n2 c2] 32)) #[.slice none 0 0, .slice none 0 0] 32
    have b3 := Blk.new ((w.alloc (.cells #[.slice A1 n c1, .slice A2 n2 c2] 32)).alloc (.cells #[.slice none 0 0, .slice none 0 0] 32)) #[.slice none 0 0, .slice none 0 0] 32
    have e1 : (w.alloc (.cells #[.slice A1 n c1, .slice A2 n2 c2] 32)).heap.size = w.heap.size + 1 := by simp
    have e2 : ((w.alloc (.cells #[.slice A1 n c1, .slice A2 n2 c2] 32)).alloc (.cells #[.slice none 0 0, .slice none 0 0] 32)).heap.size = w.heap.size + 1 + 1 := by simp
    rw [e1] at b2
    rw [e2] at b3
    exact ⟨⟨(b1.below (below1 _ _)).below (below1 _ _), b3, World.ownsRow_nil _ _ _ _, (below2 _ _ _).trans ((below1 _ _).mono (by simp; omega)), by omega, Nat.le_refl _, by omega⟩, b2.below (below1 _ _)⟩)
  clear h2
  go_loopw [8] (fun i wr => ∃ k : Nat, k ≤ l + 1 ∧ i = .int .i64 (k : Nat) ∧ Hid (∃ cur, Copy w wr w.heap.size (w.heap.size + 1 + 1) (.slice A1 n c1) (.slice A2 n2 c2) cur (.slice none 0 0) k (vs.take k) ∧ Blk wr (w.heap.size + 1) #[.slice none 0 0, .slice none 0 0] 32)) (fun i _ => l + 1 - (intOf i).toNat)
  case atStart => exact ⟨0, Nat.zero_le _, rfl, Lib.hid ⟨_, HC0.out⟩⟩
  case round =>
    clear HC0
    obtain ⟨wo, rfl⟩ : ∃ wo, wo = wr := ⟨_, rfl⟩
    obtain ⟨k, hk, rfl, HH⟩ := hrel
    obtain ⟨cur, hC, hrb⟩ := HH.out
    obtain ⟨Cu, cc, rfl⟩ := slice_row hC.row
    have HC := Lib.hid hC
    have Hrb := Lib.hid hrb
    clear hC hrb HH
    by_cases hlt : k ≤ l
    · obtain ⟨LLk, hLk⟩ : ∃ LLk, H[k]? = some LLk := ⟨_, List.getElem?_eq_getElem (by rw [← Hn.out]; omega)⟩
      obtain ⟨x, hx⟩ : ∃ x, vs[k]? = some x := ⟨_, List.getElem?_eq_getElem (by rw [Hvl.out]; omega)⟩
      obtain ⟨X, cx, hX, -⟩ := (HRs.out k x LLk hx hLk).shape
      obtain ⟨g, eA, hcx⟩ : ∃ g, A1 = some ⟨g, 0, none⟩ ∧ w.cell? ⟨g, k, none⟩ = some x := by
        rcases HRow.out.2 with ⟨e, h0⟩ | ⟨g, cap, cu, e, hb, hg, hn', hm, hs, ht⟩
        · omega
        · refine ⟨g, (Value.slice.inj e).1, ?_⟩
          rw [Blk.cell (show Blk w g cu 22 from hg), ← Array.getElem?_toList, ← hx, ← ht, List.getElem?_take_of_lt (by omega)]
      subst eA
      have y0 : wo.cell? ⟨g, k, none⟩ = some x := (HC.out.low.cell (World.block_lt_of_cell? w ⟨g, k, none⟩ hcx)).trans hcx
      have Hst := Lib.hid (take_vs hx)
      subst hX
      have s0 : wo.cell? ⟨w.heap.size, 0, none⟩ = some (.slice (some ⟨g, 0, none⟩) n c1) := HC.out.src.cell 0
      have t0 : wo.cell? ⟨w.heap.size + 1 + 1, 0, none⟩ = some (.slice Cu k cc) := HC.out.dst.cell 0
      have K6 := below1 wo (.cells #[.slice X LLk.length cx] 22)
      have HC6 := Lib.hid (HC.out.below K6.drew)
      have t1 : (wo.alloc (.cells #[.slice X LLk.length cx] 22)).cell? ⟨w.heap.size + 1 + 1, 0, none⟩ = some (.slice Cu k cc) := (HC.out.below K6).dst.cell 0
      have C6 := Lib.hid (cells_new wo [.slice X LLk.length cx] 22)
      have Z2 : Hid (∀ u ∈ [Value.slice X LLk.length cx], u.oneCell' = true) := Lib.hid (by intro u hu; simp at hu; subst hu; rfl)
      have Z3 : Hid (k + 1 ≤ maxLen) := Lib.hid (by simp only [maxLen]; omega)
      have Z4 : Hid ((k + 1) * 24 ≤ 140737488355328) := Lib.hid (by omega)
      have Z5 : Hid (w.heap.size ≤ (wo.alloc (.cells #[.slice X LLk.length cx] 22)).drew.heap.size) := Lib.hid HC6.out.low.size
      have Hrb6 := Lib.hid (Hrb.out.below K6.drew)
      have hki : (k : Int) < (n : Nat) := by omega
      have hgl : w.heap.size < wo.heap.size := HC.out.src.lt
      clear hx hcx hLk K6 HC Hrb
      go_wp2_with fail
      go_region_law (refine step_append_own rfl (.tmp 28) (.tmp 34) 29 rfl w.heap.size 22 i1 (.slice none 0 0) 1 24 Tryd.underlying29 hi1 hz0 hz1 hz2 rfl (by decide) (.slice Cu k cc) k _ rfl HC6.out.row ⟨wo.heap.size, 0, none⟩ 1 [.slice X LLk.length cx] rfl rfl C6.out Z2.out Z3.out Z4.out Z5.out ?_; intro v6 w6 R6 G6; obtain ⟨X6, k6, rfl⟩ := slice_row R6; have HS := Lib.hid (HC6.out.step R6 G6); have f7 := HS.out.1.free 0; have c7 : w6.cell? ⟨w.heap.size + 1 + 1, 0, none⟩ = some (.slice Cu k cc) := HS.out.1.cell 0; have Hrb7 : Hid (Blk w6 (w.heap.size + 1) #[.slice none 0 0, .slice none 0 0] 32) := Lib.hid ((G6.block _ Hrb6.out.lt (own_ne HC6.out.row Hrb6.out (by decide))).trans Hrb6.out); clear R6 G6)
      all_goals
        have HN : Hid (∃ cur, Copy w (w6.setCell ⟨w.heap.size + 1 + 1, 0, none⟩ (.slice X6 (k + 1) k6)) w.heap.size (w.heap.size + 1 + 1) (.slice (some ⟨g, 0, none⟩) n c1) (.slice A2 n2 c2) cur (.slice none 0 0) (k + 1) (vs.take (k + 1)) ∧ Blk (w6.setCell ⟨w.heap.size + 1 + 1, 0, none⟩ (.slice X6 (k + 1) k6)) (w.heap.size + 1) #[.slice none 0 0, .slice none 0 0] 32) := Lib.hid ⟨_, by rw [Hst.out]; exact HS.out.2, Hrb7.out.other (show w.heap.size + 1 ≠ w.heap.size + 1 + 1 by omega) _⟩
        clear s0 t0 t1 y0 HC6 C6 Z2 Z3 Z4 Z5 HS Hrb6 Hrb7 f7 c7
        go_wp2_with fail
        go_roundw
        case rel => exact ⟨k + 1, by omega, by go_num, HN⟩
        case measure => simp [intOf]; omega
    · have d0 : wo.cell? ⟨w.heap.size + 1 + 1, 0, none⟩ = some (.slice Cu k cc) := HC.out.dst.cell 0
      have d1 : wo.cell? ⟨w.heap.size + 1 + 1, 1, none⟩ = some (.slice none 0 0) := HC.out.dst.cell 1
      have r0 : wo.cell? ⟨w.heap.size + 1, 0, none⟩ = some (.slice none 0 0) := Hrb.out.cell 0
      have r1 : wo.cell? ⟨w.heap.size + 1, 1, none⟩ = some (.slice none 0 0) := Hrb.out.cell 1
      have g0 := Hrb.out.free 0
      have g1 := Hrb.out.free 1
      have hkl : Hid (k = l + 1) := Lib.hid (by omega)
      obtain ⟨hq, hkeep, hlow⟩ := two_set Hrb.out (.slice Cu k cc) (.slice none 0 0)
      have q0 : ((wo.setCell ⟨w.heap.size + 1, 0, none⟩ (.slice Cu k cc)).setCell ⟨w.heap.size + 1, 1, none⟩ (.slice none 0 0)).cell? ⟨w.heap.size + 1, 0, none⟩ = some (.slice Cu k cc) := hq.cell 0
      have q1 : ((wo.setCell ⟨w.heap.size + 1, 0, none⟩ (.slice Cu k cc)).setCell ⟨w.heap.size + 1, 1, none⟩ (.slice none 0 0)).cell? ⟨w.heap.size + 1, 1, none⟩ = some (.slice none 0 0) := hq.cell 1
      have hL8 := hlow HC.out.low (by omega)
      have HL8 := Lib.hid hL8
      have HE : Hid (LevT ((wo.setCell ⟨w.heap.size + 1, 0, none⟩ (.slice Cu k cc)).setCell ⟨w.heap.size + 1, 1, none⟩ (.slice none 0 0)) (.slice Cu k cc) (H.take (l + 1))) := Lib.hid (by
        refine ⟨vs.take k, ?_, fun j y M hy hM => ?_⟩
        · have hlen : (H.take (l + 1)).length = k := by rw [List.length_take, ← Hn.out, hkl.out]; omega
          rw [hlen]
          exact own_base (own_keep HC.out.row fun g c hb => hkeep 22 g c (by decide) hb) (Nat.zero_le _)
        · have hj : j < l + 1 := by have := (List.getElem?_eq_some_iff.1 hM).1; rw [List.length_take] at this; omega
          rw [List.getElem?_take_of_lt hj] at hM
          rw [hkl.out, List.getElem?_take_of_lt hj] at hy
          exact (HRs.out j y M hy hM).below hL8)
      have HQ := Lib.hid (And.intro q0 q1)
      clear q0 q1 hq hkeep hlow hL8 HC Hrb
      go_wp2_with fail
      exact bodyPost_ret (v := .tuple #[.agg #[.slice Cu k cc, .slice none 0 0], .int .i64 0]) (by simp [results, Tryd.results12, go_sem, HQ.out.1, HQ.out.2]) rfl ⟨_, rfl, HE.out, HL8.out⟩
end Go.Proofs.YtegiaonlneamfaaDoor
