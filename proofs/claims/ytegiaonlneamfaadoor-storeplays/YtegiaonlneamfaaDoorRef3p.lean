/- Contract of the reference's Push (layer 3). -/
import Derived.Test.YtegiaonlneamfaaDoorRef3
namespace Go.Proofs.YtegiaonlneamfaaDoor
open Go.RowKit

theorem take_vs {vs : List Value} {k : Nat} {x : Value} (h : vs[k]? = some x) : vs.take (k + 1) = vs.take k ++ [x] := by
  obtain ⟨hj, e⟩ := List.getElem?_eq_some_iff.1 h
  rw [List.take_succ_eq_append_getElem hj, e]

/-- Rows that stay, one row more. -/
theorem LevT.of_snoc {w : World} {v x : Value} {H : List (List (List Int))} {LL : List (List Int)} {vs : List Value} {base : Nat} (h : w.ownsRow base 22 1 v (H.length + 1) (vs ++ [x])) (hl : vs.length = H.length) (h2 : ∀ (k : Nat) (x : Value) (LL : List (List Int)), vs[k]? = some x → H[k]? = some LL → RowsT w x LL) (hx : RowsT w x LL) : LevT w v (H ++ [LL]) := by
  refine ⟨vs ++ [x], by rw [List.length_append]; exact own_base h (Nat.zero_le _), fun k y M hy hM => ?_⟩
  by_cases hk : k < H.length
  · rw [List.getElem?_append_left (by omega)] at hy hM
    exact h2 k y M hy hM
  · have e : k = H.length := by
      have := (List.getElem?_eq_some_iff.1 hM).1
      simp at this
      omega
    subst e
    rw [List.getElem?_append_right (by omega), hl] at hy
    rw [List.getElem?_append_right (by omega)] at hM
    simp at hy hM
    subst hy hM
    exact hx

theorem RowsT.keep {w w' : World} {x : Value} {LL : List (List Int)} (h : RowsT w x LL) (h34 : ∀ g c, Blk w g c 34 → w'.heap[g]? = w.heap[g]?) (h3 : ∀ g c, Blk w g c 3 → w'.heap[g]? = w.heap[g]?) : RowsT w' x LL := by
  obtain ⟨vs, h1, h2⟩ := h
  exact ⟨vs, own_keep h1 h34, fun k x L a b => own_keep (h2 k x L a b) h3⟩

/-- Two cells of a box, written. -/
theorem two_set {w : World} {rb : Nat} {u0 u1 : Value} (hB : Blk w rb #[u0, u1] 32) (a b : Value) :
    Blk ((w.setCell ⟨rb, 0, none⟩ a).setCell ⟨rb, 1, none⟩ b) rb #[a, b] 32 ∧
    (∀ (e : TypeId) (g : Nat) (c : Array Value), e ≠ 32 → Blk w g c e → ((w.setCell ⟨rb, 0, none⟩ a).setCell ⟨rb, 1, none⟩ b).heap[g]? = w.heap[g]?) ∧
    (∀ {B : Nat} {w0 : World}, Below B w0 w → B ≤ rb → Below B w0 ((w.setCell ⟨rb, 0, none⟩ a).setCell ⟨rb, 1, none⟩ b)) := by
  refine ⟨(hB.set 0 a).set 1 b, fun e g c he hb => ?_, fun {B w0} h hBr => ?_⟩
  · have hne := hb.ne hB he
    exact (heap_setCell_other _ _ g b hne).trans (heap_setCell_other _ _ g a hne)
  · refine ⟨h.os, h.tape, h.output, by simpa [World.setCell] using h.size, fun k hk => ?_⟩
    have hne : k ≠ rb := by omega
    rw [← h.block k hk]
    exact (heap_setCell_other _ _ k b hne).trans (heap_setCell_other _ _ k a hne)

/-- Rows stay beside an append and a store into a box. -/
theorem rows_beside {w w6 : World} {x cur : Value} {LL : List (List Int)} {base k : Nat} {xs : List Value} {tb : Nat} {cs : Array Value} (h : RowsT w x LL) (hrow : w.ownsRow base 22 1 cur k xs) (hG : w.grownBy w6 cur.ownBlock) (hB : Blk w6 tb cs 32) (i : Nat) (v : Value) : RowsT (w6.setCell ⟨tb, i, none⟩ v) x LL := by
  have key : ∀ (e : TypeId) (g : Nat) (c : Array Value), e ≠ 22 → e ≠ 32 → Blk w g c e → (w6.setCell ⟨tb, i, none⟩ v).heap[g]? = w.heap[g]? := by
    intro e g c h1 h2 hb
    have e6 := hG.block g hb.lt (own_ne hrow hb (Ne.symm h1))
    have hb6 : Blk w6 g c e := e6.trans hb
    exact (heap_setCell_other w6 _ g v (hb6.ne hB h2)).trans e6
  obtain ⟨vs, h1, h2⟩ := h
  exact ⟨vs, own_keep h1 fun g c hb => key 34 g c (by decide) (by decide) hb, fun k x L a b => own_keep (h2 k x L a b) fun g c hb => key 3 g c (by decide) (by decide) hb⟩

set_option maxHeartbeats 4000000 in
set_option maxRecDepth 100000 in
theorem refpush_any (lv ev : Value) (H : List (List (List Int))) (LL : List (List Int)) (w : World) (h : LevT w lv H) (hH : H[H.length - 1]? = some LL) (hev : ∃ A n c, ev = .slice A n c) (hbig : H.length ≤ 100) :
    Calls Tryd.prog 10 #[.agg #[lv, ev]] w fun e w' => ∃ lv', e = .returned (.agg #[lv', ev]) ∧ LevT w' lv' (H ++ [LL]) ∧ Below w.heap.size w w' := by
  obtain ⟨i1, hi1, hz0, hz1, hz2⟩ := info_parts info22
  have HNow := Lib.hid fun (W : World) (hW : Below w.heap.size w W) => now_any lv ev H LL W (h.below hW) hH hev (by omega)
  have HL := Lib.hid h
  obtain ⟨vs, hrow, hrs⟩ := h
  have hvl : vs.length = H.length := by have := hrow.1; omega
  obtain ⟨A2, n2, c2, rfl⟩ := hev
  obtain ⟨A1, c1, rfl⟩ := slice_row hrow
  have HRow := Lib.hid hrow
  have HRs := Lib.hid hrs
  obtain ⟨n, hn⟩ : ∃ n, n = H.length := ⟨_, rfl⟩
  have Hn := Lib.hid hn
  rw [← hn] at hbig ⊢
  have Hvl : Hid (vs.length = n) := Lib.hid (by rw [hn]; exact hvl)
  rw [← hn] at HNow HRow
  clear hrow hrs hvl hn hH
  go_enter Tryd.func10, Tryd.ntmps10
  go_wp2_with fail
  have HC0 : Hid (Copy w (((w.alloc (.cells #[.slice A1 n c1, .slice A2 n2 c2] 32)).alloc (.cells #[.slice none 0 0, .slice none 0 0] 32)).alloc (.cells #[.slice none 0 0, .slice A2 n2 c2] 32)) w.heap.size (w.heap.size + 1 + 1) (.slice A1 n c1) (.slice A2 n2 c2) (.slice none 0 0) (.slice A2 n2 c2) 0 (vs.take 0) ∧ Blk (((w.alloc (.cells #[.slice A1 n c1, .slice A2 n2 c2] 32)).alloc (.cells #[.slice none 0 0, .slice none 0 0] 32)).alloc (.cells #[.slice none 0 0, .slice A2 n2 c2] 32)) (w.heap.size + 1) #[.slice none 0 0, .slice none 0 0] 32) := Lib.hid (by
    have b1 := Blk.new w #[.slice A1 n c1, .slice A2 n2 c2] 32
    have b2 := Blk.new (w.alloc (.cells #[.slice A1 n c1, .slice A2 n2 c2] 32)) #[.slice none 0 0, .slice none 0 0] 32
    have b3 := Blk.new ((w.alloc (.cells #[.slice A1 n c1, .slice A2 n2 c2] 32)).alloc (.cells #[.slice none 0 0, .slice none 0 0] 32)) #[.slice none 0 0, .slice A2 n2 c2] 32
    have e1 : (w.alloc (.cells #[.slice A1 n c1, .slice A2 n2 c2] 32)).heap.size = w.heap.size + 1 := by simp
    have e2 : ((w.alloc (.cells #[.slice A1 n c1, .slice A2 n2 c2] 32)).alloc (.cells #[.slice none 0 0, .slice none 0 0] 32)).heap.size = w.heap.size + 1 + 1 := by simp
    rw [e1] at b2
    rw [e2] at b3
    exact ⟨⟨(b1.below (below1 _ _)).below (below1 _ _), b3, World.ownsRow_nil _ _ _ _, (below2 _ _ _).trans ((below1 _ _).mono (by simp; omega)), by omega, Nat.le_refl _, by omega⟩, b2.below (below1 _ _)⟩)
  go_loopw [4] (fun i wr => ∃ k : Nat, k ≤ n ∧ i = .int .i64 (k : Nat) ∧ Hid (∃ cur, Copy w wr w.heap.size (w.heap.size + 1 + 1) (.slice A1 n c1) (.slice A2 n2 c2) cur (.slice A2 n2 c2) k (vs.take k) ∧ Blk wr (w.heap.size + 1) #[.slice none 0 0, .slice none 0 0] 32)) (fun i _ => n - (intOf i).toNat)
  case atStart => exact ⟨0, Nat.zero_le _, rfl, Lib.hid ⟨_, HC0.out⟩⟩
  case round =>
    clear HC0
    obtain ⟨wo, rfl⟩ : ∃ wo, wo = wr := ⟨_, rfl⟩
    obtain ⟨k, hk, rfl, HH⟩ := hrel
    obtain ⟨cur, hC, hrb⟩ := HH.out
    obtain ⟨Cu, cc, rfl⟩ := slice_row hC.row
    have HC := Lib.hid hC
    have Hrb := Lib.hid hrb
    clear hC hrb HH
    by_cases hlt : k < n
    · obtain ⟨LLk, hLk⟩ : ∃ LLk, H[k]? = some LLk := ⟨_, List.getElem?_eq_getElem (by rw [← Hn.out]; exact hlt)⟩
      obtain ⟨x, hx⟩ : ∃ x, vs[k]? = some x := ⟨_, List.getElem?_eq_getElem (by rw [Hvl.out]; exact hlt)⟩
      obtain ⟨X, cx, hX, -⟩ := (HRs.out k x LLk hx hLk).shape
      obtain ⟨g, eA, hcx⟩ : ∃ g, A1 = some ⟨g, 0, none⟩ ∧ w.cell? ⟨g, k, none⟩ = some x := by
        rcases HRow.out.2 with ⟨e, h0⟩ | ⟨g, cap, cu, e, hb, hg, hn', hm, hs, ht⟩
        · omega
        · refine ⟨g, (Value.slice.inj e).1, ?_⟩
          rw [Blk.cell (show Blk w g cu 22 from hg), ← Array.getElem?_toList, ← hx, ← ht, List.getElem?_take_of_lt (by omega)]
      subst eA
      have y0 : wo.cell? ⟨g, k, none⟩ = some x := (HC.out.low.cell (World.block_lt_of_cell? w ⟨g, k, none⟩ hcx)).trans hcx
      have Hst := Lib.hid (take_vs hx)
      subst hX
      have s0 : wo.cell? ⟨w.heap.size, 0, none⟩ = some (.slice (some ⟨g, 0, none⟩) n c1) := HC.out.src.cell 0
      have t0 : wo.cell? ⟨w.heap.size + 1 + 1, 0, none⟩ = some (.slice Cu k cc) := HC.out.dst.cell 0
      have K6 := below1 wo (.cells #[.slice X LLk.length cx] 22)
      have HC6 := Lib.hid (HC.out.below K6.drew)
      have t1 : (wo.alloc (.cells #[.slice X LLk.length cx] 22)).cell? ⟨w.heap.size + 1 + 1, 0, none⟩ = some (.slice Cu k cc) := (HC.out.below K6).dst.cell 0
      have C6 := Lib.hid (cells_new wo [.slice X LLk.length cx] 22)
      have Z2 : Hid (∀ u ∈ [Value.slice X LLk.length cx], u.oneCell' = true) := Lib.hid (by intro u hu; simp at hu; subst hu; rfl)
      have Z3 : Hid (k + 1 ≤ maxLen) := Lib.hid (by simp only [maxLen]; omega)
      have Z4 : Hid ((k + 1) * 24 ≤ 140737488355328) := Lib.hid (by omega)
      have Z5 : Hid (w.heap.size ≤ (wo.alloc (.cells #[.slice X LLk.length cx] 22)).drew.heap.size) := Lib.hid HC6.out.low.size
      have Hrb6 := Lib.hid (Hrb.out.below K6.drew)
      have hki : (k : Int) < (n : Nat) := by omega
      have hgl : w.heap.size < wo.heap.size := HC.out.src.lt
      clear hx hcx hLk K6 HC Hrb
      go_wp2_with fail
      go_region_law (refine step_append_own rfl (.tmp 17) (.tmp 23) 29 rfl w.heap.size 22 i1 (.slice none 0 0) 1 24 Tryd.underlying29 hi1 hz0 hz1 hz2 rfl (by decide) (.slice Cu k cc) k _ rfl HC6.out.row ⟨wo.heap.size, 0, none⟩ 1 [.slice X LLk.length cx] rfl rfl C6.out Z2.out Z3.out Z4.out Z5.out ?_; intro v6 w6 R6 G6; obtain ⟨X6, k6, rfl⟩ := slice_row R6; have HS := Lib.hid (HC6.out.step R6 G6); have f7 := HS.out.1.free 0; have c7 : w6.cell? ⟨w.heap.size + 1 + 1, 0, none⟩ = some (.slice Cu k cc) := HS.out.1.cell 0; have Hrb7 : Hid (Blk w6 (w.heap.size + 1) #[.slice none 0 0, .slice none 0 0] 32) := Lib.hid ((G6.block _ Hrb6.out.lt (own_ne HC6.out.row Hrb6.out (by decide))).trans Hrb6.out); clear R6 G6)
      all_goals
        have HN : Hid (∃ cur, Copy w (w6.setCell ⟨w.heap.size + 1 + 1, 0, none⟩ (.slice X6 (k + 1) k6)) w.heap.size (w.heap.size + 1 + 1) (.slice (some ⟨g, 0, none⟩) n c1) (.slice A2 n2 c2) cur (.slice A2 n2 c2) (k + 1) (vs.take (k + 1)) ∧ Blk (w6.setCell ⟨w.heap.size + 1 + 1, 0, none⟩ (.slice X6 (k + 1) k6)) (w.heap.size + 1) #[.slice none 0 0, .slice none 0 0] 32) := Lib.hid ⟨_, by rw [Hst.out]; exact HS.out.2, Hrb7.out.other (show w.heap.size + 1 ≠ w.heap.size + 1 + 1 by omega) _⟩
        clear s0 t0 t1 y0 HC6 C6 Z2 Z3 Z4 Z5 HS Hrb6 Hrb7 f7 c7
        go_wp2_with fail
        go_roundw
        case rel => exact ⟨k + 1, by omega, by go_num, HN⟩
        case measure => simp [intOf]; omega
    · have hkn : k = n := by omega
      have s0 : wo.cell? ⟨w.heap.size, 0, none⟩ = some (.slice A1 n c1) := HC.out.src.cell 0
      have s1 : wo.cell? ⟨w.heap.size, 1, none⟩ = some (.slice A2 n2 c2) := HC.out.src.cell 1
      have HN5 := Lib.hid (HNow.out wo HC.out.low)
      have HV : Hid (vs.take k = vs) := Lib.hid (by rw [List.take_of_length_le (by rw [Hvl.out]; omega)])
      clear hkn
      go_wp2_with fail
      refine HN5.out.mono ?_
      rintro e w5 ⟨x, rfl, hx, hb5⟩
      obtain ⟨X, cx, rfl, -⟩ := hx.shape
      have HC5 := Lib.hid (HC.out.below hb5)
      have Hrb5 := Lib.hid (Hrb.out.below hb5)
      have HX5 := Lib.hid hx
      have K6 := below1 w5 (.cells #[.slice X LL.length cx] 22)
      have HC6 := Lib.hid (HC5.out.below K6)
      have Hrb6 := Lib.hid (Hrb5.out.below K6)
      have HX6 := Lib.hid (HX5.out.below K6)
      have C6 := Lib.hid (cells_new w5 [.slice X LL.length cx] 22)
      have Z2 : Hid (∀ u ∈ [Value.slice X LL.length cx], u.oneCell' = true) := Lib.hid (by intro u hu; simp at hu; subst hu; rfl)
      have Z3 : Hid (k + 1 ≤ maxLen) := Lib.hid (by simp only [maxLen]; omega)
      have Z4 : Hid ((k + 1) * 24 ≤ 140737488355328) := Lib.hid (by omega)
      have Z5 : Hid (w.heap.size ≤ (w5.alloc (.cells #[.slice X LL.length cx] 22)).heap.size) := Lib.hid HC6.out.low.size
      have t0 : w5.cell? ⟨w.heap.size + 1 + 1, 0, none⟩ = some (.slice Cu k cc) := HC5.out.dst.cell 0
      clear hx hb5 s0 s1 HC Hrb HC5 Hrb5 HX5 HN5 K6
      go_wp2_with (at_builtin; refine wpList_append_own _ rfl _ _ 29 rfl w.heap.size 22 i1 (.slice none 0 0) 1 24 Tryd.underlying29 hi1 hz0 hz1 hz2 rfl (by decide) _ _ _ rfl HC6.out.row ⟨w5.heap.size, 0, none⟩ 1 1 [.slice X LL.length cx] rfl rfl C6.out Z2.out Z3.out Z4.out Z5.out ?_; intro v6 w6 R6 G6 _; obtain ⟨X6, k6, rfl⟩ := slice_row R6; have HS := Lib.hid (HC6.out.step R6 G6); have f7 := HS.out.1.free 0; have c7 : w6.cell? ⟨w.heap.size + 1 + 1, 0, none⟩ = some (.slice Cu k cc) := HS.out.1.cell 0; have Hrb7 : Hid (Blk (w6.setCell ⟨w.heap.size + 1 + 1, 0, none⟩ (.slice X6 (k + 1) k6)) (w.heap.size + 1) #[.slice none 0 0, .slice none 0 0] 32) := Lib.hid (Blk.other ((G6.block _ Hrb6.out.lt (own_ne HC6.out.row Hrb6.out (by decide))).trans Hrb6.out) (show w.heap.size + 1 ≠ w.heap.size + 1 + 1 by omega) _); have HX7 : Hid (RowsT (w6.setCell ⟨w.heap.size + 1 + 1, 0, none⟩ (.slice X6 (k + 1) k6)) (.slice X LL.length cx) LL) := Lib.hid (rows_beside HX6.out HC6.out.row G6 HS.out.1 _ _); clear R6 G6; have d0 : (w6.setCell ⟨w.heap.size + 1 + 1, 0, none⟩ (.slice X6 (k + 1) k6)).cell? ⟨w.heap.size + 1 + 1, 0, none⟩ = some (.slice X6 (k + 1) k6) := HS.out.2.dst.cell 0; have d1 : (w6.setCell ⟨w.heap.size + 1 + 1, 0, none⟩ (.slice X6 (k + 1) k6)).cell? ⟨w.heap.size + 1 + 1, 1, none⟩ = some (.slice A2 n2 c2) := HS.out.2.dst.cell 1; have r0 : (w6.setCell ⟨w.heap.size + 1 + 1, 0, none⟩ (.slice X6 (k + 1) k6)).cell? ⟨w.heap.size + 1, 0, none⟩ = some (.slice none 0 0) := Hrb7.out.cell 0; have r1 : (w6.setCell ⟨w.heap.size + 1 + 1, 0, none⟩ (.slice X6 (k + 1) k6)).cell? ⟨w.heap.size + 1, 1, none⟩ = some (.slice none 0 0) := Hrb7.out.cell 1; have g0 := Hrb7.out.free 0; have g1 := Hrb7.out.free 1)
      obtain ⟨hq, hkeep, hlow⟩ := two_set Hrb7.out (.slice X6 (k + 1) k6) (.slice A2 n2 c2)
      have q0 : (((w6.setCell ⟨w.heap.size + 1 + 1, 0, none⟩ (.slice X6 (k + 1) k6)).setCell ⟨w.heap.size + 1, 0, none⟩ (.slice X6 (k + 1) k6)).setCell ⟨w.heap.size + 1, 1, none⟩ (.slice A2 n2 c2)).cell? ⟨w.heap.size + 1, 0, none⟩ = some (.slice X6 (k + 1) k6) := hq.cell 0
      have q1 : (((w6.setCell ⟨w.heap.size + 1 + 1, 0, none⟩ (.slice X6 (k + 1) k6)).setCell ⟨w.heap.size + 1, 0, none⟩ (.slice X6 (k + 1) k6)).setCell ⟨w.heap.size + 1, 1, none⟩ (.slice A2 n2 c2)).cell? ⟨w.heap.size + 1, 1, none⟩ = some (.slice A2 n2 c2) := hq.cell 1
      have hL8 := hlow HS.out.2.low (by omega)
      refine bodyPost_ret (v := .agg #[.slice X6 (k + 1) k6, .slice A2 n2 c2]) (by simp [results, Tryd.results10, go_sem, q0, q1]) rfl ⟨_, rfl, ?_, hL8⟩
      have hrow := own_keep HS.out.2.row fun g c hb => hkeep 22 g c (by decide) hb
      have hkH : k = H.length := by rw [← Hn.out]; omega
      rw [HV.out] at hrow
      refine LevT.of_snoc (vs := vs) (base := w.heap.size) (by rw [← hkH]; exact hrow) (by rw [Hvl.out, Hn.out]) (fun j y M hy hM => (HRs.out j y M hy hM).below hL8) (HX7.out.keep (fun g c hb => hkeep 34 g c (by decide) hb) fun g c hb => hkeep 3 g c (by decide) hb)
end Go.Proofs.YtegiaonlneamfaaDoor
