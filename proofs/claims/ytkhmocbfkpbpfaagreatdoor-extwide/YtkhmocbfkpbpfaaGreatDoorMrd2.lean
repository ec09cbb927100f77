/- Contracts of the document's value, Those, Between, ends (layers 11 and 12). -/
import Derived.Test.YtkhmocbfkpbpfaaGreatDoorMulp
import Derived.Test.YtkhmocbfkpbpfaaGreatDoorLn2
import Derived.Test.YtkhmocbfkpbpfaaGreatDoorSdl12
import Derived.Test.YtkhmocbfkpbpfaaGreatDoorRg2
import Derived.Test.YtkhmocbfkpbpfaaGreatDoorExth0
import Derived.Test.YtkhmocbfkpbpfaaGreatDoorMshapes
namespace Go.Proofs.YtkhmocbfkpbpfaaGreatDoor
open Go.RowKit Go.Sort

theorem value_any (kind a b : Int) (w : World) (hk : kind = 5 ∨ kind = 6 ∨ kind = 7 ∨ kind = 9 ∨ kind = 10) (ha : -1000000 ≤ a ∧ a ≤ 1000000) (hb : -1000000 ≤ b ∧ b ≤ 1000000) :
    Calls Tryz.prog 125 #[.int .i64 kind, .int .i64 a, .int .i64 b] w fun e w' => e = .returned (optI (kindV kind a b)) ∧ w = w' := by
  rcases hk with rfl | rfl | rfl | rfl | rfl
  · have HV : Hid (kindV 5 a b = some (a * b)) := Lib.hid (by simp [kindV])
    have hp := prod_lim (a := a) (b := b) (by omega) (by omega)
    have b1 : IntKind.i64.wrap (a * b) = a * b := IntWalk.i64_in _ (by omega)
    clear ha hb hp
    go_enter Tryz.func125, Tryz.ntmps125
    go_wp2_with fail
    go_ret2
    rw [HV.out]
    exact ⟨rfl, rfl⟩
  · by_cases h0 : b = 0
    · have HV : Hid (kindV 6 a b = none) := Lib.hid (by simp [kindV, h0])
      have CQ := Lib.hid (rquo_no a b w h0)
      clear ha hb h0
      go_enter Tryz.func125, Tryz.ntmps125
      go_wp2_with (go_at_call 134; with_reducible refine CQ.out.mono ?_; rintro e w' ⟨rfl, rfl⟩)
      go_ret2
      rw [HV.out]
      exact ⟨rfl, rfl⟩
    · have HV : Hid (kindV 6 a b = some (a.tdiv b)) := Lib.hid (by simp [kindV, h0])
      have CQ := Lib.hid (rquo_yes a b w ha hb h0)
      clear ha hb h0
      go_enter Tryz.func125, Tryz.ntmps125
      go_wp2_with (go_at_call 134; with_reducible refine CQ.out.mono ?_; rintro e w' ⟨rfl, rfl⟩)
      go_ret2
      rw [HV.out]
      exact ⟨rfl, rfl⟩
  · by_cases h0 : b = 0
    · have HV : Hid (kindV 7 a b = none) := Lib.hid (by simp [kindV, h0])
      have CQ := Lib.hid (rquo_no a b w h0)
      have CR : Hid (Calls Tryz.prog 178 #[.int .i64 a, .int .i64 b] w fun e w' => e = .returned (.tuple #[.int .i64 0, .bool false]) ∧ w = w') := Lib.hid (by
        clear HV ha hb h0
        go_enter Tryz.func178, Tryz.ntmps178
        go_wp2_with (go_at_call 134; with_reducible refine CQ.out.mono ?_; rintro e w' ⟨rfl, rfl⟩)
        go_ret2
        exact ⟨rfl, rfl⟩)
      clear ha hb h0 CQ
      go_enter Tryz.func125, Tryz.ntmps125
      go_wp2_with (go_at_call 178; with_reducible refine CR.out.mono ?_; rintro e w' ⟨rfl, rfl⟩)
      go_ret2
      rw [HV.out]
      exact ⟨rfl, rfl⟩
    · have HV : Hid (kindV 7 a b = some (a.tmod b)) := Lib.hid (by simp [kindV, h0])
      have CQ := Lib.hid (rquo_yes a b w ha hb h0)
      have hq := tdiv_lim (a := a) (b := b) (by omega)
      have hcs := cut_sum a b
      have hm := tmod_lim (a := a) (b := b) (by omega)
      have w1 : IntKind.i64.wrap (b * a.tdiv b) = b * a.tdiv b := IntWalk.i64_in _ (by omega)
      have w2 : IntKind.i64.wrap (a - b * a.tdiv b) = a.tmod b := by
        rw [show a - b * a.tdiv b = a.tmod b by omega]
        exact IntWalk.i64_in _ (by omega)
      have CR : Hid (Calls Tryz.prog 178 #[.int .i64 a, .int .i64 b] w fun e w' => e = .returned (.tuple #[.int .i64 (a.tmod b), .bool true]) ∧ w = w') := Lib.hid (by
        clear HV ha hb h0 hq hcs hm
        go_enter Tryz.func178, Tryz.ntmps178
        go_wp2_with (go_at_call 134; with_reducible refine CQ.out.mono ?_; rintro e w' ⟨rfl, rfl⟩)
        go_ret2
        exact ⟨rfl, rfl⟩)
      clear ha hb h0 CQ hq hcs hm w1 w2
      go_enter Tryz.func125, Tryz.ntmps125
      go_wp2_with (go_at_call 178; with_reducible refine CR.out.mono ?_; rintro e w' ⟨rfl, rfl⟩)
      go_ret2
      rw [HV.out]
      exact ⟨rfl, rfl⟩
  · by_cases g : a < b
    · have HV : Hid (kindV 9 a b = some a) := Lib.hid (by rw [kindV_9, Int.min_eq_left (by omega)])
      have t1 : decide (a < b) = true := by simpa using g
      clear ha hb g
      go_enter Tryz.func125, Tryz.ntmps125
      go_wp2_with fail
      go_ret2
      rw [HV.out]
      exact ⟨rfl, rfl⟩
    · have HV : Hid (kindV 9 a b = some b) := Lib.hid (by rw [kindV_9, Int.min_eq_right (by omega)])
      have t1 : decide (a < b) = false := by simpa using g
      clear ha hb g
      go_enter Tryz.func125, Tryz.ntmps125
      go_wp2_with fail
      go_ret2
      rw [HV.out]
      exact ⟨rfl, rfl⟩
  · by_cases g : b < a
    · have HV : Hid (kindV 10 a b = some a) := Lib.hid (by rw [kindV_10, Int.max_eq_left (by omega)])
      have t1 : decide (b < a) = true := by simpa using g
      clear ha hb g
      go_enter Tryz.func125, Tryz.ntmps125
      go_wp2_with fail
      go_ret2
      rw [HV.out]
      exact ⟨rfl, rfl⟩
    · have HV : Hid (kindV 10 a b = some b) := Lib.hid (by rw [kindV_10, Int.max_eq_right (by omega)])
      have t1 : decide (b < a) = false := by simpa using g
      clear ha hb g
      go_enter Tryz.func125, Tryz.ntmps125
      go_wp2_with fail
      go_ret2
      rw [HV.out]
      exact ⟨rfl, rfl⟩

/-- Bits that lie in a block of their own. -/
def MarkB (W : World) (g : Nat) (M : List Bool) : Prop := W.heap[g]? = some (.cells (M.map Value.bool).toArray 4 (0, 0))
theorem MarkB.lt {W : World} {g : Nat} {M : List Bool} (h : MarkB W g M) : g < W.heap.size := (Array.getElem?_eq_some_iff.1 h).1
theorem MarkB.below {W W' : World} {g : Nat} {M : List Bool} (h : MarkB W g M) (b : Below W.heap.size W W') : MarkB W' g M := (b.block g h.lt).trans h
theorem MarkB.cell {W : World} {g : Nat} {M : List Bool} (h : MarkB W g M) {i : Nat} (hi : i < M.length) : W.cell? ⟨g, i, none⟩ = some (.bool (M.getD i false)) := by
  refine blk_cell h ?_
  rw [List.getElem?_toArray, List.getElem?_map, List.getElem?_eq_getElem hi, List.getD_eq_getElem?_getD, List.getElem?_eq_getElem hi]
  rfl
theorem MarkB.free {W : World} {g : Nat} {M : List Bool} (h : MarkB W g M) (i : Nat) : W.frozen? ⟨g, i, none⟩ = false := box_free h i
theorem MarkB.put {W : World} {g : Nat} {M : List Bool} (h : MarkB W g M) (i : Nat) : MarkB (W.setCell ⟨g, i, none⟩ (.bool true)) g (M.set i true) := by
  have := heap_setCell_same W g i _ 4 (.bool true) h
  unfold MarkB
  rw [this]
  congr 2
  apply Array.ext'
  rw [Array.toList_setIfInBounds]
  simp [List.map_set]
theorem MarkB.far {W : World} {g g' : Nat} {M : List Bool} (h : MarkB W g M) (hne : g ≠ g') (i : Nat) (v : Value) : MarkB (W.setCell ⟨g', i, none⟩ v) g M := (heap_setCell_other W _ g v hne).trans h

/-- Those of a list whose bit is set. -/
def thoseE (L : List Int) (M : List Bool) (k : Nat) : List Int := ((List.range k).filter fun i => M.getD i false).map fun i => L.getD i 0
theorem thoseE_step (L : List Int) (M : List Bool) (k : Nat) : thoseE L M (k + 1) = thoseE L M k ++ if M.getD k false = true then [L.getD k 0] else [] := by
  unfold thoseE
  rw [List.range_succ, List.filter_append, List.map_append]
  congr 1
  rw [List.filter_cons]
  split
  · rfl
  · rfl
theorem thoseE_len (L : List Int) (M : List Bool) (k : Nat) : (thoseE L M k).length ≤ k := by
  unfold thoseE
  rw [List.length_map]
  exact Nat.le_trans (List.length_filter_le _ _) (by simp)

set_option maxHeartbeats 2000000 in
set_option maxRecDepth 100000 in
theorem those_any (x : Sl) (L : List Int) (g cM : Nat) (M : List Bool) (w : World) (h : IsInts w x L) (hm : MarkB w g M) (hl : M.length = L.length) (hb : L.length ≤ 200000) :
    Calls Tryz.prog 124 #[.slice x.A x.n x.c, .slice (some ⟨g, 0, none⟩) L.length cM] w fun e w' => (∃ y : Sl, e = .returned (.slice y.A y.n y.c) ∧ Row3 w' w.heap.size y (thoseE L M L.length)) ∧ Below w.heap.size w w' := by
  obtain ⟨i0, hi, hz0, hz1, hz2⟩ := info_parts Tryz.info3
  obtain ⟨A, n, c⟩ := x
  have Hn := Lib.hid h.len
  have HI := Lib.hid h
  have HM := Lib.hid hm
  have hn : n = L.length := h.len
  subst hn
  clear h hm
  go_enter Tryz.func124, Tryz.ntmps124
  go_wp2_with fail
  go_loopw [5, 6] (fun s i wr => ∃ (k : Nat) (y : Sl), s = .slice y.A y.n y.c ∧ i = .int .i64 (k : Nat) ∧ k ≤ L.length ∧ Hid (SepL w.heap.size wr [(y, thoseE L M k)]) ∧ Hid (Below w.heap.size w wr)) (fun _ i _ => L.length - (intOf i).toNat)
  case atStart => exact ⟨0, ⟨none, 0, 0⟩, rfl, rfl, by omega, Lib.hid ((SepL.nil _ w (Nat.le_refl _)).cons (Below.refl _ _) (Row3.nil _ _) (by intro g hg; cases hg)), Lib.hid (Below.refl _ _)⟩
  case round =>
    obtain ⟨k, y, rfl, rfl, hk, HS, HB⟩ := hrel
    by_cases hlt : k < L.length
    · have hc := (HM.out.below HB.out).cell (i := k) (by rw [hl]; exact hlt)
      have HST := Lib.hid (thoseE_step L M k)
      have NL : Hid ((thoseE L M k).length < 1000000) := Lib.hid (by have := thoseE_len L M k; omega)
      cases hb' : M.getD k false
      · rw [hb'] at hc HST
        have HE : Hid (thoseE L M (k + 1) = thoseE L M k) := Lib.hid (by rw [HST.out]; simp)
        clear hb' HST
        go_wp2_with fail
        go_roundw
        case rel => exact ⟨k + 1, y, rfl, by go_num, by omega, Lib.hid (by rw [HE.out]; exact HS.out), HB⟩
        case measure => simp [intOf]; omega
      · rw [hb'] at hc HST
        obtain ⟨ad, eA, hbk, hcl⟩ := (HI.out.below HB.out).lies (show 0 < L.length by omega)
        simp only at eA
        subst eA
        have hv : wr.cell? (ad.add k) = some (.int .i64 (L.getD k 0)) := hcl k hlt
        obtain ⟨vv, hvv⟩ : ∃ vv, vv = L.getD k 0 := ⟨_, rfl⟩
        rw [← hvv] at hv HST
        have HE : Hid (thoseE L M (k + 1) = thoseE L M k ++ [vv]) := Lib.hid (by rw [HST.out]; simp)
        clear hb' HST hvv hcl hbk
        go_wp2_with (at_builtin; refine wpList_append_sep rfl _ _ 30 rfl Tryz.underlying30 Tryz.info3 HS.out 0 y _ vv rfl rfl rfl NL.out ?_; intro y1 w4 S4 b4; have HS4 := Lib.hid S4; have HB4 := Lib.hid (HB.out.trans b4); clear S4 b4)
        go_roundw
        case rel => exact ⟨k + 1, y1, rfl, by go_num, by omega, Lib.hid (by rw [HE.out]; exact HS4.out), HB4⟩
        case measure => simp [intOf]; omega
    · have HR := Lib.hid (HS.out.row (k := 0) rfl)
      have e3 : k = L.length := by omega
      subst e3
      clear hlt
      go_wp2_with fail
      go_ret
      exact ⟨⟨y, rfl, HR.out⟩, HB.out⟩
end Go.Proofs.YtkhmocbfkpbpfaaGreatDoor

/- Contracts of the document's Range and Between (layer 11): numbers one behind the other, those of a list within bounds. -/
namespace Go.Proofs.YtkhmocbfkpbpfaaGreatDoor
open Go.RowKit Go.Sort

/-- So many numbers, from one on. -/
def rangeFrom (a : Int) (n : Nat) : List Int := (List.range n).map fun (i : Nat) => a + (i : Int)
theorem rangeFrom_step (a : Int) (k : Nat) : rangeFrom a (k + 1) = rangeFrom a k ++ [a + (k : Int)] := by
  unfold rangeFrom
  rw [List.range_succ, List.map_append]
  rfl
theorem rangeFrom_len (a : Int) (n : Nat) : (rangeFrom a n).length = n := by simp [rangeFrom]
/-- Those of a list's first ones within bounds. -/
def betweenE (L : List Int) (lo hi : Int) : List Int := L.filter fun v => decide (lo ≤ v ∧ v ≤ hi)

set_option maxHeartbeats 2000000 in
set_option maxRecDepth 100000 in
theorem rangeFrom_any (a : Int) (n : Nat) (w : World) (ha : -1000000 ≤ a ∧ a ≤ 1000000) (hn : n ≤ 200000) :
    Calls Tryz.prog 32 #[.int .i64 a, .int .i64 (n : Nat)] w fun e w' => (∃ y : Sl, e = .returned (.slice y.A y.n y.c) ∧ Row3 w' w.heap.size y (rangeFrom a n)) ∧ Below w.heap.size w w' := by
  go_enter Tryz.func32, Tryz.ntmps32
  go_wp2_with fail
  go_loopw [5, 6] (fun s i wr => ∃ (k : Nat) (y : Sl), s = .slice y.A y.n y.c ∧ i = .int .i64 (k : Nat) ∧ k ≤ n ∧ Hid (SepL w.heap.size wr [(y, rangeFrom a k)]) ∧ Hid (Below w.heap.size w wr)) (fun _ i _ => n - (intOf i).toNat)
  case atStart => exact ⟨0, ⟨none, 0, 0⟩, rfl, rfl, by omega, Lib.hid ((SepL.nil _ w (Nat.le_refl _)).cons (Below.refl _ _) (Row3.nil _ _) (by intro g hg; cases hg)), Lib.hid (Below.refl _ _)⟩
  case round =>
    obtain ⟨k, y, rfl, rfl, hk, HS, HB⟩ := hrel
    by_cases hlt : k < n
    · have HE := Lib.hid (rangeFrom_step a k)
      have NL : Hid ((rangeFrom a k).length < 1000000) := Lib.hid (by rw [rangeFrom_len]; omega)
      have w1 : IntKind.i64.wrap (a + (k : Int)) = a + (k : Int) := IntWalk.i64_in _ (by omega)
      go_wp2_with (at_builtin; refine wpList_append_sep rfl _ _ 30 rfl Tryz.underlying30 Tryz.info3 HS.out 0 y _ (a + (k : Int)) rfl rfl rfl NL.out ?_; intro y1 w4 S4 b4; have HS4 := Lib.hid S4; have HB4 := Lib.hid (HB.out.trans b4); clear S4 b4)
      go_roundw
      case rel => exact ⟨k + 1, y1, rfl, by go_num, by omega, Lib.hid (by rw [HE.out]; exact HS4.out), HB4⟩
      case measure => simp [intOf]; omega
    · have HR := Lib.hid (HS.out.row (k := 0) rfl)
      have e3 : k = n := by omega
      subst e3
      clear hlt
      go_wp2_with fail
      go_ret
      exact ⟨⟨y, rfl, HR.out⟩, HB.out⟩

set_option maxHeartbeats 2000000 in
set_option maxRecDepth 100000 in
theorem between_of (x : Sl) (L : List Int) (lo hi : Int) (w : World) (h : IsInts w x L) (hb : L.length ≤ 200000) :
    Calls Tryz.prog 88 #[.slice x.A x.n x.c, .int .i64 lo, .int .i64 hi] w fun e w' => (∃ y : Sl, e = .returned (.slice y.A y.n y.c) ∧ Row3 w' w.heap.size y (betweenE L lo hi)) ∧ Below w.heap.size w w' := by
  obtain ⟨A, n, c⟩ := x
  have HI := Lib.hid h
  have hn : n = L.length := h.len
  subst hn
  clear h
  go_enter Tryz.func88, Tryz.ntmps88
  go_wp2_with fail
  go_loopw [7, 8] (fun s i wr => ∃ (k : Nat) (y : Sl), s = .slice y.A y.n y.c ∧ i = .int .i64 (k : Nat) ∧ k ≤ L.length ∧ Hid (SepL w.heap.size wr [(y, betweenE (L.take k) lo hi)]) ∧ Hid (Below w.heap.size w wr)) (fun _ i _ => L.length - (intOf i).toNat)
  case atStart => exact ⟨0, ⟨none, 0, 0⟩, rfl, rfl, by omega, Lib.hid ((SepL.nil _ w (Nat.le_refl _)).cons (Below.refl _ _) (Row3.nil _ _) (by intro g hg; cases hg)), Lib.hid (Below.refl _ _)⟩
  case round =>
    obtain ⟨k, y, rfl, rfl, hk, HS, HB⟩ := hrel
    by_cases hlt : k < L.length
    · obtain ⟨ad, eA, hbk, hcl⟩ := (HI.out.below HB.out).lies (show 0 < L.length by omega)
      simp only at eA
      subst eA
      have hv : wr.cell? (ad.add k) = some (.int .i64 (L.getD k 0)) := hcl k hlt
      have HST : Hid (betweenE (L.take (k + 1)) lo hi = betweenE (L.take k) lo hi ++ if lo ≤ L.getD k 0 ∧ L.getD k 0 ≤ hi then [L.getD k 0] else []) := Lib.hid (by
        unfold betweenE
        rw [List.take_succ_eq_append_getElem hlt, List.filter_append, List.getD_eq_getElem?_getD, List.getElem?_eq_getElem hlt]
        congr 1
        rw [List.filter_cons]
        simp)
      have NL : Hid ((betweenE (L.take k) lo hi).length < 1000000) := Lib.hid (by
        have := List.length_filter_le (fun v => decide (lo ≤ v ∧ v ≤ hi)) (L.take k)
        rw [List.length_take] at this
        unfold betweenE
        omega)
      obtain ⟨vv, hvv⟩ : ∃ vv, vv = L.getD k 0 := ⟨_, rfl⟩
      rw [← hvv] at hv HST
      clear hvv hcl hbk
      by_cases g1 : lo ≤ vv
      · by_cases g2 : vv ≤ hi
        · have HE : Hid (betweenE (L.take (k + 1)) lo hi = betweenE (L.take k) lo hi ++ [vv]) := Lib.hid (by rw [HST.out, if_pos ⟨g1, g2⟩])
          have t1 : decide (lo ≤ vv) = true := by simpa using g1
          have t2 : decide (vv ≤ hi) = true := by simpa using g2
          clear HST g1 g2
          go_wp2_with (at_builtin; refine wpList_append_sep rfl _ _ 30 rfl Tryz.underlying30 Tryz.info3 HS.out 0 y _ vv rfl rfl rfl NL.out ?_; intro y1 w4 S4 b4; have HS4 := Lib.hid S4; have HB4 := Lib.hid (HB.out.trans b4); clear S4 b4)
          go_roundw
          case rel => exact ⟨k + 1, y1, rfl, by go_num, by omega, Lib.hid (by rw [HE.out]; exact HS4.out), HB4⟩
          case measure => simp [intOf]; omega
        · have HE : Hid (betweenE (L.take (k + 1)) lo hi = betweenE (L.take k) lo hi) := Lib.hid (by rw [HST.out, if_neg (fun q => g2 q.2), List.append_nil])
          have t1 : decide (lo ≤ vv) = true := by simpa using g1
          have t2 : decide (vv ≤ hi) = false := by simpa using g2
          clear HST g1 g2
          go_wp2_with fail
          go_roundw
          case rel => exact ⟨k + 1, y, rfl, by go_num, by omega, Lib.hid (by rw [HE.out]; exact HS.out), HB⟩
          case measure => simp [intOf]; omega
      · have HE : Hid (betweenE (L.take (k + 1)) lo hi = betweenE (L.take k) lo hi) := Lib.hid (by rw [HST.out, if_neg (fun q => g1 q.1), List.append_nil])
        have t1 : decide (lo ≤ vv) = false := by simpa using g1
        clear HST g1
        go_wp2_with fail
        go_roundw
        case rel => exact ⟨k + 1, y, rfl, by go_num, by omega, Lib.hid (by rw [HE.out]; exact HS.out), HB⟩
        case measure => simp [intOf]; omega
    · have HR := Lib.hid (HS.out.row (k := 0) rfl)
      have e3 : k = L.length := by omega
      subst e3
      rw [List.take_of_length_le (Nat.le_refl _)] at HR
      clear hlt
      go_wp2_with fail
      go_ret
      exact ⟨⟨y, rfl, HR.out⟩, HB.out⟩
end Go.Proofs.YtkhmocbfkpbpfaaGreatDoor

/- The marks of the document's Pairs: which numbers of three lists are in a solution among the places gone through. No walk. -/
namespace Go.Proofs.YtkhmocbfkpbpfaaGreatDoor
open Go.RowKit

/-- Is a place gone through? -/
def goneB (i k j i' k' j' : Nat) : Prop := i' < i ∨ (i' = i ∧ (k' < k ∨ (k' = k ∧ j' < j)))
/-- The marks, so far. -/
structure Marks (hit : Nat → Nat → Nat → Prop) (na nb nc i k j : Nat) (MA MB MC : List Bool) (an : Bool) : Prop where
  la : MA.length = na
  lb : MB.length = nb
  lc : MC.length = nc
  a : ∀ i', i' < na → (MA.getD i' false = true ↔ ∃ k' j', k' < nb ∧ j' < nc ∧ goneB i k j i' k' j' ∧ hit i' k' j')
  b : ∀ k', k' < nb → (MB.getD k' false = true ↔ ∃ i' j', i' < na ∧ j' < nc ∧ goneB i k j i' k' j' ∧ hit i' k' j')
  c : ∀ j', j' < nc → (MC.getD j' false = true ↔ ∃ i' k', i' < na ∧ k' < nb ∧ goneB i k j i' k' j' ∧ hit i' k' j')
  an : an = true ↔ ∃ i' k' j', i' < na ∧ k' < nb ∧ j' < nc ∧ goneB i k j i' k' j' ∧ hit i' k' j'
theorem getD_rep_false (n i : Nat) : (List.replicate n false).getD i false = false := by
  rw [List.getD_eq_getElem?_getD, List.getElem?_replicate]
  split <;> rfl
theorem Marks.start (hit : Nat → Nat → Nat → Prop) (na nb nc : Nat) : Marks hit na nb nc 0 0 0 (List.replicate na false) (List.replicate nb false) (List.replicate nc false) false := by
  have hg : ∀ i' k' j', ¬ goneB 0 0 0 i' k' j' := by intro i' k' j' h; unfold goneB at h; omega
  refine ⟨by simp, by simp, by simp, fun i' _ => ?_, fun k' _ => ?_, fun j' _ => ?_, ?_⟩
  · rw [getD_rep_false]; exact ⟨fun h => (by cases h), fun ⟨_, _, _, _, h, _⟩ => absurd h (hg _ _ _)⟩
  · rw [getD_rep_false]; exact ⟨fun h => (by cases h), fun ⟨_, _, _, _, h, _⟩ => absurd h (hg _ _ _)⟩
  · rw [getD_rep_false]; exact ⟨fun h => (by cases h), fun ⟨_, _, _, _, h, _⟩ => absurd h (hg _ _ _)⟩
  · exact ⟨fun h => (by cases h), fun ⟨_, _, _, _, _, _, h, _⟩ => absurd h (hg _ _ _)⟩
theorem getD_put_true (M : List Bool) (i i' : Nat) (hi : i < M.length) : (M.set i true).getD i' false = if i' = i then true else M.getD i' false := by
  rw [List.getD_eq_getElem?_getD, List.getElem?_set, List.getD_eq_getElem?_getD]
  by_cases h : i = i'
  · subst h; simp [hi]
  · simp [h, Ne.symm h]

section
variable {hit : Nat → Nat → Nat → Prop} {na nb nc i k j : Nat} {MA MB MC : List Bool} {an : Bool}
/-- The same marks for another way to say what is gone through. -/
theorem Marks.same (h : Marks hit na nb nc i k j MA MB MC an) {i2 k2 j2 : Nat} (e : ∀ i' k' j', i' < na → k' < nb → j' < nc → hit i' k' j' → (goneB i2 k2 j2 i' k' j' ↔ goneB i k j i' k' j')) : Marks hit na nb nc i2 k2 j2 MA MB MC an := by
  refine ⟨h.la, h.lb, h.lc, fun i' hi => ?_, fun k' hk => ?_, fun j' hj => ?_, ?_⟩
  · rw [h.a i' hi]
    exact ⟨fun ⟨k', j', h1, h2, h3, h4⟩ => ⟨k', j', h1, h2, (e _ _ _ hi h1 h2 h4).2 h3, h4⟩, fun ⟨k', j', h1, h2, h3, h4⟩ => ⟨k', j', h1, h2, (e _ _ _ hi h1 h2 h4).1 h3, h4⟩⟩
  · rw [h.b k' hk]
    exact ⟨fun ⟨i', j', h1, h2, h3, h4⟩ => ⟨i', j', h1, h2, (e _ _ _ h1 hk h2 h4).2 h3, h4⟩, fun ⟨i', j', h1, h2, h3, h4⟩ => ⟨i', j', h1, h2, (e _ _ _ h1 hk h2 h4).1 h3, h4⟩⟩
  · rw [h.c j' hj]
    exact ⟨fun ⟨i', k', h1, h2, h3, h4⟩ => ⟨i', k', h1, h2, (e _ _ _ h1 h2 hj h4).2 h3, h4⟩, fun ⟨i', k', h1, h2, h3, h4⟩ => ⟨i', k', h1, h2, (e _ _ _ h1 h2 hj h4).1 h3, h4⟩⟩
  · rw [h.an]
    exact ⟨fun ⟨i', k', j', h1, h2, h3, h4, h5⟩ => ⟨i', k', j', h1, h2, h3, (e _ _ _ h1 h2 h3 h5).2 h4, h5⟩, fun ⟨i', k', j', h1, h2, h3, h4, h5⟩ => ⟨i', k', j', h1, h2, h3, (e _ _ _ h1 h2 h3 h5).1 h4, h5⟩⟩
theorem Marks.no (h : Marks hit na nb nc i k j MA MB MC an) (hn : ¬ hit i k j) : Marks hit na nb nc i k (j + 1) MA MB MC an :=
  h.same fun i' k' j' _ _ _ hh => by
    have : ¬ (i' = i ∧ k' = k ∧ j' = j) := by rintro ⟨rfl, rfl, rfl⟩; exact hn hh
    unfold goneB
    omega
theorem Marks.next (h : Marks hit na nb nc i k nc MA MB MC an) : Marks hit na nb nc i (k + 1) 0 MA MB MC an :=
  h.same fun i' k' j' _ _ hj _ => by unfold goneB; omega
theorem Marks.skip (h : Marks hit na nb nc i k 0 MA MB MC an) (hn : ∀ j', ¬ hit i k j') : Marks hit na nb nc i (k + 1) 0 MA MB MC an :=
  h.same fun i' k' j' _ _ _ hh => by
    have : ¬ (i' = i ∧ k' = k) := by rintro ⟨rfl, rfl⟩; exact hn _ hh
    unfold goneB
    omega
theorem Marks.down (h : Marks hit na nb nc i nb 0 MA MB MC an) : Marks hit na nb nc (i + 1) 0 0 MA MB MC an :=
  h.same fun i' k' j' _ hk _ _ => by unfold goneB; omega
theorem Marks.yes (h : Marks hit na nb nc i k j MA MB MC an) (hh : hit i k j) (hi : i < na) (hk : k < nb) (hj : j < nc) : Marks hit na nb nc i k (j + 1) (MA.set i true) (MB.set k true) (MC.set j true) true := by
  have hstep : ∀ i' k' j', goneB i k (j + 1) i' k' j' ↔ goneB i k j i' k' j' ∨ (i' = i ∧ k' = k ∧ j' = j) := by intro i' k' j'; unfold goneB; omega
  refine ⟨by rw [List.length_set]; exact h.la, by rw [List.length_set]; exact h.lb, by rw [List.length_set]; exact h.lc, fun i' hi' => ?_, fun k' hk' => ?_, fun j' hj' => ?_, ?_⟩
  · rw [getD_put_true _ _ _ (by rw [h.la]; exact hi)]
    by_cases e : i' = i
    · subst e
      rw [if_pos rfl]
      exact ⟨fun _ => ⟨k, j, hk, hj, (hstep _ _ _).2 (.inr ⟨rfl, rfl, rfl⟩), hh⟩, fun _ => rfl⟩
    · rw [if_neg e, h.a i' hi']
      exact ⟨fun ⟨k', j', h1, h2, h3, h4⟩ => ⟨k', j', h1, h2, (hstep _ _ _).2 (.inl h3), h4⟩, fun ⟨k', j', h1, h2, h3, h4⟩ => ⟨k', j', h1, h2, ((hstep _ _ _).1 h3).resolve_right fun q => e q.1, h4⟩⟩
  · rw [getD_put_true _ _ _ (by rw [h.lb]; exact hk)]
    by_cases e : k' = k
    · subst e
      rw [if_pos rfl]
      exact ⟨fun _ => ⟨i, j, hi, hj, (hstep _ _ _).2 (.inr ⟨rfl, rfl, rfl⟩), hh⟩, fun _ => rfl⟩
    · rw [if_neg e, h.b k' hk']
      exact ⟨fun ⟨i', j', h1, h2, h3, h4⟩ => ⟨i', j', h1, h2, (hstep _ _ _).2 (.inl h3), h4⟩, fun ⟨i', j', h1, h2, h3, h4⟩ => ⟨i', j', h1, h2, ((hstep _ _ _).1 h3).resolve_right fun q => e q.2.1, h4⟩⟩
  · rw [getD_put_true _ _ _ (by rw [h.lc]; exact hj)]
    by_cases e : j' = j
    · subst e
      rw [if_pos rfl]
      exact ⟨fun _ => ⟨i, k, hi, hk, (hstep _ _ _).2 (.inr ⟨rfl, rfl, rfl⟩), hh⟩, fun _ => rfl⟩
    · rw [if_neg e, h.c j' hj']
      exact ⟨fun ⟨i', k', h1, h2, h3, h4⟩ => ⟨i', k', h1, h2, (hstep _ _ _).2 (.inl h3), h4⟩, fun ⟨i', k', h1, h2, h3, h4⟩ => ⟨i', k', h1, h2, ((hstep _ _ _).1 h3).resolve_right fun q => e q.2.2, h4⟩⟩
  · exact ⟨fun _ => ⟨i, k, j, hi, hk, hj, (hstep _ _ _).2 (.inr ⟨rfl, rfl, rfl⟩), hh⟩, fun _ => rfl⟩
/-- All gone through. -/
theorem Marks.full (h : Marks hit na nb nc na 0 0 MA MB MC an) : (∀ i', i' < na → (MA.getD i' false = true ↔ ∃ k' j', k' < nb ∧ j' < nc ∧ hit i' k' j')) ∧ (∀ k', k' < nb → (MB.getD k' false = true ↔ ∃ i' j', i' < na ∧ j' < nc ∧ hit i' k' j')) ∧ (∀ j', j' < nc → (MC.getD j' false = true ↔ ∃ i' k', i' < na ∧ k' < nb ∧ hit i' k' j')) ∧ (an = true ↔ ∃ i' k' j', i' < na ∧ k' < nb ∧ j' < nc ∧ hit i' k' j') := by
  have hg : ∀ i' k' j', i' < na → goneB na 0 0 i' k' j' := by intro i' k' j' h; exact .inl h
  refine ⟨fun i' hi => ?_, fun k' hk => ?_, fun j' hj => ?_, ?_⟩
  · rw [h.a i' hi]
    exact ⟨fun ⟨k', j', h1, h2, h3, h4⟩ => ⟨k', j', h1, h2, h4⟩, fun ⟨k', j', h1, h2, h4⟩ => ⟨k', j', h1, h2, hg _ _ _ hi, h4⟩⟩
  · rw [h.b k' hk]
    exact ⟨fun ⟨i', j', h1, h2, h3, h4⟩ => ⟨i', j', h1, h2, h4⟩, fun ⟨i', j', h1, h2, h4⟩ => ⟨i', j', h1, h2, hg _ _ _ h1, h4⟩⟩
  · rw [h.c j' hj]
    exact ⟨fun ⟨i', k', h1, h2, h3, h4⟩ => ⟨i', k', h1, h2, h4⟩, fun ⟨i', k', h1, h2, h4⟩ => ⟨i', k', h1, h2, hg _ _ _ h1, h4⟩⟩
  · rw [h.an]
    exact ⟨fun ⟨i', k', j', h1, h2, h3, h4, h5⟩ => ⟨i', k', j', h1, h2, h3, h5⟩, fun ⟨i', k', j', h1, h2, h3, h5⟩ => ⟨i', k', j', h1, h2, h3, hg _ _ _ h1, h5⟩⟩
end
end Go.Proofs.YtkhmocbfkpbpfaaGreatDoor

/- Contracts of ext's less, greater, chooser, empty. -/
namespace Go.Proofs.YtkhmocbfkpbpfaaGreatDoor
open Go.RowKit Go.Sort

theorem lessX_any (a b : Int) (w : World) : Calls Tryz.prog 172 #[.int .i64 a, .int .i64 b] w fun e w' => e = .returned (.int .i64 (selV 9 a b)) ∧ w = w' := by
  have HV : Hid (selV 9 a b = min a b) := Lib.hid rfl
  go_enter Tryz.func172, Tryz.ntmps172
  go_wp2_with fail
  go_ret
  exact ⟨by rw [HV.out]; rfl, rfl⟩
theorem greaterX_any (a b : Int) (w : World) : Calls Tryz.prog 173 #[.int .i64 a, .int .i64 b] w fun e w' => e = .returned (.int .i64 (selV 10 a b)) ∧ w = w' := by
  have HV : Hid (selV 10 a b = max a b) := Lib.hid rfl
  go_enter Tryz.func173, Tryz.ntmps173
  go_wp2_with fail
  go_ret
  exact ⟨by rw [HV.out]; rfl, rfl⟩
/-- The function's number that a kind is given. -/
def fnX (kind : Int) : FuncId := if kind = 9 then 172 else 173
theorem fnX_tells (kind a b : Int) (w : World) (hk : kind = 9 ∨ kind = 10) : Calls Tryz.prog (fnX kind) #[.int .i64 a, .int .i64 b] w fun e w' => e = .returned (.int .i64 (selV kind a b)) ∧ w = w' := by
  rcases hk with rfl | rfl
  · exact lessX_any a b w
  · exact greaterX_any a b w
theorem eFnX (kind : Int) : ∀ args w, (callFunc (fnX kind) args).run Tryz.prog w = .ok (.enter (fnX kind) args) w := by
  unfold fnX
  split
  · exact enters_of Tryz.func172 (by kernel_rfl) rfl
  · exact enters_of Tryz.func173 (by kernel_rfl) rfl
theorem chooser_any (kind : Int) (w : World) (hk : kind = 9 ∨ kind = 10) : Calls Tryz.prog 115 #[.int .i64 kind] w fun e w' => e = .returned (.func (.func (fnX kind)) #[] #[]) ∧ w = w' := by
  rcases hk with rfl | rfl <;>
  · go_enter Tryz.func115, Tryz.ntmps115
    go_wp2_with fail
    go_ret
    exact ⟨rfl, rfl⟩
theorem selV_lim {kind a b : Int} (ha : -2000000 ≤ a ∧ a ≤ 2000000) (hb : -2000000 ≤ b ∧ b ≤ 2000000) : -2000000 ≤ selV kind a b ∧ selV kind a b ≤ 2000000 := by
  unfold selV
  split <;> omega

/-- Has a domain nothing? For every function that asks just that. -/
theorem isEmptyX_any (d : Dv) (L : List Int) (w : World) (h : IsDom w d.val L) : Calls Tryz.prog 57 #[.agg #[.int .i64 d.s, .slice d.A d.n d.c, .int .i64 d.z]] w fun e w' => e = .returned (.bool (L.length == 0)) ∧ Below w.heap.size w w' := by
  have CS : Hid (∀ W, Below w.heap.size w W → Calls Tryz.prog 90 #[.agg #[.int .i64 d.s, .slice d.A d.n d.c, .int .i64 d.z]] W fun e w' => e = .returned (.int .i64 (L.length : Nat)) ∧ Below W.heap.size W w') := Lib.hid (fun W hW => D.size_dom d.val L W (h.below hW))
  obtain ⟨n, hn⟩ : ∃ n, n = L.length := ⟨_, rfl⟩
  rw [← hn] at CS ⊢
  clear h hn
  by_cases h0 : n = 0
  · have e1 : (((n : Nat) : Int) == 0) = true := by simp [h0]
    have HF : Hid (true = (n == 0)) := Lib.hid (by simp [h0])
    clear h0
    go_enter Tryz.func57, Tryz.ntmps57
    go_wp2_with (go_at_call 90; with_reducible refine (CS.out _ (below1 _ _)).mono ?_; rintro e w1 ⟨rfl, b1⟩; have B1 := Lib.hid ((below1 w _).trans (b1.mono (below1 w _).size)); clear b1)
    go_ret
    exact ⟨ret_bool HF.out, B1.out⟩
  · have e1 : (((n : Nat) : Int) == 0) = false := by simp [h0]
    have HF : Hid (false = (n == 0)) := Lib.hid (by simp [h0])
    clear h0
    go_enter Tryz.func57, Tryz.ntmps57
    go_wp2_with (go_at_call 90; with_reducible refine (CS.out _ (below1 _ _)).mono ?_; rintro e w1 ⟨rfl, b1⟩; have B1 := Lib.hid ((below1 w _).trans (b1.mono (below1 w _).size)); clear b1)
    go_ret
    exact ⟨ret_bool HF.out, B1.out⟩
theorem eEmptyX : ∀ args w, (callFunc 57 args).run Tryz.prog w = .ok (.enter 57 args) w := enters_of Tryz.func57 (by kernel_rfl) rfl
/-- Is any of the domains empty? -/
theorem anyEmptyX_any (x : Sl) (R : List (List Int)) (w : World) (h : DomsIn w x R) : Calls Tryz.prog 56 #[.slice x.A x.n x.c, .func (.func 57) #[] #[]] w fun e w' => e = .returned (.bool (R.any fun l => l.length == 0)) ∧ Below w.heap.size w w' :=
  containsFunc_doms 57 #[] eEmptyX _ x R w h (fun d r W _ hd => isEmptyX_any d r W hd)
end Go.Proofs.YtkhmocbfkpbpfaaGreatDoor

/- Contract of ext's mayFilter: it is the document's Fits. -/
namespace Go.Proofs.YtkhmocbfkpbpfaaGreatDoor
open Go.RowKit Go.Sort

set_option maxHeartbeats 4000000 in
set_option maxRecDepth 100000 in
theorem mayExt_any (v : ConV) (c : ConL) (x : Sl) (D : List (List Int)) (w : World) (hE : EntIn w) (h : ConIn w v c) (hx : DomsIn w x D) :
    Calls Tryz.prog 54 #[v.val c.kind c.K, .slice x.A x.n x.c] w fun e w' => e = .returned (.bool (fitsE c D 8 10)) ∧ Below w.heap.size w w' := by
  obtain ⟨wb, hwb⟩ : ∃ wb, cBox w v c.kind c.K = wb := ⟨_, rfl⟩
  have HR : Hid (RBox w.heap.size wb v c ⟨none, 0, 0⟩ [] ∧ Below w.heap.size w wb) := Lib.hid (hwb ▸ ⟨RBox.start h (IsInts.nil _), cBox_below _ _ _ _⟩)
  have HD := Lib.hid (hx.below HR.out.2)
  have hxb := hx.big
  have hab := h.a.big
  have hbb := h.b.big
  have CR : Hid (Calls Tryz.prog 112 #[v.val c.kind c.K, .int .i64 256] wb fun e w' => e = .returned (.int .i64 (rightE c 256)) ∧ Below wb.heap.size wb w') := Lib.hid (right_any v c 256 wb (hE.below HR.out.2) HR.out.1.con)
  have HV : Hid (fitsE c D 8 10 = (!decide (c.kind < 8) && !decide (10 < c.kind) && decide (x.n = v.a.n + v.b.n) && (rightE c 256 == 0) && !D.any (fun l => l.length == 0))) := Lib.hid (by unfold fitsE; rw [h.a.len, h.b.len, hx.len])
  obtain ⟨RES, hRES⟩ : ∃ B, B = fitsE c D 8 10 := ⟨_, rfl⟩
  rw [← hRES] at HV ⊢
  have HWB := Lib.hid hwb
  obtain ⟨rr, hrr⟩ : ∃ rr, rr = rightE c 256 := ⟨_, rfl⟩
  rw [← hrr] at CR HV
  have CE : Hid (∀ W, Below wb.heap.size wb W → Calls Tryz.prog 56 #[.slice x.A x.n x.c, .func (.func 57) #[] #[]] W fun e w' => e = .returned (.bool (D.any fun l => l.length == 0)) ∧ Below W.heap.size W w') := Lib.hid (fun W hW => anyEmptyX_any x D W (HD.out.below hW))
  obtain ⟨OB, hOB⟩ : ∃ B, B = D.any (fun l => l.length == 0) := ⟨_, rfl⟩
  rw [← hOB] at HV CE
  have ws : IntKind.i64.wrap (((v.a.n : Nat) : Int) + ((v.b.n : Nat) : Int)) = ((v.a.n : Nat) : Int) + ((v.b.n : Nat) : Int) := IntWalk.i64_in _ (by omega)
  have HB := Lib.hid HR.out.2
  clear hwb h hx hRES hrr hOB hE
  by_cases hk : c.kind = 8 ∨ c.kind = 9 ∨ c.kind = 10
  · have hk' : ((c.kind == 8) = true) ∨ ((c.kind == 8) = false ∧ (c.kind == 9) = true) ∨ ((c.kind == 8) = false ∧ (c.kind == 9) = false ∧ (c.kind == 10) = true) := by
      rcases hk with hk | hk | hk <;> simp [hk]
    have HV1 : Hid (RES = (decide (x.n = v.a.n + v.b.n) && (rr == 0) && !OB)) := Lib.hid (by
      rw [HV.out, decide_eq_false (show ¬ c.kind < 8 by omega), decide_eq_false (show ¬ 10 < c.kind by omega)]; simp)
    have d0 := HR.out.1.c0
    have d1 := HR.out.1.c1
    have d2 := HR.out.1.c2
    have d3 := HR.out.1.c3
    have d4 := HR.out.1.c4
    have d5 := HR.out.1.c5
    have d6 := HR.out.1.c6
    have d7 := HR.out.1.c7
    clear hk HV
    have HH : ((rr == 0) = false ∧ Hid (RES = false)) ∨ ((rr == 0) = true ∧ ((((x.n : Nat) : Int) == ((v.a.n : Nat) : Int) + ((v.b.n : Nat) : Int)) = false) ∧ Hid (RES = false)) ∨ ((rr == 0) = true ∧ ((((x.n : Nat) : Int) == ((v.a.n : Nat) : Int) + ((v.b.n : Nat) : Int)) = true) ∧ Hid (RES = !OB)) := by
      cases g1 : (rr == 0)
      · exact .inl ⟨rfl, Lib.hid (by rw [HV1.out, g1]; simp)⟩
      · by_cases g2 : x.n = v.a.n + v.b.n
        · exact .inr (.inr ⟨rfl, by simp; omega, Lib.hid (by rw [HV1.out, decide_eq_true g2, g1]; simp)⟩)
        · exact .inr (.inl ⟨rfl, by simp; omega, Lib.hid (by rw [HV1.out, decide_eq_false g2]; simp)⟩)
    clear HV1
    rcases HH with ⟨g1, HF⟩ | ⟨g1, g4, HF⟩ | ⟨g1, g4, HF⟩ <;> rcases hk' with k5 | ⟨k5, k6⟩ | ⟨k5, k6, k7⟩
    all_goals
      go_enter Tryz.func54, Tryz.ntmps54
      go_upto_region 1 with fail
      change Code.wp _ _ _ _ (cBox w v c.kind c.K)
      rw [HWB.out]
      clear HWB
      go_wp2_with fail
      refine CR.out.mono ?_
      rintro e w1 ⟨rfl, b1⟩
      have B1 := Lib.hid b1
      have d1' := (b1.cell (World.block_lt_of_cell? _ _ d1)).trans d1
      have d2' := (b1.cell (World.block_lt_of_cell? _ _ d2)).trans d2
      clear b1 CR d0 d1 d2 d3 d4 d5 d6 d7
      go_wp2_with fail
      first
        | (go_ret; exact ⟨ret_bool HF.out.symm, HB.out.trans (B1.out.mono HB.out.size)⟩)
        | (refine (CE.out w1 B1.out).mono ?_
           rintro e w2 ⟨rfl, b2⟩
           have B2 := Lib.hid (HB.out.trans ((B1.out.trans (b2.mono B1.out.size)).mono HB.out.size))
           clear b2 CE
           go_wp2_with fail
           go_ret
           exact ⟨ret_bool HF.out.symm, B2.out⟩)
  · have HF : Hid (RES = false) := Lib.hid (by
      rw [HV.out]
      have : c.kind < 8 ∨ 10 < c.kind := by omega
      rcases this with g | g
      · rw [decide_eq_true g]; simp
      · rw [decide_eq_true g]; simp)
    have k5 : (c.kind == 8) = false := by simp; omega
    have k6 : (c.kind == 9) = false := by simp; omega
    have k7 : (c.kind == 10) = false := by simp; omega
    have d0 := HR.out.1.c0
    clear hk HV
    go_enter Tryz.func54, Tryz.ntmps54
    go_upto_region 1 with fail
    change Code.wp _ _ _ _ (cBox w v c.kind c.K)
    rw [HWB.out]
    clear HWB
    go_wp2_with fail
    go_ret
    exact ⟨ret_bool HF.out.symm, HB.out⟩
end Go.Proofs.YtkhmocbfkpbpfaaGreatDoor
