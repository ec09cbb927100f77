/- Contract of Range: all numbers between two, or its error. -/
import Derived.Test.YtgfhnmlakjcfaaaDoorRangem
namespace Go.Proofs.YtgfhnmlakjcfaaaDoor
open Go.RowKit

theorem range_err3 (lo hi : Int) (w : World) (h : mayB lo = false ∨ (mayB lo = true ∧ mayB hi = false)) :
    Calls Tryd.prog 11 #[.int .i64 lo, .int .i64 hi] w (GivesDom w [] 3) := by
  rcases h with h | ⟨h, h2⟩
  all_goals
    go_enter Tryd.func11, Tryd.ntmps11
    go_wp2_with (go_at_call 32; with_reducible refine (maybe_any _ _).mono ?_; rintro e w' ⟨rfl, rfl⟩)
    exact bodyPost_ret (v := .tuple #[.agg #[.int .i64 0, .slice none 0 0, .int .i64 0], .int .i64 3]) (by simp [results, Tryd.results11, go_sem]) rfl (zero_out _ _)

theorem range_err4 (lo hi : Int) (w : World) (h : mayB lo = true) (h2 : mayB hi = true) (hlt : hi < lo) :
    Calls Tryd.prog 11 #[.int .i64 lo, .int .i64 hi] w (GivesDom w [] 4) := by
  have d : decide (hi < lo) = true := by simpa using hlt
  go_enter Tryd.func11, Tryd.ntmps11
  go_wp2_with (go_at_call 32; with_reducible refine (maybe_any _ _).mono ?_; rintro e w' ⟨rfl, rfl⟩)
  exact bodyPost_ret (v := .tuple #[.agg #[.int .i64 0, .slice none 0 0, .int .i64 0], .int .i64 4]) (by simp [results, Tryd.results11, go_sem]) rfl (zero_out _ _)

theorem range_err5 (lo hi : Int) (w : World) (h : mayB lo = true) (h2 : mayB hi = true) (hw : 65536 ≤ hi - lo) :
    Calls Tryd.prog 11 #[.int .i64 lo, .int .i64 hi] w (GivesDom w [] 5) := by
  have a := (mayB_iff lo).1 h
  have b := (mayB_iff hi).1 h2
  have d : decide (hi < lo) = false := by simp; omega
  go_enter Tryd.func11, Tryd.ntmps11
  go_wp2_with (go_at_call 32; with_reducible refine (maybe_any _ _).mono ?_; rintro e w' ⟨rfl, rfl⟩)
  exact bodyPost_ret (v := .tuple #[.agg #[.int .i64 0, .slice none 0 0, .int .i64 0], .int .i64 5]) (by simp [results, Tryd.results11, go_sem]) rfl (zero_out _ _)

theorem boxed_free {w W : World} {a b c : Value} {t : TypeId} (h : Below (w.heap.size + 1) (w.alloc (.cells #[a, b, c] t)) W) :
    W.frozen? ⟨w.heap.size, 0, none⟩ = false ∧ W.frozen? ⟨w.heap.size, 1, none⟩ = false ∧ W.frozen? ⟨w.heap.size, 2, none⟩ = false :=
  ⟨by rw [h.frozen (by simp)]; simp, by rw [h.frozen (by simp)]; simp, by rw [h.frozen (by simp)]; simp⟩

theorem own_word {w : World} {base g m k : Nat} {zs : List Nat} (h : w.ownsRow base 62 1 (.slice (some ⟨g, 0, none⟩) m m) m (U zs)) (hz : zs.length = m) (hk : k < m) : w.cell? ⟨g, k, none⟩ = some (.int .u64 ((zs.getD k 0 : Nat) : Int)) := by
  rw [h.cellAt k (by omega)]
  simp [U, List.getD_eq_getElem?_getD, List.getElem?_eq_getElem (show k < zs.length by omega)]

theorem own_put {w : World} {base g m : Nat} {zs : List Nat} (h : w.ownsRow base 62 1 (.slice (some ⟨g, 0, none⟩) m m) m (U zs)) (k x : Nat) : (w.setCell ⟨g, k, none⟩ (.int .u64 (x : Nat))).ownsRow base 62 1 (.slice (some ⟨g, 0, none⟩) m m) m (U (zs.set k x)) := by
  have := (h.stored k (.int .u64 (x : Nat))).1
  rwa [show (U zs).set k (.int .u64 ((x : Nat) : Int)) = U (zs.set k x) by unfold U; rw [List.map_set]] at this

set_option maxHeartbeats 2000000 in
set_option maxRecDepth 100000 in
theorem range_ok (lo hi : Int) (m : Nat) (w : World) (h : mayB lo = true) (h2 : mayB hi = true) (hle : lo ≤ hi) (hw : hi - lo < 65536) (hm : (m : Int) = hi / 64 - lo / 64 + 1) :
    Calls Tryd.prog 11 #[.int .i64 lo, .int .i64 hi] w (GivesDom w (rangeL lo hi) 0) := by
  have a := (mayB_iff lo).1 h
  have b := (mayB_iff hi).1 h2
  have d : decide (hi < lo) = false := by simp; omega
  have d5 : decide (65536 ≤ hi - lo) = false := by simp; omega
  have hm2 : m ≤ 1100 := by omega
  have hm0 : 0 < m := by omega
  obtain ⟨F1, F2, F3⟩ := range_form lo hi m hle a.1 b.2 hm
  have HF1 := Lib.hid F1
  have HF2 := Lib.hid F2
  have HF3 := Lib.hid F3
  have hsize : hi - lo + 1 = ((rangeL lo hi).length : Nat) := by rw [len_rangeL]; omega
  have Hsize := Lib.hid hsize
  have HNB := Lib.hid fun W => nobits_any lo hi m W hm (by omega)
  clear F1 F2 F3 hsize hm
  go_enter Tryd.func11, Tryd.ntmps11
  go_wp2_with (first
    | (go_at_call 32; with_reducible refine (maybe_any _ _).mono ?_; rintro e w' ⟨rfl, rfl⟩)
    | (go_at_call 33; (with_reducible refine (HNB.out _).mono ?_); rintro e w1 ⟨rfl, hown1, hb1, hs1⟩; rw [show (w.alloc (.cells #[.int .i64 0, .slice none 0 0, .int .i64 0] 27)).heap.size = w.heap.size + 1 by simp] at hown1 hb1 hs1))
  go_loopw [35] (fun i wr => ∃ k : Nat, k ≤ m ∧ i = .int .i64 (k : Nat) ∧ wr.ownsRow (w.heap.size + 1) 62 1 (.slice (some ⟨w.heap.size + 1, 0, none⟩) m m) m (U (fullTo m k)) ∧ Below (w.heap.size + 1) (w.alloc (.cells #[.int .i64 0, .slice none 0 0, .int .i64 0] 27)) wr) (fun i _ => m - (intOf i).toNat)
  case atStart => exact ⟨0, Nat.zero_le _, rfl, by simpa [fullTo] using hown1, hb1⟩
  case round =>
    clear hown1 hb1 hs1
    obtain ⟨k, hk, rfl, hown, hbr⟩ := hrel
    by_cases hlt : k < m
    · have hlen : (fullTo m k).length = m := by simp [fullTo]; omega
      have cw := own_word hown hlen hlt
      have fw := hown.frozenAt k
      have hst := (hown.stored k (.int .u64 18446744073709551615)).1
      rw [fullTo_set m k hlt] at hst
      have Hst := Lib.hid hst
      clear hst hlen
      go_wp2
      go_roundw
      case rel => exact ⟨k + 1, by omega, by go_num, Hst.out, hbr.setCell (p := ⟨w.heap.size + 1, k, none⟩) (Nat.le_refl _) _⟩
      case measure => simp [intOf]; omega
    · have hkm : k = m := by omega
      rw [hkm, full_all] at hown
      have cw0 := own_word hown (by simp) hm0
      rw [getD_rep, if_pos hm0] at cw0
      have fw0 := hown.frozenAt 0
      have and0 := u64_and_nat 18446744073709551615 (upN lo) (by decide) (upN_lt lo)
      have hown2 := own_put hown 0 (18446744073709551615 &&& upN lo)
      obtain ⟨x0, hx0⟩ : ∃ x0, 18446744073709551615 &&& upN lo = x0 := ⟨_, rfl⟩
      obtain ⟨t0, ht0⟩ : ∃ t0 : Nat, t0 = 18446744073709551615 := ⟨_, rfl⟩
      rw [← ht0] at cw0 and0
      rw [hx0] at hown2
      rw [ht0, hx0] at and0
      rw [← ht0] at and0
      have hl2 : ((List.replicate m 18446744073709551615).set 0 x0).length = m := by simp
      obtain ⟨j, hj⟩ : ∃ j : Nat, (m : Int) - 1 = (j : Int) := ⟨m - 1, by omega⟩
      have hjm : j < m := by omega
      have hjm' : (j : Int) < (m : Int) := by omega
      have hjw : IntKind.i64.wrap (j : Int) = (j : Int) := IntWalk.i64_in _ (by omega)
      have hj1 : m - 1 = j := by omega
      have cw1 := own_word hown2 hl2 hjm
      have fw1 := hown2.frozenAt j
      have y0lt : ((List.replicate m 18446744073709551615).set 0 x0).getD j 0 < 18446744073709551616 := by
        rw [getD_set _ _ _ _ (by simp; omega), getD_rep, if_pos hjm]
        split
        · rw [← hx0]; exact and_lt _ _ (by decide)
        · decide
      have and1 := u64_and_nat _ (downN hi) y0lt (downN_lt hi)
      have hown3 := own_put hown2 j (((List.replicate m 18446744073709551615).set 0 x0).getD j 0 &&& downN hi)
      have hws : ((List.replicate m 18446744073709551615).set 0 x0).set j (((List.replicate m 18446744073709551615).set 0 x0).getD j 0 &&& downN hi) = rangeWs lo hi m := by
        unfold rangeWs; rw [hx0, hj1]
      rw [hws] at hown3
      generalize ((List.replicate m 18446744073709551615).set 0 x0).getD j 0 = y0 at *
      obtain ⟨y1, hy1⟩ : ∃ y1, y0 &&& downN hi = y1 := ⟨_, rfl⟩
      rw [hy1] at and1 hown3
      have Hown3 := Lib.hid hown3
      have Hbr := Lib.hid hbr
      have hb3 : Below (w.heap.size + 1) (w.alloc (.cells #[.int .i64 0, .slice none 0 0, .int .i64 0] 27)) ((wr.setCell ⟨w.heap.size + 1, 0, none⟩ (.int .u64 (x0 : Nat))).setCell ⟨w.heap.size + 1, j, none⟩ (.int .u64 (y1 : Nat))) := (hbr.setCell (p := ⟨w.heap.size + 1, 0, none⟩) (Nat.le_refl _) _).setCell (p := ⟨w.heap.size + 1, j, none⟩) (Nat.le_refl _) _
      obtain ⟨r0, r1, r2⟩ := boxed hb3
      obtain ⟨f0, f1, f2⟩ := boxed_free hb3
      have Hb3 := Lib.hid hb3
      clear hkm hx0 ht0 hown hown2 hl2 hj1 y0lt hws hy1 hown3 hbr hb3
      go_wp2
      go_region_with (first | (go_at_call 40; refine (up_any _ _).mono ?_; rintro e w' ⟨rfl, rfl⟩))
      all_goals go_wp2
      all_goals go_region_with (first | (go_at_call 41; refine (down_any _ _).mono ?_; rintro e w' ⟨rfl, rfl⟩))
      all_goals go_wp2
      all_goals
        have hbo := (out_below (of_boxed Hb3.out) w.heap.size (Nat.le_refl _) (.int .i64 (lo / 64)) (.slice (some ⟨w.heap.size + 1, 0, none⟩) m m) (.int .i64 (hi - lo + 1))).drew.drew
        have hown5 := (ownsRow_setCell_below (ownsRow_setCell_below (ownsRow_setCell_below Hown3.out (a := ⟨w.heap.size, 0, none⟩) (by simp) (.int .i64 (lo / 64))) (a := ⟨w.heap.size, 1, none⟩) (by simp) (.slice (some ⟨w.heap.size + 1, 0, none⟩) m m)) (a := ⟨w.heap.size, 2, none⟩) (by simp) (.int .i64 (hi - lo + 1))).drew.drew
        have hdE := own_dom hown5 HF1.out HF2.out HF3.out
        rw [← Hsize.out] at hdE
        obtain ⟨q0, q1, q2⟩ := out_cells _ w.heap.size _ _ _ (.int .i64 (lo / 64)) (.slice (some ⟨w.heap.size + 1, 0, none⟩) m m) (.int .i64 (hi - lo + 1)) r0 r1 r2
        exact bodyPost_ret (v := .tuple #[.agg #[.int .i64 (lo / 64), .slice (some ⟨w.heap.size + 1, 0, none⟩) m m, .int .i64 (hi - lo + 1)], .int .i64 0]) (by simp [results, Tryd.results11, go_sem, q0, q1, q2]) rfl ⟨_, rfl, hdE, hbo⟩

theorem range_dom (lo hi : Int) (w : World) :
    Calls Tryd.prog 11 #[.int .i64 lo, .int .i64 hi] w (GivesDom w (if rangeErr lo hi = 0 then rangeL lo hi else []) (rangeErr lo hi)) := by
  by_cases m1 : mayB lo = true
  · by_cases m2 : mayB hi = true
    · by_cases hlt : hi < lo
      · have e : rangeErr lo hi = 4 := by unfold rangeErr; rw [if_pos ⟨m1, m2⟩, if_pos hlt]
        rw [e, if_neg (by decide)]
        exact range_err4 lo hi w m1 m2 hlt
      · by_cases hw : 65536 ≤ hi - lo
        · have e : rangeErr lo hi = 5 := by unfold rangeErr; rw [if_pos ⟨m1, m2⟩, if_neg hlt, if_pos hw]
          rw [e, if_neg (by decide)]
          exact range_err5 lo hi w m1 m2 hw
        · have e : rangeErr lo hi = 0 := by unfold rangeErr; rw [if_pos ⟨m1, m2⟩, if_neg hlt, if_neg hw]
          rw [e, if_pos rfl]
          exact range_ok lo hi (hi / 64 - lo / 64 + 1).toNat w m1 m2 (by omega) (by omega) (by omega)
    · have e : rangeErr lo hi = 3 := by unfold rangeErr; rw [if_neg (fun q => m2 q.2)]
      rw [e, if_neg (by decide)]
      exact range_err3 lo hi w (.inr ⟨m1, by simpa using m2⟩)
  · have e : rangeErr lo hi = 3 := by unfold rangeErr; rw [if_neg (fun q => m1 q.1)]
    rw [e, if_neg (by decide)]
    exact range_err3 lo hi w (.inl (by simpa using m1))
end Go.Proofs.YtgfhnmlakjcfaaaDoor
