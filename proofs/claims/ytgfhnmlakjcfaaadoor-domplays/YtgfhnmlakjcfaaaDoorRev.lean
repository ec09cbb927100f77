/- Contract of slices.Reverse at numbers that the caller owns. -/
import Derived.Test.YtgfhnmlakjcfaaaDoorWakes
import Derived.RegionTactic
import Derived.ChangeAlike
namespace Go.Proofs.YtgfhnmlakjcfaaaDoor
open Go.RowKit

/-- The list after k exchanges from the ends inward. -/
def revTo (zs : List Int) (k : Nat) : List Int := (List.range zs.length).map fun t => if t < k ∨ zs.length - k ≤ t then zs.getD (zs.length - 1 - t) 0 else zs.getD t 0

theorem revTo_len (zs : List Int) (k : Nat) : (revTo zs k).length = zs.length := by simp [revTo]
theorem revTo_get (zs : List Int) (k t : Nat) (h : t < zs.length) : (revTo zs k).getD t 0 = if t < k ∨ zs.length - k ≤ t then zs.getD (zs.length - 1 - t) 0 else zs.getD t 0 := by
  unfold revTo
  rw [List.getD_eq_getElem?_getD, List.getElem?_map, List.getElem?_range h]
  rfl

theorem list_ext_getD (a b : List Int) (hl : a.length = b.length) (h : ∀ t, t < a.length → a.getD t 0 = b.getD t 0) : a = b := by
  apply List.ext_getElem hl
  intro i h1 h2
  have := h i h1
  simpa [List.getD_eq_getElem?_getD, List.getElem?_eq_getElem h1, List.getElem?_eq_getElem h2] using this

theorem revTo_zero (zs : List Int) : revTo zs 0 = zs := by
  apply list_ext_getD _ _ (revTo_len _ _)
  intro t ht
  rw [revTo_len] at ht
  rw [revTo_get _ _ _ ht, if_neg (by omega)]

theorem revTo_all (zs : List Int) (k : Nat) (h : zs.length ≤ 2 * k + 1) : revTo zs k = zs.reverse := by
  apply list_ext_getD _ _ (by simp [revTo_len])
  intro t ht
  rw [revTo_len] at ht
  rw [revTo_get _ _ _ ht]
  have hr : zs.reverse.getD t 0 = zs.getD (zs.length - 1 - t) 0 := by
    rw [List.getD_eq_getElem?_getD, List.getElem?_reverse ht, List.getD_eq_getElem?_getD]
  rw [hr]
  by_cases hc : t < k ∨ zs.length - k ≤ t
  · rw [if_pos hc]
  · rw [if_neg hc, show zs.length - 1 - t = t by omega]

theorem getD_setI (ws : List Int) (i j : Nat) (x : Int) (hi : i < ws.length) : (ws.set i x).getD j 0 = if i = j then x else ws.getD j 0 := by
  rw [List.getD_eq_getElem?_getD, List.getElem?_set]
  by_cases h : i = j
  · subst h; simp [hi]
  · simp [h, List.getD_eq_getElem?_getD]

theorem revTo_step (zs : List Int) (k j : Nat) (hj : j = zs.length - 1 - k) (hk : k < j) : ((revTo zs k).set k ((revTo zs k).getD j 0)).set j ((revTo zs k).getD k 0) = revTo zs (k + 1) := by
  apply list_ext_getD _ _ (by simp [revTo_len])
  intro t ht
  simp only [List.length_set, revTo_len] at ht
  rw [getD_setI _ _ _ _ (by simp [revTo_len]; omega), getD_setI _ _ _ _ (by rw [revTo_len]; omega), revTo_get _ _ _ (by omega), revTo_get _ _ _ (by omega), revTo_get _ _ _ ht, revTo_get _ _ _ ht]
  by_cases h1 : j = t
  · subst h1
    rw [if_pos rfl, if_neg (by omega), if_pos (by omega)]
    congr 1; omega
  · rw [if_neg h1]
    by_cases h2 : k = t
    · subst h2
      rw [if_pos rfl, if_neg (by omega), if_pos (by omega)]
      congr 1
    · rw [if_neg h2]
      by_cases h3 : t < k ∨ zs.length - k ≤ t
      · rw [if_pos h3, if_pos (by omega)]
      · rw [if_neg h3, if_neg (by omega)]

theorem own_int {w : World} {base g m cap k : Nat} {zs : List Int} (h : w.ownsRow base 3 1 (.slice (some ⟨g, 0, none⟩) m cap) m (I zs)) (hz : zs.length = m) (hk : k < m) : w.cell? ⟨g, k, none⟩ = some (.int .i64 (zs.getD k 0)) := by
  rw [h.cellAt k (by omega)]
  simp [I, List.getD_eq_getElem?_getD, List.getElem?_eq_getElem (show k < zs.length by omega)]

theorem own_putI {w : World} {base g m cap : Nat} {zs : List Int} (h : w.ownsRow base 3 1 (.slice (some ⟨g, 0, none⟩) m cap) m (I zs)) (k : Nat) (x : Int) : (w.setCell ⟨g, k, none⟩ (.int .i64 x)).ownsRow base 3 1 (.slice (some ⟨g, 0, none⟩) m cap) m (I (zs.set k x)) := by
  have := (h.stored k (.int .i64 x)).1
  rwa [show (I zs).set k (.int .i64 x) = I (zs.set k x) by unfold I; rw [List.map_set]] at this

/-- The row is turned; nothing below it has. -/
def Turned (w : World) (base n : Nat) (v : Value) (zs : List Int) (e : Ending) (w' : World) : Prop :=
  e = .returned (.tuple #[]) ∧ w'.ownsRow base 3 1 v n (I zs) ∧ Below base w w'

set_option maxHeartbeats 2000000 in
theorem reverse_some (g n cap base : Nat) (zs : List Int) (w : World) (hn : n = zs.length) (hbig : n ≤ 1000000) (hbase : base ≤ g) (hown : w.ownsRow base 3 1 (.slice (some ⟨g, 0, none⟩) n cap) n (I zs)) :
    Calls Tryd.prog 25 #[.slice (some ⟨g, 0, none⟩) n cap] w (Turned w base n (.slice (some ⟨g, 0, none⟩) n cap) zs.reverse) := by
  have Hn := Lib.hid hn
  have h0 := hown
  rw [← revTo_zero zs] at h0
  clear hn hown
  go_enter Tryd.func25, Tryd.ntmps25
  go_wp2
  go_loopw [2, 3] (fun i j wr => ∃ k : Nat, i = .int .i64 (k : Nat) ∧ j = .int .i64 ((n : Int) - 1 - (k : Int)) ∧ 2 * k ≤ n + 1 ∧ wr.ownsRow base 3 1 (.slice (some ⟨g, 0, none⟩) n cap) n (I (revTo zs k)) ∧ Below base w wr) (fun i _ _ => n - (intOf i).toNat)
  case atStart => exact ⟨0, rfl, by simp, by omega, h0, Below.refl _ _⟩
  case round =>
    obtain ⟨k, rfl, rfl, hk2, hown, hbr⟩ := hrel
    clear h0
    by_cases hlt : 2 * k + 1 < n
    · obtain ⟨j, hj⟩ : ∃ j : Nat, (n : Int) - 1 - (k : Int) = (j : Int) := ⟨n - 1 - k, by omega⟩
      have hkj : k < j := by omega
      have hjn : j < n := by omega
      have hkn : k < n := by omega
      have hlen : (revTo zs k).length = n := by rw [revTo_len, Hn.out]
      have ci := own_int hown hlen hkn
      have cj := own_int hown hlen hjn
      have fi := hown.frozenAt k
      have fj := hown.frozenAt j
      have hstep := revTo_step zs k j (by rw [← Hn.out]; omega) hkj
      have hput := own_putI (own_putI hown k ((revTo zs k).getD j 0)) j ((revTo zs k).getD k 0)
      have cj2 := own_int (own_putI hown k ((revTo zs k).getD j 0)) (by simp [hlen]) hjn
      have fj2 := (own_putI hown k ((revTo zs k).getD j 0)).frozenAt j
      rw [getD_setI _ _ _ _ (by omega), if_neg (by omega)] at cj2
      rw [hstep] at hput
      generalize (revTo zs k).getD j 0 = xj at *
      generalize (revTo zs k).getD k 0 = xi at *
      have Hput := Lib.hid hput
      have hki : (k : Int) < (n : Int) := by omega
      have hji : (j : Int) < (n : Int) := by omega
      have hlti : (k : Int) < (j : Int) := by omega
      clear hput hstep hlen
      rw [hj]
      go_wp2
      go_region
      all_goals
        go_wp2
        go_roundw
        case rel => exact ⟨k + 1, by go_num, by go_num, by omega, Hput.out.drew, ((hbr.setCell (p := ⟨g, k, none⟩) hbase _).setCell (p := ⟨g, j, none⟩) hbase _).drew⟩
        case measure => simp [intOf]; omega
    · have hd : decide ((k : Int) < (n : Int) - 1 - (k : Int)) = false := by simp; omega
      rw [revTo_all zs k (by rw [← Hn.out]; omega)] at hown
      go_wp2
      go_end0
      exact ⟨rfl, hown, hbr⟩

theorem reverse_none (c : Nat) (w : World) (A : Option Addr) : Calls Tryd.prog 25 #[.slice A 0 c] w fun e w' => e = .returned (.tuple #[]) ∧ w = w' := by
  go_enter Tryd.func25, Tryd.ntmps25
  go_wp2
  refine wp_loop_rounds 1 ?_
  rw [rounds_succ]
  go_wp2
  go_end0
  exact ⟨rfl, rfl⟩
end Go.Proofs.YtgfhnmlakjcfaaaDoor
