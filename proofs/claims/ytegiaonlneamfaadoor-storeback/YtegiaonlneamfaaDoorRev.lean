/- Contract of slices.Reverse at numbers that the caller owns. -/
import Derived.Test.YtegiaonlneamfaaDoorWakes
import Derived.RegionTactic
import Derived.ChangeAlike
namespace Go.Proofs.YtegiaonlneamfaaDoor
open Go.RowKit

/-- The list after k exchanges from the ends inward. -/
def revTo (zs : List Int) (k : Nat) : List Int := (List.range zs.length).map fun t => if t < k ∨ zs.length - k ≤ t then zs.getD (zs.length - 1 - t) 0 else zs.getD t 0

theorem revTo_len (zs : List Int) (k : Nat) : (revTo zs k).length = zs.length := by simp [revTo]
theorem revTo_get (zs : List Int) (k t : Nat) (h : t < zs.length) : (revTo zs k).getD t 0 = if t < k ∨ zs.length - k ≤ t then zs.getD (zs.length - 1 - t) 0 else zs.getD t 0 := by
  unfold revTo
  rw [List.getD_eq_getElem?_getD, List.getElem?_map, List.getElem?_range h]
  rfl

theorem list_ext_getD (a b : List Int) (hl : a.length = b.length) (h : ∀ t, t < a.length → a.getD t 0 = b.getD t 0) : a = b := by
  apply List.ext_getElem hl
  intro i h1 h2
  have := h i h1
  simpa [List.getD_eq_getElem?_getD, List.getElem?_eq_getElem h1, List.getElem?_eq_getElem h2] using this

theorem revTo_zero (zs : List Int) : revTo zs 0 = zs := by
  apply list_ext_getD _ _ (revTo_len _ _)
  intro t ht
  rw [revTo_len] at ht
  rw [revTo_get _ _ _ ht, if_neg (by omega)]

theorem revTo_all (zs : List Int) (k : Nat) (h : zs.length ≤ 2 * k + 1) : revTo zs k = zs.reverse := by
  apply list_ext_getD _ _ (by simp [revTo_len])
  intro t ht
  rw [revTo_len] at ht
  rw [revTo_get _ _ _ ht]
  have hr : zs.reverse.getD t 0 = zs.getD (zs.length - 1 - t) 0 := by
    rw [List.getD_eq_getElem?_getD, List.getElem?_reverse ht, List.getD_eq_getElem?_getD]
  rw [hr]
  by_cases hc : t < k ∨ zs.length - k ≤ t
  · rw [if_pos hc]
  · rw [if_neg hc, show zs.length - 1 - t = t by omega]

theorem getD_setI (ws : List Int) (i j : Nat) (x : Int) (hi : i < ws.length) : (ws.set i x).getD j 0 = if i = j then x else ws.getD j 0 := by
  rw [List.getD_eq_getElem?_getD, List.getElem?_set]
  by_cases h : i = j
  · subst h; simp [hi]
  · simp [h, List.getD_eq_getElem?_getD]

theorem revTo_step (zs : List Int) (k j : Nat) (hj : j = zs.length - 1 - k) (hk : k < j) : ((revTo zs k).set k ((revTo zs k).getD j 0)).set j ((revTo zs k).getD k 0) = revTo zs (k + 1) := by
  apply list_ext_getD _ _ (by simp [revTo_len])
  intro t ht
  simp only [List.length_set, revTo_len] at ht
  rw [getD_setI _ _ _ _ (by simp [revTo_len]; omega), getD_setI _ _ _ _ (by rw [revTo_len]; omega), revTo_get _ _ _ (by omega), revTo_get _ _ _ (by omega), revTo_get _ _ _ ht, revTo_get _ _ _ ht]
  by_cases h1 : j = t
  · subst h1
    rw [if_pos rfl, if_neg (by omega), if_pos (by omega)]
    congr 1; omega
  · rw [if_neg h1]
    by_cases h2 : k = t
    · subst h2
      rw [if_pos rfl, if_neg (by omega), if_pos (by omega)]
      congr 1
    · rw [if_neg h2]
      by_cases h3 : t < k ∨ zs.length - k ≤ t
      · rw [if_pos h3, if_pos (by omega)]
      · rw [if_neg h3, if_neg (by omega)]

theorem own_int {w : World} {base g m cap k : Nat} {zs : List Int} (h : w.ownsRow base 3 1 (.slice (some ⟨g, 0, none⟩) m cap) m (I zs)) (hz : zs.length = m) (hk : k < m) : w.cell? ⟨g, k, none⟩ = some (.int .i64 (zs.getD k 0)) := by
  rw [h.cellAt k (by omega)]
  simp [I, List.getD_eq_getElem?_getD, List.getElem?_eq_getElem (show k < zs.length by omega)]

theorem own_putI {w : World} {base g m cap : Nat} {zs : List Int} (h : w.ownsRow base 3 1 (.slice (some ⟨g, 0, none⟩) m cap) m (I zs)) (k : Nat) (x : Int) : (w.setCell ⟨g, k, none⟩ (.int .i64 x)).ownsRow base 3 1 (.slice (some ⟨g, 0, none⟩) m cap) m (I (zs.set k x)) := by
  have := (h.stored k (.int .i64 x)).1
  rwa [show (I zs).set k (.int .i64 x) = I (zs.set k x) by unfold I; rw [List.map_set]] at this

/-- The row is turned; nothing below it has. -/
def Turned (w : World) (base n : Nat) (v : Value) (zs : List Int) (e : Ending) (w' : World) : Prop :=
  e = .returned (.tuple #[]) ∧ w'.ownsRow base 3 1 v n (I zs) ∧ Below base w w'

end Go.Proofs.YtegiaonlneamfaaDoor
