/- Contract of slices.Reverse at numbers that the caller owns. -/
import Derived.Test.YtegiaonlneamfaaDoorSetsWalk
import Derived.RegionTactic
import Derived.ChangeAlike
namespace Go.Proofs.YtegiaonlneamfaaDoor
open Go.RowKit

/-- The list after k exchanges from the ends inward. -/
def revTo (zs : List Int) (k : Nat) : List Int := (List.range zs.length).map fun t => if t < k ∨ zs.length - k ≤ t then zs.getD (zs.length - 1 - t) 0 else zs.getD t 0

theorem revTo_len (zs : List Int) (k : Nat) : (revTo zs k).length = zs.length := by simp [revTo]
theorem revTo_get (zs : List Int) (k t : Nat) (h : t < zs.length) : (revTo zs k).getD t 0 = if t < k ∨ zs.length - k ≤ t then zs.getD (zs.length - 1 - t) 0 else zs.getD t 0 := by
  unfold revTo
  rw [List.getD_eq_getElem?_getD, List.getElem?_map, List.getElem?_range h]
  rfl

theorem list_ext_getD (a b : List Int) (hl : a.length = b.length) (h : ∀ t, t < a.length → a.getD t 0 = b.getD t 0) : a = b := by
  apply List.ext_getElem hl
  intro i h1 h2
  have := h i h1
  simpa [List.getD_eq_getElem?_getD, List.getElem?_eq_getElem h1, List.getElem?_eq_getElem h2] using this

theorem revTo_zero (zs : List Int) : revTo zs 0 = zs := by
  apply list_ext_getD _ _ (revTo_len _ _)
  intro t ht
  rw [revTo_len] at ht
  rw [revTo_get _ _ _ ht, if_neg (by omega)]

theorem revTo_all (zs : List Int) (k : Nat) (h : zs.length ≤ 2 * k + 1) : revTo zs k = zs.reverse := by
  apply list_ext_getD _ _ (by simp [revTo_len])
  intro t ht
  rw [revTo_len] at ht
  rw [revTo_get _ _ _ ht]
  have hr : zs.reverse.getD t 0 = zs.getD (zs.length - 1 - t) 0 := by
    rw [List.getD_eq_getElem?_getD, List.getElem?_reverse ht, List.getD_eq_getElem?_getD]
  rw [hr]
  by_cases hc : t < k ∨ zs.length - k ≤ t
  · rw [if_pos hc]
  · rw [if_neg hc, show zs.length - 1 - t = t by omega]

theorem getD_setI (ws : List Int) (i j : Nat) (x : Int) (hi : i < ws.length) : (ws.set i x).getD j 0 = if i = j then x else ws.getD j 0 := by
  rw [List.getD_eq_getElem?_getD, List.getElem?_set]
  by_cases h : i = j
  · subst h; simp [hi]
  · simp [h, List.getD_eq_getElem?_getD]

theorem revTo_step (zs : List Int) (k j : Nat) (hj : j = zs.length - 1 - k) (hk : k < j) : ((revTo zs k).set k ((revTo zs k).getD j 0)).set j ((revTo zs k).getD k 0) = revTo zs (k + 1) := by
  apply list_ext_getD _ _ (by simp [revTo_len])
  intro t ht
  simp only [List.length_set, revTo_len] at ht
  rw [getD_setI _ _ _ _ (by simp [revTo_len]; omega), getD_setI _ _ _ _ (by rw [revTo_len]; omega), revTo_get _ _ _ (by omega), revTo_get _ _ _ (by omega), revTo_get _ _ _ ht, revTo_get _ _ _ ht]
  by_cases h1 : j = t
  · subst h1
    rw [if_pos rfl, if_neg (by omega), if_pos (by omega)]
    congr 1; omega
  · rw [if_neg h1]
    by_cases h2 : k = t
    · subst h2
      rw [if_pos rfl, if_neg (by omega), if_pos (by omega)]
      congr 1
    · rw [if_neg h2]
      by_cases h3 : t < k ∨ zs.length - k ≤ t
      · rw [if_pos h3, if_pos (by omega)]
      · rw [if_neg h3, if_neg (by omega)]

theorem own_int {w : World} {base g m cap k : Nat} {zs : List Int} (h : w.ownsRow base 3 1 (.slice (some ⟨g, 0, none⟩) m cap) m (I zs)) (hz : zs.length = m) (hk : k < m) : w.cell? ⟨g, k, none⟩ = some (.int .i64 (zs.getD k 0)) := by
  rw [h.cellAt k (by omega)]
  simp [I, List.getD_eq_getElem?_getD, List.getElem?_eq_getElem (show k < zs.length by omega)]

theorem own_putI {w : World} {base g m cap : Nat} {zs : List Int} (h : w.ownsRow base 3 1 (.slice (some ⟨g, 0, none⟩) m cap) m (I zs)) (k : Nat) (x : Int) : (w.setCell ⟨g, k, none⟩ (.int .i64 x)).ownsRow base 3 1 (.slice (some ⟨g, 0, none⟩) m cap) m (I (zs.set k x)) := by
  have := (h.stored k (.int .i64 x)).1
  rwa [show (I zs).set k (.int .i64 x) = I (zs.set k x) by unfold I; rw [List.map_set]] at this

/-- The row is turned; nothing below it has. -/
def Turned (w : World) (base n : Nat) (v : Value) (zs : List Int) (e : Ending) (w' : World) : Prop :=
  e = .returned (.tuple #[]) ∧ w'.ownsRow base 3 1 v n (I zs) ∧ Below base w w'

end Go.Proofs.YtegiaonlneamfaaDoor

/- Plain facts for the law DomWalks. No walk. -/
namespace Go.Proofs.YtegiaonlneamfaaDoor
open Go.RowKit

theorem rising_getD {L : List Int} (h : L.Pairwise (· < ·)) (i j : Nat) (hij : i < j) (hj : j < L.length) : L.getD i 0 < L.getD j 0 := by
  have := List.pairwise_iff_getElem.1 h i j (by omega) hj hij
  simpa [List.getD_eq_getElem?_getD, List.getElem?_eq_getElem hj, List.getElem?_eq_getElem (show i < L.length by omega)] using this

theorem getElem?_of_getD (L : List Int) (k : Nat) (h : k < L.length) : L[k]? = some (L.getD k 0) := by
  rw [List.getD_eq_getElem?_getD, List.getElem?_eq_getElem h]; rfl

theorem next_at {L : List Int} (h : L.Pairwise (· < ·)) (k : Nat) (hk : k < L.length) : nextI L (L.getD k 0) = L[k + 1]? := by
  by_cases h1 : k + 1 < L.length
  · rw [getElem?_of_getD L (k + 1) h1]
    refine find_least L _ _ h (getD_mem L _ h1) (rising_getD h k (k + 1) (by omega) h1) ?_
    intro u hu hv
    obtain ⟨i, hi, rfl⟩ := mem_getD L u hu
    rcases Nat.lt_or_ge i (k + 1) with q | q
    · rcases Nat.lt_or_ge i k with q2 | q2
      · have := rising_getD h i k q2 hk; omega
      · have : i = k := by omega
        subst this; omega
    · rcases Nat.lt_or_ge (k + 1) i with q2 | q2
      · have := rising_getD h (k + 1) i q2 hi; omega
      · have : i = k + 1 := by omega
        subst this; exact Int.le_refl _
  · rw [List.getElem?_eq_none (by omega)]
    apply nextI_none
    intro u hu
    obtain ⟨i, hi, rfl⟩ := mem_getD L u hu
    rcases Nat.lt_or_ge i k with q | q
    · have := rising_getD h i k q hk; omega
    · have : i = k := by omega
      subst this; exact Int.le_refl _

theorem rev_getD (L : List Int) (k : Nat) (hk : k < L.length) : L.reverse.getD k 0 = L.getD (L.length - 1 - k) 0 := by
  rw [List.getD_eq_getElem?_getD, List.getElem?_reverse hk, List.getD_eq_getElem?_getD]

theorem prev_at {L : List Int} (h : L.Pairwise (· < ·)) (k : Nat) (hk : k < L.length) : prevI L (L.reverse.getD k 0) = L.reverse[k + 1]? := by
  rw [rev_getD L k hk]
  by_cases h1 : k + 1 < L.length
  · rw [getElem?_of_getD L.reverse (k + 1) (by simpa using h1), rev_getD L (k + 1) h1]
    refine find_greatest L _ _ h (getD_mem L _ (by omega)) (rising_getD h _ _ (by omega) (by omega)) ?_
    intro u hu hv
    obtain ⟨i, hi, rfl⟩ := mem_getD L u hu
    rcases Nat.lt_or_ge (L.length - 1 - (k + 1)) i with q | q
    · exfalso
      rcases Nat.lt_or_ge (L.length - 1 - k) i with q2 | q2
      · have := rising_getD h _ i q2 hi; omega
      · have : i = L.length - 1 - k := by omega
        subst this; omega
    · rcases Nat.lt_or_ge i (L.length - 1 - (k + 1)) with q2 | q2
      · have := rising_getD h i _ q2 (by omega); omega
      · have : i = L.length - 1 - (k + 1) := by omega
        rw [← this]; exact Int.le_refl _
  · rw [List.getElem?_eq_none (by simp; omega)]
    apply prevI_none
    intro u hu
    obtain ⟨i, hi, rfl⟩ := mem_getD L u hu
    rcases Nat.lt_or_ge (L.length - 1 - k) i with q | q
    · have := rising_getD h _ i q hi; omega
    · have : i = L.length - 1 - k := by omega
      rw [← this]; exact Int.le_refl _

theorem opt_parts (o : List Int) (k : Nat) : optV o[k]? = .tuple #[.int .i64 (o.getD k 0), .bool (decide (k < o.length))] := by
  unfold optV
  rw [List.getD_eq_getElem?_getD]
  by_cases h : k < o.length
  · simp [h]
  · simp [h]

theorem ins_len (v : Int) : ∀ l, (ins v l).length ≤ l.length + 1
  | [] => by simp [ins]
  | a :: l => by
    unfold ins
    split
    · simp
    · split
      · simp
      · have := ins_len v l
        simp; omega

theorem setOf_len (zs : List Int) : (setOf zs).length ≤ zs.length := by
  have : ∀ (zs l : List Int), (zs.foldl (fun l v => ins v l) l).length ≤ l.length + zs.length := by
    intro zs
    induction zs with
    | nil => intro l; simp
    | cons z zs ih =>
      intro l
      rw [List.foldl_cons]
      have := ih (ins z l)
      have := ins_len z l
      simp only [List.length_cons]
      omega
  have := this zs []
  simpa [setOf] using this

theorem walks_lens (L : List Int) (w : Int) : (L.filter fun u => decide (w ≤ u)).length + (L.filter fun u => decide (u ≤ w)).length = L.length + (L.filter fun u => decide (u = w)).length := by
  induction L with
  | nil => rfl
  | cons a l ih =>
    rcases Int.lt_trichotomy a w with h | h | h
    · have h1 : ¬ w ≤ a := by omega
      have h2 : a ≤ w := by omega
      have h3 : ¬ a = w := by omega
      simp [h1, h2, h3]; omega
    · subst h
      simp; omega
    · have h1 : w ≤ a := by omega
      have h2 : ¬ a ≤ w := by omega
      have h3 : ¬ a = w := by omega
      simp [h1, h2, h3]; omega

theorem walks_both {L : List Int} (hL : L.Pairwise (· < ·)) (w : Int) : (L.filter fun u => decide (w ≤ u)).filter (fun u => decide (u ∈ L.filter fun u => decide (u ≤ w))) = L.filter fun u => decide (u = w) := by
  apply eq_of_rising _ _ ((hL.filter _).filter _) (hL.filter _)
  intro u
  simp only [List.mem_filter, decide_eq_true_eq]
  constructor
  · rintro ⟨⟨a, b⟩, c, d⟩; exact ⟨a, by omega⟩
  · rintro ⟨a, b⟩; exact ⟨⟨a, by omega⟩, a, by omega⟩

/-- The k-th number, under a name that the walk leaves alone. -/
def elI (L : List Int) (k : Nat) : Int := L.getD k 0
def lenOf : Value → Nat | .slice _ n _ => n | _ => 0

theorem own_shape {w : World} {base : Nat} {v : Value} {n : Nat} {xs : List Value} (h : w.ownsRow base 3 1 v n xs) : ∃ A c, v = .slice A n c := by
  rcases h.2 with ⟨rfl, rfl⟩ | ⟨g, cap, cur, rfl, _⟩
  · exact ⟨_, _, rfl⟩
  · exact ⟨_, _, rfl⟩

theorem own_lies2 {w : World} {base c n : Nat} {A : Option Addr} {zs : List Int} (h : w.ownsRow base 3 1 (.slice A n c) n (I zs)) (hn : zs.length = n) : Lies w A n (i64f zs) := by
  subst hn
  obtain ⟨A', c', e, hl, -⟩ := own_lies h
  injection e with e1
  subst e1
  exact hl

theorem equal_same (A B : Option Addr) (zs : List Int) (c1 c2 : Nat) (w : World) (h1 : Lies w A zs.length (i64f zs)) (h2 : Lies w B zs.length (i64f zs)) (hb : zs.length ≤ 9223372036854775806) :
    Calls Tryd.prog 44 #[.slice A zs.length c1, .slice B zs.length c2] w fun e w' => e = .returned (.bool true) ∧ Below w.heap.size w w' := by
  have := equal_i A B zs zs c1 c2 w h1 h2 hb hb
  rwa [show decide (zs = zs) = true from decide_eq_true rfl] at this

theorem take_el (L : List Int) (k : Nat) (h : k < L.length) : I (L.take k) ++ [Value.int .i64 (elI L k)] = I (L.take (k + 1)) := by
  rw [List.take_succ_eq_append_getElem h, I_append]
  unfold elI
  rw [List.getD_eq_getElem?_getD, List.getElem?_eq_getElem h]
  rfl

end Go.Proofs.YtegiaonlneamfaaDoor
