/- Contract of the law's own less, first part: Keep of no numbers. -/
import Derived.Test.YtegiaonlneamfaaDoorKeep
namespace Go.Proofs.YtegiaonlneamfaaDoor
open Go.RowKit Go.Sort

theorem refkeep_none (A B : Option Addr) (o v : Int) (cA m cB : Nat) (w : World) : Calls Tryd.prog 43 #[.slice A 0 cA, .int .i64 o, .int .i64 v, .slice B m cB] w (GivesOf w [] 0) := by
  have hch := refchange_any A none [] [] 0 0 cA 0 w rfl rfl (fun h => absurd h (by omega)) (Lies.none _ _ _) (by omega) (by omega)
  have Hch := Lib.hid hch
  clear hch
  go_enter Tryd.func43, Tryd.ntmps43
  go_wp2
  refine wp_loop_rounds 1 ?_
  rw [rounds_succ]
  go_wp2_with fail
  refine Hch.out.mono ?_
  rintro e w3 ⟨rfl, hb3⟩
  have Hb3 := Lib.hid hb3
  clear hb3
  go_wp2_with fail
  go_ret2
  exact ⟨_, rfl, World.ownsRow_nil _ _ _ _, Hb3.out⟩
end Go.Proofs.YtegiaonlneamfaaDoor

/- A domain's box that is written to: what stays. -/
namespace Go.Proofs.YtegiaonlneamfaaDoor
open Go.RowKit Go.Sort

/-- A box of a domain, and nothing else in its block. -/
def Cell3 (W : World) (g : Nat) (s : Int) (A : Option Addr) (n c : Nat) (z : Int) : Prop := W.heap[g]? = some (.cells #[.int .i64 s, .slice A n c, .int .i64 z] 48 (0, 0))

theorem Cell3.lt {W : World} {g : Nat} {s z : Int} {A : Option Addr} {n c : Nat} (h : Cell3 W g s A n c z) : g < W.heap.size := (Array.getElem?_eq_some_iff.1 h).1
theorem Cell3.below {W W' : World} {g : Nat} {s z : Int} {A : Option Addr} {n c : Nat} (h : Cell3 W g s A n c z) (hb : Below W.heap.size W W') : Cell3 W' g s A n c z := (hb.block g h.lt).trans h
theorem Cell3.new (W : World) (s z : Int) (A : Option Addr) (n c : Nat) : Cell3 (W.alloc (.cells #[.int .i64 s, .slice A n c, .int .i64 z] 48)) W.heap.size s A n c z := heap_alloc_new W _
theorem Cell3.cells {W : World} {g : Nat} {s z : Int} {A : Option Addr} {n c : Nat} (h : Cell3 W g s A n c z) : W.cell? ⟨g, 0, none⟩ = some (.int .i64 s) ∧ W.cell? ⟨g, 1, none⟩ = some (.slice A n c) ∧ W.cell? ⟨g, 2, none⟩ = some (.int .i64 z) := by
  unfold Cell3 at h
  refine ⟨?_, ?_, ?_⟩ <;> (unfold World.cell?; rw [h]; simp)
theorem Cell3.free {W : World} {g : Nat} {s z : Int} {A : Option Addr} {n c : Nat} (h : Cell3 W g s A n c z) (i : Nat) : W.frozen? ⟨g, i, none⟩ = false := by
  unfold Cell3 at h
  unfold World.frozen?
  rw [h]; simp
theorem Cell3.far {W : World} {g x : Nat} {s z : Int} {A : Option Addr} {n c : Nat} {ad : Addr} (hg : Cell3 W g s A n c z) (h : W.cell? ad = some (.int .u64 (x : Nat))) : ad.block ≠ g := by
  intro e
  unfold Cell3 at hg
  unfold World.cell? at h
  rw [e, hg] at h
  simp only at h
  split at h
  · cases h
  · rcases ho : ad.off with _ | _ | _ | n <;> rw [ho] at h <;> simp at h

/-- A box written anew. -/
abbrev store3 (W : World) (g : Nat) (v0 v1 v2 : Value) : World := ((W.setCell ⟨g, 0, none⟩ v0).setCell ⟨g, 1, none⟩ v1).setCell ⟨g, 2, none⟩ v2

theorem store3_size (W : World) (g : Nat) (v0 v1 v2 : Value) : (store3 W g v0 v1 v2).heap.size = W.heap.size := by simp [store3, World.setCell]
theorem store3_heap (W : World) (g k : Nat) (v0 v1 v2 : Value) (h : k ≠ g) : (store3 W g v0 v1 v2).heap[k]? = W.heap[k]? := by
  simp [store3, World.setCell, Array.getElem?_modify, Ne.symm h]
theorem store3_same {W : World} {g : Nat} {s z : Int} {A : Option Addr} {n c : Nat} (h : Cell3 W g s A n c z) (s' z' : Int) (A' : Option Addr) (n' c' : Nat) :
    Cell3 (store3 W g (.int .i64 s') (.slice A' n' c') (.int .i64 z')) g s' A' n' c' z' := by
  unfold Cell3 at h ⊢
  simp [store3, World.setCell, Array.getElem?_modify, h]
theorem store3_cell (W : World) (g : Nat) (v0 v1 v2 : Value) (ad : Addr) (h : ad.block ≠ g) : (store3 W g v0 v1 v2).cell? ad = W.cell? ad := by
  unfold World.cell?
  rw [store3_heap _ _ _ _ _ _ h]
theorem Cell3.store {W : World} {g g' : Nat} {s z : Int} {A : Option Addr} {n c : Nat} (h : Cell3 W g s A n c z) (hne : g ≠ g') (v0 v1 v2 : Value) : Cell3 (store3 W g' v0 v1 v2) g s A n c z := (store3_heap _ _ _ _ _ _ hne).trans h
theorem IsDom.store {W : World} {d : Value} {L : List Int} {g : Nat} {s z : Int} {A : Option Addr} {n c : Nat} (h : IsDom W d L) (hg : Cell3 W g s A n c z) (v0 v1 v2 : Value) : IsDom (store3 W g v0 v1 v2) d L := by
  obtain ⟨s', A', ws, c', e, hl, hF, hL⟩ := h
  refine ⟨s', A', ws, c', e, fun hp => ?_, hF, hL⟩
  obtain ⟨ad, e, hb, hc⟩ := hl hp
  refine ⟨ad, e, by rw [store3_size]; exact hb, fun j hj => ?_⟩
  have := hg.far (hc j hj)
  rw [store3_cell _ _ _ _ _ _ this]
  exact hc j hj
theorem Lies.store {W : World} {A : Option Addr} {n g : Nat} {f : Nat → Value} (h : Lies W A n f) (hg : ∀ ad, A = some ad → ad.block ≠ g) (v0 v1 v2 : Value) : Lies (store3 W g v0 v1 v2) A n f := by
  intro hp
  obtain ⟨ad, e, hb, hc⟩ := h hp
  refine ⟨ad, e, by rw [store3_size]; exact hb, fun j hj => ?_⟩
  rw [store3_cell _ _ _ _ _ _ (by rw [add_block]; exact hg ad e)]
  exact hc j hj
theorem Tab.store {W : World} (h : Tab W) {g : Nat} (hg : 0 < g) (v0 v1 v2 : Value) : Tab (store3 W g v0 v1 v2) := by
  refine ⟨by rw [store3_size]; exact h.1, fun j hj => ?_⟩
  rw [store3_cell _ _ _ _ _ _ (by simp; omega)]
  exact h.2 j hj
theorem At3.store {W : World} {g g' : Nat} {a b c : Value} (h : At3 W g a b c) (hne : g ≠ g') (v0 v1 v2 : Value) : At3 (store3 W g' v0 v1 v2) g a b c :=
  ⟨by rw [store3_size]; exact h.1, (store3_cell _ _ _ _ _ _ hne).trans h.2.1, (store3_cell _ _ _ _ _ _ hne).trans h.2.2.1, (store3_cell _ _ _ _ _ _ hne).trans h.2.2.2⟩
theorem store3_below {B : Nat} {a w : World} (h : Below B a w) (g : Nat) (hg : B ≤ g) (v0 v1 v2 : Value) : Below B a (store3 w g v0 v1 v2) := out_below h g hg v0 v1 v2
theorem own_store {W : World} {base n g : Nat} {v : Value} {zs : List Int} (h : W.ownsRow base 3 1 v n (I zs)) (hg : g < base) (v0 v1 v2 : Value) : (store3 W g v0 v1 v2).ownsRow base 3 1 v n (I zs) :=
  ownsRow_setCell_below (ownsRow_setCell_below (ownsRow_setCell_below h (a := ⟨g, 0, none⟩) hg v0) (a := ⟨g, 1, none⟩) hg v1) (a := ⟨g, 2, none⟩) hg v2
end Go.Proofs.YtegiaonlneamfaaDoor

/- Contract of the law's own less. -/
namespace Go.Proofs.YtegiaonlneamfaaDoor
open Go.RowKit Go.Sort

/-- What less returns: the domain and the list that are left, and true. -/
def GivesLess (w : World) (R : List Int) (e : Ending) (w' : World) : Prop :=
  ∃ s A n c B cB, e = .returned (.tuple #[.agg #[.int .i64 s, .slice A n c, .int .i64 (R.length : Nat)], .slice B R.length cB, .bool true]) ∧ IsDom w' (.agg #[.int .i64 s, .slice A n c, .int .i64 (R.length : Nat)]) R ∧
    w'.ownsRow w.heap.size 3 1 (.slice B R.length cB) R.length (I R) ∧ Below w.heap.size w w'

theorem keep_len (o v : Int) (M L : List Int) : (L.filter (keepB o v M)).length ≤ L.length := List.length_filter_le _ _

theorem refkeep0_any (A B : Option Addr) (zs M : List Int) (n m cA cB : Nat) (v : Int) (w : World) (hn : n = zs.length) (hmm : m = M.length) (hbig : n ≤ 1000000) (hbm' : m ≤ 2000064) (hA : Lies w A n (i64f zs)) (hB : Lies w B m (i64f M)) :
    Calls Tryd.prog 43 #[.slice A n cA, .int .i64 0, .int .i64 v, .slice B m cB] w (GivesOf w (zs.filter (keepB 0 v M)) (chg zs (zs.filter (keepB 0 v M)))) := by
  by_cases hp : 0 < n
  · obtain ⟨a, rfl, ha, hca⟩ := hA hp
    exact refkeep0 a B zs M n m cA cB v w hn hmm hp hbig hbm' ha hca hB
  · have : zs = [] := List.eq_nil_of_length_eq_zero (by omega)
    subst this
    have h0 : n = 0 := by omega
    rw [h0]
    exact refkeep_none A B 0 v cA m cB w

theorem keep0_is (v : Int) (M : List Int) : keepB 0 v M = fun u => decide (u ≠ v) := by funext u; unfold keepB; simp

theorem refkeep1_any (A B : Option Addr) (zs M : List Int) (n m cA cB : Nat) (v : Int) (w : World) (hn : n = zs.length) (hmm : m = M.length) (hbig : n ≤ 1000000) (hbm' : m ≤ 2000064) (hA : Lies w A n (i64f zs)) (hB : Lies w B m (i64f M)) :
    Calls Tryd.prog 43 #[.slice A n cA, .int .i64 1, .int .i64 v, .slice B m cB] w (GivesOf w (zs.filter (keepB 1 v M)) (chg zs (zs.filter (keepB 1 v M)))) := by
  by_cases hp : 0 < n
  · obtain ⟨a, rfl, ha, hca⟩ := hA hp
    exact refkeep1 a B zs M n m cA cB v w hn hmm hp hbig hbm' ha hca hB
  · have : zs = [] := List.eq_nil_of_length_eq_zero (by omega)
    subst this
    have h0 : n = 0 := by omega
    rw [h0]
    exact refkeep_none A B 1 v cA m cB w

theorem keep1_is (v : Int) (M : List Int) : keepB 1 v M = fun u => decide (u = v) := by funext u; unfold keepB; simp

theorem refkeep2_any (A B : Option Addr) (zs M : List Int) (n m cA cB : Nat) (v : Int) (w : World) (hn : n = zs.length) (hmm : m = M.length) (hbig : n ≤ 1000000) (hbm' : m ≤ 2000064) (hA : Lies w A n (i64f zs)) (hB : Lies w B m (i64f M)) :
    Calls Tryd.prog 43 #[.slice A n cA, .int .i64 2, .int .i64 v, .slice B m cB] w (GivesOf w (zs.filter (keepB 2 v M)) (chg zs (zs.filter (keepB 2 v M)))) := by
  by_cases hp : 0 < n
  · obtain ⟨a, rfl, ha, hca⟩ := hA hp
    exact refkeep2 a B zs M n m cA cB v w hn hmm hp hbig hbm' ha hca hB
  · have : zs = [] := List.eq_nil_of_length_eq_zero (by omega)
    subst this
    have h0 : n = 0 := by omega
    rw [h0]
    exact refkeep_none A B 2 v cA m cB w

theorem keep2_is (v : Int) (M : List Int) : keepB 2 v M = fun u => decide (v ≤ u) := by funext u; unfold keepB; simp

theorem refkeep3_any (A B : Option Addr) (zs M : List Int) (n m cA cB : Nat) (v : Int) (w : World) (hn : n = zs.length) (hmm : m = M.length) (hbig : n ≤ 1000000) (hbm' : m ≤ 2000064) (hA : Lies w A n (i64f zs)) (hB : Lies w B m (i64f M)) :
    Calls Tryd.prog 43 #[.slice A n cA, .int .i64 3, .int .i64 v, .slice B m cB] w (GivesOf w (zs.filter (keepB 3 v M)) (chg zs (zs.filter (keepB 3 v M)))) := by
  by_cases hp : 0 < n
  · obtain ⟨a, rfl, ha, hca⟩ := hA hp
    exact refkeep3 a B zs M n m cA cB v w hn hmm hp hbig hbm' ha hca hB
  · have : zs = [] := List.eq_nil_of_length_eq_zero (by omega)
    subst this
    have h0 : n = 0 := by omega
    rw [h0]
    exact refkeep_none A B 3 v cA m cB w

theorem keep3_is (v : Int) (M : List Int) : keepB 3 v M = fun u => decide (u ≤ v) := by funext u; unfold keepB; simp

theorem refkeep4_any (A B : Option Addr) (zs M : List Int) (n m cA cB : Nat) (v : Int) (w : World) (hn : n = zs.length) (hmm : m = M.length) (hbig : n ≤ 1000000) (hbm' : m ≤ 2000064) (hA : Lies w A n (i64f zs)) (hB : Lies w B m (i64f M)) :
    Calls Tryd.prog 43 #[.slice A n cA, .int .i64 4, .int .i64 v, .slice B m cB] w (GivesOf w (zs.filter (keepB 4 v M)) (chg zs (zs.filter (keepB 4 v M)))) := by
  by_cases hp : 0 < n
  · obtain ⟨a, rfl, ha, hca⟩ := hA hp
    exact refkeep4 a B zs M n m cA cB v w hn hmm hp hbig hbm' ha hca hB
  · have : zs = [] := List.eq_nil_of_length_eq_zero (by omega)
    subst this
    have h0 : n = 0 := by omega
    rw [h0]
    exact refkeep_none A B 4 v cA m cB w

theorem keep4_is (v : Int) (M : List Int) : keepB 4 v M = fun u => decide (u ∈ M) := by funext u; unfold keepB; simp

theorem refkeep5_any (A B : Option Addr) (zs M : List Int) (n m cA cB : Nat) (v : Int) (w : World) (hn : n = zs.length) (hmm : m = M.length) (hbig : n ≤ 1000000) (hbm' : m ≤ 2000064) (hA : Lies w A n (i64f zs)) (hB : Lies w B m (i64f M)) :
    Calls Tryd.prog 43 #[.slice A n cA, .int .i64 5, .int .i64 v, .slice B m cB] w (GivesOf w (zs.filter (keepB 5 v M)) (chg zs (zs.filter (keepB 5 v M)))) := by
  by_cases hp : 0 < n
  · obtain ⟨a, rfl, ha, hca⟩ := hA hp
    exact refkeep5 a B zs M n m cA cB v w hn hmm hp hbig hbm' ha hca hB
  · have : zs = [] := List.eq_nil_of_length_eq_zero (by omega)
    subst this
    have h0 : n = 0 := by omega
    rw [h0]
    exact refkeep_none A B 5 v cA m cB w

theorem keep5_is (v : Int) (M : List Int) : keepB 5 v M = fun u => decide (u ∉ M) := by funext u; unfold keepB; simp

end Go.Proofs.YtegiaonlneamfaaDoor
