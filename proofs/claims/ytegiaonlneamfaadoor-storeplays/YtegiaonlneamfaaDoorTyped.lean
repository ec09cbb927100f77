/- Rows that the law and the reference keep, by their blocks' types: what stays of them. No walk. -/
import Derived.Test.YtegiaonlneamfaaDoorSml
import Derived.Test.YtegiaonlneamfaaDoorNew
namespace Go.Proofs.YtegiaonlneamfaaDoor
open Go.RowKit

theorem own_keep {base : Nat} {w w' : World} {e : TypeId} {size : Nat} {v : Value} {n : Nat} {xs : List Value} (h : w.ownsRow base e size v n xs) (hk : ∀ g cs, Blk w g cs e → w'.heap[g]? = w.heap[g]?) : w'.ownsRow base e size v n xs := by
  obtain ⟨h1, h2⟩ := h
  rcases h2 with ⟨rfl, rfl⟩ | ⟨g, cap, cur, rfl, hb, hg, hr⟩
  · exact ⟨h1, .inl ⟨rfl, rfl⟩⟩
  · exact ⟨h1, .inr ⟨g, cap, cur, rfl, hb, (hk g cur hg).trans hg, hr⟩⟩

theorem own_fr {base b : Nat} {w w' : World} {e : TypeId} {size : Nat} {v : Value} {n : Nat} {xs : List Value} (h : w.ownsRow base e size v n xs) (he : ¬ ofStore e) (hf : Fr b w w') : w'.ownsRow base e size v n xs :=
  own_keep h fun g cs hB => hf.far g cs e _ hB he

theorem own_grown {base : Nat} {w w' : World} {e t : TypeId} {size size2 n n2 : Nat} {v v2 : Value} {xs xs2 : List Value} (h : w.ownsRow base e size v n xs) (h2 : w.ownsRow base t size2 v2 n2 xs2) (hG : w.grownBy w' v2.ownBlock) (ht : e ≠ t) : w'.ownsRow base e size v n xs := by
  refine own_keep h fun g cs hB => hG.block g (Blk.lt hB) ?_
  rcases h2.2 with ⟨rfl, rfl⟩ | ⟨g', cap, cur, rfl, hb, hg, hr⟩
  · simp [Value.ownBlock]
  · intro e'
    simp only [Value.ownBlock, Option.some.injEq] at e'
    subst e'
    exact Blk.ne hB (show Blk w g cur t from hg) ht rfl

/-- A row of numbers. -/
def IntsT (w : World) (v : Value) (L : List Int) : Prop := w.ownsRow 0 3 1 v L.length (I L)
theorem IntsT.below {w w' : World} {v : Value} {L : List Int} (h : IntsT w v L) (hb : Below w.heap.size w w') : IntsT w' v L := own_below h hb
theorem IntsT.fr {b : Nat} {w w' : World} {v : Value} {L : List Int} (h : IntsT w v L) (hf : Fr b w w') : IntsT w' v L := own_fr h (by decide) hf
theorem IntsT.lies {w : World} {v : Value} {L : List Int} (h : IntsT w v L) : ∃ A c, v = .slice A L.length c ∧ Lies w A L.length (i64f L) ∧ L.length ≤ c := own_lies h

/-- A row of rows of numbers. -/
def RowsT (w : World) (v : Value) (LL : List (List Int)) : Prop := ∃ vs : List Value, w.ownsRow 0 34 1 v LL.length vs ∧ ∀ (k : Nat) (x : Value) (L : List Int), vs[k]? = some x → LL[k]? = some L → IntsT w x L
theorem RowsT.below {w w' : World} {v : Value} {LL : List (List Int)} (h : RowsT w v LL) (hb : Below w.heap.size w w') : RowsT w' v LL := by
  obtain ⟨vs, h1, h2⟩ := h
  exact ⟨vs, own_below h1 hb, fun k x L a b => (h2 k x L a b).below hb⟩
theorem RowsT.fr {b : Nat} {w w' : World} {v : Value} {LL : List (List Int)} (h : RowsT w v LL) (hf : Fr b w w') : RowsT w' v LL := by
  obtain ⟨vs, h1, h2⟩ := h
  exact ⟨vs, own_fr h1 (by decide) hf, fun k x L a b => (h2 k x L a b).fr hf⟩

/-- What stands in a row of rows. -/
theorem RowsT.get {w : World} {v : Value} {LL : List (List Int)} (h : RowsT w v LL) {k : Nat} {L : List Int} (hk : LL[k]? = some L) : ∃ g c A d, v = .slice (some ⟨g, 0, none⟩) LL.length c ∧ w.cell? ⟨g, k, none⟩ = some (.slice A L.length d) ∧ IntsT w (.slice A L.length d) L ∧ LL.length ≤ c := by
  obtain ⟨vs, h1, h2⟩ := h
  have hlt : k < LL.length := (List.getElem?_eq_some_iff.1 hk).1
  rcases h1.2 with ⟨rfl, h0⟩ | ⟨g, cap, cur, rfl, hb, hg, hn, hm, hs, ht⟩
  · omega
  · have hvl : vs.length = LL.length := by have := h1.1; omega
    have hx : vs[k]? = some vs[k] := List.getElem?_eq_getElem (by omega)
    have hI := h2 k _ L hx hk
    obtain ⟨A, d, e, -, -⟩ := hI.lies
    refine ⟨g, cap, A, d, rfl, ?_, e ▸ hI, hn⟩
    rw [← e, Blk.cell (show Blk w g cur 34 from hg), ← Array.getElem?_toList, ← hx, ← ht, List.getElem?_take_of_lt (by omega)]

theorem RowsT.shape {w : World} {v : Value} {LL : List (List Int)} (h : RowsT w v LL) : ∃ A c, v = .slice A LL.length c ∧ LL.length ≤ c := by
  obtain ⟨vs, h1, h2⟩ := h
  rcases h1.2 with ⟨rfl, h0⟩ | ⟨g, cap, cur, rfl, hb, hg, hn, hm, hs, ht⟩
  · exact ⟨none, 0, by rw [h0], by omega⟩
  · exact ⟨_, _, rfl, hn⟩

theorem RowsT.nil (w : World) : RowsT w (.slice none 0 0) [] := ⟨[], World.ownsRow_nil _ _ _ _, fun k x L h _ => by simp at h⟩

theorem RowsT.of_append {w : World} {v : Value} {LL : List (List Int)} {vs : List Value} {x : Value} {L : List Int} {base : Nat} (h : w.ownsRow base 34 1 v (LL.length + 1) (vs ++ [x])) (hl : vs.length = LL.length) (h2 : ∀ (k : Nat) (x : Value) (L : List Int), vs[k]? = some x → LL[k]? = some L → IntsT w x L) (hx : IntsT w x L) : RowsT w v (LL ++ [L]) := by
  refine ⟨vs ++ [x], by rw [List.length_append]; exact own_base h (Nat.zero_le _), fun k y M hy hM => ?_⟩
  by_cases hk : k < LL.length
  · rw [List.getElem?_append_left (by omega)] at hy hM
    exact h2 k y M hy hM
  · have e : k = LL.length := by
      have := (List.getElem?_eq_some_iff.1 hM).1
      simp at this
      omega
    subst e
    rw [List.getElem?_append_right (by omega), hl] at hy
    rw [List.getElem?_append_right (by omega)] at hM
    simp at hy hM
    subst hy hM
    exact hx

/-- A row of domains of one's own. -/
def dcells (v : Vr) : List Value := [.int .i64 v.s, .slice v.A v.n v.c, .int .i64 (v.L.length : Nat)]
theorem d_len (v : Vr) : (dcells v).length = 3 := rfl
structure OwnDoms (base : Nat) (w : World) (v : Value) (ds : List Vr) : Prop where
  row : w.ownsRow base 48 3 v ds.length (ds.flatMap dcells)
  doms : ∀ d ∈ ds, IsDom w d.dom d.L
theorem OwnDoms.below {base : Nat} {w w' : World} {v : Value} {ds : List Vr} (h : OwnDoms base w v ds) (hb : Below w.heap.size w w') : OwnDoms base w' v ds := ⟨own_below h.row hb, fun d hd => (h.doms d hd).below hb⟩
theorem OwnDoms.fr {base b : Nat} {w w' : World} {v : Value} {ds : List Vr} (h : OwnDoms base w v ds) (hf : Fr b w w') : OwnDoms base w' v ds := ⟨own_fr h.row (by decide) hf, fun d hd => (h.doms d hd).fr hf⟩
theorem OwnDoms.at {base : Nat} {w : World} {v : Value} {ds : List Vr} (h : OwnDoms base w v ds) : ∃ A c, v = .slice A ds.length c ∧ DomsAt w A ds := by
  rcases h.row.2 with ⟨rfl, h0⟩ | ⟨g, cap, cur, rfl, hb, hg, hn, hm, hs, ht⟩
  · exact ⟨none, 0, by rw [h0], fun hp => by omega, h.doms⟩
  · refine ⟨_, cap, rfl, fun _ => ⟨g, rfl, lt_of_heap hg, fun k u hu => ?_⟩, h.doms⟩
    have hB : Blk w g cur 48 := hg
    exact ⟨row_cell d_len hB ht hu 0 (by omega), row_cell d_len hB ht hu 1 (by omega), row_cell d_len hB ht hu 2 (by omega)⟩

theorem ofL_self (L : List Int) (hr : L.Pairwise (· < ·)) (hb : ∀ u ∈ L, -20 ≤ u ∧ u ≤ 20) : ofL L = L := by
  unfold ofL
  have hset : setOf L = L := eq_of_rising _ _ (rising_setOf L) hr (fun v => mem_setOf L v)
  by_cases h0 : L.length = 0
  · have : L = [] := List.eq_nil_of_length_eq_zero h0
    subst this
    decide
  · obtain ⟨lo, hlo⟩ := min_exists L (by omega)
    obtain ⟨hi, hhi⟩ := max_exists L (by omega)
    have e := ofErr_by L lo hi h0 hlo.mem hhi.mem
    have b1 := hb lo hlo.mem.1
    have b2 := hb hi hhi.mem.1
    rw [if_pos ⟨(mayB_iff lo).2 (by omega), (mayB_iff hi).2 (by omega)⟩, if_neg (by omega)] at e
    rw [if_pos e, hset]

theorem small_rising (zs : List Int) : (smallL zs).Pairwise (· < ·) := by
  unfold smallL ofL
  split
  · exact rising_setOf _
  · exact List.Pairwise.nil

theorem small_bound (zs : List Int) : ∀ u ∈ smallL zs, -20 ≤ u ∧ u ≤ 20 := by
  intro u hu
  unfold smallL ofL at hu
  split at hu
  · rw [mem_setOf] at hu
    unfold modTo at hu
    rw [List.mem_map] at hu
    obtain ⟨z, -, rfl⟩ := hu
    have : (z.tmod 12).natAbs = z.natAbs % 12 := Int.natAbs_tmod z 12
    omega
  · cases hu

theorem small_self (zs : List Int) : ofL (smallL zs) = smallL zs := ofL_self _ (small_rising zs) (small_bound zs)

theorem small_len (zs : List Int) : (smallL zs).length ≤ 8 := by
  unfold smallL ofL
  split
  · exact Nat.le_trans (setOf_len _) (modTo_len zs 8)
  · exact Nat.zero_le _
end Go.Proofs.YtegiaonlneamfaaDoor
