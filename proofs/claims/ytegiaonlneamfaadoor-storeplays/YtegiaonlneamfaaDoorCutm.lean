/- Facts on what less reckons: the words that are left, their first and last one; contract of became over domains. -/
import Derived.Test.YtegiaonlneamfaaDoorBecame
import Derived.Shelf.Abstract
namespace Go.Proofs.YtegiaonlneamfaaDoor
open Go.RowKit

/-- A closure (function k, with one captured pointer) that tells what is left of a word at a place. -/
def Cuts (k : FuncId) (ptr : Value) (w : World) (f : Int → Nat → Nat) : Prop :=
  ∀ W p x, Below w.heap.size w W → x < 18446744073709551616 → -100000 ≤ p → p ≤ 100000 →
    Calls Tryd.prog k #[.int .i64 p, .int .u64 (x : Nat), ptr] W fun e w' => e = .returned (.int .u64 (f p x : Nat)) ∧ Below W.heap.size W w'

theorem Cuts.on {k : FuncId} {ptr : Value} {w : World} {f : Int → Nat → Nat} (h : Cuts k ptr w f) (W : World) (p : Int) (x : Nat) (hb : Below w.heap.size w W) (hx : x < 18446744073709551616) (h1 : -100000 ≤ p) (h2 : p ≤ 100000) :
    Calls Tryd.prog k #[.int .i64 p, .int .u64 (x : Nat), ptr] W fun e w' => e = .returned (.int .u64 (f p x : Nat)) ∧ Below W.heap.size W w' := h W p x hb hx h1 h2

/-- What is left of the words, as a row. -/
structure Left (s : Int) (ws ys : List Nat) (f : Int → Nat → Nat) : Prop where
  len : ys.length = ws.length
  is : ∀ i, i < ws.length → f (s + i) (ws.getD i 0) = ys.getD i 0
  lt : ∀ i, ys.getD i 0 < 18446744073709551616

/-- The first loop's state. -/
structure Scan (s : Int) (ys : List Nat) (k sz fi la : Nat) : Prop where
  sum : sz = (listOf s (ys.take k)).length
  zero : sz = 0 → (∀ i, i < k → ys.getD i 0 = 0) ∧ fi = 0 ∧ la = 0
  rest : sz ≠ 0 → fi ≤ la ∧ la < k ∧ ys.getD fi 0 ≠ 0 ∧ ys.getD la 0 ≠ 0 ∧ (∀ i, i < fi → ys.getD i 0 = 0) ∧ (∀ i, la < i → i < k → ys.getD i 0 = 0)

theorem len_take_succ (s : Int) (ys : List Nat) (k : Nat) (hk : k < ys.length) : (listOf s (ys.take (k + 1))).length = (listOf s (ys.take k)).length + ones (ys.getD k 0) := by
  rw [take_listOf s ys k hk, List.length_append, List.length_map, len_bitsUp]

theorem Scan.start (s : Int) (ys : List Nat) : Scan s ys 0 0 0 0 := ⟨by simp [listOf], fun _ => ⟨fun i hi => absurd hi (by omega), rfl, rfl⟩, fun h => absurd rfl h⟩

theorem Scan.skip {s : Int} {ys : List Nat} {k sz fi la : Nat} (h : Scan s ys k sz fi la) (hk : k < ys.length) (h0 : ys.getD k 0 = 0) : Scan s ys (k + 1) sz fi la := by
  refine ⟨?_, fun e => ?_, fun e => ?_⟩
  · rw [len_take_succ s ys k hk, h0, ones_zero]; exact h.sum
  · obtain ⟨a, b, c⟩ := h.zero e
    refine ⟨fun i hi => ?_, b, c⟩
    by_cases hik : i = k
    · rw [hik, h0]
    · exact a i (by omega)
  · obtain ⟨a, b, c, d, f, g⟩ := h.rest e
    refine ⟨a, by omega, c, d, f, fun i h1 h2 => ?_⟩
    by_cases hik : i = k
    · rw [hik, h0]
    · exact g i h1 (by omega)

theorem Scan.one {s : Int} {ys : List Nat} {k sz fi la : Nat} (h : Scan s ys k sz fi la) (hs : sz = 0) (hk : k < ys.length) (h0 : ys.getD k 0 ≠ 0) (hlt : ys.getD k 0 < 18446744073709551616) : Scan s ys (k + 1) (sz + ones (ys.getD k 0)) k k := by
  have hp := ones_pos _ h0 hlt
  obtain ⟨a, b, c⟩ := h.zero hs
  refine ⟨?_, fun e => by omega, fun _ => ⟨Nat.le_refl _, by omega, h0, h0, a, fun i h1 h2 => by omega⟩⟩
  rw [len_take_succ s ys k hk, ← h.sum]

theorem Scan.next {s : Int} {ys : List Nat} {k sz fi la : Nat} (h : Scan s ys k sz fi la) (hs : sz ≠ 0) (hk : k < ys.length) (h0 : ys.getD k 0 ≠ 0) : Scan s ys (k + 1) (sz + ones (ys.getD k 0)) fi k := by
  obtain ⟨a, b, c, d, f, g⟩ := h.rest hs
  refine ⟨?_, fun e => by omega, fun _ => ⟨by omega, by omega, c, h0, f, fun i h1 h2 => by omega⟩⟩
  rw [len_take_succ s ys k hk, ← h.sum]

theorem Scan.small {s : Int} {ys : List Nat} {k sz fi la : Nat} (h : Scan s ys k sz fi la) : sz ≤ 64 * ys.length := by
  rw [h.sum]; exact len_take_listOf s ys k

/-- The world in which less begins its work: its domain and its result are boxed. -/
def boxed2 (w : World) (s z : Int) (A : Option Addr) (n c : Nat) : World :=
  (w.alloc (.cells #[.int .i64 s, .slice A n c, .int .i64 z] 48)).alloc (.cells #[.int .i64 0, .slice none 0 0, .int .i64 0] 48)

section
variable {w W W' : World} {s z : Int} {A : Option Addr} {n c : Nat}
theorem boxed2_size : (boxed2 w s z A n c).heap.size = w.heap.size + 2 := by simp [boxed2]
theorem boxed2_below : Below w.heap.size w (boxed2 w s z A n c) := below2 _ _ _
theorem boxed2_of (h : Below (w.heap.size + 2) (boxed2 w s z A n c) W) : Below w.heap.size w W := boxed2_below.trans (h.mono (by omega))
theorem boxed2_le (h : Below (w.heap.size + 2) (boxed2 w s z A n c) W) : w.heap.size + 2 ≤ W.heap.size := by have := h.size; rw [boxed2_size] at this; exact this
theorem boxed2_more (h : Below (w.heap.size + 2) (boxed2 w s z A n c) W) (hb : Below W.heap.size W W') : Below (w.heap.size + 2) (boxed2 w s z A n c) W' :=
  h.trans (hb.mono (boxed2_le h))
theorem boxed2_cells (h : Below (w.heap.size + 2) (boxed2 w s z A n c) W) :
    W.cell? ⟨w.heap.size, 0, none⟩ = some (.int .i64 s) ∧ W.cell? ⟨w.heap.size, 1, none⟩ = some (.slice A n c) ∧ W.cell? ⟨w.heap.size, 2, none⟩ = some (.int .i64 z) :=
  ⟨by rw [h.cell (by simp)]; simp [boxed2], by rw [h.cell (by simp)]; simp [boxed2], by rw [h.cell (by simp)]; simp [boxed2]⟩
theorem boxed2_out (h : Below (w.heap.size + 2) (boxed2 w s z A n c) W) :
    W.cell? ⟨w.heap.size + 1, 0, none⟩ = some (.int .i64 0) ∧ W.cell? ⟨w.heap.size + 1, 1, none⟩ = some (.slice none 0 0) ∧ W.cell? ⟨w.heap.size + 1, 2, none⟩ = some (.int .i64 0) ∧
      W.frozen? ⟨w.heap.size + 1, 0, none⟩ = false ∧ W.frozen? ⟨w.heap.size + 1, 1, none⟩ = false ∧ W.frozen? ⟨w.heap.size + 1, 2, none⟩ = false :=
  ⟨by rw [h.cell (by simp)]; simp [boxed2], by rw [h.cell (by simp)]; simp [boxed2], by rw [h.cell (by simp)]; simp [boxed2],
   by rw [h.frozen (by simp)]; simp [boxed2], by rw [h.frozen (by simp)]; simp [boxed2], by rw [h.frozen (by simp)]; simp [boxed2]⟩
end

/-- What became of L, when R, which is less and not empty, is left. -/
def bec (L R : List Int) : Int := if R.length = 1 then 3 else if R.head?.getD 0 = L.head?.getD 0 ∧ R.getLast?.getD 0 = L.getLast?.getD 0 then 1 else 2

/-- What became of L, when R is left. -/
def chg (L R : List Int) : Int := if R.length = L.length then 0 else if R.length = 0 then 4 else bec L R

theorem became_dom (d e : Value) (L R : List Int) (w : World) (hd : IsDom w d L) (he : IsDom w e R) (hT : Tab w) :
    Calls Tryd.prog 55 #[d, e] w fun e w' => e = .returned (.int .i64 (bec L R)) ∧ Below w.heap.size w w' := by
  have m1 := hd.answers_min hT
  have m2 := he.answers_min hT
  have x1 := hd.answers_max
  have x2 := he.answers_max
  obtain ⟨s1, A1, ws1, c1, rfl, -, -, -⟩ := hd
  obtain ⟨s2, A2, ws2, c2, rfl, -, -, -⟩ := he
  unfold bec
  by_cases h1 : R.length = 1
  · rw [if_pos h1, h1]
    exact became_fixed s1 s2 _ A1 A2 ws1.length c1 ws2.length c2 w
  · rw [if_neg h1]
    have hz : (((R.length : Nat) : Int) == 1) = false := by simp; omega
    by_cases hm : R.head?.getD 0 = L.head?.getD 0
    · rw [hm] at m2
      by_cases hx : R.getLast?.getD 0 = L.getLast?.getD 0
      · rw [if_pos ⟨hm, hx⟩]
        exact became_mid s1 s2 _ _ _ _ _ A1 A2 ws1.length c1 ws2.length c2 w hz (by simpa using hx) m1 m2 x1 x2
      · rw [if_neg (fun h => hx h.2)]
        exact became_max s1 s2 _ _ _ _ _ A1 A2 ws1.length c1 ws2.length c2 w hz (by simpa using hx) m1 m2 x1 x2
    · rw [if_neg (fun h => hm h.1)]
      exact became_min s1 s2 _ _ _ _ A1 A2 ws1.length c1 ws2.length c2 w hz (by simpa using hm) m1 m2

/-- A domain is returned, and what became of it; nothing old has turned. -/
def GivesDom (w : World) (R : List Int) (ch : Int) (e : Ending) (w' : World) : Prop :=
  ∃ d, e = .returned (.tuple #[d, .int .i64 ch]) ∧ IsDom w' d R ∧ Below w.heap.size w w'

/-- Words as cells. -/
def U (ys : List Nat) : List Value := ys.map fun y : Nat => Value.int .u64 (y : Int)

theorem own_below {w w' : World} {base : Nat} {e : TypeId} {size n : Nat} {v : Value} {xs : List Value} (h : w.ownsRow base e size v n xs) (hb : Below w.heap.size w w') : w'.ownsRow base e size v n xs :=
  h.kept (row := none) ⟨hb.os, hb.tape, hb.output, hb.size, fun k hk _ => hb.block k hk⟩ (by cases v.ownBlock <;> simp)

/-- The words that the second loop fills in, k of m. -/
def fillTo (zs : List Nat) (m k : Nat) : List Nat := zs.take k ++ List.replicate (m - k) 0

theorem fillTo_len (zs : List Nat) (m k : Nat) (h : zs.length = m) (hk : k ≤ m) : (fillTo zs m k).length = m := by
  simp [fillTo]; omega

theorem fillTo_set (zs : List Nat) (m k : Nat) (h : zs.length = m) (hk : k < m) : (U (fillTo zs m k)).set k (.int .u64 ((zs.getD k 0 : Nat) : Int)) = U (fillTo zs m (k + 1)) := by
  unfold U fillTo
  rw [← List.map_set]
  congr 1
  rw [show m - k = (m - (k + 1)) + 1 by omega, List.replicate_succ, List.set_append]
  simp [List.length_take, h, List.getD_eq_getElem?_getD, List.getElem?_eq_getElem (show k < zs.length by omega), Nat.min_eq_left (Nat.le_of_lt hk)]
  rw [List.take_succ_eq_append_getElem (show k < zs.length by omega), List.append_assoc]
  rfl

/-- What is cut out between the first and the last word that is left is a domain's form. -/
theorem cut_form (s : Int) (ws ys : List Nat) (f : Int → Nat → Nat) (fi la : Nat) (hF : Form s ws) (hL : Left s ws ys f) (hS : Scan s ys ys.length (listOf s ys).length fi la) (h0 : (listOf s ys).length ≠ 0) :
    ∃ zs : List Nat, zs.length = la - fi + 1 ∧ (∀ i, i < la - fi + 1 → zs.getD i 0 = ys.getD (fi + i) 0) ∧ Form (s + fi) zs ∧ listOf (s + fi) zs = listOf s ys ∧ fi ≤ la ∧ la < ys.length := by
  obtain ⟨a, b, c, d, e, g⟩ := hS.rest h0
  refine ⟨(ys.drop fi).take (la - fi + 1), by simp; omega, ?_, ?_, ?_, a, b⟩
  · intro i hi
    simp only [List.getD_eq_getElem?_getD, List.getElem?_take, List.getElem?_drop]
    rw [if_pos hi]
  · have hlen : ((ys.drop fi).take (la - fi + 1)).length = la - fi + 1 := by simp; omega
    have hget : ∀ i, ((ys.drop fi).take (la - fi + 1)).getD i 0 = if i < la - fi + 1 then ys.getD (fi + i) 0 else 0 := by
      intro i
      simp only [List.getD_eq_getElem?_getD, List.getElem?_take, List.getElem?_drop]
      split <;> simp
    refine ⟨fun j => ?_, fun _ => ?_, fun _ => ?_, fun h => by omega, by have := hF.lo; omega, ?_⟩
    · rw [hget]; split
      · exact hL.lt _
      · decide
    · rw [hget, if_pos (by omega)]; exact c
    · rw [hget, hlen, if_pos (by omega), show fi + (la - fi + 1 - 1) = la by omega]; exact d
    · rw [hlen]; have := hF.hi; have := hL.len; omega
  · have zero_list : ∀ (l : List Nat) (t : Int), (∀ i, i < l.length → l.getD i 0 = 0) → listOf t l = [] := by
      intro l
      induction l with
      | nil => intro t _; rfl
      | cons x r ih =>
        intro t h
        have hx : x = 0 := by simpa using h 0 (by simp)
        subst hx
        rw [listOf_zero]
        exact ih (t + 1) fun i hi => by have := h (i + 1) (by simpa using hi); rwa [List.getD_cons_succ] at this
    have e1 : ys = ys.take fi ++ ((ys.drop fi).take (la - fi + 1) ++ (ys.drop fi).drop (la - fi + 1)) := by
      rw [List.take_append_drop, List.take_append_drop]
    have l1 : (ys.take fi).length = fi := by simp; omega
    have z1 : listOf s (ys.take fi) = [] := zero_list _ _ (fun i hi => by
      rw [l1] at hi
      simp only [List.getD_eq_getElem?_getD, List.getElem?_take]
      rw [if_pos hi]
      have := e i hi
      rwa [List.getD_eq_getElem?_getD] at this)
    have z2 : ∀ t, listOf t ((ys.drop fi).drop (la - fi + 1)) = [] := fun t => zero_list _ _ (fun i hi => by
      simp only [List.length_drop] at hi
      simp only [List.getD_eq_getElem?_getD, List.getElem?_drop]
      have := g (fi + (la - fi + 1 + i)) (by omega) (by omega)
      rwa [List.getD_eq_getElem?_getD] at this)
    conv => rhs; rw [e1, listOf_append, listOf_append, z1, z2, l1]
    simp

theorem fillTo_zero (zs : List Nat) (m : Nat) : (madeCells (Value.int .u64 0).cells (m * 1)).toList = U (fillTo zs m 0) := by
  rw [Nat.mul_one]
  show (madeCells #[Value.int .u64 0] m).toList = _
  rw [toList_madeCells_one]
  simp [U, fillTo]

theorem fillTo_all (zs : List Nat) (m : Nat) (h : zs.length = m) : fillTo zs m m = zs := by
  simp [fillTo, ← h]

theorem own_cell {w : World} {base g m k : Nat} {zs : List Nat} (h : w.ownsRow base 85 1 (.slice (some ⟨g, 0, none⟩) m m) m (U zs)) (hz : zs.length = m) (hk : k < m) : ∃ u, w.cell? ⟨g, k, none⟩ = some u := by
  refine ⟨_, (h.cellAt k (by omega)).trans (List.getElem?_eq_getElem (by simp [U]; omega))⟩

/-- A result of three cells, stored whole. -/
theorem out_cells (w : World) (g : Nat) (u0 u1 u2 v0 v1 v2 : Value) (h0 : w.cell? ⟨g, 0, none⟩ = some u0) (h1 : w.cell? ⟨g, 1, none⟩ = some u1) (h2 : w.cell? ⟨g, 2, none⟩ = some u2) :
    (((w.setCell ⟨g, 0, none⟩ v0).setCell ⟨g, 1, none⟩ v1).setCell ⟨g, 2, none⟩ v2).cell? ⟨g, 0, none⟩ = some v0 ∧
    (((w.setCell ⟨g, 0, none⟩ v0).setCell ⟨g, 1, none⟩ v1).setCell ⟨g, 2, none⟩ v2).cell? ⟨g, 1, none⟩ = some v1 ∧
    (((w.setCell ⟨g, 0, none⟩ v0).setCell ⟨g, 1, none⟩ v1).setCell ⟨g, 2, none⟩ v2).cell? ⟨g, 2, none⟩ = some v2 := by
  refine ⟨?_, ?_, ?_⟩
  · rw [World.cell?_setCell_other _ _ _ _ (by simp), World.cell?_setCell_other _ _ _ _ (by simp)]
    exact World.cell?_setCell_same _ _ _ h0
  · rw [World.cell?_setCell_other _ _ _ _ (by simp)]
    refine World.cell?_setCell_same (u := u1) _ _ _ ?_
    rw [World.cell?_setCell_other _ _ _ _ (by simp)]
    exact h1
  · refine World.cell?_setCell_same (u := u2) _ _ _ ?_
    rw [World.cell?_setCell_other _ _ _ _ (by simp), World.cell?_setCell_other _ _ _ _ (by simp)]
    exact h2

theorem out_below {B : Nat} {a w : World} (h : Below B a w) (g : Nat) (hg : B ≤ g) (v0 v1 v2 : Value) :
    Below B a (((w.setCell ⟨g, 0, none⟩ v0).setCell ⟨g, 1, none⟩ v1).setCell ⟨g, 2, none⟩ v2) :=
  ((h.setCell (p := ⟨g, 0, none⟩) hg v0).setCell (p := ⟨g, 1, none⟩) hg v1).setCell (p := ⟨g, 2, none⟩) hg v2

/-- Behind the last call of less: its boxes still lie. -/
theorem last_box {w wr W : World} {s z : Int} {A : Option Addr} {n c : Nat} {x0 x1 x2 : Value} (hb : Below (w.heap.size + 2) (boxed2 w s z A n c) wr) (h : Below (wr.heap.size + 1) (wr.alloc (.cells #[x0, x1, x2] 48)) W) :
    (Below wr.heap.size wr W ∧ W.cell? ⟨wr.heap.size, 0, none⟩ = some x0 ∧ W.cell? ⟨wr.heap.size, 1, none⟩ = some x1 ∧ W.cell? ⟨wr.heap.size, 2, none⟩ = some x2 ∧
      W.cell? ⟨w.heap.size, 0, none⟩ = some (.int .i64 s) ∧ W.cell? ⟨w.heap.size, 1, none⟩ = some (.slice A n c) ∧ W.cell? ⟨w.heap.size, 2, none⟩ = some (.int .i64 z) ∧
      W.cell? ⟨w.heap.size + 1, 0, none⟩ = some (.int .i64 0) ∧ W.cell? ⟨w.heap.size + 1, 1, none⟩ = some (.slice none 0 0) ∧ W.cell? ⟨w.heap.size + 1, 2, none⟩ = some (.int .i64 0) ∧
      W.frozen? ⟨w.heap.size + 1, 0, none⟩ = false ∧ W.frozen? ⟨w.heap.size + 1, 1, none⟩ = false ∧ W.frozen? ⟨w.heap.size + 1, 2, none⟩ = false) := by
  have hb' := of_boxed h
  have h2 := boxed2_more hb hb'
  obtain ⟨q0, q1, q2⟩ := boxed h
  obtain ⟨c0, c1, c2⟩ := boxed2_cells h2
  obtain ⟨o0, o1, o2, f0, f1, f2⟩ := boxed2_out h2
  exact ⟨hb', q0, q1, q2, c0, c1, c2, o0, o1, o2, f0, f1, f2⟩

theorem stored_far {W : World} {g a i : Nat} {v0 v1 v2 : Value} (h : g ≠ a) : (((W.setCell ⟨g, 0, none⟩ v0).setCell ⟨g, 1, none⟩ v1).setCell ⟨g, 2, none⟩ v2).cell? ⟨a, i, none⟩ = W.cell? ⟨a, i, none⟩ := by
  rw [World.cell?_setCell_other _ _ _ _ (fun e => h (congrArg Addr.block e)), World.cell?_setCell_other _ _ _ _ (fun e => h (congrArg Addr.block e)), World.cell?_setCell_other _ _ _ _ (fun e => h (congrArg Addr.block e))]

/-- Six cells of two other blocks stay, when a third one is written. -/
theorem six_stored {W : World} {g a b : Nat} {x0 x1 x2 y0 y1 y2 v0 v1 v2 : Value} (ha : g ≠ a) (hb : g ≠ b)
    (h : W.cell? ⟨a, 0, none⟩ = some x0 ∧ W.cell? ⟨a, 1, none⟩ = some x1 ∧ W.cell? ⟨a, 2, none⟩ = some x2 ∧ W.cell? ⟨b, 0, none⟩ = some y0 ∧ W.cell? ⟨b, 1, none⟩ = some y1 ∧ W.cell? ⟨b, 2, none⟩ = some y2) :
    (((W.setCell ⟨g, 0, none⟩ v0).setCell ⟨g, 1, none⟩ v1).setCell ⟨g, 2, none⟩ v2).cell? ⟨a, 0, none⟩ = some x0 ∧ (((W.setCell ⟨g, 0, none⟩ v0).setCell ⟨g, 1, none⟩ v1).setCell ⟨g, 2, none⟩ v2).cell? ⟨a, 1, none⟩ = some x1 ∧
    (((W.setCell ⟨g, 0, none⟩ v0).setCell ⟨g, 1, none⟩ v1).setCell ⟨g, 2, none⟩ v2).cell? ⟨a, 2, none⟩ = some x2 ∧ (((W.setCell ⟨g, 0, none⟩ v0).setCell ⟨g, 1, none⟩ v1).setCell ⟨g, 2, none⟩ v2).cell? ⟨b, 0, none⟩ = some y0 ∧
    (((W.setCell ⟨g, 0, none⟩ v0).setCell ⟨g, 1, none⟩ v1).setCell ⟨g, 2, none⟩ v2).cell? ⟨b, 1, none⟩ = some y1 ∧ (((W.setCell ⟨g, 0, none⟩ v0).setCell ⟨g, 1, none⟩ v1).setCell ⟨g, 2, none⟩ v2).cell? ⟨b, 2, none⟩ = some y2 := by
  obtain ⟨h0, h1, h2, h3, h4, h5⟩ := h
  exact ⟨(stored_far ha).trans h0, (stored_far ha).trans h1, (stored_far ha).trans h2, (stored_far hb).trans h3, (stored_far hb).trans h4, (stored_far hb).trans h5⟩

/-- The domain of no numbers. -/
theorem none_dom (w : World) : IsDom w (.agg #[.int .i64 0, .slice none 0 0, .int .i64 0]) [] :=
  ⟨0, none, [], 0, rfl, Lies.none _ _ _, ⟨fun j => by simp, fun h => absurd h (by simp), fun h => absurd h (by simp), fun _ => rfl, by omega, by simp⟩, rfl⟩

/-- A domain whose words the call owns. -/
theorem own_dom {w : World} {base g m : Nat} {s : Int} {zs : List Nat} {L : List Int} (h : w.ownsRow base 85 1 (.slice (some ⟨g, 0, none⟩) m m) m (U zs)) (hz : zs.length = m) (hF : Form s zs) (hL : listOf s zs = L) :
    IsDom w (.agg #[.int .i64 s, .slice (some ⟨g, 0, none⟩) m m, .int .i64 (L.length : Nat)]) L := by
  refine ⟨s, some ⟨g, 0, none⟩, zs, m, by rw [hz], fun hp => ⟨⟨g, 0, none⟩, rfl, ?_, fun j hj => ?_⟩, hF, hL⟩
  · exact (h.lt g rfl).2
  · refine h.cells (g := g) rfl j _ ?_
    simp only [U, List.getElem?_map]
    rw [List.getElem?_eq_getElem hj]
    simp [u64f, List.getD_eq_getElem?_getD, List.getElem?_eq_getElem hj]
end Go.Proofs.YtegiaonlneamfaaDoor
