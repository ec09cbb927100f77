/- Contract of less: what is left of a domain, and what became of it. -/
import Derived.Test.YtkhmocbfkpbpfaaGreatDoorDGet
import Derived.Shelf.Abstract
namespace Go.Proofs.YtkhmocbfkpbpfaaGreatDoor.D
open Go.RowKit

theorem ctz_bits (x : Nat) (h : x ≠ 0) (hx : x < 18446744073709551616) : x.testBit (Lib.ctz 64 x) = true ∧ Lib.ctz 64 x < 64 ∧ ∀ j, j < 64 → x.testBit j = true → Lib.ctz 64 x ≤ j := by
  obtain ⟨y, _, _, e⟩ := and_pred x h hx
  have hs := sorted_bitsUp x
  have h1 := (mem_bitsUp x (Lib.ctz 64 x)).1 (by rw [e]; simp)
  refine ⟨h1.2, h1.1, fun j hj hb => ?_⟩
  have h2 := (mem_bitsUp x j).2 ⟨hj, hb⟩
  rw [e] at h2 hs
  rcases List.mem_cons.1 h2 with e2 | e2
  · omega
  · have := (List.pairwise_cons.1 hs).1 j e2; omega

theorem word_bit {s : Int} {ws : List Nat} (p : Int) (j : Nat) (hj : j < 64) : (wordAt s ws p).testBit j = true ↔ p * 64 + (j : Int) ∈ listOf s ws := by
  rw [mem_listOf, hasB_word, show (p * 64 + (j : Int)) / 64 = p by omega, show ((p * 64 + (j : Int)) % 64).toNat = j by omega]

theorem in_places {s : Int} {ws : List Nat} (hF : Form s ws) (u : Int) (h : u ∈ listOf s ws) : -15625 ≤ u / 64 ∧ u / 64 ≤ 15625 := by
  rw [mem_listOf] at h
  unfold hasB at h
  simp only [Bool.and_eq_true, decide_eq_true_eq] at h
  have hl : (u / 64 - s).toNat < ws.length := by
    apply Nat.lt_of_not_le
    intro hle
    rw [getD_over _ _ hle] at h
    simp at h
  have := hF.lo
  have := hF.hi
  omega

theorem IsDom.answers_max {w : World} {d : Value} {L : List Int} (h : IsDom w d L) : Answers 98 #[d] w (.int .i64 (L.getLast?.getD 0)) := fun W hW => max_dom d L W (h.below hW)

theorem IsDom.answers_min {w : World} {d : Value} {L : List Int} (h : IsDom w d L) (hT : TabZ w) : Answers 176 #[d] w (.int .i64 (L.head?.getD 0)) := fun W hW => min_dom d L W (h.below hW) (hT.below hW)

theorem Boxes2.more {w W W' : World} {d e : Value × Value × Value} (h : Boxes2 w d e W) (hb : Below W.heap.size W W') : Boxes2 w d e W' := by
  obtain ⟨h0, hs, h1, h2, h3, h4, h5, h6⟩ := h
  refine ⟨h0.trans (hb.mono h0.size), Nat.le_trans hs hb.size, ?_, ?_, ?_, ?_, ?_, ?_⟩
  all_goals rw [hb.cell (by simp; omega)]
  all_goals assumption

theorem became_fixed (s1 s2 z1 : Int) (A1 A2 : Option Addr) (n1 c1 n2 c2 : Nat) (w : World) :
    Calls Tryz.prog 234 #[.agg #[.int .i64 s1, .slice A1 n1 c1, .int .i64 z1], .agg #[.int .i64 s2, .slice A2 n2 c2, .int .i64 1]] w fun e w' => e = .returned (.int .i64 3) ∧ Below w.heap.size w w' := by
  go_enter Tryz.func234, Tryz.ntmps234
  go_wp2
  go_ret
  exact ⟨rfl, below2 _ _ _⟩

set_option maxHeartbeats 1000000 in
theorem became_min (s1 s2 z1 z2 m1 m2 : Int) (A1 A2 : Option Addr) (n1 c1 n2 c2 : Nat) (w : World) (hz : (z2 == 1) = false) (hne : (m2 != m1) = true)
    (H1 : Answers 176 #[.agg #[.int .i64 s1, .slice A1 n1 c1, .int .i64 z1]] w (.int .i64 m1))
    (H2 : Answers 176 #[.agg #[.int .i64 s2, .slice A2 n2 c2, .int .i64 z2]] w (.int .i64 m2)) :
    Calls Tryz.prog 234 #[.agg #[.int .i64 s1, .slice A1 n1 c1, .int .i64 z1], .agg #[.int .i64 s2, .slice A2 n2 c2, .int .i64 z2]] w fun e w' => e = .returned (.int .i64 2) ∧ Below w.heap.size w w' := by
  go_enter Tryz.func234, Tryz.ntmps234
  go_wp2
  have hS := Boxes2.start w (.int .i64 s1) (.slice A1 n1 c1) (.int .i64 z1) (.int .i64 s2) (.slice A2 n2 c2) (.int .i64 z2) 53 53
  go_region_with (first
     | (go_at_call_of 176 (Value.agg #[.int .i64 s1, .slice A1 n1 c1, .int .i64 z1]); refine (H1.on _ hS.1).mono ?_; rintro e w1 ⟨rfl, hb1⟩; have hS := Boxes2.more hS hb1; clear hb1; obtain ⟨q0, q1, q2, q3, q4, q5, q6, q7⟩ := id hS)
     | (go_at_call_of 176 (Value.agg #[.int .i64 s2, .slice A2 n2 c2, .int .i64 z2]); refine (H2.on _ hS.1).mono ?_; rintro e w1 ⟨rfl, hb1⟩; have hS := Boxes2.more hS hb1; clear hb1; obtain ⟨q0, q1, q2, q3, q4, q5, q6, q7⟩ := id hS))
  all_goals (go_wp2; go_ret; exact ⟨rfl, hS.1⟩)

set_option maxHeartbeats 2000000 in
theorem became_max (s1 s2 z1 z2 m x1 x2 : Int) (A1 A2 : Option Addr) (n1 c1 n2 c2 : Nat) (w : World) (hz : (z2 == 1) = false) (hx : (x2 != x1) = true)
    (H1 : Answers 176 #[.agg #[.int .i64 s1, .slice A1 n1 c1, .int .i64 z1]] w (.int .i64 m))
    (H2 : Answers 176 #[.agg #[.int .i64 s2, .slice A2 n2 c2, .int .i64 z2]] w (.int .i64 m))
    (H3 : Answers 98 #[.agg #[.int .i64 s1, .slice A1 n1 c1, .int .i64 z1]] w (.int .i64 x1))
    (H4 : Answers 98 #[.agg #[.int .i64 s2, .slice A2 n2 c2, .int .i64 z2]] w (.int .i64 x2)) :
    Calls Tryz.prog 234 #[.agg #[.int .i64 s1, .slice A1 n1 c1, .int .i64 z1], .agg #[.int .i64 s2, .slice A2 n2 c2, .int .i64 z2]] w fun e w' => e = .returned (.int .i64 2) ∧ Below w.heap.size w w' := by
  have hmm : (m != m) = false := by simp
  go_enter Tryz.func234, Tryz.ntmps234
  go_wp2
  have hS := Boxes2.start w (.int .i64 s1) (.slice A1 n1 c1) (.int .i64 z1) (.int .i64 s2) (.slice A2 n2 c2) (.int .i64 z2) 53 53
  go_region_held3 (fun W => Below w.heap.size w W ∧ w.heap.size + 2 ≤ W.heap.size ∧ W.cell? ⟨w.heap.size, 0, none⟩ = some (.int .i64 s1) ∧ W.cell? ⟨w.heap.size, 1, none⟩ = some (.slice A1 n1 c1) ∧ W.cell? ⟨w.heap.size, 2, none⟩ = some (.int .i64 z1) ∧ W.cell? ⟨w.heap.size + 1, 0, none⟩ = some (.int .i64 s2) ∧ W.cell? ⟨w.heap.size + 1, 1, none⟩ = some (.slice A2 n2 c2) ∧ W.cell? ⟨w.heap.size + 1, 2, none⟩ = some (.int .i64 z2)) (first | exact Boxes2.start _ _ _ _ _ _ _ _ _ | assumption)
    (first
     | (go_at_call_of 176 (Value.agg #[.int .i64 s1, .slice A1 n1 c1, .int .i64 z1]); refine (H1.on _ hS.1).mono ?_; rintro e w1 ⟨rfl, hb1⟩; have hS := Boxes2.more hS hb1; clear hb1; obtain ⟨q0, q1, q2, q3, q4, q5, q6, q7⟩ := id hS)
     | (go_at_call_of 176 (Value.agg #[.int .i64 s2, .slice A2 n2 c2, .int .i64 z2]); refine (H2.on _ hS.1).mono ?_; rintro e w1 ⟨rfl, hb1⟩; have hS := Boxes2.more hS hb1; clear hb1; obtain ⟨q0, q1, q2, q3, q4, q5, q6, q7⟩ := id hS)
     | (go_at_call_of 98 (Value.agg #[.int .i64 s1, .slice A1 n1 c1, .int .i64 z1]); refine (H3.on _ hS.1).mono ?_; rintro e w1 ⟨rfl, hb1⟩; have hS := Boxes2.more hS hb1; clear hb1; obtain ⟨q0, q1, q2, q3, q4, q5, q6, q7⟩ := id hS)
     | (go_at_call_of 98 (Value.agg #[.int .i64 s2, .slice A2 n2 c2, .int .i64 z2]); refine (H4.on _ hS.1).mono ?_; rintro e w1 ⟨rfl, hb1⟩; have hS := Boxes2.more hS hb1; clear hb1; obtain ⟨q0, q1, q2, q3, q4, q5, q6, q7⟩ := id hS))
  all_goals (go_wp2; go_ret; exact ⟨rfl, hS.1⟩)

set_option maxHeartbeats 2000000 in
theorem became_mid (s1 s2 z1 z2 m x1 x2 : Int) (A1 A2 : Option Addr) (n1 c1 n2 c2 : Nat) (w : World) (hz : (z2 == 1) = false) (hx : (x2 != x1) = false)
    (H1 : Answers 176 #[.agg #[.int .i64 s1, .slice A1 n1 c1, .int .i64 z1]] w (.int .i64 m))
    (H2 : Answers 176 #[.agg #[.int .i64 s2, .slice A2 n2 c2, .int .i64 z2]] w (.int .i64 m))
    (H3 : Answers 98 #[.agg #[.int .i64 s1, .slice A1 n1 c1, .int .i64 z1]] w (.int .i64 x1))
    (H4 : Answers 98 #[.agg #[.int .i64 s2, .slice A2 n2 c2, .int .i64 z2]] w (.int .i64 x2)) :
    Calls Tryz.prog 234 #[.agg #[.int .i64 s1, .slice A1 n1 c1, .int .i64 z1], .agg #[.int .i64 s2, .slice A2 n2 c2, .int .i64 z2]] w fun e w' => e = .returned (.int .i64 1) ∧ Below w.heap.size w w' := by
  have hmm : (m != m) = false := by simp
  go_enter Tryz.func234, Tryz.ntmps234
  go_wp2
  have hS := Boxes2.start w (.int .i64 s1) (.slice A1 n1 c1) (.int .i64 z1) (.int .i64 s2) (.slice A2 n2 c2) (.int .i64 z2) 53 53
  go_region_held3 (fun W => Below w.heap.size w W ∧ w.heap.size + 2 ≤ W.heap.size ∧ W.cell? ⟨w.heap.size, 0, none⟩ = some (.int .i64 s1) ∧ W.cell? ⟨w.heap.size, 1, none⟩ = some (.slice A1 n1 c1) ∧ W.cell? ⟨w.heap.size, 2, none⟩ = some (.int .i64 z1) ∧ W.cell? ⟨w.heap.size + 1, 0, none⟩ = some (.int .i64 s2) ∧ W.cell? ⟨w.heap.size + 1, 1, none⟩ = some (.slice A2 n2 c2) ∧ W.cell? ⟨w.heap.size + 1, 2, none⟩ = some (.int .i64 z2)) (first | exact Boxes2.start _ _ _ _ _ _ _ _ _ | assumption)
    (first
     | (go_at_call_of 176 (Value.agg #[.int .i64 s1, .slice A1 n1 c1, .int .i64 z1]); refine (H1.on _ hS.1).mono ?_; rintro e w1 ⟨rfl, hb1⟩; have hS := Boxes2.more hS hb1; clear hb1; obtain ⟨q0, q1, q2, q3, q4, q5, q6, q7⟩ := id hS)
     | (go_at_call_of 176 (Value.agg #[.int .i64 s2, .slice A2 n2 c2, .int .i64 z2]); refine (H2.on _ hS.1).mono ?_; rintro e w1 ⟨rfl, hb1⟩; have hS := Boxes2.more hS hb1; clear hb1; obtain ⟨q0, q1, q2, q3, q4, q5, q6, q7⟩ := id hS)
     | (go_at_call_of 98 (Value.agg #[.int .i64 s1, .slice A1 n1 c1, .int .i64 z1]); refine (H3.on _ hS.1).mono ?_; rintro e w1 ⟨rfl, hb1⟩; have hS := Boxes2.more hS hb1; clear hb1; obtain ⟨q0, q1, q2, q3, q4, q5, q6, q7⟩ := id hS)
     | (go_at_call_of 98 (Value.agg #[.int .i64 s2, .slice A2 n2 c2, .int .i64 z2]); refine (H4.on _ hS.1).mono ?_; rintro e w1 ⟨rfl, hb1⟩; have hS := Boxes2.more hS hb1; clear hb1; obtain ⟨q0, q1, q2, q3, q4, q5, q6, q7⟩ := id hS))
  all_goals (go_wp2; go_ret; exact ⟨rfl, hS.1⟩)

/-- What is left of the words, as a row. -/
structure Left (s : Int) (ws ys : List Nat) (f : Int → Nat → Nat) : Prop where
  len : ys.length = ws.length
  is : ∀ i, i < ws.length → f (s + i) (ws.getD i 0) = ys.getD i 0
  lt : ∀ i, ys.getD i 0 < 18446744073709551616

theorem Scan.skip {s : Int} {ys : List Nat} {k sz fi la : Nat} (h : Scan s ys k sz fi la) (hk : k < ys.length) (h0 : ys.getD k 0 = 0) : Scan s ys (k + 1) sz fi la := by
  refine ⟨?_, fun e => ?_, fun e => ?_⟩
  · rw [len_take_succ s ys k hk, h0, ones_zero]; exact h.sum
  · obtain ⟨a, b, c⟩ := h.zero e
    refine ⟨fun i hi => ?_, b, c⟩
    by_cases hik : i = k
    · rw [hik, h0]
    · exact a i (by omega)
  · obtain ⟨a, b, c, d, f, g⟩ := h.rest e
    refine ⟨a, by omega, c, d, f, fun i h1 h2 => ?_⟩
    by_cases hik : i = k
    · rw [hik, h0]
    · exact g i h1 (by omega)

theorem Scan.next {s : Int} {ys : List Nat} {k sz fi la : Nat} (h : Scan s ys k sz fi la) (hs : sz ≠ 0) (hk : k < ys.length) (h0 : ys.getD k 0 ≠ 0) : Scan s ys (k + 1) (sz + ones (ys.getD k 0)) fi k := by
  obtain ⟨a, b, c, d, f, g⟩ := h.rest hs
  refine ⟨?_, fun e => by omega, fun _ => ⟨by omega, by omega, c, h0, f, fun i h1 h2 => by omega⟩⟩
  rw [len_take_succ s ys k hk, ← h.sum]

theorem Scan.small {s : Int} {ys : List Nat} {k sz fi la : Nat} (h : Scan s ys k sz fi la) : sz ≤ 64 * ys.length := by
  rw [h.sum]; exact len_take_listOf s ys k

/-- The world in which less begins its work: its domain and its result are boxed. -/
def boxed2 (w : World) (s z : Int) (A : Option Addr) (n c : Nat) : World :=
  (w.alloc (.cells #[.int .i64 s, .slice A n c, .int .i64 z] 53)).alloc (.cells #[.int .i64 0, .slice none 0 0, .int .i64 0] 53)

section

variable {w W W' : World} {s z : Int} {A : Option Addr} {n c : Nat}

theorem boxed2_size : (boxed2 w s z A n c).heap.size = w.heap.size + 2 := by simp [boxed2]

theorem boxed2_below : Below w.heap.size w (boxed2 w s z A n c) := below2 _ _ _

theorem boxed2_of (h : Below (w.heap.size + 2) (boxed2 w s z A n c) W) : Below w.heap.size w W := boxed2_below.trans (h.mono (by omega))

theorem boxed2_le (h : Below (w.heap.size + 2) (boxed2 w s z A n c) W) : w.heap.size + 2 ≤ W.heap.size := by have := h.size; rw [boxed2_size] at this; exact this

theorem boxed2_more (h : Below (w.heap.size + 2) (boxed2 w s z A n c) W) (hb : Below W.heap.size W W') : Below (w.heap.size + 2) (boxed2 w s z A n c) W' :=
  h.trans (hb.mono (boxed2_le h))

theorem boxed2_cells (h : Below (w.heap.size + 2) (boxed2 w s z A n c) W) :
    W.cell? ⟨w.heap.size, 0, none⟩ = some (.int .i64 s) ∧ W.cell? ⟨w.heap.size, 1, none⟩ = some (.slice A n c) ∧ W.cell? ⟨w.heap.size, 2, none⟩ = some (.int .i64 z) :=
  ⟨by rw [h.cell (by simp)]; simp [boxed2], by rw [h.cell (by simp)]; simp [boxed2], by rw [h.cell (by simp)]; simp [boxed2]⟩

theorem boxed2_out (h : Below (w.heap.size + 2) (boxed2 w s z A n c) W) :
    W.cell? ⟨w.heap.size + 1, 0, none⟩ = some (.int .i64 0) ∧ W.cell? ⟨w.heap.size + 1, 1, none⟩ = some (.slice none 0 0) ∧ W.cell? ⟨w.heap.size + 1, 2, none⟩ = some (.int .i64 0) ∧
      W.frozen? ⟨w.heap.size + 1, 0, none⟩ = false ∧ W.frozen? ⟨w.heap.size + 1, 1, none⟩ = false ∧ W.frozen? ⟨w.heap.size + 1, 2, none⟩ = false :=
  ⟨by rw [h.cell (by simp)]; simp [boxed2], by rw [h.cell (by simp)]; simp [boxed2], by rw [h.cell (by simp)]; simp [boxed2],
   by rw [h.frozen (by simp)]; simp [boxed2], by rw [h.frozen (by simp)]; simp [boxed2], by rw [h.frozen (by simp)]; simp [boxed2]⟩

end

/-- What became of L, when R, which is less and not empty, is left. -/
def bec (L R : List Int) : Int := if R.length = 1 then 3 else if R.head?.getD 0 = L.head?.getD 0 ∧ R.getLast?.getD 0 = L.getLast?.getD 0 then 1 else 2

/-- What became of L, when R is left. -/
def chg (L R : List Int) : Int := if R.length = L.length then 0 else if R.length = 0 then 4 else bec L R

theorem became_dom (d e : Value) (L R : List Int) (w : World) (hd : IsDom w d L) (he : IsDom w e R) (hT : TabZ w) :
    Calls Tryz.prog 234 #[d, e] w fun e w' => e = .returned (.int .i64 (bec L R)) ∧ Below w.heap.size w w' := by
  have m1 := IsDom.answers_min hd hT
  have m2 := IsDom.answers_min he hT
  have x1 := IsDom.answers_max hd
  have x2 := IsDom.answers_max he
  obtain ⟨s1, A1, ws1, c1, rfl, -, -, -⟩ := hd
  obtain ⟨s2, A2, ws2, c2, rfl, -, -, -⟩ := he
  unfold bec
  by_cases h1 : R.length = 1
  · rw [if_pos h1, h1]
    exact became_fixed s1 s2 _ A1 A2 ws1.length c1 ws2.length c2 w
  · rw [if_neg h1]
    have hz : (((R.length : Nat) : Int) == 1) = false := by simp; omega
    by_cases hm : R.head?.getD 0 = L.head?.getD 0
    · rw [hm] at m2
      by_cases hx : R.getLast?.getD 0 = L.getLast?.getD 0
      · rw [if_pos ⟨hm, hx⟩]
        exact became_mid s1 s2 _ _ _ _ _ A1 A2 ws1.length c1 ws2.length c2 w hz (by simpa using hx) m1 m2 x1 x2
      · rw [if_neg (fun h => hx h.2)]
        exact became_max s1 s2 _ _ _ _ _ A1 A2 ws1.length c1 ws2.length c2 w hz (by simpa using hx) m1 m2 x1 x2
    · rw [if_neg (fun h => hm h.1)]
      exact became_min s1 s2 _ _ _ _ A1 A2 ws1.length c1 ws2.length c2 w hz (by simpa using hm) m1 m2

theorem own_below {w w' : World} {base : Nat} {e : TypeId} {size n : Nat} {v : Value} {xs : List Value} (h : w.ownsRow base e size v n xs) (hb : Below w.heap.size w w') : w'.ownsRow base e size v n xs :=
  h.kept (row := none) ⟨hb.os, hb.tape, hb.output, hb.size, fun k hk _ => hb.block k hk⟩ (by cases v.ownBlock <;> simp)

/-- The words that the second loop fills in, k of m. -/
def fillTo (zs : List Nat) (m k : Nat) : List Nat := zs.take k ++ List.replicate (m - k) 0

theorem fillTo_len (zs : List Nat) (m k : Nat) (h : zs.length = m) (hk : k ≤ m) : (fillTo zs m k).length = m := by
  simp [fillTo]; omega

theorem fillTo_set (zs : List Nat) (m k : Nat) (h : zs.length = m) (hk : k < m) : (U (fillTo zs m k)).set k (.int .u64 ((zs.getD k 0 : Nat) : Int)) = U (fillTo zs m (k + 1)) := by
  unfold U fillTo
  rw [← List.map_set]
  congr 1
  rw [show m - k = (m - (k + 1)) + 1 by omega, List.replicate_succ, List.set_append]
  simp [List.length_take, h, List.getD_eq_getElem?_getD, List.getElem?_eq_getElem (show k < zs.length by omega), Nat.min_eq_left (Nat.le_of_lt hk)]
  rw [List.take_succ_eq_append_getElem (show k < zs.length by omega), List.append_assoc]
  rfl

/-- What is cut out between the first and the last word that is left is a domain's form. -/
theorem cut_form (s : Int) (ws ys : List Nat) (f : Int → Nat → Nat) (fi la : Nat) (hF : Form s ws) (hL : Left s ws ys f) (hS : Scan s ys ys.length (listOf s ys).length fi la) (h0 : (listOf s ys).length ≠ 0) :
    ∃ zs : List Nat, zs.length = la - fi + 1 ∧ (∀ i, i < la - fi + 1 → zs.getD i 0 = ys.getD (fi + i) 0) ∧ Form (s + fi) zs ∧ listOf (s + fi) zs = listOf s ys ∧ fi ≤ la ∧ la < ys.length := by
  obtain ⟨a, b, c, d, e, g⟩ := hS.rest h0
  refine ⟨(ys.drop fi).take (la - fi + 1), by simp; omega, ?_, ?_, ?_, a, b⟩
  · intro i hi
    simp only [List.getD_eq_getElem?_getD, List.getElem?_take, List.getElem?_drop]
    rw [if_pos hi]
  · have hlen : ((ys.drop fi).take (la - fi + 1)).length = la - fi + 1 := by simp; omega
    have hget : ∀ i, ((ys.drop fi).take (la - fi + 1)).getD i 0 = if i < la - fi + 1 then ys.getD (fi + i) 0 else 0 := by
      intro i
      simp only [List.getD_eq_getElem?_getD, List.getElem?_take, List.getElem?_drop]
      split <;> simp
    refine ⟨fun j => ?_, fun _ => ?_, fun _ => ?_, fun h => by omega, by have := hF.lo; omega, ?_⟩
    · rw [hget]; split
      · exact hL.lt _
      · decide
    · rw [hget, if_pos (by omega)]; exact c
    · rw [hget, hlen, if_pos (by omega), show fi + (la - fi + 1 - 1) = la by omega]; exact d
    · rw [hlen]; have := hF.hi; have := hL.len; omega
  · have zero_list : ∀ (l : List Nat) (t : Int), (∀ i, i < l.length → l.getD i 0 = 0) → listOf t l = [] := by
      intro l
      induction l with
      | nil => intro t _; rfl
      | cons x r ih =>
        intro t h
        have hx : x = 0 := by simpa using h 0 (by simp)
        subst hx
        rw [listOf_zero]
        exact ih (t + 1) fun i hi => by have := h (i + 1) (by simpa using hi); rwa [List.getD_cons_succ] at this
    have e1 : ys = ys.take fi ++ ((ys.drop fi).take (la - fi + 1) ++ (ys.drop fi).drop (la - fi + 1)) := by
      rw [List.take_append_drop, List.take_append_drop]
    have l1 : (ys.take fi).length = fi := by simp; omega
    have z1 : listOf s (ys.take fi) = [] := zero_list _ _ (fun i hi => by
      rw [l1] at hi
      simp only [List.getD_eq_getElem?_getD, List.getElem?_take]
      rw [if_pos hi]
      have := e i hi
      rwa [List.getD_eq_getElem?_getD] at this)
    have z2 : ∀ t, listOf t ((ys.drop fi).drop (la - fi + 1)) = [] := fun t => zero_list _ _ (fun i hi => by
      simp only [List.length_drop] at hi
      simp only [List.getD_eq_getElem?_getD, List.getElem?_drop]
      have := g (fi + (la - fi + 1 + i)) (by omega) (by omega)
      rwa [List.getD_eq_getElem?_getD] at this)
    conv => rhs; rw [e1, listOf_append, listOf_append, z1, z2, l1]
    simp

theorem fillTo_zero (zs : List Nat) (m : Nat) : (madeCells (Value.int .u64 0).cells (m * 1)).toList = U (fillTo zs m 0) := by
  rw [Nat.mul_one]
  show (madeCells #[Value.int .u64 0] m).toList = _
  rw [toList_madeCells_one]
  simp [U, fillTo]

theorem fillTo_all (zs : List Nat) (m : Nat) (h : zs.length = m) : fillTo zs m m = zs := by
  simp [fillTo, ← h]

theorem own_cell {w : World} {base g m k : Nat} {zs : List Nat} (h : w.ownsRow base 97 1 (.slice (some ⟨g, 0, none⟩) m m) m (U zs)) (hz : zs.length = m) (hk : k < m) : ∃ u, w.cell? ⟨g, k, none⟩ = some u := by
  refine ⟨_, (h.cellAt k (by omega)).trans (List.getElem?_eq_getElem (by simp [U]; omega))⟩

/-- Behind the last call of less: its boxes still lie. -/
theorem last_box {w wr W : World} {s z : Int} {A : Option Addr} {n c : Nat} {x0 x1 x2 : Value} (hb : Below (w.heap.size + 2) (boxed2 w s z A n c) wr) (h : Below (wr.heap.size + 1) (wr.alloc (.cells #[x0, x1, x2] 53)) W) :
    (Below wr.heap.size wr W ∧ W.cell? ⟨wr.heap.size, 0, none⟩ = some x0 ∧ W.cell? ⟨wr.heap.size, 1, none⟩ = some x1 ∧ W.cell? ⟨wr.heap.size, 2, none⟩ = some x2 ∧
      W.cell? ⟨w.heap.size, 0, none⟩ = some (.int .i64 s) ∧ W.cell? ⟨w.heap.size, 1, none⟩ = some (.slice A n c) ∧ W.cell? ⟨w.heap.size, 2, none⟩ = some (.int .i64 z) ∧
      W.cell? ⟨w.heap.size + 1, 0, none⟩ = some (.int .i64 0) ∧ W.cell? ⟨w.heap.size + 1, 1, none⟩ = some (.slice none 0 0) ∧ W.cell? ⟨w.heap.size + 1, 2, none⟩ = some (.int .i64 0) ∧
      W.frozen? ⟨w.heap.size + 1, 0, none⟩ = false ∧ W.frozen? ⟨w.heap.size + 1, 1, none⟩ = false ∧ W.frozen? ⟨w.heap.size + 1, 2, none⟩ = false) := by
  have hb' := of_boxed h
  have h2 := boxed2_more hb hb'
  obtain ⟨q0, q1, q2⟩ := boxed h
  obtain ⟨c0, c1, c2⟩ := boxed2_cells h2
  obtain ⟨o0, o1, o2, f0, f1, f2⟩ := boxed2_out h2
  exact ⟨hb', q0, q1, q2, c0, c1, c2, o0, o1, o2, f0, f1, f2⟩

theorem stored_far {W : World} {g a i : Nat} {v0 v1 v2 : Value} (h : g ≠ a) : (((W.setCell ⟨g, 0, none⟩ v0).setCell ⟨g, 1, none⟩ v1).setCell ⟨g, 2, none⟩ v2).cell? ⟨a, i, none⟩ = W.cell? ⟨a, i, none⟩ := by
  rw [World.cell?_setCell_other _ _ _ _ (fun e => h (congrArg Addr.block e)), World.cell?_setCell_other _ _ _ _ (fun e => h (congrArg Addr.block e)), World.cell?_setCell_other _ _ _ _ (fun e => h (congrArg Addr.block e))]

/-- Six cells of two other blocks stay, when a third one is written. -/
theorem six_stored {W : World} {g a b : Nat} {x0 x1 x2 y0 y1 y2 v0 v1 v2 : Value} (ha : g ≠ a) (hb : g ≠ b)
    (h : W.cell? ⟨a, 0, none⟩ = some x0 ∧ W.cell? ⟨a, 1, none⟩ = some x1 ∧ W.cell? ⟨a, 2, none⟩ = some x2 ∧ W.cell? ⟨b, 0, none⟩ = some y0 ∧ W.cell? ⟨b, 1, none⟩ = some y1 ∧ W.cell? ⟨b, 2, none⟩ = some y2) :
    (((W.setCell ⟨g, 0, none⟩ v0).setCell ⟨g, 1, none⟩ v1).setCell ⟨g, 2, none⟩ v2).cell? ⟨a, 0, none⟩ = some x0 ∧ (((W.setCell ⟨g, 0, none⟩ v0).setCell ⟨g, 1, none⟩ v1).setCell ⟨g, 2, none⟩ v2).cell? ⟨a, 1, none⟩ = some x1 ∧
    (((W.setCell ⟨g, 0, none⟩ v0).setCell ⟨g, 1, none⟩ v1).setCell ⟨g, 2, none⟩ v2).cell? ⟨a, 2, none⟩ = some x2 ∧ (((W.setCell ⟨g, 0, none⟩ v0).setCell ⟨g, 1, none⟩ v1).setCell ⟨g, 2, none⟩ v2).cell? ⟨b, 0, none⟩ = some y0 ∧
    (((W.setCell ⟨g, 0, none⟩ v0).setCell ⟨g, 1, none⟩ v1).setCell ⟨g, 2, none⟩ v2).cell? ⟨b, 1, none⟩ = some y1 ∧ (((W.setCell ⟨g, 0, none⟩ v0).setCell ⟨g, 1, none⟩ v1).setCell ⟨g, 2, none⟩ v2).cell? ⟨b, 2, none⟩ = some y2 := by
  obtain ⟨h0, h1, h2, h3, h4, h5⟩ := h
  exact ⟨(stored_far ha).trans h0, (stored_far ha).trans h1, (stored_far ha).trans h2, (stored_far hb).trans h3, (stored_far hb).trans h4, (stored_far hb).trans h5⟩

theorem box_more {w W W' : World} {o : Obj} (h : Below (w.heap.size + 1) (w.alloc o) W) (h' : Below W.heap.size W W') : Below (w.heap.size + 1) (w.alloc o) W' :=
  h.trans (h'.mono (by have := h.size; simp at this; omega))

theorem box_refl (w : World) (o : Obj) : Below (w.heap.size + 1) (w.alloc o) (w.alloc o) := Below.refl _ _

set_option maxHeartbeats 4000000 in
set_option maxRecDepth 100000 in
theorem less_some (s : Int) (ad : Addr) (n c : Nat) (ws ys : List Nat) (f : Int → Nat → Nat) (kf : FuncId) (ptr : Value) (w : World) (hn : n = ws.length) (hF : Form s ws)
    (hen : ∀ (args : Array Value) (w : World), (callFunc kf args).run Tryz.prog w = .ok (.enter kf args) w)
    (hL : Left s ws ys f) (hC : Cuts kf ptr w f) (hl : ad.block < w.heap.size) (hc : ∀ j, j < n → w.cell? (ad.add j) = some (u64f ws j)) (hT : TabZ w)
    (hsame : (listOf s ys).length = (listOf s ws).length → listOf s ys = listOf s ws) :
    Calls Tryz.prog 185 #[.agg #[.int .i64 s, .slice (some ad) n c, .int .i64 ((listOf s ws).length : Nat)], .func (.func kf) #[] #[ptr]] w (GivesDom w (listOf s ys) (chg (listOf s ws) (listOf s ys))) := by
  have hn2 := hF.len
  have h1 := hF.lo
  have h2 := hF.hi
  rw [← hn] at hn2 h2
  have hdom : IsDom w (.agg #[.int .i64 s, .slice (some ad) n c, .int .i64 ((listOf s ws).length : Nat)]) (listOf s ws) := ⟨s, some ad, ws, c, by rw [hn], by rw [← hn]; exact fun _ => ⟨ad, rfl, hl, hc⟩, hF, rfl⟩
  obtain ⟨z, hz⟩ : ∃ z, z = (listOf s ws).length := ⟨_, rfl⟩
  rw [← hz] at hdom ⊢
  have hzl : z ≤ 64 * n := by rw [hz, hn]; exact len_le_listOf ws s
  have Hn := Lib.hid hn
  have HF := Lib.hid hF
  have HL := Lib.hid hL
  have Hc := Lib.hid hc
  have Hsame := Lib.hid hsame
  have Hz := Lib.hid hz
  have hb0 : Below (w.heap.size + 2) (boxed2 w s z (some ad) n c) (boxed2 w s z (some ad) n c) := Below.refl _ _
  obtain ⟨i0, hi, hz0, hz1, hz2⟩ := info_parts Tryz.info97
  clear hn hF hL hc hsame hz
  go_enter Tryz.func185, Tryz.ntmps185
  go_wp2
  go_loopw [6, 7, 8, 18] (fun a b d i wr => ∃ k sz fi la : Nat, k ≤ n ∧ a = .int .i64 (sz : Nat) ∧ b = .int .i64 (fi : Nat) ∧ d = .int .i64 (la : Nat) ∧ i = .int .i64 (k : Nat) ∧ Hid (Scan s ys k sz fi la) ∧
      Below (w.heap.size + 2) (boxed2 w s z (some ad) n c) wr) (fun _ _ _ i _ => n - (intOf i).toNat)
  case atStart => exact ⟨0, 0, 0, 0, Nat.zero_le _, rfl, rfl, rfl, rfl, Scan.start s ys, hb0⟩
  case round =>
    obtain ⟨k, sz, fi, la, hk, rfl, rfl, rfl, rfl, HS, hbr⟩ := hrel
    clear hb0
    obtain ⟨c0, c1, c2⟩ := boxed2_cells hbr
    have hsz : sz ≤ 64 * n := by have := (Scan.small HS.out); rw [HL.out.len, ← Hn.out] at this; exact this
    by_cases hlt : k < n
    · have hck : wr.cell? (ad.add k) = some (.int .u64 ((ws.getD k 0 : Nat) : Int)) := ((boxed2_of hbr).cell (by rw [add_block]; exact hl)).trans (Hc.out k hlt)
      have hyk : f (s + k) (ws.getD k 0) = ys.getD k 0 := HL.out.is k (by rw [← Hn.out]; exact hlt)
      have hyl : ys.getD k 0 < 18446744073709551616 := HL.out.lt k
      have hkl : k < ys.length := by rw [HL.out.len, ← Hn.out]; exact hlt
      have C := fun W hW => hC.on W (s + k) (ws.getD k 0) hW (HF.out.words k) (by omega) (by omega)
      rw [hyk] at C
      generalize ws.getD k 0 = x at *
      obtain ⟨y, hy⟩ : ∃ y, ys.getD k 0 = y := ⟨_, rfl⟩
      rw [hy] at C hyl
      have Hy := Lib.hid hy
      have HC := Lib.hid C
      clear hyk hy C
      by_cases h0 : y = 0
      · have h0' : ((y : Int) == 0) = true := by simp [h0]
        have HS2 := Lib.hid (Scan.skip HS.out hkl (Hy.out.trans h0))
        clear hyl h0
        go_wp2_with (go_at_fn kf; with_reducible refine (HC.out _ (boxed2_of hbr)).mono ?_; rintro e w1 ⟨rfl, hb1⟩; have hb1' := boxed2_more hbr hb1)
        go_roundw
        case rel => exact ⟨k + 1, sz, fi, la, by omega, rfl, rfl, rfl, by go_num, HS2, hb1'⟩
        case measure => simp [intOf]; omega
      · have h0' : ((y : Int) == 0) = false := by simpa using h0
        have ho := ones_le y
        have O := fun W => ones_any y W hyl
        have HO := Lib.hid O
        by_cases hs0 : sz = 0
        · have hs0' : ((sz : Int) == 0) = true := by simp [hs0]
          have HS1 := HS.out.one hs0 hkl (by rw [Hy.out]; exact h0) (by rw [Hy.out]; exact hyl)
          rw [Hy.out] at HS1
          have HS2 := Lib.hid HS1
          clear hyl h0 O HS1 hs0
          go_wp2_with (first
            | (go_at_fn kf; with_reducible refine (HC.out _ (boxed2_of hbr)).mono ?_; rintro e w1 ⟨rfl, hb1⟩; have hb1' := boxed2_more hbr hb1)
            | (go_at_call 123; with_reducible refine (HO.out _).mono ?_; rintro e w' ⟨rfl, rfl⟩))
          go_roundw
          case rel => exact ⟨k + 1, sz + ones y, k, k, by omega, by go_num, rfl, rfl, by go_num, HS2, hb1'⟩
          case measure => simp [intOf]; omega
        · have hs0' : ((sz : Int) == 0) = false := by simpa using hs0
          have HS1 := Scan.next HS.out hs0 hkl (by rw [Hy.out]; exact h0)
          rw [Hy.out] at HS1
          have HS2 := Lib.hid HS1
          clear hyl h0 O HS1 hs0
          go_wp2_with (first
            | (go_at_fn kf; with_reducible refine (HC.out _ (boxed2_of hbr)).mono ?_; rintro e w1 ⟨rfl, hb1⟩; have hb1' := boxed2_more hbr hb1)
            | (go_at_call 123; with_reducible refine (HO.out _).mono ?_; rintro e w' ⟨rfl, rfl⟩))
          go_roundw
          case rel => exact ⟨k + 1, sz + ones y, fi, k, by omega, by go_num, rfl, rfl, by go_num, HS2, hb1'⟩
          case measure => simp [intOf]; omega
    · have hkn : k = ys.length := by rw [HL.out.len, ← Hn.out]; omega
      have hall : (listOf s (ys.take k)).length = (listOf s ys).length := by rw [hkn, List.take_length]
      have hszl : sz = (listOf s ys).length := HS.out.sum.trans hall
      obtain ⟨o0, o1, o2, f0, f1, f2⟩ := boxed2_out hbr
      by_cases hcase : sz = z
      · have hcase' : ((sz : Int) == (z : Int)) = true := by simp [hcase]
        have hRL := Hsame.out (by rw [← hszl, hcase]; exact Hz.out)
        have Hfin : Hid (chg (listOf s ws) (listOf s ys) = 0) := by
          unfold Hid chg; rw [hRL]; simp
        have HRL := Lib.hid hRL
        have hd' := hdom.below (boxed2_of hbr)
        clear hkn hall hszl hcase hRL
        go_wp2
        obtain ⟨q0, q1, q2⟩ := out_cells wr (w.heap.size + 1) _ _ _ (.int .i64 s) (.slice (some ad) n c) (.int .i64 (z : Nat)) o0 o1 o2
        have hbo := out_below (boxed2_of hbr) (w.heap.size + 1) (by omega) (.int .i64 s) (.slice (some ad) n c) (.int .i64 (z : Nat))
        refine bodyPost_ret (v := .tuple #[.agg #[.int .i64 s, .slice (some ad) n c, .int .i64 (z : Nat)], .int .i64 0]) (by simp [results, Tryz.results185, go_sem, q0, q1, q2]) rfl ⟨_, by rw [Hfin.out], ?_, hbo⟩
        rw [HRL.out]
        exact hdom.below hbo
      · have hcase' : ((sz : Int) == (z : Int)) = false := by simp; omega
        have hne : ¬ (listOf s ys).length = (listOf s ws).length := by rw [← hszl, ← Hz.out]; exact hcase
        by_cases h0 : sz = 0
        · have h0' : ((sz : Int) == 0) = true := by simp [h0]
          have hR : listOf s ys = [] := List.eq_nil_of_length_eq_zero (by rw [← hszl]; exact h0)
          have Hfin : Hid (chg (listOf s ws) (listOf s ys) = 4) := by
            unfold Hid chg; rw [if_neg hne, hR]; rfl
          have HR := Lib.hid hR
          clear hkn hall hszl hcase hR hne h0
          go_wp2
          obtain ⟨q0, q1, q2⟩ := out_cells wr (w.heap.size + 1) _ _ _ (.int .i64 0) (.slice none 0 0) (.int .i64 0) o0 o1 o2
          have hbo := out_below (boxed2_of hbr) (w.heap.size + 1) (by omega) (.int .i64 0) (.slice none 0 0) (.int .i64 0)
          refine bodyPost_ret (v := .tuple #[.agg #[.int .i64 0, .slice none 0 0, .int .i64 0], .int .i64 4]) (by simp [results, Tryz.results185, go_sem, q0, q1, q2]) rfl ⟨_, by rw [Hfin.out], ?_, hbo⟩
          rw [HR.out]
          exact none_dom _
        · have h0' : ((sz : Int) == 0) = false := by simpa using h0
          have hS2 := HS.out
          rw [hkn, hszl] at hS2
          obtain ⟨zs, g1, g2, g3, g4, g5, g6⟩ := cut_form s ws ys f fi la HF.out HL.out hS2 (by rw [← hszl]; exact h0)
          have hfl : la < n := by rw [Hn.out, ← HL.out.len]; exact g6
          have Hfin : Hid (chg (listOf s ws) (listOf s ys) = bec (listOf s ws) (listOf s ys)) := by
            unfold Hid chg; rw [if_neg hne, if_neg (by rw [← hszl]; exact h0)]
          have hdom2 := hdom.below (boxed2_of hbr)
          obtain ⟨m, hm⟩ : ∃ m, la - fi + 1 = m := ⟨_, rfl⟩
          rw [hm] at g1 g2
          have Hm := Lib.hid hm
          have hmi : (la : Int) - (fi : Int) + 1 = (m : Int) := by omega
          have hmn : fi + m ≤ n := by omega
          have G2 := Lib.hid g2
          have G1 := Lib.hid g1
          have G4 := Lib.hid g4
          have Hszl := Lib.hid hszl
          clear hkn hall hszl hcase hne h0 hm g2 g4 hS2 HS g1
          go_wp2_with (at_make; refine wpList_make_full _ rfl _ _ 51 rfl (w.heap.size + 2) 97 i0 (.int .u64 0) 1 Tryz.underlying51 hi hz0 hz1 _ _ _ _ m rfl rfl (by omega) (by omega) (by rw [hz2]; omega) (by unfold maxLen; omega) (boxed2_le hbr) ?_; intro w1 hown1 hg1; have hb1 := hbr.grown hg1 (boxed2_le hbr) (by intro k hk; cases hk); obtain ⟨c0, c1, c2⟩ := boxed2_cells hb1)
          rw [fillTo_zero zs m] at hown1
          have hgle := boxed2_le hbr
          obtain ⟨g, hg⟩ : ∃ g, wr.heap.size = g := ⟨_, rfl⟩
          rw [hg] at hown1 hgle
          have Hg := Lib.hid hg
          rw [hg]
          clear hg
          go_loopw [60] (fun i wr2 => ∃ k2 : Nat, k2 ≤ m ∧ i = .int .i64 (k2 : Nat) ∧ wr2.ownsRow (w.heap.size + 2) 97 1 (.slice (some ⟨g, 0, none⟩) m m) m (U (fillTo zs m k2)) ∧ Below (w.heap.size + 2) (boxed2 w s z (some ad) n c) wr2) (fun i _ => m - (intOf i).toNat)
          case atStart => exact ⟨0, Nat.zero_le _, rfl, hown1, hb1⟩
          case round =>
            obtain ⟨k2, hk2, rfl, hown, hb2⟩ := hrel
            clear hown1 hg1 hb1 c0 c1 c2 o0 o1 o2 f0 f1 f2
            obtain ⟨c0, c1, c2⟩ := boxed2_cells hb2
            by_cases hlt2 : k2 < m
            · obtain ⟨j, hj⟩ : ∃ j : Nat, (fi : Int) + (k2 : Int) = (j : Int) := ⟨fi + k2, by omega⟩
              have hjn : j < n := by omega
              have hcj : _root_.Go.World.cell? _ (ad.add j) = some (.int .u64 ((ws.getD j 0 : Nat) : Int)) := ((boxed2_of hb2).cell (by rw [add_block]; exact hl)).trans (Hc.out j hjn)
              have hyj : f (s + j) (ws.getD j 0) = zs.getD k2 0 := by
                rw [HL.out.is j (by rw [← Hn.out]; exact hjn), G2.out k2 (by omega), show j = fi + k2 by omega]
              have C := fun W hW => hC.on W (s + j) (ws.getD j 0) hW (HF.out.words j) (by omega) (by omega)
              rw [hyj, show s + (j : Int) = s + (fi : Int) + (k2 : Int) by omega] at C
              generalize ws.getD j 0 = x at *
              have hset := fillTo_set zs m k2 G1.out hlt2
              have hfl2 := fillTo_len zs m k2 G1.out hk2
              generalize zs.getD k2 0 = y at *
              have HC := Lib.hid C
              have Hset := Lib.hid hset
              have Hfl2 := Lib.hid hfl2
              clear hyj C hset hfl2
              go_wp2_with (go_at_fn kf; with_reducible refine (HC.out _ (boxed2_of hb2)).mono ?_; rintro e w3 ⟨rfl, hb3⟩; have hb3' := boxed2_more hb2 hb3; have hown3 := own_below hown hb3; obtain ⟨uu, hcell3⟩ := own_cell hown3 Hfl2.out hlt2; have hfr3 := hown3.frozenAt k2)
              have hst := hown3.stored k2 (.int .u64 (y : Nat))
              rw [Hset.out] at hst
              go_roundw
              case rel => exact ⟨k2 + 1, by omega, by go_num, hst.1, hb3'.setCell hgle _⟩
              case measure => simp [intOf]; omega
            · have hkm : k2 = m := by omega
              rw [hkm, fillTo_all zs m G1.out] at hown
              clear hkm
              have hdE := own_dom hown G1.out g3 G4.out
              rw [← Hszl.out] at hdE
              have hdD := hdom.below (boxed2_of hb2)
              have hTT := hT.below (boxed2_of hb2)
              have HB := Lib.hid fun W (hW : Below wr.heap.size wr W) => became_dom _ _ _ _ W (hdD.below hW) (hdE.below hW) (hTT.below hW)
              have hlb := fun W => last_box (W := W) (x0 := .int .i64 (s + (fi : Int))) (x1 := .slice (some ⟨g, 0, none⟩) m m) (x2 := .int .i64 (sz : Nat)) hb2
              obtain ⟨b0, p0, p1, p2, p3, p4, p5, -⟩ := hlb _ (box_refl wr _).drew
              have HS0 := Lib.hid (And.intro p0 (And.intro p1 (And.intro p2 (And.intro p3 (And.intro p4 p5)))))
              have n1 : w.heap.size + 1 ≠ wr.heap.size := by have := boxed2_le hb2; omega
              have n2 : w.heap.size + 1 ≠ w.heap.size := by omega
              have HLB := Lib.hid hlb
              have HN := Lib.hid (And.intro n1 n2)
              have Hown := Lib.hid hown
              clear hlb p0 p1 p2 p3 p4 p5 HF HL Hc Hsame Hz G2 hi hz0 hz1 hz2 hdD hdE hTT hown n1 n2
              go_wp2
              go_region_held3 (fun W => W.cell? ⟨wr.heap.size, 0, none⟩ = some (.int .i64 (s + (fi : Int))) ∧ W.cell? ⟨wr.heap.size, 1, none⟩ = some (.slice (some ⟨g, 0, none⟩) m m) ∧ W.cell? ⟨wr.heap.size, 2, none⟩ = some (.int .i64 (sz : Nat)) ∧ W.cell? ⟨w.heap.size, 0, none⟩ = some (.int .i64 s) ∧ W.cell? ⟨w.heap.size, 1, none⟩ = some (.slice (some ad) n c) ∧ W.cell? ⟨w.heap.size, 2, none⟩ = some (.int .i64 (z : Nat))) (first | exact HS0.out | exact hS4 | exact six_stored HN.out.1 HN.out.2 hS4)
                (first | (go_at_call 234; refine (HB.out _ b0).mono ?_; rintro e w4 ⟨rfl, hb4⟩; have hW4 := (box_refl wr _).drew.trans (hb4.mono (by simp)); obtain ⟨b4, p0, p1, p2, p3, p4, p5, o0, o1, o2, f0, f1, f2⟩ := HLB.out _ hW4; have hS4 := And.intro p0 (And.intro p1 (And.intro p2 (And.intro p3 (And.intro p4 p5))))))
              have hown4 := own_below Hown.out b4
              have hbo := out_below ((boxed2_of hb2).trans (b4.mono (boxed2_of hb2).size)) (w.heap.size + 1) (by omega) (.int .i64 (s + (fi : Int))) (.slice (some ⟨g, 0, none⟩) m m) (.int .i64 (sz : Nat))
              have hown5 := ownsRow_setCell_below (ownsRow_setCell_below (ownsRow_setCell_below hown4 (a := ⟨w.heap.size + 1, 0, none⟩) (by simp) (.int .i64 (s + (fi : Int)))) (a := ⟨w.heap.size + 1, 1, none⟩) (by simp) (.slice (some ⟨g, 0, none⟩) m m)) (a := ⟨w.heap.size + 1, 2, none⟩) (by simp) (.int .i64 (sz : Nat))
              have hdE := own_dom hown5 G1.out g3 G4.out
              rw [← Hszl.out] at hdE
              obtain ⟨q0, q1, q2⟩ := out_cells w4 (w.heap.size + 1) _ _ _ (.int .i64 (s + (fi : Int))) (.slice (some ⟨g, 0, none⟩) m m) (.int .i64 (sz : Nat)) o0 o1 o2
              have HE := Lib.hid hdE
              have HO := Lib.hid hown4
              clear hdE hown4 hown5 hS4 p0 p1 p2 p3 p4 p5 o0 o1 o2 f0 f1 f2
              go_wp2
              exact bodyPost_ret (v := .tuple #[.agg #[.int .i64 (s + (fi : Int)), .slice (some ⟨g, 0, none⟩) m m, .int .i64 (sz : Nat)], .int .i64 (bec (listOf s ws) (listOf s ys))]) (by simp [results, Tryz.results185, go_sem, q0, q1, q2]) rfl ⟨_, by rw [Hfin.out], HE.out, hbo⟩

set_option maxRecDepth 100000 in
theorem less_none (s : Int) (A : Option Addr) (c : Nat) (g : Value) (w : World) (hs : s = 0) :
    Calls Tryz.prog 185 #[.agg #[.int .i64 s, .slice A 0 c, .int .i64 0], g] w (GivesDom w [] 0) := by
  have hd : IsDom w (.agg #[.int .i64 s, .slice A 0 c, .int .i64 0]) [] :=
    ⟨s, A, [], c, rfl, Lies.none _ _ _, ⟨fun j => by simp, fun h => absurd h (by simp), fun h => absurd h (by simp), fun _ => hs, by omega, by simp; omega⟩, rfl⟩
  clear hs
  go_enter Tryz.func185, Tryz.ntmps185
  go_wp2
  refine wp_loop_rounds 1 ?_
  rw [rounds_succ]
  go_wp2
  refine bodyPost_ret (v := .tuple #[.agg #[.int .i64 s, .slice A 0 c, .int .i64 0], .int .i64 0]) (by simp [results, Tryz.results185, go_sem]) rfl ⟨_, rfl, ?_, ?_⟩
  · exact hd.below (below2 _ _ _)
  · exact below2 _ _ _

/-- A closure that leaves of each word the bits of those numbers of which p holds. -/
structure Filters (f : Int → Nat → Nat) (p : Int → Bool) : Prop where
  lt : ∀ pl x, x < 18446744073709551616 → f pl x < 18446744073709551616
  bit : ∀ pl x j, x < 18446744073709551616 → j < 64 → (f pl x).testBit j = (x.testBit j && p (pl * 64 + (j : Int)))

theorem filter_listOf (f : Int → Nat → Nat) (p : Int → Bool) (hf : Filters f p) (s : Int) (ws : List Nat) (hw : ∀ j, ws.getD j 0 < 18446744073709551616) :
    ∃ ys, Left s ws ys f ∧ listOf s ys = (listOf s ws).filter p := by
  have hget : ∀ i, i < ws.length → (ws.mapIdx fun (i : Nat) x => f (s + (i : Int)) x).getD i 0 = f (s + i) (ws.getD i 0) := by
    intro i hi
    simp [List.getD_eq_getElem?_getD, List.getElem?_mapIdx, List.getElem?_eq_getElem hi]
  refine ⟨ws.mapIdx fun (i : Nat) x => f (s + (i : Int)) x, ⟨by simp, fun i hi => (hget i hi).symm, fun i => ?_⟩, ?_⟩
  · by_cases hi : i < ws.length
    · rw [hget i hi]; exact hf.lt _ _ (hw i)
    · rw [getD_over _ _ (by simp; omega)]; decide
  · apply eq_of_rising _ _ (rising_listOf _ _) ((rising_listOf ws s).filter _)
    intro v
    rw [List.mem_filter, mem_listOf, mem_listOf]
    unfold hasB
    by_cases hs : s ≤ v / 64
    · by_cases hi : (v / 64 - s).toNat < ws.length
      · rw [hget _ hi, show s + (((v / 64 - s).toNat : Nat) : Int) = v / 64 by omega, hf.bit _ _ _ (hw _) (by omega), show v / 64 * 64 + (((v % 64).toNat : Nat) : Int) = v by omega]
        simp [hs]
      · rw [getD_over _ _ (by simp; omega), getD_over ws _ (by omega)]
        simp
    · simp [hs]

theorem less_dom (d : Value) (L : List Int) (f : Int → Nat → Nat) (p : Int → Bool) (kf : FuncId) (ptr : Value) (w : World) (h : IsDom w d L)
    (hen : ∀ (args : Array Value) (w : World), (callFunc kf args).run Tryz.prog w = .ok (.enter kf args) w) (hf : Filters f p) (hC : Cuts kf ptr w f) (hT : TabZ w) :
    Calls Tryz.prog 185 #[d, .func (.func kf) #[] #[ptr]] w (GivesDom w (L.filter p) (chg L (L.filter p))) := by
  obtain ⟨s, A, ws, c, rfl, hl, hF, rfl⟩ := h
  by_cases hp : 0 < ws.length
  · obtain ⟨ad, rfl, hb, hc⟩ := hl hp
    obtain ⟨ys, hL, e⟩ := filter_listOf f p hf s ws hF.words
    rw [← e]
    refine less_some s ad ws.length c ws ys f kf ptr w rfl hF hen hL hC hb hc hT ?_
    intro hlen
    rw [e] at hlen ⊢
    rw [List.length_filter_eq_length_iff] at hlen
    exact List.filter_eq_self.2 hlen
  · have hz := hF.zero (by omega)
    have : ws = [] := List.eq_nil_of_length_eq_zero (by omega)
    subst this
    exact less_none s A c _ w hz

end Go.Proofs.YtkhmocbfkpbpfaaGreatDoor.D
