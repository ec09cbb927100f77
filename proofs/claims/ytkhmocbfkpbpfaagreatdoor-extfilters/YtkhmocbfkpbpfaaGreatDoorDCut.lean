/- Contracts of Without, Only, AtLeast, AtMost, And, Minus over a domain's rising list. -/
import Derived.Test.YtkhmocbfkpbpfaaGreatDoorDLess
namespace Go.Proofs.YtkhmocbfkpbpfaaGreatDoor.D
open Go.RowKit

def fWithout (v p : Int) (x : Nat) : Nat := if p = v / 64 then x &&& (18446744073709551615 - bitN v) else x

def fOnly (v p : Int) (x : Nat) : Nat := if p = v / 64 then x &&& bitN v else 0

def fLeast (v p : Int) (x : Nat) : Nat := if p < v / 64 then 0 else if v / 64 < p then x else x &&& upN v

def fMost (v p : Int) (x : Nat) : Nat := if v / 64 < p then 0 else if p < v / 64 then x else x &&& downN v

def fAnd (s : Int) (ws : List Nat) (p : Int) (x : Nat) : Nat := x &&& wordAt s ws p

def fMinus (s : Int) (ws : List Nat) (p : Int) (x : Nat) : Nat := x &&& (18446744073709551615 - wordAt s ws p)

theorem not_bit (b j : Nat) (hb : b < 18446744073709551616) (hj : j < 64) : (18446744073709551615 - b).testBit j = !b.testBit j := by
  have := Nat.testBit_two_pow_sub_succ (n := 64) hb j
  rw [show (2 : Nat) ^ 64 - (b + 1) = 18446744073709551615 - b by omega] at this
  rw [this]
  simp [hj]

theorem and_lt (x y : Nat) (hx : x < 18446744073709551616) : x &&& y < 18446744073709551616 := Nat.lt_of_le_of_lt Nat.and_le_left hx

theorem filters_without (v : Int) : Filters (fWithout v) (fun u => decide (u ≠ v)) := by
  refine ⟨fun pl x hx => ?_, fun pl x j hx hj => ?_⟩
  · unfold fWithout; split
    · exact and_lt _ _ hx
    · exact hx
  · unfold fWithout; split
    · rename_i e
      rw [Nat.testBit_and, not_bit _ _ (bitN_lt v) hj, bitN_bit]
      congr 1
      by_cases h : (v % 64).toNat = j
      · simp [h]; omega
      · simp [h]; omega
    · have : pl * 64 + (j : Int) ≠ v := by omega
      simp [this]

theorem filters_only (v : Int) : Filters (fOnly v) (fun u => decide (u = v)) := by
  refine ⟨fun pl x hx => ?_, fun pl x j hx hj => ?_⟩
  · unfold fOnly; split
    · exact and_lt _ _ hx
    · decide
  · unfold fOnly; split
    · rename_i e
      rw [Nat.testBit_and, bitN_bit]
      congr 1
      by_cases h : (v % 64).toNat = j
      · simp [h]; omega
      · simp [h]; omega
    · have : ¬ pl * 64 + (j : Int) = v := by omega
      simp [this]

theorem filters_least (v : Int) : Filters (fLeast v) (fun u => decide (v ≤ u)) := by
  refine ⟨fun pl x hx => ?_, fun pl x j hx hj => ?_⟩
  · unfold fLeast; split
    · decide
    · split
      · exact hx
      · exact and_lt _ _ hx
  · unfold fLeast; split
    · have : ¬ v ≤ pl * 64 + (j : Int) := by omega
      simp [this]
    · split
      · have : v ≤ pl * 64 + (j : Int) := by omega
        simp [this]
      · rw [Nat.testBit_and, upN_bit]
        congr 1
        simp only [hj, decide_true, Bool.true_and]
        congr 1
        rw [eq_iff_iff]; omega

theorem filters_most (v : Int) : Filters (fMost v) (fun u => decide (u ≤ v)) := by
  refine ⟨fun pl x hx => ?_, fun pl x j hx hj => ?_⟩
  · unfold fMost; split
    · decide
    · split
      · exact hx
      · exact and_lt _ _ hx
  · unfold fMost; split
    · have : ¬ pl * 64 + (j : Int) ≤ v := by omega
      simp [this]
    · split
      · have : pl * 64 + (j : Int) ≤ v := by omega
        simp [this]
      · rw [Nat.testBit_and, downN_bit]
        congr 1
        congr 1
        rw [eq_iff_iff]; omega

theorem filters_and (s : Int) (ws : List Nat) : Filters (fAnd s ws) (fun u => decide (u ∈ listOf s ws)) := by
  refine ⟨fun pl x hx => and_lt _ _ hx, fun pl x j hx hj => ?_⟩
  unfold fAnd
  rw [Nat.testBit_and]
  congr 1
  rw [Bool.eq_iff_iff, word_bit _ j hj]
  simp

theorem filters_minus (s : Int) (ws : List Nat) (hF : Form s ws) : Filters (fMinus s ws) (fun u => decide (u ∉ listOf s ws)) := by
  refine ⟨fun pl x hx => and_lt _ _ hx, fun pl x j hx hj => ?_⟩
  unfold fMinus
  rw [Nat.testBit_and, not_bit _ _ (wordAt_lt hF pl) hj]
  congr 1
  rw [Bool.eq_iff_iff, Bool.not_eq_true', ← Bool.not_eq_true, word_bit _ j hj]
  simp

theorem without_cut (v : Int) (a : Addr) (w : World) (hc : w.cell? a = some (.int .i64 v)) (p : Int) (x : Nat) (hx : x < 18446744073709551616) :
    Calls Tryz.prog 186 #[.int .i64 p, .int .u64 (x : Nat), .pointer (some a)] w fun e w' => e = .returned (.int .u64 (fWithout v p x : Nat)) ∧ w = w' := by
  unfold fWithout
  by_cases h : p = v / 64
  · have h' : (p != v / 64) = false := by simp [h]
    have e := u64_andNot_nat x (bitN v) hx (bitN_lt v)
    rw [if_pos h]
    clear h hx
    go_enter Tryz.func186, Tryz.ntmps186
    go_wp2_with (first | (go_at_call 70; with_reducible refine (place_any _ _).mono ?_; rintro e w' ⟨rfl, rfl⟩) | (go_at_call 71; with_reducible refine (bit_any _ _).mono ?_; rintro e w' ⟨rfl, rfl⟩))
    go_ret
    exact ⟨rfl, rfl⟩
  · have h' : (p != v / 64) = true := by simpa using h
    rw [if_neg h]
    clear h hx
    go_enter Tryz.func186, Tryz.ntmps186
    go_wp2_with (first | (go_at_call 70; with_reducible refine (place_any _ _).mono ?_; rintro e w' ⟨rfl, rfl⟩))
    go_ret
    exact ⟨rfl, rfl⟩

theorem least_cut (v : Int) (a : Addr) (w : World) (hc : w.cell? a = some (.int .i64 v)) (p : Int) (x : Nat) (hx : x < 18446744073709551616) :
    Calls Tryz.prog 231 #[.int .i64 p, .int .u64 (x : Nat), .pointer (some a)] w fun e w' => e = .returned (.int .u64 (fLeast v p x : Nat)) ∧ w = w' := by
  have e := u64_and_nat x (upN v) hx (upN_lt v)
  clear hx
  unfold fLeast
  by_cases h : p < v / 64
  · have h' : decide (p < v / 64) = true := by simpa using h
    rw [if_pos h]
    clear h
    go_enter Tryz.func231, Tryz.ntmps231
    go_wp2_with (first | (go_at_call 70; with_reducible refine (place_any _ _).mono ?_; rintro e w' ⟨rfl, rfl⟩))
    go_ret
    exact ⟨rfl, rfl⟩
  · have h' : decide (p < v / 64) = false := by simpa using h
    rw [if_neg h]
    clear h
    by_cases h : v / 64 < p
    · have h2 : decide (v / 64 < p) = true := by simpa using h
      rw [if_pos h]
      clear h
      go_enter Tryz.func231, Tryz.ntmps231
      go_wp2_with (first | (go_at_call 70; with_reducible refine (place_any _ _).mono ?_; rintro e w' ⟨rfl, rfl⟩))
      go_ret
      exact ⟨rfl, rfl⟩
    · have h2 : decide (v / 64 < p) = false := by simpa using h
      rw [if_neg h]
      clear h
      go_enter Tryz.func231, Tryz.ntmps231
      go_wp2_with (first | (go_at_call 70; with_reducible refine (place_any _ _).mono ?_; rintro e w' ⟨rfl, rfl⟩) | (go_at_call 127; with_reducible refine (up_any _ _).mono ?_; rintro e w' ⟨rfl, rfl⟩))
      go_ret
      exact ⟨rfl, rfl⟩

theorem most_cut (v : Int) (a : Addr) (w : World) (hc : w.cell? a = some (.int .i64 v)) (p : Int) (x : Nat) (hx : x < 18446744073709551616) :
    Calls Tryz.prog 232 #[.int .i64 p, .int .u64 (x : Nat), .pointer (some a)] w fun e w' => e = .returned (.int .u64 (fMost v p x : Nat)) ∧ w = w' := by
  have e := u64_and_nat x (downN v) hx (downN_lt v)
  clear hx
  unfold fMost
  by_cases h : v / 64 < p
  · have h' : decide (v / 64 < p) = true := by simpa using h
    rw [if_pos h]
    clear h
    go_enter Tryz.func232, Tryz.ntmps232
    go_wp2_with (first | (go_at_call 70; with_reducible refine (place_any _ _).mono ?_; rintro e w' ⟨rfl, rfl⟩))
    go_ret
    exact ⟨rfl, rfl⟩
  · have h' : decide (v / 64 < p) = false := by simpa using h
    rw [if_neg h]
    clear h
    by_cases h : p < v / 64
    · have h2 : decide (p < v / 64) = true := by simpa using h
      rw [if_pos h]
      clear h
      go_enter Tryz.func232, Tryz.ntmps232
      go_wp2_with (first | (go_at_call 70; with_reducible refine (place_any _ _).mono ?_; rintro e w' ⟨rfl, rfl⟩))
      go_ret
      exact ⟨rfl, rfl⟩
    · have h2 : decide (p < v / 64) = false := by simpa using h
      rw [if_neg h]
      clear h
      go_enter Tryz.func232, Tryz.ntmps232
      go_wp2_with (first | (go_at_call 70; with_reducible refine (place_any _ _).mono ?_; rintro e w' ⟨rfl, rfl⟩) | (go_at_call 128; with_reducible refine (down_any _ _).mono ?_; rintro e w' ⟨rfl, rfl⟩))
      go_ret
      exact ⟨rfl, rfl⟩

/-- The world in which a way calls less: its domain, its argument and its result are boxed. -/
def boxed3 (w : World) (o p : Obj) : World := ((w.alloc o).alloc p).alloc (.cells #[.int .i64 0, .slice none 0 0, .int .i64 0] 53)

section

variable {w W : World} {o p : Obj}

theorem boxed3_size : (boxed3 w o p).heap.size = w.heap.size + 3 := by simp [boxed3]

theorem boxed3_below : Below w.heap.size w (boxed3 w o p) := (below2 w o p).alloc (by simp; omega) _

theorem boxed3_of (h : Below (boxed3 w o p).heap.size (boxed3 w o p) W) : Below w.heap.size w W := boxed3_below.trans (h.mono (by rw [boxed3_size]; omega))

theorem boxed3_heap (h : Below (boxed3 w o p).heap.size (boxed3 w o p) W) : W.heap[w.heap.size + 2]? = some (.cells #[.int .i64 0, .slice none 0 0, .int .i64 0] 53 (0, 0)) := by
  rw [h.block _ (by rw [boxed3_size]; omega)]
  have := heap_alloc_new ((w.alloc o).alloc p) (.cells #[.int .i64 0, .slice none 0 0, .int .i64 0] 53)
  rw [show ((w.alloc o).alloc p).heap.size = w.heap.size + 2 by simp] at this
  exact this

theorem boxed3_out (h : Below (boxed3 w o p).heap.size (boxed3 w o p) W) :
    W.cell? ⟨w.heap.size + 2, 0, none⟩ = some (.int .i64 0) ∧ W.cell? ⟨w.heap.size + 2, 1, none⟩ = some (.slice none 0 0) ∧ W.cell? ⟨w.heap.size + 2, 2, none⟩ = some (.int .i64 0) ∧
      W.frozen? ⟨w.heap.size + 2, 0, none⟩ = false ∧ W.frozen? ⟨w.heap.size + 2, 1, none⟩ = false ∧ W.frozen? ⟨w.heap.size + 2, 2, none⟩ = false := by
  have hh := boxed3_heap h
  refine ⟨?_, ?_, ?_, ?_, ?_, ?_⟩ <;> simp [World.cell?, World.frozen?, hh]

end

theorem boxed3_arg {w W : World} {o : Obj} {cs : Array Value} {t : TypeId} (h : Below (boxed3 w o (.cells cs t)).heap.size (boxed3 w o (.cells cs t)) W) (i : Nat) : W.cell? ⟨w.heap.size + 1, i, none⟩ = cs[i]? := by
  rw [h.cell (by rw [boxed3_size]; simp)]
  unfold boxed3
  rw [World.cell?_alloc_lt _ _ _ (by simp)]
  have := heap_alloc_new (w.alloc o) (.cells cs t)
  rw [show (w.alloc o).heap.size = w.heap.size + 1 by simp] at this
  exact cell_of_row _ _ _ _ _ _ this

theorem far_of_box {W : World} {g x : Nat} {ad : Addr} (hg : W.heap[g]? = some (.cells #[.int .i64 0, .slice none 0 0, .int .i64 0] 53 (0, 0))) (h : W.cell? ad = some (.int .u64 (x : Nat))) : ad.block ≠ g := by
  intro e
  unfold World.cell? at h
  rw [e, hg] at h
  simp only at h
  split at h
  · cases h
  · rcases ho : ad.off with _ | _ | _ | n <;> rw [ho] at h <;> simp at h

/-- What a way returns, out of what less returned. -/
theorem ways_end {w w1 : World} {o p : Obj} {R : List Int} {ch s' : Int} {A : Option Addr} {ws : List Nat} {c : Nat} (hb : Below (boxed3 w o p).heap.size (boxed3 w o p) w1) (hl : Lies w1 A ws.length (u64f ws)) (hF : Form s' ws) (hL : listOf s' ws = R) :
    GivesDom w R ch (.returned (.tuple #[.agg #[.int .i64 s', .slice A ws.length c, .int .i64 (R.length : Nat)], .int .i64 ch]))
      (((w1.setCell ⟨w.heap.size + 2, 0, none⟩ (.int .i64 s')).setCell ⟨w.heap.size + 2, 1, none⟩ (.slice A ws.length c)).setCell ⟨w.heap.size + 2, 2, none⟩ (.int .i64 (R.length : Nat))) := by
  refine ⟨_, rfl, IsDom.stored hl rfl hF hL (fun ad e hp => ?_) _ _ _, out_below (boxed3_of hb) _ (by omega) _ _ _⟩
  obtain ⟨ad', e', _, hc⟩ := hl hp
  have : ad' = ad := by rw [e'] at e; exact Option.some.inj e
  subst this
  have := far_of_box (boxed3_heap hb) (hc 0 hp)
  rwa [add_block] at this

set_option maxHeartbeats 1000000 in
theorem without_dom (d : Value) (L : List Int) (v : Int) (w : World) (h : IsDom w d L) (hT : TabZ w) :
    Calls Tryz.prog 139 #[d, .int .i64 v] w (GivesDom w (L.filter fun u => decide (u ≠ v)) (chg L (L.filter fun u => decide (u ≠ v)))) := by
  obtain ⟨s, A, ws, c, e, hl, hF, hL⟩ := id h
  subst e
  have M := less_dom _ L (fWithout v) _ 186 (.pointer (some ⟨w.heap.size + 1, 0, none⟩)) (boxed3 w (.cells #[.int .i64 s, .slice A ws.length c, .int .i64 (L.length : Nat)] 53) (.cells #[.int .i64 v] 3)) (h.below boxed3_below)
    (fun args w => by simp [go_sem]) (filters_without v)
    (fun W p x hW hx _ _ => (without_cut v _ W (boxed3_arg hW 0) p x hx).mono fun _ _ q => ⟨q.1, q.2 ▸ Below.refl _ _⟩) (hT.below boxed3_below)
  have HM := Lib.hid M
  generalize chg L (L.filter fun u => decide (u ≠ v)) = ch at *
  generalize (L.filter fun u => decide (u ≠ v)) = R at *
  clear M hl hF hL h
  go_enter Tryz.func139, Tryz.ntmps139
  go_wp2_with (go_at_call 185; refine (HM.out).mono ?_; rintro e w1 ⟨d', rfl, ⟨s', A', ws', c', rfl, hl', hF', hL'⟩, hb1⟩; obtain ⟨o0, o1, o2, f0, f1, f2⟩ := boxed3_out hb1; have HL' := Lib.hid hl'; have HF' := Lib.hid hF'; have HLL := Lib.hid hL'; clear hl' hF' hL')
  obtain ⟨q0, q1, q2⟩ := out_cells w1 (w.heap.size + 2) _ _ _ (.int .i64 s') (.slice A' ws'.length c') (.int .i64 (R.length : Nat)) o0 o1 o2
  exact bodyPost_ret (v := .tuple #[.agg #[.int .i64 s', .slice A' ws'.length c', .int .i64 (R.length : Nat)], .int .i64 ch]) (by simp [results, Tryz.results139, go_sem, q0, q1, q2]) rfl (ways_end hb1 HL'.out HF'.out HLL.out)

set_option maxHeartbeats 1000000 in
theorem least_dom (d : Value) (L : List Int) (v : Int) (w : World) (h : IsDom w d L) (hT : TabZ w) :
    Calls Tryz.prog 175 #[d, .int .i64 v] w (GivesDom w (L.filter fun u => decide (v ≤ u)) (chg L (L.filter fun u => decide (v ≤ u)))) := by
  obtain ⟨s, A, ws, c, e, hl, hF, hL⟩ := id h
  subst e
  have M := less_dom _ L (fLeast v) _ 231 (.pointer (some ⟨w.heap.size + 1, 0, none⟩)) (boxed3 w (.cells #[.int .i64 s, .slice A ws.length c, .int .i64 (L.length : Nat)] 53) (.cells #[.int .i64 v] 3)) (h.below boxed3_below)
    (fun args w => by simp [go_sem]) (filters_least v)
    (fun W p x hW hx _ _ => (least_cut v _ W (boxed3_arg hW 0) p x hx).mono fun _ _ q => ⟨q.1, q.2 ▸ Below.refl _ _⟩) (hT.below boxed3_below)
  have HM := Lib.hid M
  generalize chg L (L.filter fun u => decide (v ≤ u)) = ch at *
  generalize (L.filter fun u => decide (v ≤ u)) = R at *
  clear M hl hF hL h
  go_enter Tryz.func175, Tryz.ntmps175
  go_wp2_with (go_at_call 185; refine (HM.out).mono ?_; rintro e w1 ⟨d', rfl, ⟨s', A', ws', c', rfl, hl', hF', hL'⟩, hb1⟩; obtain ⟨o0, o1, o2, f0, f1, f2⟩ := boxed3_out hb1; have HL' := Lib.hid hl'; have HF' := Lib.hid hF'; have HLL := Lib.hid hL'; clear hl' hF' hL')
  obtain ⟨q0, q1, q2⟩ := out_cells w1 (w.heap.size + 2) _ _ _ (.int .i64 s') (.slice A' ws'.length c') (.int .i64 (R.length : Nat)) o0 o1 o2
  exact bodyPost_ret (v := .tuple #[.agg #[.int .i64 s', .slice A' ws'.length c', .int .i64 (R.length : Nat)], .int .i64 ch]) (by simp [results, Tryz.results175, go_sem, q0, q1, q2]) rfl (ways_end hb1 HL'.out HF'.out HLL.out)

set_option maxHeartbeats 1000000 in
theorem most_dom (d : Value) (L : List Int) (v : Int) (w : World) (h : IsDom w d L) (hT : TabZ w) :
    Calls Tryz.prog 177 #[d, .int .i64 v] w (GivesDom w (L.filter fun u => decide (u ≤ v)) (chg L (L.filter fun u => decide (u ≤ v)))) := by
  obtain ⟨s, A, ws, c, e, hl, hF, hL⟩ := id h
  subst e
  have M := less_dom _ L (fMost v) _ 232 (.pointer (some ⟨w.heap.size + 1, 0, none⟩)) (boxed3 w (.cells #[.int .i64 s, .slice A ws.length c, .int .i64 (L.length : Nat)] 53) (.cells #[.int .i64 v] 3)) (h.below boxed3_below)
    (fun args w => by simp [go_sem]) (filters_most v)
    (fun W p x hW hx _ _ => (most_cut v _ W (boxed3_arg hW 0) p x hx).mono fun _ _ q => ⟨q.1, q.2 ▸ Below.refl _ _⟩) (hT.below boxed3_below)
  have HM := Lib.hid M
  generalize chg L (L.filter fun u => decide (u ≤ v)) = ch at *
  generalize (L.filter fun u => decide (u ≤ v)) = R at *
  clear M hl hF hL h
  go_enter Tryz.func177, Tryz.ntmps177
  go_wp2_with (go_at_call 185; refine (HM.out).mono ?_; rintro e w1 ⟨d', rfl, ⟨s', A', ws', c', rfl, hl', hF', hL'⟩, hb1⟩; obtain ⟨o0, o1, o2, f0, f1, f2⟩ := boxed3_out hb1; have HL' := Lib.hid hl'; have HF' := Lib.hid hF'; have HLL := Lib.hid hL'; clear hl' hF' hL')
  obtain ⟨q0, q1, q2⟩ := out_cells w1 (w.heap.size + 2) _ _ _ (.int .i64 s') (.slice A' ws'.length c') (.int .i64 (R.length : Nat)) o0 o1 o2
  exact bodyPost_ret (v := .tuple #[.agg #[.int .i64 s', .slice A' ws'.length c', .int .i64 (R.length : Nat)], .int .i64 ch]) (by simp [results, Tryz.results177, go_sem, q0, q1, q2]) rfl (ways_end hb1 HL'.out HF'.out HLL.out)

end Go.Proofs.YtkhmocbfkpbpfaaGreatDoor.D
