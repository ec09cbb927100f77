/- Contracts of the ways in which a domain is made less: Without, Only, AtLeast, AtMost, And, Minus. -/
import Derived.Test.YtegiaonlneamfaaDoorLess
namespace Go.Proofs.YtegiaonlneamfaaDoor
open Go.RowKit

def fWithout (v p : Int) (x : Nat) : Nat := if p = v / 64 then x &&& (18446744073709551615 - bitN v) else x
def fOnly (v p : Int) (x : Nat) : Nat := if p = v / 64 then x &&& bitN v else 0
def fLeast (v p : Int) (x : Nat) : Nat := if p < v / 64 then 0 else if v / 64 < p then x else x &&& upN v
def fMost (v p : Int) (x : Nat) : Nat := if v / 64 < p then 0 else if p < v / 64 then x else x &&& downN v
def fAnd (s : Int) (ws : List Nat) (p : Int) (x : Nat) : Nat := x &&& wordAt s ws p
def fMinus (s : Int) (ws : List Nat) (p : Int) (x : Nat) : Nat := x &&& (18446744073709551615 - wordAt s ws p)

theorem not_bit (b j : Nat) (hb : b < 18446744073709551616) (hj : j < 64) : (18446744073709551615 - b).testBit j = !b.testBit j := by
  have := Nat.testBit_two_pow_sub_succ (n := 64) hb j
  rw [show (2 : Nat) ^ 64 - (b + 1) = 18446744073709551615 - b by omega] at this
  rw [this]
  simp [hj]

theorem and_lt (x y : Nat) (hx : x < 18446744073709551616) : x &&& y < 18446744073709551616 := Nat.lt_of_le_of_lt Nat.and_le_left hx

theorem filters_without (v : Int) : Filters (fWithout v) (fun u => decide (u ≠ v)) := by
  refine ⟨fun pl x hx => ?_, fun pl x j hx hj => ?_⟩
  · unfold fWithout; split
    · exact and_lt _ _ hx
    · exact hx
  · unfold fWithout; split
    · rename_i e
      rw [Nat.testBit_and, not_bit _ _ (bitN_lt v) hj, bitN_bit]
      congr 1
      by_cases h : (v % 64).toNat = j
      · simp [h]; omega
      · simp [h]; omega
    · have : pl * 64 + (j : Int) ≠ v := by omega
      simp [this]

theorem filters_only (v : Int) : Filters (fOnly v) (fun u => decide (u = v)) := by
  refine ⟨fun pl x hx => ?_, fun pl x j hx hj => ?_⟩
  · unfold fOnly; split
    · exact and_lt _ _ hx
    · decide
  · unfold fOnly; split
    · rename_i e
      rw [Nat.testBit_and, bitN_bit]
      congr 1
      by_cases h : (v % 64).toNat = j
      · simp [h]; omega
      · simp [h]; omega
    · have : ¬ pl * 64 + (j : Int) = v := by omega
      simp [this]

theorem filters_least (v : Int) : Filters (fLeast v) (fun u => decide (v ≤ u)) := by
  refine ⟨fun pl x hx => ?_, fun pl x j hx hj => ?_⟩
  · unfold fLeast; split
    · decide
    · split
      · exact hx
      · exact and_lt _ _ hx
  · unfold fLeast; split
    · have : ¬ v ≤ pl * 64 + (j : Int) := by omega
      simp [this]
    · split
      · have : v ≤ pl * 64 + (j : Int) := by omega
        simp [this]
      · rw [Nat.testBit_and, upN_bit]
        congr 1
        simp only [hj, decide_true, Bool.true_and]
        congr 1
        rw [eq_iff_iff]; omega

theorem filters_most (v : Int) : Filters (fMost v) (fun u => decide (u ≤ v)) := by
  refine ⟨fun pl x hx => ?_, fun pl x j hx hj => ?_⟩
  · unfold fMost; split
    · decide
    · split
      · exact hx
      · exact and_lt _ _ hx
  · unfold fMost; split
    · have : ¬ pl * 64 + (j : Int) ≤ v := by omega
      simp [this]
    · split
      · have : pl * 64 + (j : Int) ≤ v := by omega
        simp [this]
      · rw [Nat.testBit_and, downN_bit]
        congr 1
        congr 1
        rw [eq_iff_iff]; omega

theorem filters_and (s : Int) (ws : List Nat) : Filters (fAnd s ws) (fun u => decide (u ∈ listOf s ws)) := by
  refine ⟨fun pl x hx => and_lt _ _ hx, fun pl x j hx hj => ?_⟩
  unfold fAnd
  rw [Nat.testBit_and]
  congr 1
  rw [Bool.eq_iff_iff, word_bit _ j hj]
  simp

theorem filters_minus (s : Int) (ws : List Nat) (hF : Form s ws) : Filters (fMinus s ws) (fun u => decide (u ∉ listOf s ws)) := by
  refine ⟨fun pl x hx => and_lt _ _ hx, fun pl x j hx hj => ?_⟩
  unfold fMinus
  rw [Nat.testBit_and, not_bit _ _ (wordAt_lt hF pl) hj]
  congr 1
  rw [Bool.eq_iff_iff, Bool.not_eq_true', ← Bool.not_eq_true, word_bit _ j hj]
  simp

/-! ### The closures -/
theorem and_cut (s z : Int) (A : Option Addr) (ws : List Nat) (c b : Nat) (w : World) (hF : Form s ws) (hl : Lies w A ws.length (u64f ws)) (h0 : w.cell? ⟨b, 0, none⟩ = some (.int .i64 s)) (h1 : w.cell? ⟨b, 1, none⟩ = some (.slice A ws.length c)) (h2 : w.cell? ⟨b, 2, none⟩ = some (.int .i64 z))
    (p : Int) (x : Nat) (hx : x < 18446744073709551616) (hp : -100000 ≤ p) (hp2 : p ≤ 100000) :
    Calls Tryd.prog 52 #[.int .i64 p, .int .u64 (x : Nat), .pointer (some ⟨b, 0, none⟩)] w fun e w' => e = .returned (.int .u64 (fAnd s ws p x : Nat)) ∧ Below w.heap.size w w' := by
  have e := u64_and_nat x (wordAt s ws p) hx (wordAt_lt hF p)
  have Wd := word_any s p A ws c z w hF hl (by omega) (by omega)
  unfold fAnd
  clear hx hF hl
  go_enter Tryd.func52, Tryd.ntmps52
  go_wp2_with (first | (go_at_call 48; with_reducible refine Wd.mono ?_; rintro e w1 ⟨rfl, hb1⟩))
  go_ret
  exact ⟨rfl, hb1⟩

theorem minus_cut (s z : Int) (A : Option Addr) (ws : List Nat) (c b : Nat) (w : World) (hF : Form s ws) (hl : Lies w A ws.length (u64f ws)) (h0 : w.cell? ⟨b, 0, none⟩ = some (.int .i64 s)) (h1 : w.cell? ⟨b, 1, none⟩ = some (.slice A ws.length c)) (h2 : w.cell? ⟨b, 2, none⟩ = some (.int .i64 z))
    (p : Int) (x : Nat) (hx : x < 18446744073709551616) (hp : -100000 ≤ p) (hp2 : p ≤ 100000) :
    Calls Tryd.prog 47 #[.int .i64 p, .int .u64 (x : Nat), .pointer (some ⟨b, 0, none⟩)] w fun e w' => e = .returned (.int .u64 (fMinus s ws p x : Nat)) ∧ Below w.heap.size w w' := by
  have e := u64_andNot_nat x (wordAt s ws p) hx (wordAt_lt hF p)
  have Wd := word_any s p A ws c z w hF hl (by omega) (by omega)
  unfold fMinus
  clear hx hF hl
  go_enter Tryd.func47, Tryd.ntmps47
  go_wp2_with (first | (go_at_call 48; with_reducible refine Wd.mono ?_; rintro e w1 ⟨rfl, hb1⟩))
  go_ret
  exact ⟨rfl, hb1⟩
end Go.Proofs.YtegiaonlneamfaaDoor

/- Contracts of Without, Only, AtLeast, AtMost, And, Minus over a domain's rising list. -/
namespace Go.Proofs.YtegiaonlneamfaaDoor
open Go.RowKit

/-- The world in which a way calls less: its domain, its argument and its result are boxed. -/
def boxed3 (w : World) (o p : Obj) : World := ((w.alloc o).alloc p).alloc (.cells #[.int .i64 0, .slice none 0 0, .int .i64 0] 48)

section
variable {w W : World} {o p : Obj}
theorem boxed3_size : (boxed3 w o p).heap.size = w.heap.size + 3 := by simp [boxed3]
theorem boxed3_below : Below w.heap.size w (boxed3 w o p) := (below2 w o p).alloc (by simp; omega) _
theorem boxed3_of (h : Below (boxed3 w o p).heap.size (boxed3 w o p) W) : Below w.heap.size w W := boxed3_below.trans (h.mono (by rw [boxed3_size]; omega))
theorem boxed3_heap (h : Below (boxed3 w o p).heap.size (boxed3 w o p) W) : W.heap[w.heap.size + 2]? = some (.cells #[.int .i64 0, .slice none 0 0, .int .i64 0] 48 (0, 0)) := by
  rw [h.block _ (by rw [boxed3_size]; omega)]
  have := heap_alloc_new ((w.alloc o).alloc p) (.cells #[.int .i64 0, .slice none 0 0, .int .i64 0] 48)
  rw [show ((w.alloc o).alloc p).heap.size = w.heap.size + 2 by simp] at this
  exact this
theorem boxed3_out (h : Below (boxed3 w o p).heap.size (boxed3 w o p) W) :
    W.cell? ⟨w.heap.size + 2, 0, none⟩ = some (.int .i64 0) ∧ W.cell? ⟨w.heap.size + 2, 1, none⟩ = some (.slice none 0 0) ∧ W.cell? ⟨w.heap.size + 2, 2, none⟩ = some (.int .i64 0) ∧
      W.frozen? ⟨w.heap.size + 2, 0, none⟩ = false ∧ W.frozen? ⟨w.heap.size + 2, 1, none⟩ = false ∧ W.frozen? ⟨w.heap.size + 2, 2, none⟩ = false := by
  have hh := boxed3_heap h
  refine ⟨?_, ?_, ?_, ?_, ?_, ?_⟩ <;> simp [World.cell?, World.frozen?, hh]
end

theorem boxed3_arg {w W : World} {o : Obj} {cs : Array Value} {t : TypeId} (h : Below (boxed3 w o (.cells cs t)).heap.size (boxed3 w o (.cells cs t)) W) (i : Nat) : W.cell? ⟨w.heap.size + 1, i, none⟩ = cs[i]? := by
  rw [h.cell (by rw [boxed3_size]; simp)]
  unfold boxed3
  rw [World.cell?_alloc_lt _ _ _ (by simp)]
  have := heap_alloc_new (w.alloc o) (.cells cs t)
  rw [show (w.alloc o).heap.size = w.heap.size + 1 by simp] at this
  exact cell_of_row _ _ _ _ _ _ this

theorem far_of_box {W : World} {g x : Nat} {ad : Addr} (hg : W.heap[g]? = some (.cells #[.int .i64 0, .slice none 0 0, .int .i64 0] 48 (0, 0))) (h : W.cell? ad = some (.int .u64 (x : Nat))) : ad.block ≠ g := by
  intro e
  unfold World.cell? at h
  rw [e, hg] at h
  simp only at h
  split at h
  · cases h
  · rcases ho : ad.off with _ | _ | _ | n <;> rw [ho] at h <;> simp at h

/-- A domain stays one, when a block is written that holds none of its words. -/
theorem IsDom.stored {W : World} {R : List Int} {s' z : Int} {A : Option Addr} {ws : List Nat} {c g : Nat} (hl : Lies W A ws.length (u64f ws)) (hz : z = (R.length : Nat)) (hF : Form s' ws) (hL : listOf s' ws = R) (hg : ∀ ad, A = some ad → 0 < ws.length → ad.block ≠ g) (v0 v1 v2 : Value) :
    IsDom (((W.setCell ⟨g, 0, none⟩ v0).setCell ⟨g, 1, none⟩ v1).setCell ⟨g, 2, none⟩ v2) (.agg #[.int .i64 s', .slice A ws.length c, .int .i64 z]) R := by
  refine ⟨s', A, ws, c, by rw [hz], fun hp => ?_, hF, hL⟩
  obtain ⟨ad, e, hb, hc⟩ := hl hp
  refine ⟨ad, e, by simpa [World.setCell] using hb, fun j hj => ?_⟩
  have hne := hg ad e hp
  rw [World.cell?_setCell_other _ _ _ _ (fun q => hne (by have := congrArg Addr.block q; rw [add_block] at this; exact this.symm)), World.cell?_setCell_other _ _ _ _ (fun q => hne (by have := congrArg Addr.block q; rw [add_block] at this; exact this.symm)), World.cell?_setCell_other _ _ _ _ (fun q => hne (by have := congrArg Addr.block q; rw [add_block] at this; exact this.symm))]
  exact hc j hj

/-- What a way returns, out of what less returned. -/
theorem ways_end {w w1 : World} {o p : Obj} {R : List Int} {ch s' : Int} {A : Option Addr} {ws : List Nat} {c : Nat} (hb : Below (boxed3 w o p).heap.size (boxed3 w o p) w1) (hl : Lies w1 A ws.length (u64f ws)) (hF : Form s' ws) (hL : listOf s' ws = R) :
    GivesDom w R ch (.returned (.tuple #[.agg #[.int .i64 s', .slice A ws.length c, .int .i64 (R.length : Nat)], .int .i64 ch]))
      (((w1.setCell ⟨w.heap.size + 2, 0, none⟩ (.int .i64 s')).setCell ⟨w.heap.size + 2, 1, none⟩ (.slice A ws.length c)).setCell ⟨w.heap.size + 2, 2, none⟩ (.int .i64 (R.length : Nat))) := by
  refine ⟨_, rfl, IsDom.stored hl rfl hF hL (fun ad e hp => ?_) _ _ _, out_below (boxed3_of hb) _ (by omega) _ _ _⟩
  obtain ⟨ad', e', _, hc⟩ := hl hp
  have : ad' = ad := by rw [e'] at e; exact Option.some.inj e
  subst this
  have := far_of_box (boxed3_heap hb) (hc 0 hp)
  rwa [add_block] at this

set_option maxHeartbeats 1000000 in
theorem and_dom (d e : Value) (L M : List Int) (w : World) (h : IsDom w d L) (he : IsDom w e M) (hT : Tab w) :
    Calls Tryd.prog 42 #[d, e] w (GivesDom w (L.filter fun u => decide (u ∈ M)) (chg L (L.filter fun u => decide (u ∈ M)))) := by
  obtain ⟨s, A, ws, c, q, hl, hF, hL⟩ := id h
  subst q
  obtain ⟨s2, A2, ws2, c2, q, hl2, hF2, hL2⟩ := id he
  subst q
  have K := less_dom _ L (fAnd s2 ws2) _ 52 (.pointer (some ⟨w.heap.size + 1, 0, none⟩)) (boxed3 w (.cells #[.int .i64 s, .slice A ws.length c, .int .i64 (L.length : Nat)] 48) (.cells #[.int .i64 s2, .slice A2 ws2.length c2, .int .i64 (M.length : Nat)] 48)) (h.below boxed3_below)
    (fun args w => by simp [go_sem]) (filters_and s2 ws2)
    (fun W p x hW hx a b => and_cut s2 _ A2 ws2 c2 _ W hF2 (hl2.below (boxed3_of hW)) (boxed3_arg hW 0) (boxed3_arg hW 1) (boxed3_arg hW 2) p x hx a b) (hT.below boxed3_below)
  rw [hL2] at K
  have HM := Lib.hid K
  generalize chg L (L.filter fun u => decide (u ∈ M)) = ch at *
  generalize (L.filter fun u => decide (u ∈ M)) = R at *
  clear K hl hF hL h hl2 hF2 hL2 he
  go_enter Tryd.func42, Tryd.ntmps42
  go_wp2_with (go_at_call 46; refine (HM.out).mono ?_; rintro e w1 ⟨d', rfl, ⟨s', A', ws', c', rfl, hl', hF', hL'⟩, hb1⟩; obtain ⟨o0, o1, o2, f0, f1, f2⟩ := boxed3_out hb1; have HL' := Lib.hid hl'; have HF' := Lib.hid hF'; have HLL := Lib.hid hL'; clear hl' hF' hL')
  obtain ⟨q0, q1, q2⟩ := out_cells w1 (w.heap.size + 2) _ _ _ (.int .i64 s') (.slice A' ws'.length c') (.int .i64 (R.length : Nat)) o0 o1 o2
  exact bodyPost_ret (v := .tuple #[.agg #[.int .i64 s', .slice A' ws'.length c', .int .i64 (R.length : Nat)], .int .i64 ch]) (by simp [results, Tryd.results42, go_sem, q0, q1, q2]) rfl (ways_end hb1 HL'.out HF'.out HLL.out)

set_option maxHeartbeats 1000000 in
theorem minus_dom (d e : Value) (L M : List Int) (w : World) (h : IsDom w d L) (he : IsDom w e M) (hT : Tab w) :
    Calls Tryd.prog 27 #[d, e] w (GivesDom w (L.filter fun u => decide (u ∉ M)) (chg L (L.filter fun u => decide (u ∉ M)))) := by
  obtain ⟨s, A, ws, c, q, hl, hF, hL⟩ := id h
  subst q
  obtain ⟨s2, A2, ws2, c2, q, hl2, hF2, hL2⟩ := id he
  subst q
  have K := less_dom _ L (fMinus s2 ws2) _ 47 (.pointer (some ⟨w.heap.size + 1, 0, none⟩)) (boxed3 w (.cells #[.int .i64 s, .slice A ws.length c, .int .i64 (L.length : Nat)] 48) (.cells #[.int .i64 s2, .slice A2 ws2.length c2, .int .i64 (M.length : Nat)] 48)) (h.below boxed3_below)
    (fun args w => by simp [go_sem]) (filters_minus s2 ws2 hF2)
    (fun W p x hW hx a b => minus_cut s2 _ A2 ws2 c2 _ W hF2 (hl2.below (boxed3_of hW)) (boxed3_arg hW 0) (boxed3_arg hW 1) (boxed3_arg hW 2) p x hx a b) (hT.below boxed3_below)
  rw [hL2] at K
  have HM := Lib.hid K
  generalize chg L (L.filter fun u => decide (u ∉ M)) = ch at *
  generalize (L.filter fun u => decide (u ∉ M)) = R at *
  clear K hl hF hL h hl2 hF2 hL2 he
  go_enter Tryd.func27, Tryd.ntmps27
  go_wp2_with (go_at_call 46; refine (HM.out).mono ?_; rintro e w1 ⟨d', rfl, ⟨s', A', ws', c', rfl, hl', hF', hL'⟩, hb1⟩; obtain ⟨o0, o1, o2, f0, f1, f2⟩ := boxed3_out hb1; have HL' := Lib.hid hl'; have HF' := Lib.hid hF'; have HLL := Lib.hid hL'; clear hl' hF' hL')
  obtain ⟨q0, q1, q2⟩ := out_cells w1 (w.heap.size + 2) _ _ _ (.int .i64 s') (.slice A' ws'.length c') (.int .i64 (R.length : Nat)) o0 o1 o2
  exact bodyPost_ret (v := .tuple #[.agg #[.int .i64 s', .slice A' ws'.length c', .int .i64 (R.length : Nat)], .int .i64 ch]) (by simp [results, Tryd.results27, go_sem, q0, q1, q2]) rfl (ways_end hb1 HL'.out HF'.out HLL.out)
end Go.Proofs.YtegiaonlneamfaaDoor
