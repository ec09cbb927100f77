/- Contracts of the methods of a domain that only read: word, Has, Min, Max, Size. -/
import Derived.Test.YtgfhnmlakjcfaaaDoorRep
import Derived.Deep.QuietTactic
import Derived.BigQuiet
import Derived.Deep.RegionHeld3
import Derived.Deep.DeepCutAuto
import Derived.KernelRfl
import Derived.Deep.RegionWith
import Derived.IntWalk
namespace Go.Proofs.YtgfhnmlakjcfaaaDoor
open Go.RowKit

theorem cell_alloc {w : World} {p : Addr} {v : Value} (hl : p.block < w.heap.size) (hc : w.cell? p = some v) (o : Obj) : (w.alloc o).cell? p = some v :=
  (World.cell?_alloc_lt w o p hl).trans hc

theorem below1 (w : World) (o : Obj) : Below w.heap.size w (w.alloc o) := (Below.refl _ _).alloc (Nat.le_refl _) _

theorem word_in (s p : Int) (ad : Addr) (n c k : Nat) (z : Int) (x : Nat) (w : World) (hp : p = s + k) (hk : k < n) (hn : n ≤ 31251) (_hs : -15625 ≤ s) (_hs2 : s ≤ 15626) (hl : ad.block < w.heap.size)
    (hc : w.cell? (ad.add k) = some (.int .u64 (x : Nat))) :
    Calls Tryd.prog 44 #[.agg #[.int .i64 s, .slice (some ad) n c, .int .i64 z], .int .i64 p] w fun e w' => e = .returned (.int .u64 (x : Nat)) ∧ Below w.heap.size w w' := by
  subst hp
  have e1 : s + (k : Int) - s = k := by omega
  have hc' := cell_alloc (p := ad.add k) (by rw [add_block]; exact hl) hc
  go_enter Tryd.func44, Tryd.ntmps44
  go_wp2
  go_ret
  exact ⟨rfl, below1 _ _⟩

theorem word_out (s p : Int) (A : Option Addr) (n c : Nat) (z : Int) (w : World) (hp : p < s ∨ s + n ≤ p) (hn : n ≤ 31251) (hs : -15625 ≤ s) (hs2 : s ≤ 15626) (h1 : -1152921504606846976 ≤ p) (h2 : p ≤ 1152921504606846976) :
    Calls Tryd.prog 44 #[.agg #[.int .i64 s, .slice A n c, .int .i64 z], .int .i64 p] w fun e w' => e = .returned (.int .u64 0) ∧ Below w.heap.size w w' := by
  rcases hp with hp | hp
  · have d1 : decide (p - s < 0) = true := by simp; omega
    go_enter Tryd.func44, Tryd.ntmps44
    go_wp2
    go_ret
    exact ⟨rfl, below1 _ _⟩
  · have d1 : decide (p - s < 0) = false := by simp; omega
    have d2 : decide ((n : Int) ≤ p - s) = true := by simp; omega
    go_enter Tryd.func44, Tryd.ntmps44
    go_wp2
    go_ret
    exact ⟨rfl, below1 _ _⟩

theorem word_any (s p : Int) (A : Option Addr) (ws : List Nat) (c : Nat) (z : Int) (w : World) (hF : Form s ws) (hl : Lies w A ws.length (u64f ws)) (h1 : -1152921504606846976 ≤ p) (h2 : p ≤ 1152921504606846976) :
    Calls Tryd.prog 44 #[.agg #[.int .i64 s, .slice A ws.length c, .int .i64 z], .int .i64 p] w fun e w' => e = .returned (.int .u64 (wordAt s ws p : Nat)) ∧ Below w.heap.size w w' := by
  have b1 := hF.lo
  have b2 := hF.hi
  have b3 := hF.len
  unfold wordAt
  by_cases hp : p < s ∨ s + ws.length ≤ p
  · have e : (if s ≤ p then ws.getD (p - s).toNat 0 else 0) = 0 := by
      rcases hp with hp | hp
      · rw [if_neg (by omega)]
      · rw [if_pos (by omega), getD_over _ _ (by omega)]
    rw [e]
    exact word_out s p A ws.length c z w hp b3 b1 (by omega) h1 h2
  · obtain ⟨ad, rfl, hb, hc⟩ := hl (by omega)
    rw [if_pos (by omega)]
    exact word_in s p ad ws.length c (p - s).toNat z _ w (by omega) (by omega) b3 b1 (by omega) hb (hc _ (by omega))

theorem size_any (s : Int) (A : Option Addr) (n c : Nat) (z : Int) (w : World) :
    Calls Tryd.prog 13 #[.agg #[.int .i64 s, .slice A n c, .int .i64 z]] w fun e w' => e = .returned (.int .i64 z) ∧ Below w.heap.size w w' := by
  go_enter Tryd.func13, Tryd.ntmps13
  go_wp2
  go_ret
  exact ⟨rfl, below1 _ _⟩

theorem min_none (s : Int) (A : Option Addr) (n c : Nat) (w : World) :
    Calls Tryd.prog 14 #[.agg #[.int .i64 s, .slice A n c, .int .i64 0]] w fun e w' => e = .returned (.int .i64 0) ∧ Below w.heap.size w w' := by
  go_enter Tryd.func14, Tryd.ntmps14
  go_wp2
  go_ret
  exact ⟨rfl, below1 _ _⟩

theorem below_drewN {B : Nat} {a w : World} (h : Below B a w) (n : Nat) : Below B a (w.drewN n) := ⟨h.os, h.tape, h.output, h.size, h.block⟩

theorem add_zero (a : Addr) : a.add 0 = a := by simp [Addr.add]

theorem min_some (s : Int) (ad : Addr) (n c : Nat) (z : Int) (x : Nat) (w : World) (hT : Tab w) (hz : (z == 0) = false) (hn : 0 < n) (hs : -15625 ≤ s) (hs2 : s ≤ 15626) (hl : ad.block < w.heap.size)
    (hx : x < 18446744073709551616) (hx0 : x ≠ 0) (hc : w.cell? ad = some (.int .u64 (x : Nat))) :
    Calls Tryd.prog 14 #[.agg #[.int .i64 s, .slice (some ad) n c, .int .i64 z]] w fun e w' => e = .returned (.int .i64 (s * 64 + (Lib.ctz 64 x : Nat))) ∧ Below w.heap.size w w' := by
  have hc' := cell_alloc hl hc
  have L := fun o n => (lowest_any s x ((w.alloc o).drewN n) hx hx0 (hT.below (below_drewN (below1 w o) n)) (by omega) (by omega)).mono fun _ _ h => And.intro h.1 h.2.symm
  clear hx hx0 hc
  go_enter Tryd.func14, Tryd.ntmps14
  go_wp2
  go_quiet ((go_at_call 42; exact Calls.quiet_of_same (L _ _)))
  go_wp2
  go_ret
  exact ⟨rfl, below_drewN (below1 _ _) _⟩

theorem max_none (s : Int) (A : Option Addr) (n c : Nat) (w : World) :
    Calls Tryd.prog 15 #[.agg #[.int .i64 s, .slice A n c, .int .i64 0]] w fun e w' => e = .returned (.int .i64 0) ∧ Below w.heap.size w w' := by
  go_enter Tryd.func15, Tryd.ntmps15
  go_wp2
  go_ret
  exact ⟨rfl, below1 _ _⟩

theorem max_some (s : Int) (ad : Addr) (m c : Nat) (z : Int) (x : Nat) (w : World) (hz : (z == 0) = false) (hm : m ≤ 31251) (hs : -15625 ≤ s) (hs2 : s ≤ 15626) (hl : ad.block < w.heap.size)
    (hx : x < 18446744073709551616) (hx0 : x ≠ 0) (hc : w.cell? (ad.add m) = some (.int .u64 (x : Nat))) :
    Calls Tryd.prog 15 #[.agg #[.int .i64 s, .slice (some ad) (m + 1) c, .int .i64 z]] w fun e w' => e = .returned (.int .i64 ((s + m) * 64 + (Lib.bitLen x : Nat) - 1)) ∧ Below w.heap.size w w' := by
  have hc' := cell_alloc (p := ad.add m) (by rw [add_block]; exact hl) hc
  have L := fun o n => (highest_any (s + m) x ((w.alloc o).drewN n) hx hx0 (by omega) (by omega)).mono fun _ _ h => And.intro h.1 h.2.symm
  have e1 : (((m + 1 : Nat) : Int) - 1) = m := by omega
  have e2 : IntKind.i64.wrap (s + m) = s + m := IntWalk.i64_in _ (by omega)
  have e3 : ((m : Nat) : Int) < ((m + 1 : Nat) : Int) := by omega
  clear hx hx0 hc
  go_enter Tryd.func15, Tryd.ntmps15
  go_wp2
  go_quiet ((go_at_call 43; exact Calls.quiet_of_same (L _ _)))
  go_wp2
  go_ret
  exact ⟨rfl, below_drewN (below1 _ _) _⟩

theorem has_core (s v : Int) (A : Option Addr) (n c : Nat) (z : Int) (x : Nat) (b : Bool) (w : World)
    (hW : ∀ W, Below w.heap.size w W → Calls Tryd.prog 44 #[.agg #[.int .i64 s, .slice A n c, .int .i64 z], .int .i64 (v / 64)] W fun e w' => e = .returned (.int .u64 (x : Nat)) ∧ Below W.heap.size W w')
    (hb : (bits .and .u64 (x : Int) (bitN v : Nat) != 0) = b) :
    Calls Tryd.prog 16 #[.agg #[.int .i64 s, .slice A n c, .int .i64 z], .int .i64 v] w fun e w' => e = .returned (.bool b) ∧ Below w.heap.size w w' := by
  have HW := Lib.hid hW
  clear hW
  go_enter Tryd.func16, Tryd.ntmps16
  go_wp2
  go_region_held3 (fun w' => Below w.heap.size w w' ∧ w'.cell? ⟨w.heap.size, 0, none⟩ = some (.int .i64 s) ∧ w'.cell? ⟨w.heap.size, 1, none⟩ = some (.slice A n c) ∧ w'.cell? ⟨w.heap.size, 2, none⟩ = some (.int .i64 z)) (first | exact ⟨below1 _ _, by simp, by simp, by simp⟩ | exact ⟨(below1 _ _).drew, by simp, by simp, by simp⟩ | assumption)
    (first | (go_at_call 34; refine (place_any _ _).mono ?_; rintro e w' ⟨rfl, rfl⟩) | (go_at_call 44; refine (HW.out _ (by first | exact (below1 _ _).drew | exact below1 _ _)).mono ?_; rintro e w1 ⟨rfl, hb1⟩; have hS : Below w.heap.size w w1 ∧ w1.cell? ⟨w.heap.size, 0, none⟩ = some (.int .i64 s) ∧ w1.cell? ⟨w.heap.size, 1, none⟩ = some (.slice A n c) ∧ w1.cell? ⟨w.heap.size, 2, none⟩ = some (.int .i64 z) := ⟨(below1 _ _).drew.trans (hb1.mono (by simp)), by rw [hb1.cell (by simp)]; simp, by rw [hb1.cell (by simp)]; simp, by rw [hb1.cell (by simp)]; simp⟩) | (go_at_call 35; refine (bit_any _ _).mono ?_; rintro e w' ⟨rfl, rfl⟩))
  go_wp2
  go_ret
  exact ⟨rfl, hS.1⟩

theorem has_dom (d : Value) (L : List Int) (v : Int) (w : World) (h : IsDom w d L) (h1 : -9223372036854775808 ≤ v) (h2 : v ≤ 9223372036854775807) :
    Calls Tryd.prog 16 #[d, .int .i64 v] w fun e w' => e = .returned (.bool (decide (v ∈ L))) ∧ Below w.heap.size w w' := by
  obtain ⟨s, A, ws, c, rfl, hl, hF, rfl⟩ := h
  refine has_core s v A ws.length c _ (wordAt s ws (v / 64)) _ w (fun W hW => word_any s (v / 64) A ws c _ W hF (hl.below hW) (by omega) (by omega)) ?_
  rw [u64_and_nat _ _ (wordAt_lt hF _) (bitN_lt v)]
  have m := mem_listOf ws s v
  rw [hasB_word] at m
  have a := and_bit (wordAt s ws (v / 64)) v
  by_cases hm : v ∈ listOf s ws
  · have hb := m.1 hm
    have : ¬ (wordAt s ws (v / 64) &&& bitN v = 0) := fun e => by rw [a.1 e] at hb; cases hb
    simp only [hm, decide_true, bne_iff_ne, ne_eq]
    omega
  · have hb : (wordAt s ws (v / 64)).testBit (v % 64).toNat = false := by
      cases hh : (wordAt s ws (v / 64)).testBit (v % 64).toNat with
      | false => rfl
      | true => exact absurd (m.2 hh) hm
    rw [a.2 hb]
    simp [hm]

theorem size_dom (d : Value) (L : List Int) (w : World) (h : IsDom w d L) :
    Calls Tryd.prog 13 #[d] w fun e w' => e = .returned (.int .i64 (L.length : Nat)) ∧ Below w.heap.size w w' := by
  obtain ⟨s, A, ws, c, rfl, hl, hF, rfl⟩ := h
  exact size_any s A ws.length c _ w

theorem pos_of_form {s : Int} {ws : List Nat} (hF : Form s ws) (h : listOf s ws ≠ []) : 0 < ws.length := by
  apply Nat.pos_of_ne_zero
  intro e
  have := (len_zero_iff hF).2 e
  exact h (List.eq_nil_of_length_eq_zero this)

theorem min_dom (d : Value) (L : List Int) (w : World) (h : IsDom w d L) (hT : Tab w) :
    Calls Tryd.prog 14 #[d] w fun e w' => e = .returned (.int .i64 (L.head?.getD 0)) ∧ Below w.heap.size w w' := by
  obtain ⟨s, A, ws, c, rfl, hl, hF, rfl⟩ := h
  by_cases hn : listOf s ws = []
  · rw [hn]
    exact min_none s A ws.length c w
  · have hp := pos_of_form hF hn
    have hz : (((listOf s ws).length : Nat) : Int) ≠ 0 := by
      intro e
      exact hn (List.eq_nil_of_length_eq_zero (by omega))
    rw [min_listOf hF hp]
    obtain ⟨ad, rfl, hb, hc⟩ := hl hp
    have hc0 := hc 0 hp
    rw [add_zero] at hc0
    have := hF.lo
    have := hF.hi
    exact min_some s ad ws.length c _ _ w hT (by simpa using hz) hp (by omega) (by omega) hb (hF.words 0) (hF.first hp) hc0

theorem max_dom (d : Value) (L : List Int) (w : World) (h : IsDom w d L) :
    Calls Tryd.prog 15 #[d] w fun e w' => e = .returned (.int .i64 (L.getLast?.getD 0)) ∧ Below w.heap.size w w' := by
  obtain ⟨s, A, ws, c, rfl, hl, hF, rfl⟩ := h
  by_cases hn : listOf s ws = []
  · rw [hn]
    exact max_none s A ws.length c w
  · have hp := pos_of_form hF hn
    have hz : (((listOf s ws).length : Nat) : Int) ≠ 0 := by
      intro e
      exact hn (List.eq_nil_of_length_eq_zero (by omega))
    rw [max_listOf hF hp]
    obtain ⟨ad, rfl, hb, hc⟩ := hl hp
    have := hF.lo
    have := hF.hi
    have M := max_some s ad (ws.length - 1) c ((listOf s ws).length : Nat) (ws.getD (ws.length - 1) 0) w (by simpa using hz) (by omega) (by omega) (by omega) hb (hF.words _) (hF.last hp) (hc _ (by omega))
    rw [show ws.length - 1 + 1 = ws.length by omega] at M
    exact M

end Go.Proofs.YtgfhnmlakjcfaaaDoor
