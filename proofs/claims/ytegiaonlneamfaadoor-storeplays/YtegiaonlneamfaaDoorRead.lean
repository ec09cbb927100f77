/- Contracts of the methods of a domain that only read: word, Has, Min, Max, Size. -/
import Derived.Test.YtegiaonlneamfaaDoorRep
import Derived.Deep.QuietTactic
import Derived.BigQuiet
import Derived.Deep.RegionHeld3
import Derived.Deep.DeepCutAuto
import Derived.KernelRfl
import Derived.Deep.RegionWith
import Derived.IntWalk
namespace Go.Proofs.YtegiaonlneamfaaDoor
open Go.RowKit

theorem cell_alloc {w : World} {p : Addr} {v : Value} (hl : p.block < w.heap.size) (hc : w.cell? p = some v) (o : Obj) : (w.alloc o).cell? p = some v :=
  (World.cell?_alloc_lt w o p hl).trans hc

theorem below1 (w : World) (o : Obj) : Below w.heap.size w (w.alloc o) := (Below.refl _ _).alloc (Nat.le_refl _) _

theorem word_in (s p : Int) (ad : Addr) (n c k : Nat) (z : Int) (x : Nat) (w : World) (hp : p = s + k) (hk : k < n) (hn : n ≤ 31251) (_hs : -15625 ≤ s) (_hs2 : s ≤ 15626) (hl : ad.block < w.heap.size)
    (hc : w.cell? (ad.add k) = some (.int .u64 (x : Nat))) :
    Calls Tryd.prog 48 #[.agg #[.int .i64 s, .slice (some ad) n c, .int .i64 z], .int .i64 p] w fun e w' => e = .returned (.int .u64 (x : Nat)) ∧ Below w.heap.size w w' := by
  subst hp
  have e1 : s + (k : Int) - s = k := by omega
  have hc' := cell_alloc (p := ad.add k) (by rw [add_block]; exact hl) hc
  go_enter Tryd.func48, Tryd.ntmps48
  go_wp2
  go_ret
  exact ⟨rfl, below1 _ _⟩

theorem word_out (s p : Int) (A : Option Addr) (n c : Nat) (z : Int) (w : World) (hp : p < s ∨ s + n ≤ p) (hn : n ≤ 31251) (hs : -15625 ≤ s) (hs2 : s ≤ 15626) (h1 : -1152921504606846976 ≤ p) (h2 : p ≤ 1152921504606846976) :
    Calls Tryd.prog 48 #[.agg #[.int .i64 s, .slice A n c, .int .i64 z], .int .i64 p] w fun e w' => e = .returned (.int .u64 0) ∧ Below w.heap.size w w' := by
  rcases hp with hp | hp
  · have d1 : decide (p - s < 0) = true := by simp; omega
    go_enter Tryd.func48, Tryd.ntmps48
    go_wp2
    go_ret
    exact ⟨rfl, below1 _ _⟩
  · have d1 : decide (p - s < 0) = false := by simp; omega
    have d2 : decide ((n : Int) ≤ p - s) = true := by simp; omega
    go_enter Tryd.func48, Tryd.ntmps48
    go_wp2
    go_ret
    exact ⟨rfl, below1 _ _⟩

theorem word_any (s p : Int) (A : Option Addr) (ws : List Nat) (c : Nat) (z : Int) (w : World) (hF : Form s ws) (hl : Lies w A ws.length (u64f ws)) (h1 : -1152921504606846976 ≤ p) (h2 : p ≤ 1152921504606846976) :
    Calls Tryd.prog 48 #[.agg #[.int .i64 s, .slice A ws.length c, .int .i64 z], .int .i64 p] w fun e w' => e = .returned (.int .u64 (wordAt s ws p : Nat)) ∧ Below w.heap.size w w' := by
  have b1 := hF.lo
  have b2 := hF.hi
  have b3 := hF.len
  unfold wordAt
  by_cases hp : p < s ∨ s + ws.length ≤ p
  · have e : (if s ≤ p then ws.getD (p - s).toNat 0 else 0) = 0 := by
      rcases hp with hp | hp
      · rw [if_neg (by omega)]
      · rw [if_pos (by omega), getD_over _ _ (by omega)]
    rw [e]
    exact word_out s p A ws.length c z w hp b3 b1 (by omega) h1 h2
  · obtain ⟨ad, rfl, hb, hc⟩ := hl (by omega)
    rw [if_pos (by omega)]
    exact word_in s p ad ws.length c (p - s).toNat z _ w (by omega) (by omega) b3 b1 (by omega) hb (hc _ (by omega))

theorem size_any (s : Int) (A : Option Addr) (n c : Nat) (z : Int) (w : World) :
    Calls Tryd.prog 24 #[.agg #[.int .i64 s, .slice A n c, .int .i64 z]] w fun e w' => e = .returned (.int .i64 z) ∧ Below w.heap.size w w' := by
  go_enter Tryd.func24, Tryd.ntmps24
  go_wp2
  go_ret
  exact ⟨rfl, below1 _ _⟩

theorem min_none (s : Int) (A : Option Addr) (n c : Nat) (w : World) :
    Calls Tryd.prog 50 #[.agg #[.int .i64 s, .slice A n c, .int .i64 0]] w fun e w' => e = .returned (.int .i64 0) ∧ Below w.heap.size w w' := by
  go_enter Tryd.func50, Tryd.ntmps50
  go_wp2
  go_ret
  exact ⟨rfl, below1 _ _⟩

theorem below_drewN {B : Nat} {a w : World} (h : Below B a w) (n : Nat) : Below B a (w.drewN n) := ⟨h.os, h.tape, h.output, h.size, h.block⟩

theorem add_zero (a : Addr) : a.add 0 = a := by simp [Addr.add]

theorem min_some (s : Int) (ad : Addr) (n c : Nat) (z : Int) (x : Nat) (w : World) (hT : Tab w) (hz : (z == 0) = false) (hn : 0 < n) (hs : -15625 ≤ s) (hs2 : s ≤ 15626) (hl : ad.block < w.heap.size)
    (hx : x < 18446744073709551616) (hx0 : x ≠ 0) (hc : w.cell? ad = some (.int .u64 (x : Nat))) :
    Calls Tryd.prog 50 #[.agg #[.int .i64 s, .slice (some ad) n c, .int .i64 z]] w fun e w' => e = .returned (.int .i64 (s * 64 + (Lib.ctz 64 x : Nat))) ∧ Below w.heap.size w w' := by
  have hc' := cell_alloc hl hc
  have L := fun o n => (lowest_any s x ((w.alloc o).drewN n) hx hx0 (hT.below (below_drewN (below1 w o) n)) (by omega) (by omega)).mono fun _ _ h => And.intro h.1 h.2.symm
  clear hx hx0 hc
  go_enter Tryd.func50, Tryd.ntmps50
  go_wp2
  go_quiet ((go_at_call 54; exact Calls.quiet_of_same (L _ _)))
  go_wp2
  go_ret
  exact ⟨rfl, below_drewN (below1 _ _) _⟩

theorem max_none (s : Int) (A : Option Addr) (n c : Nat) (w : World) :
    Calls Tryd.prog 57 #[.agg #[.int .i64 s, .slice A n c, .int .i64 0]] w fun e w' => e = .returned (.int .i64 0) ∧ Below w.heap.size w w' := by
  go_enter Tryd.func57, Tryd.ntmps57
  go_wp2
  go_ret
  exact ⟨rfl, below1 _ _⟩

theorem max_some (s : Int) (ad : Addr) (m c : Nat) (z : Int) (x : Nat) (w : World) (hz : (z == 0) = false) (hm : m ≤ 31251) (hs : -15625 ≤ s) (hs2 : s ≤ 15626) (hl : ad.block < w.heap.size)
    (hx : x < 18446744073709551616) (hx0 : x ≠ 0) (hc : w.cell? (ad.add m) = some (.int .u64 (x : Nat))) :
    Calls Tryd.prog 57 #[.agg #[.int .i64 s, .slice (some ad) (m + 1) c, .int .i64 z]] w fun e w' => e = .returned (.int .i64 ((s + m) * 64 + (Lib.bitLen x : Nat) - 1)) ∧ Below w.heap.size w w' := by
  have hc' := cell_alloc (p := ad.add m) (by rw [add_block]; exact hl) hc
  have L := fun o n => (highest_any (s + m) x ((w.alloc o).drewN n) hx hx0 (by omega) (by omega)).mono fun _ _ h => And.intro h.1 h.2.symm
  have e1 : (((m + 1 : Nat) : Int) - 1) = m := by omega
  have e2 : IntKind.i64.wrap (s + m) = s + m := IntWalk.i64_in _ (by omega)
  have e3 : ((m : Nat) : Int) < ((m + 1 : Nat) : Int) := by omega
  clear hx hx0 hc
  go_enter Tryd.func57, Tryd.ntmps57
  go_wp2
  go_quiet ((go_at_call 58; exact Calls.quiet_of_same (L _ _)))
  go_wp2
  go_ret
  exact ⟨rfl, below_drewN (below1 _ _) _⟩

theorem size_dom (d : Value) (L : List Int) (w : World) (h : IsDom w d L) :
    Calls Tryd.prog 24 #[d] w fun e w' => e = .returned (.int .i64 (L.length : Nat)) ∧ Below w.heap.size w w' := by
  obtain ⟨s, A, ws, c, rfl, hl, hF, rfl⟩ := h
  exact size_any s A ws.length c _ w

theorem pos_of_form {s : Int} {ws : List Nat} (hF : Form s ws) (h : listOf s ws ≠ []) : 0 < ws.length := by
  apply Nat.pos_of_ne_zero
  intro e
  have := (len_zero_iff hF).2 e
  exact h (List.eq_nil_of_length_eq_zero this)

theorem min_dom (d : Value) (L : List Int) (w : World) (h : IsDom w d L) (hT : Tab w) :
    Calls Tryd.prog 50 #[d] w fun e w' => e = .returned (.int .i64 (L.head?.getD 0)) ∧ Below w.heap.size w w' := by
  obtain ⟨s, A, ws, c, rfl, hl, hF, rfl⟩ := h
  by_cases hn : listOf s ws = []
  · rw [hn]
    exact min_none s A ws.length c w
  · have hp := pos_of_form hF hn
    have hz : (((listOf s ws).length : Nat) : Int) ≠ 0 := by
      intro e
      exact hn (List.eq_nil_of_length_eq_zero (by omega))
    rw [min_listOf hF hp]
    obtain ⟨ad, rfl, hb, hc⟩ := hl hp
    have hc0 := hc 0 hp
    rw [add_zero] at hc0
    have := hF.lo
    have := hF.hi
    exact min_some s ad ws.length c _ _ w hT (by simpa using hz) hp (by omega) (by omega) hb (hF.words 0) (hF.first hp) hc0

theorem max_dom (d : Value) (L : List Int) (w : World) (h : IsDom w d L) :
    Calls Tryd.prog 57 #[d] w fun e w' => e = .returned (.int .i64 (L.getLast?.getD 0)) ∧ Below w.heap.size w w' := by
  obtain ⟨s, A, ws, c, rfl, hl, hF, rfl⟩ := h
  by_cases hn : listOf s ws = []
  · rw [hn]
    exact max_none s A ws.length c w
  · have hp := pos_of_form hF hn
    have hz : (((listOf s ws).length : Nat) : Int) ≠ 0 := by
      intro e
      exact hn (List.eq_nil_of_length_eq_zero (by omega))
    rw [max_listOf hF hp]
    obtain ⟨ad, rfl, hb, hc⟩ := hl hp
    have := hF.lo
    have := hF.hi
    have M := max_some s ad (ws.length - 1) c ((listOf s ws).length : Nat) (ws.getD (ws.length - 1) 0) w (by simpa using hz) (by omega) (by omega) (by omega) hb (hF.words _) (hF.last hp) (hc _ (by omega))
    rw [show ws.length - 1 + 1 = ws.length by omega] at M
    exact M

end Go.Proofs.YtegiaonlneamfaaDoor
