/- The law's same: are tokens the document's? -/
import Derived.Test.YtancjkanmjdkkaaDoorWake
import Derived.Test.YtancjkanmjdkkaaDoorRef3
import Derived.Deep.QuietTactic
import Derived.BigQuiet
namespace Go.Proofs.YtancjkanmjdkkaaDoor
open Go.RowKit

theorem below_drewN {B : Nat} {a w : World} (h : Below B a w) : ∀ n, Below B a (w.drewN n)
  | 0 => h
  | n + 1 => (below_drewN h n).drew

theorem reflex_any (s : ByteArray) (w : World) (hs : s.size ≤ 1048576) :
    Calls Tryd.prog 9 #[.string s] w fun e w' => ∃ v, e = .returned (.tuple #[v, .int .i64 ((lexA (bl s)).2.1 : Nat), .int .i64 (lexA (bl s)).2.2]) ∧ Toks 43 w' v (lexA (bl s)).1 ∧ Below w.heap.size w w' := by
  unfold lexA
  rw [bl_len, if_neg (by omega)]
  refine (reflex_short s w hs).mono ?_
  rintro e w' ⟨v, rfl, h1, h2⟩
  exact ⟨_, rfl, ⟨_, h1⟩, h2⟩

set_option maxHeartbeats 4000000 in
set_option maxRecDepth 100000 in
theorem same_true (l : List Tok) (v1 v2 : Value) (w : World) (h1 : Toks 33 w v1 l) (h2 : Toks 43 w v2 l) (hl : l.length ≤ 4611686018427387904) :
    Calls Tryd.prog 11 #[v1, v2] w fun e w' => e = .returned (.bool true) ∧ Below w.heap.size w w' := by
  by_cases hne : 0 < l.length
  · obtain ⟨g1, c1, rfl, hc1, hg1, k1⟩ := h1.lies hne
    obtain ⟨g2, c2, rfl, hc2, hg2, k2⟩ := h2.lies hne
    have K1 := Lib.hid k1
    have K2 := Lib.hid k2
    clear k1 k2 h1 h2
    go_enter Tryd.func11, Tryd.ntmps11
    go_wp2_with fail
    go_loopw [13] (fun i wr => ∃ k : Nat, k ≤ l.length ∧ i = .int .i64 (k : Nat) ∧ Below w.heap.size w wr) (fun i _ => meas l.length i)
    case atStart => exact ⟨0, Nat.zero_le _, rfl, Below.refl _ _⟩
    case round =>
      obtain ⟨k, hk, rfl, hb⟩ := hrel
      have HB := Lib.hid hb
      clear hb
      by_cases hlt : k < l.length
      · obtain ⟨a0, a1, a2, a3⟩ := K1.out k hlt
        obtain ⟨b0, b1, b2, b3⟩ := K2.out k hlt
        obtain ⟨t, ht⟩ : ∃ t, l[k] = t := ⟨_, rfl⟩
        rw [ht] at a0 a1 a2 a3 b0 b1 b2 b3
        rw [← HB.out.cell (p := ⟨g1, _, none⟩) hg1] at a0 a1 a2 a3
        rw [← HB.out.cell (p := ⟨g2, _, none⟩) hg2] at b0 b1 b2 b3
        clear ht
        have hltI : (k : Int) < (l.length : Int) := by omega
        obtain ⟨kd, hkd⟩ : ∃ kd, t.kind = kd := ⟨_, rfl⟩
        obtain ⟨tx, htx⟩ : ∃ tx, txt t.text = tx := ⟨_, rfl⟩
        obtain ⟨nu, hnu⟩ : ∃ nu, t.num = nu := ⟨_, rfl⟩
        obtain ⟨pl, hpl⟩ : ∃ pl, t.at_ = pl := ⟨_, rfl⟩
        rw [hkd] at a0 b0
        rw [htx] at a1 b1
        rw [hnu] at a2 b2
        rw [hpl] at a3 b3
        clear hkd htx hnu hpl
        obtain ⟨wo, hwo⟩ : ∃ wo, wo = wr := ⟨_, rfl⟩
        rw [← hwo] at HB a0 a1 a2 a3 b0 b1 b2 b3
        rw [← hwo]
        clear hwo
        go_wp2_with fail
        go_quiet (fail)
        have HBq := Lib.hid (below_drewN HB.out nq)
        clear a0 a1 a2 a3 b0 b1 b2 b3 HB
        generalize wo.drewN nq = wp at *
        go_wp2_with fail
        go_roundw
        case rel => exact ⟨k + 1, by omega, by go_num, HBq.out⟩
        case measure => simp [meas, intOf]; omega
      · go_wp2_with fail
        go_ret
        exact ⟨rfl, HB.out⟩
  · obtain rfl : l = [] := List.length_eq_zero_iff.1 (by omega)
    obtain ⟨a1, c1, rfl, -⟩ := h1.view
    obtain ⟨a2, c2, rfl, -⟩ := h2.view
    clear h1 h2
    go_enter Tryd.func11, Tryd.ntmps11
    go_wp2_with fail
    go_loopw [13] (fun i wr => i = .int .i64 0 ∧ Below w.heap.size w wr) (fun i _ => meas 0 i)
    case atStart => exact ⟨rfl, Below.refl _ _⟩
    case round =>
      obtain ⟨rfl, hb⟩ := hrel
      go_wp2_with fail
      go_ret
      exact ⟨rfl, hb⟩
end Go.Proofs.YtancjkanmjdkkaaDoor
