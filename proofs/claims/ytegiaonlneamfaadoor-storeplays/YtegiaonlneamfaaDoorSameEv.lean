/- Contract of the law's sameEvents: a store's events are the reference's. -/
import Derived.Test.YtegiaonlneamfaaDoorRef3m
namespace Go.Proofs.YtegiaonlneamfaaDoor
open Go.RowKit

/-- What stands in a store's events. -/
theorem ev77_at {w : World} {base : Nat} {A : Option Addr} {c : Nat} {es : List (Int × Int)} (h : w.ownsRow base 77 2 (.slice A es.length c) es.length (es.flatMap evCells)) {k : Nat} {p : Int × Int} (hp : es[k]? = some p) : ∃ g, A = some ⟨g, 0, none⟩ ∧ w.cell? ⟨g, k * 2, none⟩ = some (.int .i64 p.1) ∧ w.cell? ⟨g, k * 2 + 1, none⟩ = some (.int .i64 p.2) := by
  have hlt : k < es.length := (List.getElem?_eq_some_iff.1 hp).1
  rcases h.2 with ⟨e', h0⟩ | ⟨g, cap, cu, e', hb, hg, hn', hm, hs, ht⟩
  · omega
  · exact ⟨g, (Value.slice.inj e').1, ev_cell (cap := es.length) (show Blk w g cu 77 from hg) ht hp (Nat.le_refl _)⟩

set_option maxHeartbeats 2000000 in
set_option maxRecDepth 100000 in
theorem sameEv_true (va vb : Value) (es : List (Int × Int)) (base : Nat) (w : World) (ha : w.ownsRow base 77 2 va es.length (es.flatMap evCells)) (hb : EvT w vb es) (hbig : es.length ≤ 1000) :
    Calls Tryd.prog 13 #[va, vb] w fun e w' => e = .returned (.bool true) ∧ Below w.heap.size w w' := by
  obtain ⟨A, ca, rfl⟩ := slice_row ha
  obtain ⟨B, cb, rfl⟩ := slice_row hb
  obtain ⟨n, hn⟩ : ∃ n, n = es.length := ⟨_, rfl⟩
  have Ha := Lib.hid fun (k : Nat) (p : Int × Int) (hp : es[k]? = some p) => ev77_at ha hp
  have Hb := Lib.hid fun (k : Nat) (p : Int × Int) (hp : es[k]? = some p) => EvT.at hb hp
  have Hn := Lib.hid hn
  rw [← hn] at hbig ⊢
  clear ha hb hn
  have hne : ((n : Int) != (n : Int)) = false := by simp
  go_enter Tryd.func13, Tryd.ntmps13
  go_wp2_with fail
  go_loopw [13] (fun j wr => ∃ k : Nat, k ≤ n ∧ j = .int .i64 (k : Nat) ∧ Hid (Below w.heap.size w wr)) (fun j _ => n - (intOf j).toNat)
  case atStart => exact ⟨0, Nat.zero_le _, rfl, Lib.hid (Below.refl _ _)⟩
  case round =>
    obtain ⟨wo, rfl⟩ : ∃ wo, wo = wr := ⟨_, rfl⟩
    obtain ⟨k, hk, rfl, HB⟩ := hrel
    by_cases hlt : k < n
    · obtain ⟨p, hp⟩ : ∃ p, es[k]? = some p := ⟨_, List.getElem?_eq_getElem (by rw [← Hn.out]; exact hlt)⟩
      obtain ⟨g, e1, x0, x1⟩ := Ha.out k p hp
      obtain ⟨g2, e2, y0, y1⟩ := Hb.out k p hp
      subst e1
      subst e2
      have x0 := (HB.out.cell (World.block_lt_of_cell? w ⟨g, k * 2, none⟩ x0)).trans x0
      have x1 := (HB.out.cell (World.block_lt_of_cell? w ⟨g, k * 2 + 1, none⟩ x1)).trans x1
      have y0 := (HB.out.cell (World.block_lt_of_cell? w ⟨g2, k * 2, none⟩ y0)).trans y0
      have y1 := (HB.out.cell (World.block_lt_of_cell? w ⟨g2, k * 2 + 1, none⟩ y1)).trans y1
      obtain ⟨p1, p2⟩ := p
      simp only at x0 x1 y0 y1
      have q1 : (p1 != p1) = false := by simp
      have q2 : (p2 != p2) = false := by simp
      have hki : (k : Int) < (n : Nat) := by omega
      clear hp
      go_wp2_with fail
      go_quiet (fail)
      have HBq := Lib.hid (below_drewN HB.out nq)
      clear x0 x1 y0 y1 HB
      generalize wo.drewN nq = wp at *
      go_wp2_with fail
      go_roundw
      case rel => exact ⟨k + 1, by omega, by go_num, HBq⟩
      case measure => simp [intOf]; omega
    · go_wp2_with fail
      go_ret
      exact ⟨rfl, HB.out⟩
end Go.Proofs.YtegiaonlneamfaaDoor
