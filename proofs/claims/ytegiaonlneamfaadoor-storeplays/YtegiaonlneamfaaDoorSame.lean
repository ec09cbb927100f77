/- Contracts of slices.Equal, Min and Max, at words and numbers; of Equal of two domains. -/
import Derived.Test.YtegiaonlneamfaaDoorWays
namespace Go.Proofs.YtegiaonlneamfaaDoor
open Go.RowKit

theorem Lies.drewN {w : World} {A : Option Addr} {n : Nat} {f : Nat → Value} (h : Lies w A n f) (k : Nat) : Lies (w.drewN k) A n f := h

set_option maxHeartbeats 1000000 in
theorem equal_u (A B : Option Addr) (xs ys : List Nat) (c1 c2 : Nat) (w : World) (h1 : Lies w A xs.length (u64f xs)) (h2 : Lies w B ys.length (u64f ys)) (hb1 : xs.length ≤ 9223372036854775806) (hb2 : ys.length ≤ 9223372036854775806) :
    Calls Tryd.prog 49 #[.slice A xs.length c1, .slice B ys.length c2] w fun e w' => e = .returned (.bool (decide (xs = ys))) ∧ Below w.heap.size w w' := by
  by_cases hl : xs.length = ys.length
  · by_cases hp : 0 < xs.length
    · obtain ⟨a, rfl, ha, hca⟩ := h1 hp
      obtain ⟨b, rfl, hb, hcb⟩ := h2 (by omega)
      obtain ⟨n, hn⟩ : ∃ n, n = xs.length := ⟨_, rfl⟩
      rw [← hl, ← hn] at hcb ⊢
      rw [← hn] at hca hb1 hp
      have hnn : ((n : Int) != (n : Int)) = false := by simp
      have Ha := Lib.hid hca
      have Hb := Lib.hid hcb
      have Hl := Lib.hid hl
      have Hn := Lib.hid hn
      clear hca hcb hl hn h1 h2 hb2
      go_enter Tryd.func49, Tryd.ntmps49
      go_wp2
      go_loopw [13] (fun i wr => ∃ k : Nat, k ≤ n ∧ i = .int .i64 (k : Nat) ∧ Hid (∀ j, j < k → xs.getD j 0 = ys.getD j 0) ∧ Below w.heap.size w wr) (fun i _ => n - (intOf i).toNat)
      case atStart => exact ⟨0, Nat.zero_le _, rfl, fun j hj => absurd hj (by omega), Below.refl _ _⟩
      case round =>
        obtain ⟨k, hk, rfl, HE, hbr⟩ := hrel
        by_cases hlt : k < n
        · have ck : wr.cell? (a.add k) = some (.int .u64 ((xs.getD k 0 : Nat) : Int)) := (hbr.cell (by rw [add_block]; exact ha)).trans (Ha.out k hlt)
          have dk : wr.cell? (b.add k) = some (.int .u64 ((ys.getD k 0 : Nat) : Int)) := (hbr.cell (by rw [add_block]; exact hb)).trans (Hb.out k hlt)
          obtain ⟨x, hx⟩ : ∃ x, xs.getD k 0 = x := ⟨_, rfl⟩
          obtain ⟨y, hy⟩ : ∃ y, ys.getD k 0 = y := ⟨_, rfl⟩
          rw [hx] at ck
          rw [hy] at dk
          have Hx := Lib.hid hx
          have Hy := Lib.hid hy
          have hi : (k : Int) < (n : Int) := by omega
          clear hx hy
          by_cases hne : x = y
          · have hne' : ((x : Int) != (y : Int)) = false := by simp [hne]
            have HE2 : Hid (∀ j, j < k + 1 → xs.getD j 0 = ys.getD j 0) := fun j hj => by
              by_cases hjk : j = k
              · rw [hjk, Hx.out, Hy.out, hne]
              · exact HE.out j (by omega)
            clear hne
            go_wp2
            go_quiet (fail)
            go_wp2
            go_roundw
            case rel => exact ⟨k + 1, by omega, by go_num, HE2, below_drewN hbr _⟩
            case measure => simp [intOf]; omega
          · have hne' : ((x : Int) != (y : Int)) = true := by simp; omega
            have Hfin : Hid (decide (xs = ys) = false) := by
              unfold Hid
              rw [decide_eq_false_iff_not]
              intro e
              exact hne (by rw [← Hx.out, ← Hy.out, e])
            clear hne
            go_wp2
            go_quiet (fail)
            go_wp2
            go_ret
            exact ⟨by rw [Hfin.out]; rfl, below_drewN hbr _⟩
        · have Hfin : Hid (decide (xs = ys) = true) := by
            unfold Hid
            rw [decide_eq_true_eq]
            apply List.ext_getElem Hl.out
            intro i h1 h2
            have := HE.out i (by have := Hn.out; omega)
            simpa [List.getD_eq_getElem?_getD, List.getElem?_eq_getElem h1, List.getElem?_eq_getElem h2] using this
          go_wp2
          go_ret
          exact ⟨by rw [Hfin.out]; rfl, hbr⟩
    · have e1 : xs = [] := List.eq_nil_of_length_eq_zero (by omega)
      have e2 : ys = [] := List.eq_nil_of_length_eq_zero (by omega)
      subst e1 e2
      go_enter Tryd.func49, Tryd.ntmps49
      go_wp2
      refine wp_loop_rounds 1 ?_
      rw [rounds_succ]
      go_wp2
      go_ret
      exact ⟨rfl, Below.refl _ _⟩
  · have Hfin : Hid (decide (xs = ys) = false) := by
      unfold Hid
      rw [decide_eq_false_iff_not]
      intro e; exact hl (by rw [e])
    have hnn : ((xs.length : Int) != (ys.length : Int)) = true := by simp; omega
    clear hl h1 h2
    go_enter Tryd.func49, Tryd.ntmps49
    go_wp2
    go_ret
    exact ⟨by rw [Hfin.out]; rfl, Below.refl _ _⟩

set_option maxHeartbeats 1000000 in
theorem equal_i (A B : Option Addr) (xs ys : List Int) (c1 c2 : Nat) (w : World) (h1 : Lies w A xs.length (i64f xs)) (h2 : Lies w B ys.length (i64f ys)) (hb1 : xs.length ≤ 9223372036854775806) (hb2 : ys.length ≤ 9223372036854775806) :
    Calls Tryd.prog 44 #[.slice A xs.length c1, .slice B ys.length c2] w fun e w' => e = .returned (.bool (decide (xs = ys))) ∧ Below w.heap.size w w' := by
  by_cases hl : xs.length = ys.length
  · by_cases hp : 0 < xs.length
    · obtain ⟨a, rfl, ha, hca⟩ := h1 hp
      obtain ⟨b, rfl, hb, hcb⟩ := h2 (by omega)
      obtain ⟨n, hn⟩ : ∃ n, n = xs.length := ⟨_, rfl⟩
      rw [← hl, ← hn] at hcb ⊢
      rw [← hn] at hca hb1 hp
      have hnn : ((n : Int) != (n : Int)) = false := by simp
      have Ha := Lib.hid hca
      have Hb := Lib.hid hcb
      have Hl := Lib.hid hl
      have Hn := Lib.hid hn
      clear hca hcb hl hn h1 h2 hb2
      go_enter Tryd.func44, Tryd.ntmps44
      go_wp2
      go_loopw [13] (fun i wr => ∃ k : Nat, k ≤ n ∧ i = .int .i64 (k : Nat) ∧ Hid (∀ j, j < k → xs.getD j 0 = ys.getD j 0) ∧ Below w.heap.size w wr) (fun i _ => n - (intOf i).toNat)
      case atStart => exact ⟨0, Nat.zero_le _, rfl, fun j hj => absurd hj (by omega), Below.refl _ _⟩
      case round =>
        obtain ⟨k, hk, rfl, HE, hbr⟩ := hrel
        by_cases hlt : k < n
        · have ck : wr.cell? (a.add k) = some (.int .i64 (xs.getD k 0)) := (hbr.cell (by rw [add_block]; exact ha)).trans (Ha.out k hlt)
          have dk : wr.cell? (b.add k) = some (.int .i64 (ys.getD k 0)) := (hbr.cell (by rw [add_block]; exact hb)).trans (Hb.out k hlt)
          obtain ⟨x, hx⟩ : ∃ x, xs.getD k 0 = x := ⟨_, rfl⟩
          obtain ⟨y, hy⟩ : ∃ y, ys.getD k 0 = y := ⟨_, rfl⟩
          rw [hx] at ck
          rw [hy] at dk
          have Hx := Lib.hid hx
          have Hy := Lib.hid hy
          have hi : (k : Int) < (n : Int) := by omega
          clear hx hy
          by_cases hne : x = y
          · have hne' : (x != y) = false := by simp [hne]
            have HE2 : Hid (∀ j, j < k + 1 → xs.getD j 0 = ys.getD j 0) := fun j hj => by
              by_cases hjk : j = k
              · rw [hjk, Hx.out, Hy.out, hne]
              · exact HE.out j (by omega)
            clear hne
            go_wp2
            go_quiet (fail)
            go_wp2
            go_roundw
            case rel => exact ⟨k + 1, by omega, by go_num, HE2, below_drewN hbr _⟩
            case measure => simp [intOf]; omega
          · have hne' : (x != y) = true := by simpa using hne
            have Hfin : Hid (decide (xs = ys) = false) := by
              unfold Hid
              rw [decide_eq_false_iff_not]
              intro e
              exact hne (by rw [← Hx.out, ← Hy.out, e])
            clear hne
            go_wp2
            go_quiet (fail)
            go_wp2
            go_ret
            exact ⟨by rw [Hfin.out]; rfl, below_drewN hbr _⟩
        · have Hfin : Hid (decide (xs = ys) = true) := by
            unfold Hid
            rw [decide_eq_true_eq]
            apply List.ext_getElem Hl.out
            intro i h1 h2
            have := HE.out i (by have := Hn.out; omega)
            simpa [List.getD_eq_getElem?_getD, List.getElem?_eq_getElem h1, List.getElem?_eq_getElem h2] using this
          go_wp2
          go_ret
          exact ⟨by rw [Hfin.out]; rfl, hbr⟩
    · have e1 : xs = [] := List.eq_nil_of_length_eq_zero (by omega)
      have e2 : ys = [] := List.eq_nil_of_length_eq_zero (by omega)
      subst e1 e2
      go_enter Tryd.func44, Tryd.ntmps44
      go_wp2
      refine wp_loop_rounds 1 ?_
      rw [rounds_succ]
      go_wp2
      go_ret
      exact ⟨rfl, Below.refl _ _⟩
  · have Hfin : Hid (decide (xs = ys) = false) := by
      unfold Hid
      rw [decide_eq_false_iff_not]
      intro e; exact hl (by rw [e])
    have hnn : ((xs.length : Int) != (ys.length : Int)) = true := by simp; omega
    clear hl h1 h2
    go_enter Tryd.func44, Tryd.ntmps44
    go_wp2
    go_ret
    exact ⟨by rw [Hfin.out]; rfl, Below.refl _ _⟩
end Go.Proofs.YtegiaonlneamfaaDoor
