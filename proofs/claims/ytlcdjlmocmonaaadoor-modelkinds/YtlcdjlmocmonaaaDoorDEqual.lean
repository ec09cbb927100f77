/- Contracts of slices.Min and Max at numbers, and of Equal of two domains. -/
import Derived.Test.YtlcdjlmocmonaaaDoorDSame
namespace Go.Proofs.YtlcdjlmocmonaaaDoor
open Go.RowKit

/-- A least (a greatest) number among the first k. -/
structure MinTo (zs : List Int) (k : Nat) (m : Int) : Prop where
  is : ∃ j, j < k ∧ zs.getD j 0 = m
  le : ∀ j, j < k → m ≤ zs.getD j 0
structure MaxTo (zs : List Int) (k : Nat) (m : Int) : Prop where
  is : ∃ j, j < k ∧ zs.getD j 0 = m
  le : ∀ j, j < k → zs.getD j 0 ≤ m

theorem MinTo.start {zs : List Int} {z : Int} (h : zs.getD 0 0 = z) : MinTo zs 1 z :=
  ⟨⟨0, by omega, h⟩, fun j hj => by rw [show j = 0 by omega, h]; exact Int.le_refl _⟩
theorem MaxTo.start {zs : List Int} {z : Int} (h : zs.getD 0 0 = z) : MaxTo zs 1 z :=
  ⟨⟨0, by omega, h⟩, fun j hj => by rw [show j = 0 by omega, h]; exact Int.le_refl _⟩
theorem MinTo.step {zs : List Int} {k : Nat} {m : Int} (h : MinTo zs k m) : MinTo zs (k + 1) (min m (zs.getD k 0)) := by
  obtain ⟨j, hj, e⟩ := h.is
  refine ⟨?_, fun i hi => ?_⟩
  · by_cases hm : m ≤ zs.getD k 0
    · exact ⟨j, by omega, by omega⟩
    · exact ⟨k, by omega, by omega⟩
  · by_cases hik : i = k
    · rw [hik]; omega
    · have := h.le i (by omega); omega
theorem MaxTo.step {zs : List Int} {k : Nat} {m : Int} (h : MaxTo zs k m) : MaxTo zs (k + 1) (max m (zs.getD k 0)) := by
  obtain ⟨j, hj, e⟩ := h.is
  refine ⟨?_, fun i hi => ?_⟩
  · by_cases hm : zs.getD k 0 ≤ m
    · exact ⟨j, by omega, by omega⟩
    · exact ⟨k, by omega, by omega⟩
  · by_cases hik : i = k
    · rw [hik]; omega
    · have := h.le i (by omega); omega

def GivesMinTo (w : World) (zs : List Int) (e : Ending) (w' : World) : Prop := ∃ m, e = .returned (.int .i64 m) ∧ MinTo zs zs.length m ∧ w = w'

theorem min_ints (A : Option Addr) (zs : List Int) (c : Nat) (w : World) (h : Lies w A zs.length (i64f zs)) (hp : 0 < zs.length) (hbig : zs.length ≤ 9223372036854775806) :
    Calls Tryd.prog 63 #[.slice A zs.length c] w (GivesMinTo w zs) := by
  obtain ⟨a, rfl, ha, hca⟩ := h hp
  obtain ⟨n, hn⟩ : ∃ n, n = zs.length := ⟨_, rfl⟩
  rw [← hn] at hca hp hbig ⊢
  have h0 := hca 0 hp
  rw [add_zero] at h0
  have h0' : w.cell? a = some (.int .i64 (zs.getD 0 0)) := h0
  obtain ⟨z, hz⟩ : ∃ z, zs.getD 0 0 = z := ⟨_, rfl⟩
  rw [hz] at h0'
  have Hz := Lib.hid hz
  have Ha := Lib.hid hca
  have Hn := Lib.hid hn
  clear hca hn h h0 hz
  have hd : decide ((n : Int) < 1) = false := by simp; omega
  go_enter Tryd.func63, Tryd.ntmps63
  go_wp2
  go_loop [3, 4] (fun m i => ∃ (k : Nat) (v : Int), 1 ≤ k ∧ k ≤ n ∧ i = .int .i64 (k : Nat) ∧ m = .int .i64 v ∧ Hid (MinTo zs k v)) (fun _ i => n - (intOf i).toNat)
  case atStart => exact ⟨1, z, Nat.le_refl _, hp, rfl, rfl, MinTo.start Hz.out⟩
  case round =>
    obtain ⟨k, v, hk1, hk, rfl, rfl, HM⟩ := hrel
    by_cases hlt : k < n
    · have ck : w.cell? (a.add k) = some (.int .i64 (zs.getD k 0)) := Ha.out k hlt
      have HM2 := Lib.hid HM.out.step
      generalize zs.getD k 0 = y at *
      go_wp2
      go_round
      case rel => exact ⟨k + 1, min v y, by omega, by omega, by go_num, rfl, HM2⟩
      case measure => simp [intOf]; omega
    · go_wp2
      go_ret
      exact ⟨v, rfl, by have := HM.out; rwa [show k = zs.length by have := Hn.out; omega] at this, rfl⟩

def GivesMaxTo (w : World) (zs : List Int) (e : Ending) (w' : World) : Prop := ∃ m, e = .returned (.int .i64 m) ∧ MaxTo zs zs.length m ∧ w = w'

theorem max_ints (A : Option Addr) (zs : List Int) (c : Nat) (w : World) (h : Lies w A zs.length (i64f zs)) (hp : 0 < zs.length) (hbig : zs.length ≤ 9223372036854775806) :
    Calls Tryd.prog 64 #[.slice A zs.length c] w (GivesMaxTo w zs) := by
  obtain ⟨a, rfl, ha, hca⟩ := h hp
  obtain ⟨n, hn⟩ : ∃ n, n = zs.length := ⟨_, rfl⟩
  rw [← hn] at hca hp hbig ⊢
  have h0 := hca 0 hp
  rw [add_zero] at h0
  have h0' : w.cell? a = some (.int .i64 (zs.getD 0 0)) := h0
  obtain ⟨z, hz⟩ : ∃ z, zs.getD 0 0 = z := ⟨_, rfl⟩
  rw [hz] at h0'
  have Hz := Lib.hid hz
  have Ha := Lib.hid hca
  have Hn := Lib.hid hn
  clear hca hn h h0 hz
  have hd : decide ((n : Int) < 1) = false := by simp; omega
  go_enter Tryd.func64, Tryd.ntmps64
  go_wp2
  go_loop [3, 4] (fun m i => ∃ (k : Nat) (v : Int), 1 ≤ k ∧ k ≤ n ∧ i = .int .i64 (k : Nat) ∧ m = .int .i64 v ∧ Hid (MaxTo zs k v)) (fun _ i => n - (intOf i).toNat)
  case atStart => exact ⟨1, z, Nat.le_refl _, hp, rfl, rfl, MaxTo.start Hz.out⟩
  case round =>
    obtain ⟨k, v, hk1, hk, rfl, rfl, HM⟩ := hrel
    by_cases hlt : k < n
    · have ck : w.cell? (a.add k) = some (.int .i64 (zs.getD k 0)) := Ha.out k hlt
      have HM2 := Lib.hid HM.out.step
      generalize zs.getD k 0 = y at *
      go_wp2
      go_round
      case rel => exact ⟨k + 1, max v y, by omega, by omega, by go_num, rfl, HM2⟩
      case measure => simp [intOf]; omega
    · go_wp2
      go_ret
      exact ⟨v, rfl, by have := HM.out; rwa [show k = zs.length by have := Hn.out; omega] at this, rfl⟩

end Go.Proofs.YtlcdjlmocmonaaaDoor
