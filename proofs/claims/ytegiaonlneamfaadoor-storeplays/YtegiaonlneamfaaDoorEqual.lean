/- Contracts of slices.Min and Max at numbers, and of Equal of two domains. -/
import Derived.Test.YtegiaonlneamfaaDoorSame
namespace Go.Proofs.YtegiaonlneamfaaDoor
open Go.RowKit

/-- A least (a greatest) number among the first k. -/
structure MinTo (zs : List Int) (k : Nat) (m : Int) : Prop where
  is : ∃ j, j < k ∧ zs.getD j 0 = m
  le : ∀ j, j < k → m ≤ zs.getD j 0
structure MaxTo (zs : List Int) (k : Nat) (m : Int) : Prop where
  is : ∃ j, j < k ∧ zs.getD j 0 = m
  le : ∀ j, j < k → zs.getD j 0 ≤ m

theorem MinTo.start {zs : List Int} {z : Int} (h : zs.getD 0 0 = z) : MinTo zs 1 z :=
  ⟨⟨0, by omega, h⟩, fun j hj => by rw [show j = 0 by omega, h]; exact Int.le_refl _⟩
theorem MaxTo.start {zs : List Int} {z : Int} (h : zs.getD 0 0 = z) : MaxTo zs 1 z :=
  ⟨⟨0, by omega, h⟩, fun j hj => by rw [show j = 0 by omega, h]; exact Int.le_refl _⟩
theorem MinTo.step {zs : List Int} {k : Nat} {m : Int} (h : MinTo zs k m) : MinTo zs (k + 1) (min m (zs.getD k 0)) := by
  obtain ⟨j, hj, e⟩ := h.is
  refine ⟨?_, fun i hi => ?_⟩
  · by_cases hm : m ≤ zs.getD k 0
    · exact ⟨j, by omega, by omega⟩
    · exact ⟨k, by omega, by omega⟩
  · by_cases hik : i = k
    · rw [hik]; omega
    · have := h.le i (by omega); omega
theorem MaxTo.step {zs : List Int} {k : Nat} {m : Int} (h : MaxTo zs k m) : MaxTo zs (k + 1) (max m (zs.getD k 0)) := by
  obtain ⟨j, hj, e⟩ := h.is
  refine ⟨?_, fun i hi => ?_⟩
  · by_cases hm : zs.getD k 0 ≤ m
    · exact ⟨j, by omega, by omega⟩
    · exact ⟨k, by omega, by omega⟩
  · by_cases hik : i = k
    · rw [hik]; omega
    · have := h.le i (by omega); omega

def GivesMinTo (w : World) (zs : List Int) (e : Ending) (w' : World) : Prop := ∃ m, e = .returned (.int .i64 m) ∧ MinTo zs zs.length m ∧ w = w'

theorem min_ints (A : Option Addr) (zs : List Int) (c : Nat) (w : World) (h : Lies w A zs.length (i64f zs)) (hp : 0 < zs.length) (hbig : zs.length ≤ 9223372036854775806) :
    Calls Tryd.prog 34 #[.slice A zs.length c] w (GivesMinTo w zs) := by
  obtain ⟨a, rfl, ha, hca⟩ := h hp
  obtain ⟨n, hn⟩ : ∃ n, n = zs.length := ⟨_, rfl⟩
  rw [← hn] at hca hp hbig ⊢
  have h0 := hca 0 hp
  rw [add_zero] at h0
  have h0' : w.cell? a = some (.int .i64 (zs.getD 0 0)) := h0
  obtain ⟨z, hz⟩ : ∃ z, zs.getD 0 0 = z := ⟨_, rfl⟩
  rw [hz] at h0'
  have Hz := Lib.hid hz
  have Ha := Lib.hid hca
  have Hn := Lib.hid hn
  clear hca hn h h0 hz
  have hd : decide ((n : Int) < 1) = false := by simp; omega
  go_enter Tryd.func34, Tryd.ntmps34
  go_wp2
  go_loop [3, 4] (fun m i => ∃ (k : Nat) (v : Int), 1 ≤ k ∧ k ≤ n ∧ i = .int .i64 (k : Nat) ∧ m = .int .i64 v ∧ Hid (MinTo zs k v)) (fun _ i => n - (intOf i).toNat)
  case atStart => exact ⟨1, z, Nat.le_refl _, hp, rfl, rfl, MinTo.start Hz.out⟩
  case round =>
    obtain ⟨k, v, hk1, hk, rfl, rfl, HM⟩ := hrel
    by_cases hlt : k < n
    · have ck : w.cell? (a.add k) = some (.int .i64 (zs.getD k 0)) := Ha.out k hlt
      have HM2 := Lib.hid HM.out.step
      generalize zs.getD k 0 = y at *
      go_wp2
      go_round
      case rel => exact ⟨k + 1, min v y, by omega, by omega, by go_num, rfl, HM2⟩
      case measure => simp [intOf]; omega
    · go_wp2
      go_ret
      exact ⟨v, rfl, by have := HM.out; rwa [show k = zs.length by have := Hn.out; omega] at this, rfl⟩

def GivesMaxTo (w : World) (zs : List Int) (e : Ending) (w' : World) : Prop := ∃ m, e = .returned (.int .i64 m) ∧ MaxTo zs zs.length m ∧ w = w'

theorem max_ints (A : Option Addr) (zs : List Int) (c : Nat) (w : World) (h : Lies w A zs.length (i64f zs)) (hp : 0 < zs.length) (hbig : zs.length ≤ 9223372036854775806) :
    Calls Tryd.prog 35 #[.slice A zs.length c] w (GivesMaxTo w zs) := by
  obtain ⟨a, rfl, ha, hca⟩ := h hp
  obtain ⟨n, hn⟩ : ∃ n, n = zs.length := ⟨_, rfl⟩
  rw [← hn] at hca hp hbig ⊢
  have h0 := hca 0 hp
  rw [add_zero] at h0
  have h0' : w.cell? a = some (.int .i64 (zs.getD 0 0)) := h0
  obtain ⟨z, hz⟩ : ∃ z, zs.getD 0 0 = z := ⟨_, rfl⟩
  rw [hz] at h0'
  have Hz := Lib.hid hz
  have Ha := Lib.hid hca
  have Hn := Lib.hid hn
  clear hca hn h h0 hz
  have hd : decide ((n : Int) < 1) = false := by simp; omega
  go_enter Tryd.func35, Tryd.ntmps35
  go_wp2
  go_loop [3, 4] (fun m i => ∃ (k : Nat) (v : Int), 1 ≤ k ∧ k ≤ n ∧ i = .int .i64 (k : Nat) ∧ m = .int .i64 v ∧ Hid (MaxTo zs k v)) (fun _ i => n - (intOf i).toNat)
  case atStart => exact ⟨1, z, Nat.le_refl _, hp, rfl, rfl, MaxTo.start Hz.out⟩
  case round =>
    obtain ⟨k, v, hk1, hk, rfl, rfl, HM⟩ := hrel
    by_cases hlt : k < n
    · have ck : w.cell? (a.add k) = some (.int .i64 (zs.getD k 0)) := Ha.out k hlt
      have HM2 := Lib.hid HM.out.step
      generalize zs.getD k 0 = y at *
      go_wp2
      go_round
      case rel => exact ⟨k + 1, max v y, by omega, by omega, by go_num, rfl, HM2⟩
      case measure => simp [intOf]; omega
    · go_wp2
      go_ret
      exact ⟨v, rfl, by have := HM.out; rwa [show k = zs.length by have := Hn.out; omega] at this, rfl⟩

/-- A domain has just one form. -/
theorem form_unique {s s' : Int} {ws ws' : List Nat} (h : Form s ws) (h' : Form s' ws') (e : listOf s ws = listOf s' ws') : s = s' ∧ ws = ws' := by
  by_cases hp : 0 < ws.length
  · have hp' : 0 < ws'.length := by
      apply pos_of_form h'
      rw [← e]
      intro q
      have := (len_zero_iff h).1 (by rw [q]; rfl)
      omega
    have c1 := min_listOf h hp
    have c2 := min_listOf h' hp'
    rw [e, c2] at c1
    have c1 := Option.some.inj c1
    have z1 := (ctz_bits _ (h.first hp) (h.words 0)).2.1
    have z2 := (ctz_bits _ (h'.first hp') (h'.words 0)).2.1
    have es : s = s' := by omega
    subst es
    refine ⟨rfl, ?_⟩
    have m1 := max_listOf h hp
    have m2 := max_listOf h' hp'
    rw [e, m2] at m1
    have m1 := Option.some.inj m1
    obtain ⟨b1, b2, -⟩ := bitLen_spec _ (h.last hp) (h.words (ws.length - 1))
    obtain ⟨b3, b4, -⟩ := bitLen_spec _ (h'.last hp') (h'.words (ws'.length - 1))
    have el : ws.length = ws'.length := by omega
    apply List.ext_getElem el
    intro i h1 h2
    have hw : ∀ j, j < 64 → (ws.getD i 0).testBit j = (ws'.getD i 0).testBit j := by
      intro j hj
      have a := word_bit (s := s) (ws := ws) (s + i) j hj
      have b := word_bit (s := s) (ws := ws') (s + i) j hj
      rw [e] at a
      unfold wordAt at a b
      rw [if_pos (by omega), show (s + (i : Int) - s).toNat = i by omega] at a b
      rw [Bool.eq_iff_iff, a, b]
    have heq : ws.getD i 0 = ws'.getD i 0 := by
      apply Nat.eq_of_testBit_eq
      intro j
      by_cases hj : j < 64
      · exact hw j hj
      · rw [high_false _ _ (h.words i) (by omega), high_false _ _ (h'.words i) (by omega)]
    simpa [List.getD_eq_getElem?_getD, List.getElem?_eq_getElem h1, List.getElem?_eq_getElem h2] using heq
  · have e1 : ws = [] := List.eq_nil_of_length_eq_zero (by omega)
    have e2 : ws' = [] := by
      apply List.eq_nil_of_length_eq_zero
      apply (len_zero_iff h').1
      rw [← e, e1]; rfl
    refine ⟨?_, by rw [e1, e2]⟩
    rw [h.zero (by rw [e1]; rfl), h'.zero (by rw [e2]; rfl)]

theorem equal_dom (d e : Value) (L M : List Int) (w : World) (hd : IsDom w d L) (he : IsDom w e M) :
    Calls Tryd.prog 28 #[d, e] w fun e w' => e = .returned (.bool (decide (L = M))) ∧ Below w.heap.size w w' := by
  obtain ⟨s, A, ws, c, rfl, hl, hF, hL⟩ := hd
  obtain ⟨s2, A2, ws2, c2, rfl, hl2, hF2, hL2⟩ := he
  have f1 := hF.len
  have f2 := hF2.len
  have E := fun W (hW : Below w.heap.size w W) => equal_u A A2 ws ws2 c c2 W (hl.below hW) (hl2.below hW) (by omega) (by omega)
  have HE := Lib.hid E
  have hdec : decide (L = M) = (decide (s = s2) && decide (ws = ws2)) := by
    rw [Bool.eq_iff_iff]
    simp only [decide_eq_true_eq, Bool.and_eq_true]
    constructor
    · intro e
      exact form_unique hF hF2 (by rw [hL, hL2, e])
    · rintro ⟨rfl, rfl⟩
      rw [← hL, ← hL2]
  have Hd := Lib.hid hdec
  clear E hl hl2 hF hF2 hL hL2 hdec f1 f2
  by_cases hs : s = s2
  · have hs' : (s == s2) = true := by simp [hs]
    have Hs := Lib.hid hs
    clear hs
    go_enter Tryd.func28, Tryd.ntmps28
    go_wp2_with (go_at_call 49; with_reducible refine (HE.out _ (below2 _ _ _)).mono ?_; rintro e w1 ⟨rfl, hb1⟩)
    go_ret
    exact ⟨by rw [Hd.out]; simp [Hs.out], (below2 _ _ _).trans (hb1.mono (by simp; omega))⟩
  · have hs' : (s == s2) = false := by simpa using hs
    have Hs := Lib.hid hs
    clear hs
    go_enter Tryd.func28, Tryd.ntmps28
    go_wp2
    go_ret
    exact ⟨by rw [Hd.out]; simp [Hs.out], below2 _ _ _⟩
end Go.Proofs.YtegiaonlneamfaaDoor
