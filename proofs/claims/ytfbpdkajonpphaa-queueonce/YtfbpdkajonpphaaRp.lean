/- Contract of the reference's Push, where it is taken. -/
import Derived.Test.YtfbpdkajonpphaaR
namespace Go.Proofs.Ytfbpdkajonpphaa
open Go.RowKit Go.Maps

set_option maxHeartbeats 1000000 in
theorem refpush_low (base : Nat) (A : Option Addr) (n c : Nat) (l : List (Int × Nat)) (m x : Int) (b : Int) (w : World) (hn : n = l.length) (h : OneT base w (.slice A n c) l) (hb : n ≤ 1000) (h0 : decide (x < 0) = false) (h1 : decide (m ≤ x) = false) (h2 : x ∉ l.map Prod.fst) (hd : decide (b < 0) = true) :
    Calls Try.prog 10 #[.slice A n c, .int .i64 m, .int .i64 x, .int .i64 b] w fun e w' => ∃ v, e = .returned (.tuple #[v, .bool true]) ∧ OneT w.heap.size w' v (l ++ [(x, 0)]) ∧ Below w.heap.size w w' := by
  have HC := Lib.hid (refhas base A n c l x w hn h hb)
  rw [decide_eq_false h2] at HC
  obtain ⟨i0, hi, hz0, hz1, hz2⟩ := info_parts info49
  have H := Lib.hid h
  have Hn := Lib.hid hn
  clear hn h h2
  go_enter Try.func10, Try.ntmps10
  go_wp2_with fail
  refine HC.out.mono ?_
  rintro e w1 ⟨rfl, rfl⟩
  clear HC
  go_wp2_with fail
  go_loopw [11, 12] (fun v i wr => ∃ k : Nat, k ≤ n ∧ i = .int .i64 (k : Nat) ∧ OneT w.heap.size wr v (l.take k) ∧ Below w.heap.size w wr) (fun _ i _ => n - (intOf i).toNat)
  case atStart => exact ⟨0, Nat.zero_le _, rfl, OneT.nil _ _, Below.refl _ _⟩
  case round =>
    obtain ⟨wo, rfl⟩ : ∃ wo, wo = wr := ⟨_, rfl⟩
    obtain ⟨k, hk, rfl, hown, hbr⟩ := hrel
    have hlen : (l.take k).length = k := by rw [List.length_take, ← Hn.out]; omega
    unfold OneT at hown
    rw [hlen] at hown
    obtain ⟨Ao, co, e⟩ := slice_row hown
    subst e
    by_cases hlt : k < n
    · obtain ⟨p, hp⟩ : ∃ p, l[k]? = some p := ⟨_, List.getElem?_eq_getElem (by rw [← Hn.out]; exact hlt)⟩
      obtain ⟨g, rfl, c0, c1⟩ := (H.out.below hbr).get hp
      have hki : (k : Int) < (n : Nat) := by omega
      have d0 : decide (k < n) = true := by simpa using hlt
      have Hp := Lib.hid hp
      clear hp hlen
      obtain ⟨y, z⟩ := p
      simp only at c0 c1
      go_wp2_with (at_builtin; refine wpList_append_own _ rfl _ _ 25 rfl w.heap.size 49 i0 (.agg #[.int .i64 0, .int .i64 0]) 2 16 Try.underlying25 hi hz0 hz1 hz2 rfl (by decide) _ _ _ rfl (hown.alloc _) ⟨wo.heap.size, 0, none⟩ 1 1 (oc (y, z)) rfl rfl (oc_one _ _ _) (oc_cell _) ?c3 ?c4 ?c5 ?_)
      case c3 => unfold maxLen; omega
      case c4 => omega
      case c5 => have := hbr.size; simp; omega
      · intro v' w2 hown' hgrow _
        have hb2 : Below w.heap.size w w2 := by
          have hs := hbr.size
          exact (hbr.alloc (by omega) _).grown hgrow (by simp; omega) (fun k hk => own_ge hown k hk)
        have hown2 : OneT w.heap.size w2 v' (l.take (k + 1)) := by
          unfold OneT
          rw [take_snoc Hp.out, List.flatMap_append, List.length_append, List.length_take, ← Hn.out, Nat.min_eq_left (by omega)]
          simpa [List.flatMap] using hown'
        have Hown2 := Lib.hid hown2
        have Hb2 := Lib.hid hb2
        clear hown hgrow hbr hown' hown2 hb2 c0 c1
        go_wp2_with fail
        go_roundw
        case rel => exact ⟨k + 1, by omega, by go_num, Hown2.out, Hb2.out⟩
        case measure => simp [intOf]; omega
    · have d0 : decide (k < n) = false := by simpa using hlt
      obtain rfl : k = n := by omega
      have Htake : Hid (l.take k = l) := Lib.hid (List.take_of_length_le (by rw [← Hn.out]; omega))
      rw [Htake.out] at hown
      clear hlen
      go_wp2_with (at_builtin; refine wpList_append_own _ rfl _ _ 25 rfl w.heap.size 49 i0 (.agg #[.int .i64 0, .int .i64 0]) 2 16 Try.underlying25 hi hz0 hz1 hz2 rfl (by decide) _ _ _ rfl (hown.alloc _) ⟨wo.heap.size, 0, none⟩ 1 1 (oc (x, 0)) rfl rfl (oc_one _ _ _) (oc_cell _) ?c3 ?c4 ?c5 ?_)
      case c3 => unfold maxLen; omega
      case c4 => omega
      case c5 => have := hbr.size; simp; omega
      · intro v' w2 hown' hgrow _
        have hb2 : Below w.heap.size w w2 := by
          have hs := hbr.size
          exact (hbr.alloc (by omega) _).grown hgrow (by simp; omega) (fun k hk => own_ge hown k hk)
        have hown2 : OneT w.heap.size w2 v' (l ++ [(x, 0)]) := by
          unfold OneT
          rw [List.flatMap_append, List.length_append, ← Hn.out]
          simpa [List.flatMap] using hown'
        have Hown2 := Lib.hid hown2
        have Hb2 := Lib.hid hb2
        clear hown hgrow hbr hown' hown2 hb2
        go_wp2_with fail
        go_ret2
        exact ⟨_, rfl, Hown2.out, Hb2.out⟩

set_option maxHeartbeats 1000000 in
theorem refpush_mid (base : Nat) (A : Option Addr) (n c : Nat) (l : List (Int × Nat)) (m x : Int) (b : Nat) (w : World) (hn : n = l.length) (h : OneT base w (.slice A n c) l) (hb : n ≤ 1000) (h0 : decide (x < 0) = false) (h1 : decide (m ≤ x) = false) (h2 : x ∉ l.map Prod.fst) (hd : decide ((b : Int) < 0) = false) (hd2 : decide ((3 : Int) < (b : Int)) = false) :
    Calls Try.prog 10 #[.slice A n c, .int .i64 m, .int .i64 x, .int .i64 (b : Nat)] w fun e w' => ∃ v, e = .returned (.tuple #[v, .bool true]) ∧ OneT w.heap.size w' v (l ++ [(x, b)]) ∧ Below w.heap.size w w' := by
  have HC := Lib.hid (refhas base A n c l x w hn h hb)
  rw [decide_eq_false h2] at HC
  obtain ⟨i0, hi, hz0, hz1, hz2⟩ := info_parts info49
  have H := Lib.hid h
  have Hn := Lib.hid hn
  clear hn h h2
  go_enter Try.func10, Try.ntmps10
  go_wp2_with fail
  refine HC.out.mono ?_
  rintro e w1 ⟨rfl, rfl⟩
  clear HC
  go_wp2_with fail
  go_loopw [11, 12] (fun v i wr => ∃ k : Nat, k ≤ n ∧ i = .int .i64 (k : Nat) ∧ OneT w.heap.size wr v (l.take k) ∧ Below w.heap.size w wr) (fun _ i _ => n - (intOf i).toNat)
  case atStart => exact ⟨0, Nat.zero_le _, rfl, OneT.nil _ _, Below.refl _ _⟩
  case round =>
    obtain ⟨wo, rfl⟩ : ∃ wo, wo = wr := ⟨_, rfl⟩
    obtain ⟨k, hk, rfl, hown, hbr⟩ := hrel
    have hlen : (l.take k).length = k := by rw [List.length_take, ← Hn.out]; omega
    unfold OneT at hown
    rw [hlen] at hown
    obtain ⟨Ao, co, e⟩ := slice_row hown
    subst e
    by_cases hlt : k < n
    · obtain ⟨p, hp⟩ : ∃ p, l[k]? = some p := ⟨_, List.getElem?_eq_getElem (by rw [← Hn.out]; exact hlt)⟩
      obtain ⟨g, rfl, c0, c1⟩ := (H.out.below hbr).get hp
      have hki : (k : Int) < (n : Nat) := by omega
      have d0 : decide (k < n) = true := by simpa using hlt
      have Hp := Lib.hid hp
      clear hp hlen
      obtain ⟨y, z⟩ := p
      simp only at c0 c1
      go_wp2_with (at_builtin; refine wpList_append_own _ rfl _ _ 25 rfl w.heap.size 49 i0 (.agg #[.int .i64 0, .int .i64 0]) 2 16 Try.underlying25 hi hz0 hz1 hz2 rfl (by decide) _ _ _ rfl (hown.alloc _) ⟨wo.heap.size, 0, none⟩ 1 1 (oc (y, z)) rfl rfl (oc_one _ _ _) (oc_cell _) ?c3 ?c4 ?c5 ?_)
      case c3 => unfold maxLen; omega
      case c4 => omega
      case c5 => have := hbr.size; simp; omega
      · intro v' w2 hown' hgrow _
        have hb2 : Below w.heap.size w w2 := by
          have hs := hbr.size
          exact (hbr.alloc (by omega) _).grown hgrow (by simp; omega) (fun k hk => own_ge hown k hk)
        have hown2 : OneT w.heap.size w2 v' (l.take (k + 1)) := by
          unfold OneT
          rw [take_snoc Hp.out, List.flatMap_append, List.length_append, List.length_take, ← Hn.out, Nat.min_eq_left (by omega)]
          simpa [List.flatMap] using hown'
        have Hown2 := Lib.hid hown2
        have Hb2 := Lib.hid hb2
        clear hown hgrow hbr hown' hown2 hb2 c0 c1
        go_wp2_with fail
        go_roundw
        case rel => exact ⟨k + 1, by omega, by go_num, Hown2.out, Hb2.out⟩
        case measure => simp [intOf]; omega
    · have d0 : decide (k < n) = false := by simpa using hlt
      obtain rfl : k = n := by omega
      have Htake : Hid (l.take k = l) := Lib.hid (List.take_of_length_le (by rw [← Hn.out]; omega))
      rw [Htake.out] at hown
      clear hlen
      go_wp2_with (at_builtin; refine wpList_append_own _ rfl _ _ 25 rfl w.heap.size 49 i0 (.agg #[.int .i64 0, .int .i64 0]) 2 16 Try.underlying25 hi hz0 hz1 hz2 rfl (by decide) _ _ _ rfl (hown.alloc _) ⟨wo.heap.size, 0, none⟩ 1 1 (oc (x, b)) rfl rfl (oc_one _ _ _) (oc_cell _) ?c3 ?c4 ?c5 ?_)
      case c3 => unfold maxLen; omega
      case c4 => omega
      case c5 => have := hbr.size; simp; omega
      · intro v' w2 hown' hgrow _
        have hb2 : Below w.heap.size w w2 := by
          have hs := hbr.size
          exact (hbr.alloc (by omega) _).grown hgrow (by simp; omega) (fun k hk => own_ge hown k hk)
        have hown2 : OneT w.heap.size w2 v' (l ++ [(x, b)]) := by
          unfold OneT
          rw [List.flatMap_append, List.length_append, ← Hn.out]
          simpa [List.flatMap] using hown'
        have Hown2 := Lib.hid hown2
        have Hb2 := Lib.hid hb2
        clear hown hgrow hbr hown' hown2 hb2
        go_wp2_with fail
        go_ret2
        exact ⟨_, rfl, Hown2.out, Hb2.out⟩

set_option maxHeartbeats 1000000 in
theorem refpush_high (base : Nat) (A : Option Addr) (n c : Nat) (l : List (Int × Nat)) (m x : Int) (b : Int) (w : World) (hn : n = l.length) (h : OneT base w (.slice A n c) l) (hb : n ≤ 1000) (h0 : decide (x < 0) = false) (h1 : decide (m ≤ x) = false) (h2 : x ∉ l.map Prod.fst) (hd : decide (b < 0) = false) (hd2 : decide (3 < b) = true) :
    Calls Try.prog 10 #[.slice A n c, .int .i64 m, .int .i64 x, .int .i64 b] w fun e w' => ∃ v, e = .returned (.tuple #[v, .bool true]) ∧ OneT w.heap.size w' v (l ++ [(x, 3)]) ∧ Below w.heap.size w w' := by
  have HC := Lib.hid (refhas base A n c l x w hn h hb)
  rw [decide_eq_false h2] at HC
  obtain ⟨i0, hi, hz0, hz1, hz2⟩ := info_parts info49
  have H := Lib.hid h
  have Hn := Lib.hid hn
  clear hn h h2
  go_enter Try.func10, Try.ntmps10
  go_wp2_with fail
  refine HC.out.mono ?_
  rintro e w1 ⟨rfl, rfl⟩
  clear HC
  go_wp2_with fail
  go_loopw [11, 12] (fun v i wr => ∃ k : Nat, k ≤ n ∧ i = .int .i64 (k : Nat) ∧ OneT w.heap.size wr v (l.take k) ∧ Below w.heap.size w wr) (fun _ i _ => n - (intOf i).toNat)
  case atStart => exact ⟨0, Nat.zero_le _, rfl, OneT.nil _ _, Below.refl _ _⟩
  case round =>
    obtain ⟨wo, rfl⟩ : ∃ wo, wo = wr := ⟨_, rfl⟩
    obtain ⟨k, hk, rfl, hown, hbr⟩ := hrel
    have hlen : (l.take k).length = k := by rw [List.length_take, ← Hn.out]; omega
    unfold OneT at hown
    rw [hlen] at hown
    obtain ⟨Ao, co, e⟩ := slice_row hown
    subst e
    by_cases hlt : k < n
    · obtain ⟨p, hp⟩ : ∃ p, l[k]? = some p := ⟨_, List.getElem?_eq_getElem (by rw [← Hn.out]; exact hlt)⟩
      obtain ⟨g, rfl, c0, c1⟩ := (H.out.below hbr).get hp
      have hki : (k : Int) < (n : Nat) := by omega
      have d0 : decide (k < n) = true := by simpa using hlt
      have Hp := Lib.hid hp
      clear hp hlen
      obtain ⟨y, z⟩ := p
      simp only at c0 c1
      go_wp2_with (at_builtin; refine wpList_append_own _ rfl _ _ 25 rfl w.heap.size 49 i0 (.agg #[.int .i64 0, .int .i64 0]) 2 16 Try.underlying25 hi hz0 hz1 hz2 rfl (by decide) _ _ _ rfl (hown.alloc _) ⟨wo.heap.size, 0, none⟩ 1 1 (oc (y, z)) rfl rfl (oc_one _ _ _) (oc_cell _) ?c3 ?c4 ?c5 ?_)
      case c3 => unfold maxLen; omega
      case c4 => omega
      case c5 => have := hbr.size; simp; omega
      · intro v' w2 hown' hgrow _
        have hb2 : Below w.heap.size w w2 := by
          have hs := hbr.size
          exact (hbr.alloc (by omega) _).grown hgrow (by simp; omega) (fun k hk => own_ge hown k hk)
        have hown2 : OneT w.heap.size w2 v' (l.take (k + 1)) := by
          unfold OneT
          rw [take_snoc Hp.out, List.flatMap_append, List.length_append, List.length_take, ← Hn.out, Nat.min_eq_left (by omega)]
          simpa [List.flatMap] using hown'
        have Hown2 := Lib.hid hown2
        have Hb2 := Lib.hid hb2
        clear hown hgrow hbr hown' hown2 hb2 c0 c1
        go_wp2_with fail
        go_roundw
        case rel => exact ⟨k + 1, by omega, by go_num, Hown2.out, Hb2.out⟩
        case measure => simp [intOf]; omega
    · have d0 : decide (k < n) = false := by simpa using hlt
      obtain rfl : k = n := by omega
      have Htake : Hid (l.take k = l) := Lib.hid (List.take_of_length_le (by rw [← Hn.out]; omega))
      rw [Htake.out] at hown
      clear hlen
      go_wp2_with (at_builtin; refine wpList_append_own _ rfl _ _ 25 rfl w.heap.size 49 i0 (.agg #[.int .i64 0, .int .i64 0]) 2 16 Try.underlying25 hi hz0 hz1 hz2 rfl (by decide) _ _ _ rfl (hown.alloc _) ⟨wo.heap.size, 0, none⟩ 1 1 (oc (x, 3)) rfl rfl (oc_one _ _ _) (oc_cell _) ?c3 ?c4 ?c5 ?_)
      case c3 => unfold maxLen; omega
      case c4 => omega
      case c5 => have := hbr.size; simp; omega
      · intro v' w2 hown' hgrow _
        have hb2 : Below w.heap.size w w2 := by
          have hs := hbr.size
          exact (hbr.alloc (by omega) _).grown hgrow (by simp; omega) (fun k hk => own_ge hown k hk)
        have hown2 : OneT w.heap.size w2 v' (l ++ [(x, 3)]) := by
          unfold OneT
          rw [List.flatMap_append, List.length_append, ← Hn.out]
          simpa [List.flatMap] using hown'
        have Hown2 := Lib.hid hown2
        have Hb2 := Lib.hid hb2
        clear hown hgrow hbr hown' hown2 hb2
        go_wp2_with fail
        go_ret2
        exact ⟨_, rfl, Hown2.out, Hb2.out⟩

theorem refpush_yes (base : Nat) (A : Option Addr) (n c : Nat) (l : List (Int × Nat)) (m x b : Int) (w : World) (hn : n = l.length) (h : OneT base w (.slice A n c) l) (hb : n ≤ 1000) (h0 : decide (x < 0) = false) (h1 : decide (m ≤ x) = false) (h2 : x ∉ l.map Prod.fst) :
    Calls Try.prog 10 #[.slice A n c, .int .i64 m, .int .i64 x, .int .i64 b] w fun e w' => ∃ v, e = .returned (.tuple #[v, .bool true]) ∧ OneT w.heap.size w' v (l ++ [(x, bk b)]) ∧ Below w.heap.size w w' := by
  by_cases hb0 : b < 0
  · rw [show bk b = 0 by unfold bk; omega]
    exact refpush_low base A n c l m x b w hn h hb h0 h1 h2 (by simpa using hb0)
  · by_cases hb3 : 3 < b
    · rw [show bk b = 3 by unfold bk; omega]
      exact refpush_high base A n c l m x b w hn h hb h0 h1 h2 (by simpa using hb0) (by simpa using hb3)
    · obtain ⟨k, rfl⟩ : ∃ k : Nat, b = (k : Nat) := ⟨b.toNat, by omega⟩
      rw [show bk (k : Nat) = k by unfold bk; omega]
      exact refpush_mid base A n c l m x k w hn h hb h0 h1 h2 (by simp) (by simp; omega)
end Go.Proofs.Ytfbpdkajonpphaa
