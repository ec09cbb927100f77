/- Contract of the reference's Pop. -/
import Derived.Test.YtfbpdkajonpphaaRp
import Derived.Deep.QuietTactic
import Derived.BigQuiet
namespace Go.Proofs.Ytfbpdkajonpphaa
open Go.RowKit Go.Maps

theorem split_unique : ∀ (l1 m1 l2 m2 : List (Int × Nat)) (x y : Int) (b : Nat), l1 ++ (x, b) :: l2 = m1 ++ (y, b) :: m2 → (∀ p ∈ l1, p.2 ≠ b) → (∀ p ∈ m1, p.2 ≠ b) → l1 = m1 ∧ x = y ∧ l2 = m2
  | [], [], l2, m2, x, y, b, e, _, _ => by
    simp at e
    exact ⟨rfl, e.1, e.2⟩
  | [], p :: m1, l2, m2, x, y, b, e, _, h2 => by
    simp at e
    exact absurd (by rw [← e.1]) (h2 p (by simp))
  | p :: l1, [], l2, m2, x, y, b, e, h1, _ => by
    simp at e
    exact absurd (by rw [e.1]) (h1 p (by simp))
  | p :: l1, p' :: m1, l2, m2, x, y, b, e, h1, h2 => by
    simp only [List.cons_append, List.cons.injEq] at e
    obtain ⟨e1, e2⟩ := e
    obtain ⟨a, b', c⟩ := split_unique l1 m1 l2 m2 x y b e2 (fun p hp => h1 p (List.mem_cons_of_mem _ hp)) (fun p hp => h2 p (List.mem_cons_of_mem _ hp))
    exact ⟨by rw [e1, a], b', c⟩

theorem Most.unique {l l1 l2 m1 m2 : List (Int × Nat)} {x y : Int} {b c : Nat} (h : Most l l1 l2 x b) (k : Most l m1 m2 y c) : l1 = m1 ∧ l2 = m2 ∧ x = y ∧ b = c := by
  have e1 := h.low _ k.mem
  have e2 := k.low _ h.mem
  simp only at e1 e2
  obtain rfl : b = c := by omega
  obtain ⟨a, d, e⟩ := split_unique l1 m1 l2 m2 x y b (h.eq.symm.trans k.eq) h.first k.first
  exact ⟨a, e, d, rfl⟩

theorem Most.one (p : Int × Nat) : Most [p] [] [] p.1 p.2 := ⟨rfl, by simp, by simp⟩
theorem Most.less {l l1 l2 : List (Int × Nat)} {x : Int} {b : Nat} {p : Int × Nat} (h : Most l l1 l2 x b) (hp : p.2 < b) : Most (l ++ [p]) l [] p.1 p.2 := by
  refine ⟨rfl, fun r hr e => ?_, fun r hr => ?_⟩
  · have := h.low r hr
    omega
  · rcases List.mem_append.1 hr with hr | hr
    · have := h.low r hr
      omega
    · rw [List.mem_singleton.1 hr]
      exact Nat.le_refl _
theorem Most.more {l l1 l2 : List (Int × Nat)} {x : Int} {b : Nat} {p : Int × Nat} (h : Most l l1 l2 x b) (hp : b ≤ p.2) : Most (l ++ [p]) l1 (l2 ++ [p]) x b := by
  refine ⟨by rw [h.eq, List.append_assoc]; rfl, h.first, fun r hr => ?_⟩
  rcases List.mem_append.1 hr with hr | hr
  · exact h.low r hr
  · rw [List.mem_singleton.1 hr]
    exact hp

/-- What the reference's first loop has found. -/
def Found (l : List (Int × Nat)) (k : Nat) (t : Int) : Prop := (k = 0 ∧ t = -1) ∨ (0 < k ∧ ∃ m1 m2 y c, Most (l.take k) m1 m2 y c ∧ t = (m1.length : Nat))

theorem Found.get {l : List (Int × Nat)} {k : Nat} {t : Int} (h : Found l k t) (hk : 0 < k) : ∃ (j c : Nat) (y : Int), t = (j : Nat) ∧ l[j]? = some (y, c) ∧ j < k ∧ ∀ p, l[k]? = some p → (p.2 < c → Found l (k + 1) (k : Nat)) ∧ (c ≤ p.2 → Found l (k + 1) t) := by
  rcases h with ⟨h, -⟩ | ⟨-, m1, m2, y, c, M, ht⟩
  · omega
  · have hl : l[m1.length]? = some (y, c) ∧ m1.length < k := by
      have e : (l.take k)[m1.length]? = some (y, c) := by rw [M.eq]; simp
      rw [List.getElem?_take] at e
      split at e
      · exact ⟨e, by assumption⟩
      · cases e
    refine ⟨m1.length, c, y, ht, hl.1, hl.2, fun p hp => ⟨fun hc => ?_, fun hc => ?_⟩⟩
    · refine .inr ⟨by omega, l.take k, [], p.1, p.2, ?_, ?_⟩
      · rw [take_snoc hp]
        exact M.less hc
      · have hk' := (List.getElem?_eq_some_iff.1 hp).1
        rw [List.length_take]
        omega
    · refine .inr ⟨by omega, m1, m2 ++ [p], y, c, ?_, ht⟩
      rw [take_snoc hp]
      exact M.more hc

theorem below_drewN {B : Nat} {w0 w : World} (h : Below B w0 w) (n : Nat) : Below B w0 (w.drewN n) := ⟨h.os, h.tape, h.output, h.size, h.block⟩

/-- The first k ones, without the one at j. -/
def skip (l : List (Int × Nat)) (j k : Nat) : List (Int × Nat) := (l.take k).eraseIdx j
theorem skip_zero (l : List (Int × Nat)) (j : Nat) : skip l j 0 = [] := by simp [skip]
theorem skip_step {l : List (Int × Nat)} {j k : Nat} {p : Int × Nat} (hp : l[k]? = some p) : skip l j (k + 1) = if k = j then skip l j k else skip l j k ++ [p] := by
  have hk := (List.getElem?_eq_some_iff.1 hp).1
  have hl : (l.take k).length = k := by rw [List.length_take]; omega
  unfold skip
  rw [take_snoc hp]
  split
  · next h =>
    subst h
    rw [List.eraseIdx_append_of_length_le (by omega), List.eraseIdx_of_length_le (l := l.take k) (by omega), hl]
    simp
  · next h =>
    by_cases hj : j < k
    · rw [List.eraseIdx_append_of_lt_length (by omega)]
    · rw [List.eraseIdx_append_of_length_le (by omega), List.eraseIdx_of_length_le (l := l.take k) (by omega), List.eraseIdx_of_length_le (l := [p]) (by simp; omega)]
theorem skip_len (l : List (Int × Nat)) (j k : Nat) : (skip l j k).length ≤ k := by
  unfold skip
  have h1 := List.length_eraseIdx_le (l.take k) j
  have h2 := List.length_take_le k l
  omega
theorem skip_all {l l1 l2 : List (Int × Nat)} {x : Int} {b k : Nat} (M : Most l l1 l2 x b) (hk : l.length ≤ k) : skip l l1.length k = l1 ++ l2 := by
  unfold skip
  rw [List.take_of_length_le hk, M.eq, List.eraseIdx_append_of_length_le (Nat.le_refl _)]
  simp

theorem refpop_none (A : Option Addr) (c : Nat) (w : World) : Calls Try.prog 8 #[.slice A 0 c] w fun e w' => e = .returned (.tuple #[.slice A 0 c, .int .i64 0, .bool false]) ∧ w = w' := by
  go_enter Try.func8, Try.ntmps8
  go_wp2_with fail
  refine wp_loop_rounds 1 ?_
  rw [rounds_succ]
  go_wp2_with fail
  go_ret3
  exact ⟨rfl, rfl⟩

set_option maxHeartbeats 1000000 in
theorem refpop_most (base : Nat) (A : Option Addr) (n c : Nat) (l l1 l2 : List (Int × Nat)) (x : Int) (b : Nat) (w : World) (hn : n = l.length) (h : OneT base w (.slice A n c) l) (hb : n ≤ 1000) (M : Most l l1 l2 x b) :
    Calls Try.prog 8 #[.slice A n c] w fun e w' => ∃ v, e = .returned (.tuple #[v, .int .i64 x, .bool true]) ∧ OneT w.heap.size w' v (l1 ++ l2) ∧ Below w.heap.size w w' := by
  obtain ⟨i0, hi, hz0, hz1, hz2⟩ := info_parts info49
  have hn0 : 0 < n := by rw [hn, M.eq]; simp; omega
  have H := Lib.hid h
  have Hn := Lib.hid hn
  have HM := Lib.hid M
  clear hn h M
  go_enter Try.func8, Try.ntmps8
  go_wp2_with fail
  go_loopw [5, 6] (fun t i wr => ∃ (k : Nat) (t' : Int), k ≤ n ∧ i = .int .i64 (k : Nat) ∧ t = .int .i64 t' ∧ Hid (Found l k t') ∧ Below w.heap.size w wr) (fun _ i _ => n - (intOf i).toNat)
  case atStart => exact ⟨0, -1, Nat.zero_le _, rfl, rfl, Lib.hid (.inl ⟨rfl, rfl⟩), Below.refl _ _⟩
  case round =>
    obtain ⟨wo, rfl⟩ : ∃ wo, wo = wr := ⟨_, rfl⟩
    obtain ⟨k, t', hk, rfl, rfl, HF, hbr⟩ := hrel
    by_cases hlt : k < n
    · obtain ⟨p, hp⟩ : ∃ p, l[k]? = some p := ⟨_, List.getElem?_eq_getElem (by rw [← Hn.out]; exact hlt)⟩
      have hki : (k : Int) < (n : Nat) := by omega
      have d0 : decide (k < n) = true := by simpa using hlt
      have Hp := Lib.hid hp
      have HB := Lib.hid hbr
      by_cases hk0 : k = 0
      · have ht : t' = -1 := by
          rcases HF.out with ⟨-, h⟩ | ⟨h, -⟩
          · exact h
          · omega
        have hd : decide (t' < 0) = true := by rw [ht]; rfl
        have HT := Lib.hid ht
        have HK := Lib.hid hk0
        clear ht hp hbr hk0
        go_wp2_with fail
        go_quiet (fail)
        go_wp2_with fail
        go_roundw
        case rel =>
          refine ⟨k + 1, k, by omega, by go_num, rfl, Lib.hid ?_, below_drewN HB.out _⟩
          have e := HK.out
          subst e
          refine .inr ⟨by omega, [], [], p.1, p.2, ?_, by simp⟩
          rw [take_snoc Hp.out]
          exact Most.one p
        case measure => simp [intOf]; omega
      · obtain ⟨j, cj, y, ht, hj, hjk, hstep⟩ := HF.out.get (by omega)
        subst ht
        obtain ⟨g, rfl, -, c1⟩ := (H.out.below hbr).get hp
        obtain ⟨g', hg', -, c2⟩ := (H.out.below hbr).get hj
        obtain rfl : g = g' := by injection hg' with hg'; injection hg'
        have hji : (j : Int) < (n : Nat) := by omega
        have hd : decide ((j : Int) < 0) = false := by simp
        have HS := Lib.hid (hstep p Hp.out)
        obtain ⟨pi, pb⟩ := p
        simp only at c1 c2
        clear hg' hp hbr hj hstep
        by_cases hc : pb < cj
        · have hd2 : decide (pb < cj) = true := by simpa using hc
          go_wp2_with fail
          go_quiet (fail)
          go_wp2_with fail
          go_roundw
          case rel => exact ⟨k + 1, k, by omega, by go_num, rfl, Lib.hid (HS.out.1 hc), below_drewN HB.out _⟩
          case measure => simp [intOf]; omega
        · have hd2 : decide (pb < cj) = false := by simpa using hc
          go_wp2_with fail
          go_quiet (fail)
          go_wp2_with fail
          go_roundw
          case rel => exact ⟨k + 1, j, by omega, by go_num, rfl, Lib.hid (HS.out.2 (by omega)), below_drewN HB.out _⟩
          case measure => simp [intOf]; omega
    · have d0 : decide (k < n) = false := by simpa using hlt
      obtain ⟨j, hj, ht⟩ : ∃ j : Nat, j = l1.length ∧ t' = (j : Nat) := by
        rcases HF.out with ⟨h, -⟩ | ⟨-, m1, m2, y, cc, M', ht⟩
        · omega
        · rw [List.take_of_length_le (by rw [← Hn.out]; omega)] at M'
          exact ⟨m1.length, by rw [(HM.out.unique M').1], ht⟩
      subst ht
      have hjl : j < n := by rw [Hn.out, hj, HM.out.eq]; simp
      have hji : (j : Int) < (n : Nat) := by omega
      have hjx : l[j]? = some (x, b) := by rw [hj, HM.out.eq]; simp
      obtain ⟨g, rfl, -, -⟩ := (H.out.below hbr).get hjx
      have Hj := Lib.hid hj
      have Hjx := Lib.hid hjx
      have hd : decide ((j : Int) < 0) = false := by simp
      have HB := Lib.hid hbr
      clear HF hj hjx hbr
      go_wp2_with fail
      go_loopw [7, 8] (fun v i wr => ∃ k : Nat, k ≤ n ∧ i = .int .i64 (k : Nat) ∧ OneT w.heap.size wr v (skip l j k) ∧ Hid (Below w.heap.size w wr)) (fun _ i _ => n - (intOf i).toNat)
      case atStart => exact ⟨0, Nat.zero_le _, rfl, by rw [skip_zero]; exact OneT.nil _ _, HB⟩
      case round =>
        clear hlt d0 HB
        obtain ⟨wi, rfl⟩ : ∃ wi, wi = wr := ⟨_, rfl⟩
        obtain ⟨k, hk, rfl, hown, HBr⟩ := hrel
        unfold OneT at hown
        obtain ⟨Ao, co, e⟩ := slice_row hown
        obtain ⟨z, hz⟩ : ∃ z, z = (skip l j k).length := ⟨_, rfl⟩
        rw [← hz] at hown e
        have hzk : z ≤ k := by rw [hz]; exact skip_len _ _ _
        have Hz := Lib.hid hz
        subst e
        clear hz
        by_cases hlt : k < n
        · obtain ⟨p, hp⟩ : ∃ p, l[k]? = some p := ⟨_, List.getElem?_eq_getElem (by rw [← Hn.out]; exact hlt)⟩
          obtain ⟨g', hg', c0, c1⟩ := (H.out.below HBr.out).get hp
          obtain rfl : g = g' := by injection hg' with hg'; injection hg'
          have hki : (k : Int) < (n : Nat) := by omega
          have d0 : decide (k < n) = true := by simpa using hlt
          have Hs := Lib.hid (skip_step (j := j) hp)
          obtain ⟨pi, pb⟩ := p
          simp only at c0 c1
          clear hg' hp
          by_cases hkj : k = j
          · have d1 : ((k : Int) != (j : Int)) = false := by simp [hkj]
            have hs := Hs.out
            rw [if_pos hkj] at hs
            have HR : Hid (OneT w.heap.size wi (.slice Ao z co) (skip l j (k + 1))) := Lib.hid (by rw [hs]; unfold OneT; rw [← Hz.out]; exact hown)
            clear hs hkj Hs hown c0 c1
            go_wp2_with fail
            go_roundw
            case rel => exact ⟨k + 1, by omega, by go_num, HR.out, HBr⟩
            case measure => simp [intOf]; omega
          · have d1 : ((k : Int) != (j : Int)) = true := by simp; omega
            have hs := Hs.out
            rw [if_neg hkj] at hs
            have HS := Lib.hid hs
            clear hs hkj Hs
            go_wp2_with (at_builtin; refine wpList_append_own _ rfl _ _ 25 rfl w.heap.size 49 i0 (.agg #[.int .i64 0, .int .i64 0]) 2 16 Try.underlying25 hi hz0 hz1 hz2 rfl (by decide) _ _ _ rfl (hown.alloc _) ⟨wi.heap.size, 0, none⟩ 1 1 (oc (pi, pb)) rfl rfl (oc_one _ _ _) (oc_cell _) ?c3 ?c4 ?c5 ?_)
            case c3 => unfold maxLen; omega
            case c4 => omega
            case c5 => have := HBr.out.size; simp; omega
            · intro v' w2 hown' hgrow _
              have hb2 : Below w.heap.size w w2 := by
                have hs := HBr.out.size
                exact (HBr.out.alloc (by omega) _).grown hgrow (by simp; omega) (fun k hk => own_ge hown k hk)
              have hown2 : OneT w.heap.size w2 v' (skip l j (k + 1)) := by
                unfold OneT
                rw [HS.out, List.flatMap_append, List.length_append, ← Hz.out]
                simpa [List.flatMap] using hown'
              have Hown2 := Lib.hid hown2
              have Hb2 := Lib.hid hb2
              clear hown hgrow hown' hown2 hb2 c0 c1
              go_wp2_with fail
              go_roundw
              case rel => exact ⟨k + 1, by omega, by go_num, Hown2.out, Hb2⟩
              case measure => simp [intOf]; omega
        · have d0 : decide (k < n) = false := by simpa using hlt
          obtain ⟨g', hg', c0, -⟩ := (H.out.below HBr.out).get Hjx.out
          obtain rfl : g = g' := by injection hg' with hg'; injection hg'
          simp only at c0
          have HR : Hid (OneT w.heap.size wi (.slice Ao z co) (l1 ++ l2)) := Lib.hid (by
            rw [← skip_all HM.out (k := k) (by rw [← Hn.out]; omega), ← Hj.out]
            unfold OneT
            rw [← Hz.out]
            exact hown)
          clear hown hg'
          go_wp2_with fail
          go_quiet (fail)
          go_wp2_with fail
          go_ret3
          exact ⟨_, rfl, HR.out.below (below_drewN (Below.refl _ _) _), below_drewN HBr.out _⟩
end Go.Proofs.Ytfbpdkajonpphaa
