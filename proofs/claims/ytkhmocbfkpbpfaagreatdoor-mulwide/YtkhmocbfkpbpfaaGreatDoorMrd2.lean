/- Contracts of the document's value, Those, Between, ends (layers 11 and 12). -/
import Derived.Test.YtkhmocbfkpbpfaaGreatDoorMulp
import Derived.Test.YtkhmocbfkpbpfaaGreatDoorLn2
import Derived.Test.YtkhmocbfkpbpfaaGreatDoorDput
import Derived.Test.YtkhmocbfkpbpfaaGreatDoorRg2
namespace Go.Proofs.YtkhmocbfkpbpfaaGreatDoor
open Go.RowKit Go.Sort

theorem value_any (kind a b : Int) (w : World) (hk : kind = 5 ∨ kind = 6 ∨ kind = 7 ∨ kind = 9 ∨ kind = 10) (ha : -1000000 ≤ a ∧ a ≤ 1000000) (hb : -1000000 ≤ b ∧ b ≤ 1000000) :
    Calls Tryz.prog 125 #[.int .i64 kind, .int .i64 a, .int .i64 b] w fun e w' => e = .returned (optI (kindV kind a b)) ∧ w = w' := by
  rcases hk with rfl | rfl | rfl | rfl | rfl
  · have HV : Hid (kindV 5 a b = some (a * b)) := Lib.hid (by simp [kindV])
    have hp := prod_lim (a := a) (b := b) (by omega) (by omega)
    have b1 : IntKind.i64.wrap (a * b) = a * b := IntWalk.i64_in _ (by omega)
    clear ha hb hp
    go_enter Tryz.func125, Tryz.ntmps125
    go_wp2_with fail
    go_ret2
    rw [HV.out]
    exact ⟨rfl, rfl⟩
  · by_cases h0 : b = 0
    · have HV : Hid (kindV 6 a b = none) := Lib.hid (by simp [kindV, h0])
      have CQ := Lib.hid (rquo_no a b w h0)
      clear ha hb h0
      go_enter Tryz.func125, Tryz.ntmps125
      go_wp2_with (go_at_call 134; with_reducible refine CQ.out.mono ?_; rintro e w' ⟨rfl, rfl⟩)
      go_ret2
      rw [HV.out]
      exact ⟨rfl, rfl⟩
    · have HV : Hid (kindV 6 a b = some (a.tdiv b)) := Lib.hid (by simp [kindV, h0])
      have CQ := Lib.hid (rquo_yes a b w ha hb h0)
      clear ha hb h0
      go_enter Tryz.func125, Tryz.ntmps125
      go_wp2_with (go_at_call 134; with_reducible refine CQ.out.mono ?_; rintro e w' ⟨rfl, rfl⟩)
      go_ret2
      rw [HV.out]
      exact ⟨rfl, rfl⟩
  · by_cases h0 : b = 0
    · have HV : Hid (kindV 7 a b = none) := Lib.hid (by simp [kindV, h0])
      have CQ := Lib.hid (rquo_no a b w h0)
      have CR : Hid (Calls Tryz.prog 178 #[.int .i64 a, .int .i64 b] w fun e w' => e = .returned (.tuple #[.int .i64 0, .bool false]) ∧ w = w') := Lib.hid (by
        clear HV ha hb h0
        go_enter Tryz.func178, Tryz.ntmps178
        go_wp2_with (go_at_call 134; with_reducible refine CQ.out.mono ?_; rintro e w' ⟨rfl, rfl⟩)
        go_ret2
        exact ⟨rfl, rfl⟩)
      clear ha hb h0 CQ
      go_enter Tryz.func125, Tryz.ntmps125
      go_wp2_with (go_at_call 178; with_reducible refine CR.out.mono ?_; rintro e w' ⟨rfl, rfl⟩)
      go_ret2
      rw [HV.out]
      exact ⟨rfl, rfl⟩
    · have HV : Hid (kindV 7 a b = some (a.tmod b)) := Lib.hid (by simp [kindV, h0])
      have CQ := Lib.hid (rquo_yes a b w ha hb h0)
      have hq := tdiv_lim (a := a) (b := b) (by omega)
      have hcs := cut_sum a b
      have hm := tmod_lim (a := a) (b := b) (by omega)
      have w1 : IntKind.i64.wrap (b * a.tdiv b) = b * a.tdiv b := IntWalk.i64_in _ (by omega)
      have w2 : IntKind.i64.wrap (a - b * a.tdiv b) = a.tmod b := by
        rw [show a - b * a.tdiv b = a.tmod b by omega]
        exact IntWalk.i64_in _ (by omega)
      have CR : Hid (Calls Tryz.prog 178 #[.int .i64 a, .int .i64 b] w fun e w' => e = .returned (.tuple #[.int .i64 (a.tmod b), .bool true]) ∧ w = w') := Lib.hid (by
        clear HV ha hb h0 hq hcs hm
        go_enter Tryz.func178, Tryz.ntmps178
        go_wp2_with (go_at_call 134; with_reducible refine CQ.out.mono ?_; rintro e w' ⟨rfl, rfl⟩)
        go_ret2
        exact ⟨rfl, rfl⟩)
      clear ha hb h0 CQ hq hcs hm w1 w2
      go_enter Tryz.func125, Tryz.ntmps125
      go_wp2_with (go_at_call 178; with_reducible refine CR.out.mono ?_; rintro e w' ⟨rfl, rfl⟩)
      go_ret2
      rw [HV.out]
      exact ⟨rfl, rfl⟩
  · by_cases g : a < b
    · have HV : Hid (kindV 9 a b = some a) := Lib.hid (by rw [kindV_9, Int.min_eq_left (by omega)])
      have t1 : decide (a < b) = true := by simpa using g
      clear ha hb g
      go_enter Tryz.func125, Tryz.ntmps125
      go_wp2_with fail
      go_ret2
      rw [HV.out]
      exact ⟨rfl, rfl⟩
    · have HV : Hid (kindV 9 a b = some b) := Lib.hid (by rw [kindV_9, Int.min_eq_right (by omega)])
      have t1 : decide (a < b) = false := by simpa using g
      clear ha hb g
      go_enter Tryz.func125, Tryz.ntmps125
      go_wp2_with fail
      go_ret2
      rw [HV.out]
      exact ⟨rfl, rfl⟩
  · by_cases g : b < a
    · have HV : Hid (kindV 10 a b = some a) := Lib.hid (by rw [kindV_10, Int.max_eq_left (by omega)])
      have t1 : decide (b < a) = true := by simpa using g
      clear ha hb g
      go_enter Tryz.func125, Tryz.ntmps125
      go_wp2_with fail
      go_ret2
      rw [HV.out]
      exact ⟨rfl, rfl⟩
    · have HV : Hid (kindV 10 a b = some b) := Lib.hid (by rw [kindV_10, Int.max_eq_right (by omega)])
      have t1 : decide (b < a) = false := by simpa using g
      clear ha hb g
      go_enter Tryz.func125, Tryz.ntmps125
      go_wp2_with fail
      go_ret2
      rw [HV.out]
      exact ⟨rfl, rfl⟩

/-- Bits that lie in a block of their own. -/
def MarkB (W : World) (g : Nat) (M : List Bool) : Prop := W.heap[g]? = some (.cells (M.map Value.bool).toArray 4 (0, 0))
theorem MarkB.lt {W : World} {g : Nat} {M : List Bool} (h : MarkB W g M) : g < W.heap.size := (Array.getElem?_eq_some_iff.1 h).1
theorem MarkB.below {W W' : World} {g : Nat} {M : List Bool} (h : MarkB W g M) (b : Below W.heap.size W W') : MarkB W' g M := (b.block g h.lt).trans h
theorem MarkB.cell {W : World} {g : Nat} {M : List Bool} (h : MarkB W g M) {i : Nat} (hi : i < M.length) : W.cell? ⟨g, i, none⟩ = some (.bool (M.getD i false)) := by
  refine blk_cell h ?_
  rw [List.getElem?_toArray, List.getElem?_map, List.getElem?_eq_getElem hi, List.getD_eq_getElem?_getD, List.getElem?_eq_getElem hi]
  rfl
theorem MarkB.free {W : World} {g : Nat} {M : List Bool} (h : MarkB W g M) (i : Nat) : W.frozen? ⟨g, i, none⟩ = false := box_free h i
theorem MarkB.put {W : World} {g : Nat} {M : List Bool} (h : MarkB W g M) (i : Nat) : MarkB (W.setCell ⟨g, i, none⟩ (.bool true)) g (M.set i true) := by
  have := heap_setCell_same W g i _ 4 (.bool true) h
  unfold MarkB
  rw [this]
  congr 2
  apply Array.ext'
  rw [Array.toList_setIfInBounds]
  simp [List.map_set]
theorem MarkB.far {W : World} {g g' : Nat} {M : List Bool} (h : MarkB W g M) (hne : g ≠ g') (i : Nat) (v : Value) : MarkB (W.setCell ⟨g', i, none⟩ v) g M := (heap_setCell_other W _ g v hne).trans h

/-- Those of a list whose bit is set. -/
def thoseE (L : List Int) (M : List Bool) (k : Nat) : List Int := ((List.range k).filter fun i => M.getD i false).map fun i => L.getD i 0
theorem thoseE_step (L : List Int) (M : List Bool) (k : Nat) : thoseE L M (k + 1) = thoseE L M k ++ if M.getD k false = true then [L.getD k 0] else [] := by
  unfold thoseE
  rw [List.range_succ, List.filter_append, List.map_append]
  congr 1
  rw [List.filter_cons]
  split
  · rfl
  · rfl
theorem thoseE_len (L : List Int) (M : List Bool) (k : Nat) : (thoseE L M k).length ≤ k := by
  unfold thoseE
  rw [List.length_map]
  exact Nat.le_trans (List.length_filter_le _ _) (by simp)

set_option maxHeartbeats 2000000 in
set_option maxRecDepth 100000 in
theorem those_any (x : Sl) (L : List Int) (g cM : Nat) (M : List Bool) (w : World) (h : IsInts w x L) (hm : MarkB w g M) (hl : M.length = L.length) (hb : L.length ≤ 200000) :
    Calls Tryz.prog 124 #[.slice x.A x.n x.c, .slice (some ⟨g, 0, none⟩) L.length cM] w fun e w' => (∃ y : Sl, e = .returned (.slice y.A y.n y.c) ∧ Row3 w' w.heap.size y (thoseE L M L.length)) ∧ Below w.heap.size w w' := by
  obtain ⟨i0, hi, hz0, hz1, hz2⟩ := info_parts Tryz.info3
  obtain ⟨A, n, c⟩ := x
  have Hn := Lib.hid h.len
  have HI := Lib.hid h
  have HM := Lib.hid hm
  have hn : n = L.length := h.len
  subst hn
  clear h hm
  go_enter Tryz.func124, Tryz.ntmps124
  go_wp2_with fail
  go_loopw [5, 6] (fun s i wr => ∃ (k : Nat) (y : Sl), s = .slice y.A y.n y.c ∧ i = .int .i64 (k : Nat) ∧ k ≤ L.length ∧ Hid (SepL w.heap.size wr [(y, thoseE L M k)]) ∧ Hid (Below w.heap.size w wr)) (fun _ i _ => L.length - (intOf i).toNat)
  case atStart => exact ⟨0, ⟨none, 0, 0⟩, rfl, rfl, by omega, Lib.hid ((SepL.nil _ w (Nat.le_refl _)).cons (Below.refl _ _) (Row3.nil _ _) (by intro g hg; cases hg)), Lib.hid (Below.refl _ _)⟩
  case round =>
    obtain ⟨k, y, rfl, rfl, hk, HS, HB⟩ := hrel
    by_cases hlt : k < L.length
    · have hc := (HM.out.below HB.out).cell (i := k) (by rw [hl]; exact hlt)
      have HST := Lib.hid (thoseE_step L M k)
      have NL : Hid ((thoseE L M k).length < 1000000) := Lib.hid (by have := thoseE_len L M k; omega)
      cases hb' : M.getD k false
      · rw [hb'] at hc HST
        have HE : Hid (thoseE L M (k + 1) = thoseE L M k) := Lib.hid (by rw [HST.out]; simp)
        clear hb' HST
        go_wp2_with fail
        go_roundw
        case rel => exact ⟨k + 1, y, rfl, by go_num, by omega, Lib.hid (by rw [HE.out]; exact HS.out), HB⟩
        case measure => simp [intOf]; omega
      · rw [hb'] at hc HST
        obtain ⟨ad, eA, hbk, hcl⟩ := (HI.out.below HB.out).lies (show 0 < L.length by omega)
        simp only at eA
        subst eA
        have hv : wr.cell? (ad.add k) = some (.int .i64 (L.getD k 0)) := hcl k hlt
        obtain ⟨vv, hvv⟩ : ∃ vv, vv = L.getD k 0 := ⟨_, rfl⟩
        rw [← hvv] at hv HST
        have HE : Hid (thoseE L M (k + 1) = thoseE L M k ++ [vv]) := Lib.hid (by rw [HST.out]; simp)
        clear hb' HST hvv hcl hbk
        go_wp2_with (at_builtin; refine wpList_append_sep rfl _ _ 30 rfl Tryz.underlying30 Tryz.info3 HS.out 0 y _ vv rfl rfl rfl NL.out ?_; intro y1 w4 S4 b4; have HS4 := Lib.hid S4; have HB4 := Lib.hid (HB.out.trans b4); clear S4 b4)
        go_roundw
        case rel => exact ⟨k + 1, y1, rfl, by go_num, by omega, Lib.hid (by rw [HE.out]; exact HS4.out), HB4⟩
        case measure => simp [intOf]; omega
    · have HR := Lib.hid (HS.out.row (k := 0) rfl)
      have e3 : k = L.length := by omega
      subst e3
      clear hlt
      go_wp2_with fail
      go_ret
      exact ⟨⟨y, rfl, HR.out⟩, HB.out⟩
end Go.Proofs.YtkhmocbfkpbpfaaGreatDoor

/- The marks of the document's Pairs: which numbers of three lists are in a solution among the places gone through. No walk. -/
namespace Go.Proofs.YtkhmocbfkpbpfaaGreatDoor
open Go.RowKit

/-- Is a place gone through? -/
def goneB (i k j i' k' j' : Nat) : Prop := i' < i ∨ (i' = i ∧ (k' < k ∨ (k' = k ∧ j' < j)))
/-- The marks, so far. -/
structure Marks (hit : Nat → Nat → Nat → Prop) (na nb nc i k j : Nat) (MA MB MC : List Bool) (an : Bool) : Prop where
  la : MA.length = na
  lb : MB.length = nb
  lc : MC.length = nc
  a : ∀ i', i' < na → (MA.getD i' false = true ↔ ∃ k' j', k' < nb ∧ j' < nc ∧ goneB i k j i' k' j' ∧ hit i' k' j')
  b : ∀ k', k' < nb → (MB.getD k' false = true ↔ ∃ i' j', i' < na ∧ j' < nc ∧ goneB i k j i' k' j' ∧ hit i' k' j')
  c : ∀ j', j' < nc → (MC.getD j' false = true ↔ ∃ i' k', i' < na ∧ k' < nb ∧ goneB i k j i' k' j' ∧ hit i' k' j')
  an : an = true ↔ ∃ i' k' j', i' < na ∧ k' < nb ∧ j' < nc ∧ goneB i k j i' k' j' ∧ hit i' k' j'
theorem getD_rep_false (n i : Nat) : (List.replicate n false).getD i false = false := by
  rw [List.getD_eq_getElem?_getD, List.getElem?_replicate]
  split <;> rfl
theorem Marks.start (hit : Nat → Nat → Nat → Prop) (na nb nc : Nat) : Marks hit na nb nc 0 0 0 (List.replicate na false) (List.replicate nb false) (List.replicate nc false) false := by
  have hg : ∀ i' k' j', ¬ goneB 0 0 0 i' k' j' := by intro i' k' j' h; unfold goneB at h; omega
  refine ⟨by simp, by simp, by simp, fun i' _ => ?_, fun k' _ => ?_, fun j' _ => ?_, ?_⟩
  · rw [getD_rep_false]; exact ⟨fun h => (by cases h), fun ⟨_, _, _, _, h, _⟩ => absurd h (hg _ _ _)⟩
  · rw [getD_rep_false]; exact ⟨fun h => (by cases h), fun ⟨_, _, _, _, h, _⟩ => absurd h (hg _ _ _)⟩
  · rw [getD_rep_false]; exact ⟨fun h => (by cases h), fun ⟨_, _, _, _, h, _⟩ => absurd h (hg _ _ _)⟩
  · exact ⟨fun h => (by cases h), fun ⟨_, _, _, _, _, _, h, _⟩ => absurd h (hg _ _ _)⟩
theorem getD_put_true (M : List Bool) (i i' : Nat) (hi : i < M.length) : (M.set i true).getD i' false = if i' = i then true else M.getD i' false := by
  rw [List.getD_eq_getElem?_getD, List.getElem?_set, List.getD_eq_getElem?_getD]
  by_cases h : i = i'
  · subst h; simp [hi]
  · simp [h, Ne.symm h]

section
variable {hit : Nat → Nat → Nat → Prop} {na nb nc i k j : Nat} {MA MB MC : List Bool} {an : Bool}
/-- The same marks for another way to say what is gone through. -/
theorem Marks.same (h : Marks hit na nb nc i k j MA MB MC an) {i2 k2 j2 : Nat} (e : ∀ i' k' j', i' < na → k' < nb → j' < nc → hit i' k' j' → (goneB i2 k2 j2 i' k' j' ↔ goneB i k j i' k' j')) : Marks hit na nb nc i2 k2 j2 MA MB MC an := by
  refine ⟨h.la, h.lb, h.lc, fun i' hi => ?_, fun k' hk => ?_, fun j' hj => ?_, ?_⟩
  · rw [h.a i' hi]
    exact ⟨fun ⟨k', j', h1, h2, h3, h4⟩ => ⟨k', j', h1, h2, (e _ _ _ hi h1 h2 h4).2 h3, h4⟩, fun ⟨k', j', h1, h2, h3, h4⟩ => ⟨k', j', h1, h2, (e _ _ _ hi h1 h2 h4).1 h3, h4⟩⟩
  · rw [h.b k' hk]
    exact ⟨fun ⟨i', j', h1, h2, h3, h4⟩ => ⟨i', j', h1, h2, (e _ _ _ h1 hk h2 h4).2 h3, h4⟩, fun ⟨i', j', h1, h2, h3, h4⟩ => ⟨i', j', h1, h2, (e _ _ _ h1 hk h2 h4).1 h3, h4⟩⟩
  · rw [h.c j' hj]
    exact ⟨fun ⟨i', k', h1, h2, h3, h4⟩ => ⟨i', k', h1, h2, (e _ _ _ h1 h2 hj h4).2 h3, h4⟩, fun ⟨i', k', h1, h2, h3, h4⟩ => ⟨i', k', h1, h2, (e _ _ _ h1 h2 hj h4).1 h3, h4⟩⟩
  · rw [h.an]
    exact ⟨fun ⟨i', k', j', h1, h2, h3, h4, h5⟩ => ⟨i', k', j', h1, h2, h3, (e _ _ _ h1 h2 h3 h5).2 h4, h5⟩, fun ⟨i', k', j', h1, h2, h3, h4, h5⟩ => ⟨i', k', j', h1, h2, h3, (e _ _ _ h1 h2 h3 h5).1 h4, h5⟩⟩
theorem Marks.no (h : Marks hit na nb nc i k j MA MB MC an) (hn : ¬ hit i k j) : Marks hit na nb nc i k (j + 1) MA MB MC an :=
  h.same fun i' k' j' _ _ _ hh => by
    have : ¬ (i' = i ∧ k' = k ∧ j' = j) := by rintro ⟨rfl, rfl, rfl⟩; exact hn hh
    unfold goneB
    omega
theorem Marks.next (h : Marks hit na nb nc i k nc MA MB MC an) : Marks hit na nb nc i (k + 1) 0 MA MB MC an :=
  h.same fun i' k' j' _ _ hj _ => by unfold goneB; omega
theorem Marks.skip (h : Marks hit na nb nc i k 0 MA MB MC an) (hn : ∀ j', ¬ hit i k j') : Marks hit na nb nc i (k + 1) 0 MA MB MC an :=
  h.same fun i' k' j' _ _ _ hh => by
    have : ¬ (i' = i ∧ k' = k) := by rintro ⟨rfl, rfl⟩; exact hn _ hh
    unfold goneB
    omega
theorem Marks.down (h : Marks hit na nb nc i nb 0 MA MB MC an) : Marks hit na nb nc (i + 1) 0 0 MA MB MC an :=
  h.same fun i' k' j' _ hk _ _ => by unfold goneB; omega
theorem Marks.yes (h : Marks hit na nb nc i k j MA MB MC an) (hh : hit i k j) (hi : i < na) (hk : k < nb) (hj : j < nc) : Marks hit na nb nc i k (j + 1) (MA.set i true) (MB.set k true) (MC.set j true) true := by
  have hstep : ∀ i' k' j', goneB i k (j + 1) i' k' j' ↔ goneB i k j i' k' j' ∨ (i' = i ∧ k' = k ∧ j' = j) := by intro i' k' j'; unfold goneB; omega
  refine ⟨by rw [List.length_set]; exact h.la, by rw [List.length_set]; exact h.lb, by rw [List.length_set]; exact h.lc, fun i' hi' => ?_, fun k' hk' => ?_, fun j' hj' => ?_, ?_⟩
  · rw [getD_put_true _ _ _ (by rw [h.la]; exact hi)]
    by_cases e : i' = i
    · subst e
      rw [if_pos rfl]
      exact ⟨fun _ => ⟨k, j, hk, hj, (hstep _ _ _).2 (.inr ⟨rfl, rfl, rfl⟩), hh⟩, fun _ => rfl⟩
    · rw [if_neg e, h.a i' hi']
      exact ⟨fun ⟨k', j', h1, h2, h3, h4⟩ => ⟨k', j', h1, h2, (hstep _ _ _).2 (.inl h3), h4⟩, fun ⟨k', j', h1, h2, h3, h4⟩ => ⟨k', j', h1, h2, ((hstep _ _ _).1 h3).resolve_right fun q => e q.1, h4⟩⟩
  · rw [getD_put_true _ _ _ (by rw [h.lb]; exact hk)]
    by_cases e : k' = k
    · subst e
      rw [if_pos rfl]
      exact ⟨fun _ => ⟨i, j, hi, hj, (hstep _ _ _).2 (.inr ⟨rfl, rfl, rfl⟩), hh⟩, fun _ => rfl⟩
    · rw [if_neg e, h.b k' hk']
      exact ⟨fun ⟨i', j', h1, h2, h3, h4⟩ => ⟨i', j', h1, h2, (hstep _ _ _).2 (.inl h3), h4⟩, fun ⟨i', j', h1, h2, h3, h4⟩ => ⟨i', j', h1, h2, ((hstep _ _ _).1 h3).resolve_right fun q => e q.2.1, h4⟩⟩
  · rw [getD_put_true _ _ _ (by rw [h.lc]; exact hj)]
    by_cases e : j' = j
    · subst e
      rw [if_pos rfl]
      exact ⟨fun _ => ⟨i, k, hi, hk, (hstep _ _ _).2 (.inr ⟨rfl, rfl, rfl⟩), hh⟩, fun _ => rfl⟩
    · rw [if_neg e, h.c j' hj']
      exact ⟨fun ⟨i', k', h1, h2, h3, h4⟩ => ⟨i', k', h1, h2, (hstep _ _ _).2 (.inl h3), h4⟩, fun ⟨i', k', h1, h2, h3, h4⟩ => ⟨i', k', h1, h2, ((hstep _ _ _).1 h3).resolve_right fun q => e q.2.2, h4⟩⟩
  · exact ⟨fun _ => ⟨i, k, j, hi, hk, hj, (hstep _ _ _).2 (.inr ⟨rfl, rfl, rfl⟩), hh⟩, fun _ => rfl⟩
/-- All gone through. -/
theorem Marks.full (h : Marks hit na nb nc na 0 0 MA MB MC an) : (∀ i', i' < na → (MA.getD i' false = true ↔ ∃ k' j', k' < nb ∧ j' < nc ∧ hit i' k' j')) ∧ (∀ k', k' < nb → (MB.getD k' false = true ↔ ∃ i' j', i' < na ∧ j' < nc ∧ hit i' k' j')) ∧ (∀ j', j' < nc → (MC.getD j' false = true ↔ ∃ i' k', i' < na ∧ k' < nb ∧ hit i' k' j')) ∧ (an = true ↔ ∃ i' k' j', i' < na ∧ k' < nb ∧ j' < nc ∧ hit i' k' j') := by
  have hg : ∀ i' k' j', i' < na → goneB na 0 0 i' k' j' := by intro i' k' j' h; exact .inl h
  refine ⟨fun i' hi => ?_, fun k' hk => ?_, fun j' hj => ?_, ?_⟩
  · rw [h.a i' hi]
    exact ⟨fun ⟨k', j', h1, h2, h3, h4⟩ => ⟨k', j', h1, h2, h4⟩, fun ⟨k', j', h1, h2, h4⟩ => ⟨k', j', h1, h2, hg _ _ _ hi, h4⟩⟩
  · rw [h.b k' hk]
    exact ⟨fun ⟨i', j', h1, h2, h3, h4⟩ => ⟨i', j', h1, h2, h4⟩, fun ⟨i', j', h1, h2, h4⟩ => ⟨i', j', h1, h2, hg _ _ _ h1, h4⟩⟩
  · rw [h.c j' hj]
    exact ⟨fun ⟨i', k', h1, h2, h3, h4⟩ => ⟨i', k', h1, h2, h4⟩, fun ⟨i', k', h1, h2, h4⟩ => ⟨i', k', h1, h2, hg _ _ _ h1, h4⟩⟩
  · rw [h.an]
    exact ⟨fun ⟨i', k', j', h1, h2, h3, h4, h5⟩ => ⟨i', k', j', h1, h2, h3, h5⟩, fun ⟨i', k', j', h1, h2, h3, h5⟩ => ⟨i', k', j', h1, h2, h3, hg _ _ _ h1, h5⟩⟩
end
end Go.Proofs.YtkhmocbfkpbpfaaGreatDoor
