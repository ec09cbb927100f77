/- Contract of the document's Filter (layer 11), where few pairs are looked at. -/
import Derived.Test.YtcmdgjkoalophaaGreatDoorMulf0
import Derived.Test.YtcmdgjkoalophaaGreatDoorRg2
namespace Go.Proofs.YtcmdgjkoalophaaGreatDoor
open Go.RowKit Go.Sort

theorem value_any (kind a b : Int) (w : World) (hk : kind = 5 ∨ kind = 6 ∨ kind = 7) (ha : -1000000 ≤ a ∧ a ≤ 1000000) (hb : -1000000 ≤ b ∧ b ≤ 1000000) :
    Calls Tryz.prog 152 #[.int .i64 kind, .int .i64 a, .int .i64 b] w fun e w' => e = .returned (optI (kindV kind a b)) ∧ w = w' := by
  rcases hk with rfl | rfl | rfl
  · have HV : Hid (kindV 5 a b = some (a * b)) := Lib.hid (by simp [kindV])
    have hp := prod_lim (a := a) (b := b) (by omega) (by omega)
    have b1 : IntKind.i64.wrap (a * b) = a * b := IntWalk.i64_in _ (by omega)
    clear ha hb hp
    go_enter Tryz.func152, Tryz.ntmps152
    go_wp2_with fail
    go_ret2
    rw [HV.out]
    exact ⟨rfl, rfl⟩
  · by_cases h0 : b = 0
    · have HV : Hid (kindV 6 a b = none) := Lib.hid (by simp [kindV, h0])
      have CQ := Lib.hid (rquo_no a b w h0)
      clear ha hb h0
      go_enter Tryz.func152, Tryz.ntmps152
      go_wp2_with (go_at_call 145; with_reducible refine CQ.out.mono ?_; rintro e w' ⟨rfl, rfl⟩)
      go_ret2
      rw [HV.out]
      exact ⟨rfl, rfl⟩
    · have HV : Hid (kindV 6 a b = some (a.tdiv b)) := Lib.hid (by simp [kindV, h0])
      have CQ := Lib.hid (rquo_yes a b w ha hb h0)
      clear ha hb h0
      go_enter Tryz.func152, Tryz.ntmps152
      go_wp2_with (go_at_call 145; with_reducible refine CQ.out.mono ?_; rintro e w' ⟨rfl, rfl⟩)
      go_ret2
      rw [HV.out]
      exact ⟨rfl, rfl⟩
  · by_cases h0 : b = 0
    · have HV : Hid (kindV 7 a b = none) := Lib.hid (by simp [kindV, h0])
      have CQ := Lib.hid (rquo_no a b w h0)
      have CR : Hid (Calls Tryz.prog 201 #[.int .i64 a, .int .i64 b] w fun e w' => e = .returned (.tuple #[.int .i64 0, .bool false]) ∧ w = w') := Lib.hid (by
        clear HV ha hb h0
        go_enter Tryz.func201, Tryz.ntmps201
        go_wp2_with (go_at_call 145; with_reducible refine CQ.out.mono ?_; rintro e w' ⟨rfl, rfl⟩)
        go_ret2
        exact ⟨rfl, rfl⟩)
      clear ha hb h0 CQ
      go_enter Tryz.func152, Tryz.ntmps152
      go_wp2_with (go_at_call 201; with_reducible refine CR.out.mono ?_; rintro e w' ⟨rfl, rfl⟩)
      go_ret2
      rw [HV.out]
      exact ⟨rfl, rfl⟩
    · have HV : Hid (kindV 7 a b = some (a.tmod b)) := Lib.hid (by simp [kindV, h0])
      have CQ := Lib.hid (rquo_yes a b w ha hb h0)
      have hq := tdiv_lim (a := a) (b := b) (by omega)
      have hcs := cut_sum a b
      have hm := tmod_lim (a := a) (b := b) (by omega)
      have w1 : IntKind.i64.wrap (b * a.tdiv b) = b * a.tdiv b := IntWalk.i64_in _ (by omega)
      have w2 : IntKind.i64.wrap (a - b * a.tdiv b) = a.tmod b := by
        rw [show a - b * a.tdiv b = a.tmod b by omega]
        exact IntWalk.i64_in _ (by omega)
      have CR : Hid (Calls Tryz.prog 201 #[.int .i64 a, .int .i64 b] w fun e w' => e = .returned (.tuple #[.int .i64 (a.tmod b), .bool true]) ∧ w = w') := Lib.hid (by
        clear HV ha hb h0 hq hcs hm
        go_enter Tryz.func201, Tryz.ntmps201
        go_wp2_with (go_at_call 145; with_reducible refine CQ.out.mono ?_; rintro e w' ⟨rfl, rfl⟩)
        go_ret2
        exact ⟨rfl, rfl⟩)
      clear ha hb h0 CQ hq hcs hm w1 w2
      go_enter Tryz.func152, Tryz.ntmps152
      go_wp2_with (go_at_call 201; with_reducible refine CR.out.mono ?_; rintro e w' ⟨rfl, rfl⟩)
      go_ret2
      rw [HV.out]
      exact ⟨rfl, rfl⟩

/-- Bits that lie in a block of their own. -/
def MarkB (W : World) (g : Nat) (M : List Bool) : Prop := W.heap[g]? = some (.cells (M.map Value.bool).toArray 4 (0, 0))
theorem MarkB.lt {W : World} {g : Nat} {M : List Bool} (h : MarkB W g M) : g < W.heap.size := (Array.getElem?_eq_some_iff.1 h).1
theorem MarkB.below {W W' : World} {g : Nat} {M : List Bool} (h : MarkB W g M) (b : Below W.heap.size W W') : MarkB W' g M := (b.block g h.lt).trans h
theorem MarkB.cell {W : World} {g : Nat} {M : List Bool} (h : MarkB W g M) {i : Nat} (hi : i < M.length) : W.cell? ⟨g, i, none⟩ = some (.bool (M.getD i false)) := by
  refine blk_cell h ?_
  rw [List.getElem?_toArray, List.getElem?_map, List.getElem?_eq_getElem hi, List.getD_eq_getElem?_getD, List.getElem?_eq_getElem hi]
  rfl
theorem MarkB.free {W : World} {g : Nat} {M : List Bool} (h : MarkB W g M) (i : Nat) : W.frozen? ⟨g, i, none⟩ = false := box_free h i
theorem MarkB.put {W : World} {g : Nat} {M : List Bool} (h : MarkB W g M) (i : Nat) : MarkB (W.setCell ⟨g, i, none⟩ (.bool true)) g (M.set i true) := by
  have := heap_setCell_same W g i _ 4 (.bool true) h
  unfold MarkB
  rw [this]
  congr 2
  apply Array.ext'
  rw [Array.toList_setIfInBounds]
  simp [List.map_set]
theorem MarkB.far {W : World} {g g' : Nat} {M : List Bool} (h : MarkB W g M) (hne : g ≠ g') (i : Nat) (v : Value) : MarkB (W.setCell ⟨g', i, none⟩ v) g M := (heap_setCell_other W _ g v hne).trans h

/-- Those of a list whose bit is set. -/
def thoseE (L : List Int) (M : List Bool) (k : Nat) : List Int := ((List.range k).filter fun i => M.getD i false).map fun i => L.getD i 0
theorem thoseE_step (L : List Int) (M : List Bool) (k : Nat) : thoseE L M (k + 1) = thoseE L M k ++ if M.getD k false = true then [L.getD k 0] else [] := by
  unfold thoseE
  rw [List.range_succ, List.filter_append, List.map_append]
  congr 1
  rw [List.filter_cons]
  split
  · rfl
  · rfl
theorem thoseE_len (L : List Int) (M : List Bool) (k : Nat) : (thoseE L M k).length ≤ k := by
  unfold thoseE
  rw [List.length_map]
  exact Nat.le_trans (List.length_filter_le _ _) (by simp)

set_option maxHeartbeats 2000000 in
set_option maxRecDepth 100000 in
theorem those_any (x : Sl) (L : List Int) (g cM : Nat) (M : List Bool) (w : World) (h : IsInts w x L) (hm : MarkB w g M) (hl : M.length = L.length) (hb : L.length ≤ 200000) :
    Calls Tryz.prog 153 #[.slice x.A x.n x.c, .slice (some ⟨g, 0, none⟩) L.length cM] w fun e w' => (∃ y : Sl, e = .returned (.slice y.A y.n y.c) ∧ Row3 w' w.heap.size y (thoseE L M L.length)) ∧ Below w.heap.size w w' := by
  obtain ⟨i0, hi, hz0, hz1, hz2⟩ := info_parts Tryz.info3
  obtain ⟨A, n, c⟩ := x
  have Hn := Lib.hid h.len
  have HI := Lib.hid h
  have HM := Lib.hid hm
  have hn : n = L.length := h.len
  subst hn
  clear h hm
  go_enter Tryz.func153, Tryz.ntmps153
  go_wp2_with fail
  go_loopw [5, 6] (fun s i wr => ∃ (k : Nat) (y : Sl), s = .slice y.A y.n y.c ∧ i = .int .i64 (k : Nat) ∧ k ≤ L.length ∧ Hid (SepL w.heap.size wr [(y, thoseE L M k)]) ∧ Hid (Below w.heap.size w wr)) (fun _ i _ => L.length - (intOf i).toNat)
  case atStart => exact ⟨0, ⟨none, 0, 0⟩, rfl, rfl, by omega, Lib.hid ((SepL.nil _ w (Nat.le_refl _)).cons (Below.refl _ _) (Row3.nil _ _) (by intro g hg; cases hg)), Lib.hid (Below.refl _ _)⟩
  case round =>
    obtain ⟨k, y, rfl, rfl, hk, HS, HB⟩ := hrel
    by_cases hlt : k < L.length
    · have hc := (HM.out.below HB.out).cell (i := k) (by rw [hl]; exact hlt)
      have HST := Lib.hid (thoseE_step L M k)
      have NL : Hid ((thoseE L M k).length < 1000000) := Lib.hid (by have := thoseE_len L M k; omega)
      cases hb' : M.getD k false
      · rw [hb'] at hc HST
        have HE : Hid (thoseE L M (k + 1) = thoseE L M k) := Lib.hid (by rw [HST.out]; simp)
        clear hb' HST
        go_wp2_with fail
        go_roundw
        case rel => exact ⟨k + 1, y, rfl, by go_num, by omega, Lib.hid (by rw [HE.out]; exact HS.out), HB⟩
        case measure => simp [intOf]; omega
      · rw [hb'] at hc HST
        obtain ⟨ad, eA, hbk, hcl⟩ := (HI.out.below HB.out).lies (show 0 < L.length by omega)
        simp only at eA
        subst eA
        have hv : wr.cell? (ad.add k) = some (.int .i64 (L.getD k 0)) := hcl k hlt
        obtain ⟨vv, hvv⟩ : ∃ vv, vv = L.getD k 0 := ⟨_, rfl⟩
        rw [← hvv] at hv HST
        have HE : Hid (thoseE L M (k + 1) = thoseE L M k ++ [vv]) := Lib.hid (by rw [HST.out]; simp)
        clear hb' HST hvv hcl hbk
        go_wp2_with (at_builtin; refine wpList_append_sep rfl _ _ 26 rfl Tryz.underlying26 Tryz.info3 HS.out 0 y _ vv rfl rfl rfl NL.out ?_; intro y1 w4 S4 b4; have HS4 := Lib.hid S4; have HB4 := Lib.hid (HB.out.trans b4); clear S4 b4)
        go_roundw
        case rel => exact ⟨k + 1, y1, rfl, by go_num, by omega, Lib.hid (by rw [HE.out]; exact HS4.out), HB4⟩
        case measure => simp [intOf]; omega
    · have HR := Lib.hid (HS.out.row (k := 0) rfl)
      have e3 : k = L.length := by omega
      subst e3
      clear hlt
      go_wp2_with fail
      go_ret
      exact ⟨⟨y, rfl, HR.out⟩, HB.out⟩
end Go.Proofs.YtcmdgjkoalophaaGreatDoor

namespace Go.Proofs.YtcmdgjkoalophaaGreatDoor
open Go.RowKit

/-- Is a place gone through? -/
def goneB (i k j i' k' j' : Nat) : Prop := i' < i ∨ (i' = i ∧ (k' < k ∨ (k' = k ∧ j' < j)))
/-- The marks, so far. -/
structure Marks (hit : Nat → Nat → Nat → Prop) (na nb nc i k j : Nat) (MA MB MC : List Bool) (an : Bool) : Prop where
  la : MA.length = na
  lb : MB.length = nb
  lc : MC.length = nc
  a : ∀ i', i' < na → (MA.getD i' false = true ↔ ∃ k' j', k' < nb ∧ j' < nc ∧ goneB i k j i' k' j' ∧ hit i' k' j')
  b : ∀ k', k' < nb → (MB.getD k' false = true ↔ ∃ i' j', i' < na ∧ j' < nc ∧ goneB i k j i' k' j' ∧ hit i' k' j')
  c : ∀ j', j' < nc → (MC.getD j' false = true ↔ ∃ i' k', i' < na ∧ k' < nb ∧ goneB i k j i' k' j' ∧ hit i' k' j')
  an : an = true ↔ ∃ i' k' j', i' < na ∧ k' < nb ∧ j' < nc ∧ goneB i k j i' k' j' ∧ hit i' k' j'
theorem getD_rep_false (n i : Nat) : (List.replicate n false).getD i false = false := by
  rw [List.getD_eq_getElem?_getD, List.getElem?_replicate]
  split <;> rfl
theorem Marks.start (hit : Nat → Nat → Nat → Prop) (na nb nc : Nat) : Marks hit na nb nc 0 0 0 (List.replicate na false) (List.replicate nb false) (List.replicate nc false) false := by
  have hg : ∀ i' k' j', ¬ goneB 0 0 0 i' k' j' := by intro i' k' j' h; unfold goneB at h; omega
  refine ⟨by simp, by simp, by simp, fun i' _ => ?_, fun k' _ => ?_, fun j' _ => ?_, ?_⟩
  · rw [getD_rep_false]; exact ⟨fun h => (by cases h), fun ⟨_, _, _, _, h, _⟩ => absurd h (hg _ _ _)⟩
  · rw [getD_rep_false]; exact ⟨fun h => (by cases h), fun ⟨_, _, _, _, h, _⟩ => absurd h (hg _ _ _)⟩
  · rw [getD_rep_false]; exact ⟨fun h => (by cases h), fun ⟨_, _, _, _, h, _⟩ => absurd h (hg _ _ _)⟩
  · exact ⟨fun h => (by cases h), fun ⟨_, _, _, _, _, _, h, _⟩ => absurd h (hg _ _ _)⟩
theorem getD_put_true (M : List Bool) (i i' : Nat) (hi : i < M.length) : (M.set i true).getD i' false = if i' = i then true else M.getD i' false := by
  rw [List.getD_eq_getElem?_getD, List.getElem?_set, List.getD_eq_getElem?_getD]
  by_cases h : i = i'
  · subst h; simp [hi]
  · simp [h, Ne.symm h]

section
variable {hit : Nat → Nat → Nat → Prop} {na nb nc i k j : Nat} {MA MB MC : List Bool} {an : Bool}
/-- The same marks for another way to say what is gone through. -/
theorem Marks.same (h : Marks hit na nb nc i k j MA MB MC an) {i2 k2 j2 : Nat} (e : ∀ i' k' j', i' < na → k' < nb → j' < nc → hit i' k' j' → (goneB i2 k2 j2 i' k' j' ↔ goneB i k j i' k' j')) : Marks hit na nb nc i2 k2 j2 MA MB MC an := by
  refine ⟨h.la, h.lb, h.lc, fun i' hi => ?_, fun k' hk => ?_, fun j' hj => ?_, ?_⟩
  · rw [h.a i' hi]
    exact ⟨fun ⟨k', j', h1, h2, h3, h4⟩ => ⟨k', j', h1, h2, (e _ _ _ hi h1 h2 h4).2 h3, h4⟩, fun ⟨k', j', h1, h2, h3, h4⟩ => ⟨k', j', h1, h2, (e _ _ _ hi h1 h2 h4).1 h3, h4⟩⟩
  · rw [h.b k' hk]
    exact ⟨fun ⟨i', j', h1, h2, h3, h4⟩ => ⟨i', j', h1, h2, (e _ _ _ h1 hk h2 h4).2 h3, h4⟩, fun ⟨i', j', h1, h2, h3, h4⟩ => ⟨i', j', h1, h2, (e _ _ _ h1 hk h2 h4).1 h3, h4⟩⟩
  · rw [h.c j' hj]
    exact ⟨fun ⟨i', k', h1, h2, h3, h4⟩ => ⟨i', k', h1, h2, (e _ _ _ h1 h2 hj h4).2 h3, h4⟩, fun ⟨i', k', h1, h2, h3, h4⟩ => ⟨i', k', h1, h2, (e _ _ _ h1 h2 hj h4).1 h3, h4⟩⟩
  · rw [h.an]
    exact ⟨fun ⟨i', k', j', h1, h2, h3, h4, h5⟩ => ⟨i', k', j', h1, h2, h3, (e _ _ _ h1 h2 h3 h5).2 h4, h5⟩, fun ⟨i', k', j', h1, h2, h3, h4, h5⟩ => ⟨i', k', j', h1, h2, h3, (e _ _ _ h1 h2 h3 h5).1 h4, h5⟩⟩
theorem Marks.no (h : Marks hit na nb nc i k j MA MB MC an) (hn : ¬ hit i k j) : Marks hit na nb nc i k (j + 1) MA MB MC an :=
  h.same fun i' k' j' _ _ _ hh => by
    have : ¬ (i' = i ∧ k' = k ∧ j' = j) := by rintro ⟨rfl, rfl, rfl⟩; exact hn hh
    unfold goneB
    omega
theorem Marks.next (h : Marks hit na nb nc i k nc MA MB MC an) : Marks hit na nb nc i (k + 1) 0 MA MB MC an :=
  h.same fun i' k' j' _ _ hj _ => by unfold goneB; omega
theorem Marks.skip (h : Marks hit na nb nc i k 0 MA MB MC an) (hn : ∀ j', ¬ hit i k j') : Marks hit na nb nc i (k + 1) 0 MA MB MC an :=
  h.same fun i' k' j' _ _ _ hh => by
    have : ¬ (i' = i ∧ k' = k) := by rintro ⟨rfl, rfl⟩; exact hn _ hh
    unfold goneB
    omega
theorem Marks.down (h : Marks hit na nb nc i nb 0 MA MB MC an) : Marks hit na nb nc (i + 1) 0 0 MA MB MC an :=
  h.same fun i' k' j' _ hk _ _ => by unfold goneB; omega
theorem Marks.yes (h : Marks hit na nb nc i k j MA MB MC an) (hh : hit i k j) (hi : i < na) (hk : k < nb) (hj : j < nc) : Marks hit na nb nc i k (j + 1) (MA.set i true) (MB.set k true) (MC.set j true) true := by
  have hstep : ∀ i' k' j', goneB i k (j + 1) i' k' j' ↔ goneB i k j i' k' j' ∨ (i' = i ∧ k' = k ∧ j' = j) := by intro i' k' j'; unfold goneB; omega
  refine ⟨by rw [List.length_set]; exact h.la, by rw [List.length_set]; exact h.lb, by rw [List.length_set]; exact h.lc, fun i' hi' => ?_, fun k' hk' => ?_, fun j' hj' => ?_, ?_⟩
  · rw [getD_put_true _ _ _ (by rw [h.la]; exact hi)]
    by_cases e : i' = i
    · subst e
      rw [if_pos rfl]
      exact ⟨fun _ => ⟨k, j, hk, hj, (hstep _ _ _).2 (.inr ⟨rfl, rfl, rfl⟩), hh⟩, fun _ => rfl⟩
    · rw [if_neg e, h.a i' hi']
      exact ⟨fun ⟨k', j', h1, h2, h3, h4⟩ => ⟨k', j', h1, h2, (hstep _ _ _).2 (.inl h3), h4⟩, fun ⟨k', j', h1, h2, h3, h4⟩ => ⟨k', j', h1, h2, ((hstep _ _ _).1 h3).resolve_right fun q => e q.1, h4⟩⟩
  · rw [getD_put_true _ _ _ (by rw [h.lb]; exact hk)]
    by_cases e : k' = k
    · subst e
      rw [if_pos rfl]
      exact ⟨fun _ => ⟨i, j, hi, hj, (hstep _ _ _).2 (.inr ⟨rfl, rfl, rfl⟩), hh⟩, fun _ => rfl⟩
    · rw [if_neg e, h.b k' hk']
      exact ⟨fun ⟨i', j', h1, h2, h3, h4⟩ => ⟨i', j', h1, h2, (hstep _ _ _).2 (.inl h3), h4⟩, fun ⟨i', j', h1, h2, h3, h4⟩ => ⟨i', j', h1, h2, ((hstep _ _ _).1 h3).resolve_right fun q => e q.2.1, h4⟩⟩
  · rw [getD_put_true _ _ _ (by rw [h.lc]; exact hj)]
    by_cases e : j' = j
    · subst e
      rw [if_pos rfl]
      exact ⟨fun _ => ⟨i, k, hi, hk, (hstep _ _ _).2 (.inr ⟨rfl, rfl, rfl⟩), hh⟩, fun _ => rfl⟩
    · rw [if_neg e, h.c j' hj']
      exact ⟨fun ⟨i', k', h1, h2, h3, h4⟩ => ⟨i', k', h1, h2, (hstep _ _ _).2 (.inl h3), h4⟩, fun ⟨i', k', h1, h2, h3, h4⟩ => ⟨i', k', h1, h2, ((hstep _ _ _).1 h3).resolve_right fun q => e q.2.2, h4⟩⟩
  · exact ⟨fun _ => ⟨i, k, j, hi, hk, hj, (hstep _ _ _).2 (.inr ⟨rfl, rfl, rfl⟩), hh⟩, fun _ => rfl⟩
/-- All gone through. -/
theorem Marks.full (h : Marks hit na nb nc na 0 0 MA MB MC an) : (∀ i', i' < na → (MA.getD i' false = true ↔ ∃ k' j', k' < nb ∧ j' < nc ∧ hit i' k' j')) ∧ (∀ k', k' < nb → (MB.getD k' false = true ↔ ∃ i' j', i' < na ∧ j' < nc ∧ hit i' k' j')) ∧ (∀ j', j' < nc → (MC.getD j' false = true ↔ ∃ i' k', i' < na ∧ k' < nb ∧ hit i' k' j')) ∧ (an = true ↔ ∃ i' k' j', i' < na ∧ k' < nb ∧ j' < nc ∧ hit i' k' j') := by
  have hg : ∀ i' k' j', i' < na → goneB na 0 0 i' k' j' := by intro i' k' j' h; exact .inl h
  refine ⟨fun i' hi => ?_, fun k' hk => ?_, fun j' hj => ?_, ?_⟩
  · rw [h.a i' hi]
    exact ⟨fun ⟨k', j', h1, h2, h3, h4⟩ => ⟨k', j', h1, h2, h4⟩, fun ⟨k', j', h1, h2, h4⟩ => ⟨k', j', h1, h2, hg _ _ _ hi, h4⟩⟩
  · rw [h.b k' hk]
    exact ⟨fun ⟨i', j', h1, h2, h3, h4⟩ => ⟨i', j', h1, h2, h4⟩, fun ⟨i', j', h1, h2, h4⟩ => ⟨i', j', h1, h2, hg _ _ _ h1, h4⟩⟩
  · rw [h.c j' hj]
    exact ⟨fun ⟨i', k', h1, h2, h3, h4⟩ => ⟨i', k', h1, h2, h4⟩, fun ⟨i', k', h1, h2, h4⟩ => ⟨i', k', h1, h2, hg _ _ _ h1, h4⟩⟩
  · rw [h.an]
    exact ⟨fun ⟨i', k', j', h1, h2, h3, h4, h5⟩ => ⟨i', k', j', h1, h2, h3, h5⟩, fun ⟨i', k', j', h1, h2, h3, h5⟩ => ⟨i', k', j', h1, h2, h3, hg _ _ _ h1, h5⟩⟩
end
end Go.Proofs.YtcmdgjkoalophaaGreatDoor

namespace Go.Proofs.YtcmdgjkoalophaaGreatDoor
open Go.RowKit Go.Sort

theorem infoB : (Tryz.prog.info? 4).map (fun i => (i.zero, i.size, i.bytes)) = some (some (.bool false), 1, 1) := by kernel_rfl
theorem make_bits (n : Nat) (hn : n ≤ 200000) : ∀ W : World, (Instr.makeSlice 89 (.int .i64 (n : Nat)) (.int .i64 (n : Nat))).run Tryz.prog W = .ok (.slice (some ⟨W.heap.size, 0, none⟩) n n) (W.alloc (.cells (Array.replicate n (Value.bool false)) 4)) := by
  intro W
  obtain ⟨i0, hi, hz0, hz1, hz2⟩ := info_parts infoB
  have := run_make (P := Tryz.prog) W 89 4 i0 (.bool false) Tryz.underlying89 hi hz0 .i64 .i64 (n : Nat) (n : Nat) (by omega) (by omega) (by rw [hz2]; omega) (by omega)
  rw [this, hz1]
  have e : madeCells (Value.cells (.bool false)) (((n : Nat) : Int).toNat * 1) = Array.replicate n (Value.bool false) := by
    apply Array.ext'
    have e2 : madeCells (Value.cells (.bool false)) (((n : Nat) : Int).toNat * 1) = madeCells #[Value.bool false] n := by simp [Value.cells]
    rw [e2, toList_madeCells_one]
    simp
  rw [e]
  simp
theorem mark_new (W : World) (n : Nat) : MarkB (W.alloc (.cells (Array.replicate n (Value.bool false)) 4)) W.heap.size (List.replicate n false) := by
  have := heap_new W (.cells (Array.replicate n (Value.bool false)) 4)
  unfold MarkB
  rw [this]
  simp
/-- A hit, by its places. -/
def hitN (f : Int → Int → Option Int) (A B C : List Int) (i k j : Nat) : Prop := f (A.getD i 0) (B.getD k 0) = some (C.getD j 0)
/-- What Pairs leaves. -/
def pairsE (f : Int → Int → Option Int) (A B C : List Int) : Option (List (List Int)) :=
  if hitsE f C A B = [] then none else
  some [A.filter fun a => (hitsE f C A B).any fun t => t.1 == a, B.filter fun b => (hitsE f C A B).any fun t => t.2.1 == b, C.filter fun r => (hitsE f C A B).any fun t => t.2.2 == r]

/-- Three rows made into a slice. -/
theorem rows_build3 {W : World} {y1 y2 y3 : Sl} {L1 L2 L3 : List Int} (h1 : IsInts W y1 L1) (h2 : IsInts W y2 L2) (h3 : IsInts W y3 L3) :
    IsRows (W.alloc (.cells #[.slice y1.A y1.n y1.c, .slice y2.A y2.n y2.c, .slice y3.A y3.n y3.c] 26)) ⟨some ⟨W.heap.size, 0, none⟩, 3, 3⟩ [L1, L2, L3] := by
  have b := below1 W (.cells #[.slice y1.A y1.n y1.c, .slice y2.A y2.n y2.c, .slice y3.A y3.n y3.c] 26)
  have hn := heap_alloc_new W (.cells #[.slice y1.A y1.n y1.c, .slice y2.A y2.n y2.c, .slice y3.A y3.n y3.c] 26)
  refine ⟨rfl, by simp, fun _ => ⟨⟨W.heap.size, 0, none⟩, rfl, (Array.getElem?_eq_some_iff.1 hn).1, fun i hi => ?_⟩⟩
  match i, hi with
  | 0, _ => exact ⟨y1, by rw [add_zero]; exact blk_cell hn rfl, h1.below b⟩
  | 1, _ => exact ⟨y2, by simp [Addr.add], h2.below b⟩
  | 2, _ => exact ⟨y3, by simp [Addr.add], h3.below b⟩

set_option maxHeartbeats 8000000 in
set_option maxRecDepth 100000 in
theorem pairs_walk (kind : Int) (x : Sl) (A Bs C : List Int) (w : World) (hk : kind = 5 ∨ kind = 6 ∨ kind = 7) (h : IsRows w x [A, Bs, C]) (hA : A.length ≤ 200000) (hB : Bs.length ≤ 200000) (hC : C.length ≤ 200000) (iA : ∀ v ∈ A, -1000000 ≤ v ∧ v ≤ 1000000) (iB : ∀ v ∈ Bs, -1000000 ≤ v ∧ v ≤ 1000000) :
    Calls Tryz.prog 98 #[.int .i64 kind, .slice x.A x.n x.c] w fun e w' => (∃ (an : Bool) (MA MB MC : List Bool), Marks (hitN (kindV kind) A Bs C) A.length Bs.length C.length A.length 0 0 MA MB MC an ∧
      ∃ (y : Sl), e = .returned (.tuple #[.slice y.A y.n y.c, .bool an]) ∧ IsRows w' y (if an = true then [thoseE A MA A.length, thoseE Bs MB Bs.length, thoseE C MC C.length] else [])) ∧ Below w.heap.size w w' := by
  obtain ⟨xA, xn, xc⟩ := x
  have hxn : xn = 3 := h.len
  subst hxn
  obtain ⟨ad, uA, e0, c0, hA0⟩ := rows_at h 0 (show 0 < 3 by omega)
  obtain ⟨ad1, uB, e1, c1, hB0⟩ := rows_at h 1 (show 1 < 3 by omega)
  obtain ⟨ad2, uC, e2, c2, hC0⟩ := rows_at h 2 (show 2 < 3 by omega)
  simp only at e0 e1 e2
  subst e0
  obtain rfl : ad = ad1 := Option.some.inj e1
  obtain rfl : ad = ad2 := Option.some.inj e2
  obtain ⟨ab, ao, af⟩ := ad
  have c0 : w.cell? ⟨ab, ao, af⟩ = some (.slice uA.A uA.n uA.c) := by rw [add_zero] at c0; exact c0
  have c1 : w.cell? ⟨ab, ao + 1, none⟩ = some (.slice uB.A uB.n uB.c) := by simpa [Addr.add] using c1
  have c2 : w.cell? ⟨ab, ao + 2, none⟩ = some (.slice uC.A uC.n uC.c) := by simpa [Addr.add] using c2
  obtain ⟨aA, aN, aC⟩ := uA
  obtain ⟨bA, bN, bC⟩ := uB
  obtain ⟨cA, cN, cC⟩ := uC
  have hA1 : IsInts w ⟨aA, aN, aC⟩ A := hA0
  have hB1 : IsInts w ⟨bA, bN, bC⟩ Bs := hB0
  have hC1 : IsInts w ⟨cA, cN, cC⟩ C := hC0
  obtain rfl : aN = A.length := hA1.len
  obtain rfl : bN = Bs.length := hB1.len
  obtain rfl : cN = C.length := hC1.len
  have HA := Lib.hid hA1
  have HB := Lib.hid hB1
  have HC := Lib.hid hC1
  have HIA := Lib.hid iA
  have HIB := Lib.hid iB
  have HK := Lib.hid hk
  have mA := make_bits A.length hA
  have mB := make_bits Bs.length hB
  have mC := make_bits C.length hC
  obtain ⟨wa, hwa⟩ : ∃ wa, w.alloc (.cells (Array.replicate A.length (Value.bool false)) 4) = wa := ⟨_, rfl⟩
  obtain ⟨wb, hwb⟩ : ∃ wb, wa.alloc (.cells (Array.replicate Bs.length (Value.bool false)) 4) = wb := ⟨_, rfl⟩
  obtain ⟨wc, hwc⟩ : ∃ wc, wb.alloc (.cells (Array.replicate C.length (Value.bool false)) 4) = wc := ⟨_, rfl⟩
  have n1 : MarkB wa w.heap.size (List.replicate A.length false) := hwa ▸ mark_new w _
  have n2 : MarkB wb wa.heap.size (List.replicate Bs.length false) := hwb ▸ mark_new wa _
  have n3 : MarkB wc wb.heap.size (List.replicate C.length false) := hwc ▸ mark_new wb _
  have ba : Below w.heap.size w wa := hwa ▸ below1 w _
  have bb : Below wa.heap.size wa wb := hwb ▸ below1 wa _
  have bc : Below wb.heap.size wb wc := hwc ▸ below1 wb _
  have bac : Below wa.heap.size wa wc := bb.trans (bc.mono bb.size)
  have b0 : Below w.heap.size w wc := ba.trans (bac.mono ba.size)
  have l1 : w.heap.size < wa.heap.size := n1.lt
  have l2 : wa.heap.size < wb.heap.size := n2.lt
  have HM0 : Hid (MarkB wc w.heap.size (List.replicate A.length false) ∧ MarkB wc wa.heap.size (List.replicate Bs.length false) ∧ MarkB wc wb.heap.size (List.replicate C.length false)) := Lib.hid ⟨n1.below bac, n2.below bc, n3⟩
  have HL : Hid (w.heap.size < wa.heap.size ∧ wa.heap.size < wb.heap.size) := Lib.hid ⟨l1, l2⟩
  have B0 := Lib.hid b0
  have adlt : ab < w.heap.size := World.block_lt_of_cell? _ _ c0
  have qa : ∀ {W : World}, Below w.heap.size w W → W.cell? ⟨ab, ao, af⟩ = some (.slice aA A.length aC) := fun hW => (hW.cell (p := ⟨ab, ao, af⟩) adlt).trans c0
  have qb : ∀ {W : World}, Below w.heap.size w W → W.cell? ⟨ab, ao + 1, none⟩ = some (.slice bA Bs.length bC) := fun hW => (hW.cell (p := ⟨ab, ao + 1, none⟩) adlt).trans c1
  have qc : ∀ {W : World}, Below w.heap.size w W → W.cell? ⟨ab, ao + 2, none⟩ = some (.slice cA C.length cC) := fun hW => (hW.cell (p := ⟨ab, ao + 2, none⟩) adlt).trans c2
  have HQ := Lib.hid (fun W (hW : Below w.heap.size w W) => And.intro (qa hW) (And.intro (qb hW) (qc hW)))
  have p1 : wa.cell? ⟨ab, ao + 1, none⟩ = some (.slice bA Bs.length bC) := qb ba
  have p2 : wb.cell? ⟨ab, ao + 2, none⟩ = some (.slice cA C.length cC) := qc (ba.trans (bb.mono ba.size))
  clear hA0 hB0 hC0 hA1 hB1 hC1 h n1 n2 n3 ba bb bc bac b0 l1 l2 qa qb qc e1 e2 adlt hk iA iB
  go_enter Tryz.func98, Tryz.ntmps98
  go_upto_region 5 with fail
  clear hwa hwb hwc mA mB mC p1 p2 c0 c1 c2
  obtain ⟨ga, hga⟩ : ∃ g, g = w.heap.size := ⟨_, rfl⟩
  obtain ⟨gb, hgb⟩ : ∃ g, g = wa.heap.size := ⟨_, rfl⟩
  obtain ⟨gc, hgc⟩ : ∃ g, g = wb.heap.size := ⟨_, rfl⟩
  have HGA := Lib.hid hga
  rw [← hga, ← hgb, ← hgc] at HM0
  rw [← hga, ← hgb] at HL
  rw [← hgc] at HL
  rw [← hga, ← hgb, ← hgc]
  clear hga hgb hgc
  go_wp2_with fail
  go_loopw [9, 10] (fun a b wr => ∃ (i : Nat) (MA MB MC : List Bool) (an : Bool), a = .bool an ∧ b = .int .i64 (i : Nat) ∧ i ≤ A.length ∧ Hid (Marks (hitN (kindV kind) A Bs C) A.length Bs.length C.length i 0 0 MA MB MC an) ∧ Hid (MarkB wr ga MA ∧ MarkB wr gb MB ∧ MarkB wr gc MC) ∧ Hid (Below w.heap.size w wr)) (fun _ b _ => A.length - (intOf b).toNat)
  case atStart => exact ⟨0, _, _, _, false, rfl, rfl, by omega, Lib.hid (Marks.start _ _ _ _), HM0, B0⟩
  case round =>
    clear HM0 B0
    obtain ⟨i, MA, MB, MC, an, rfl, rfl, hi, HMK, HMB, HBR⟩ := hrel
    obtain ⟨q0, -, -⟩ := HQ.out wr HBR.out
    by_cases hlt : i < A.length
    · obtain ⟨wo, rfl⟩ : ∃ wo, wo = wr := ⟨_, rfl⟩
      go_wp2_with fail
      go_loopw [9, 11] (fun a b wr => ∃ (k : Nat) (MA MB MC : List Bool) (an : Bool), a = .bool an ∧ b = .int .i64 (k : Nat) ∧ k ≤ Bs.length ∧ Hid (Marks (hitN (kindV kind) A Bs C) A.length Bs.length C.length i k 0 MA MB MC an) ∧ Hid (MarkB wr ga MA ∧ MarkB wr gb MB ∧ MarkB wr gc MC) ∧ Hid (Below w.heap.size w wr)) (fun _ b _ => Bs.length - (intOf b).toNat)
      case atStart => exact ⟨0, MA, MB, MC, an, rfl, rfl, by omega, HMK, HMB, HBR⟩
      case round =>
        clear HMK HMB HBR q0
        obtain ⟨k, MA, MB, MC, an, rfl, rfl, hk, HMK, HMB, HBR⟩ := hrel
        obtain ⟨q0, q1, q2⟩ := HQ.out wr HBR.out
        by_cases hltk : k < Bs.length
        · obtain ⟨adA, eA, hbA, hcA⟩ := (HA.out.below HBR.out).lies (show 0 < A.length by omega)
          obtain ⟨adB, eB, hbB, hcB⟩ := (HB.out.below HBR.out).lies (show 0 < Bs.length by omega)
          simp only at eA eB
          have va : wr.cell? (adA.add i) = some (.int .i64 (A.getD i 0)) := hcA i hlt
          have vb : wr.cell? (adB.add k) = some (.int .i64 (Bs.getD k 0)) := hcB k hltk
          have inA := HIA.out _ (getD_mem A i hlt)
          have inB := HIB.out _ (getD_mem Bs k hltk)
          subst eA
          subst eB
          have CV := Lib.hid (gin_regrown (w := wr) (fun W _ => value_any kind (A.getD i 0) (Bs.getD k 0) W HK.out inA inB))
          have HHIT : Hid (∀ j, hitN (kindV kind) A Bs C i k j ↔ kindV kind (A.getD i 0) (Bs.getD k 0) = some (C.getD j 0)) := Lib.hid (fun j => Iff.rfl)
          obtain ⟨av, hav⟩ : ∃ v, v = A.getD i 0 := ⟨_, rfl⟩
          obtain ⟨bv, hbv⟩ : ∃ v, v = Bs.getD k 0 := ⟨_, rfl⟩
          rw [← hav] at va CV HHIT
          rw [← hbv] at vb CV HHIT
          have Q0 := cell_regrown q0
          have Q1 := cell_regrown q1
          have VA := cell_regrown va
          have VB := cell_regrown vb
          clear hcA hcB hbA hbB inA inB hav hbv
          cases hf : kindV kind av bv with
          | none =>
            rw [hf] at CV
            change Hid (∀ d os, Calls Tryz.prog 152 #[.int .i64 kind, .int .i64 av, .int .i64 bv] (grow (redrawn wr d) os) fun e w'' => e = .returned (.tuple #[.int .i64 0, .bool false]) ∧ ∃ p : Regrown, w'' = grow (redrawn wr p.d) p.os) at CV
            have HNX := Lib.hid (HMK.out.skip (fun j => by rw [HHIT.out, hf]; exact fun e => by cases e))
            clear HHIT hf
            go_upto_region 11 with fail
            clear q0 q1 q2 va vb
            refine wp_region_quiet_below (by kernel_rfl) (by kernel_rfl) ?_
            repeat (first | go_big_quiet_step (first | (go_at_call 152; with_reducible exact CV.out _ _)) | quiet_step (fail))
            refine wpQuiet_nil ?_
            intro _ hw'
            obtain ⟨⟨dq, osq⟩, hw''⟩ := hw'
            subst hw''
            have b5 := below_regrown wr dq osq
            generalize grow (redrawn wr dq) osq = w5 at *
            have B5 := Lib.hid (HBR.out.trans (b5.mono HBR.out.size))
            have HM5 : Hid (MarkB w5 ga MA ∧ MarkB w5 gb MB ∧ MarkB w5 gc MC) := Lib.hid ⟨HMB.out.1.below b5, HMB.out.2.1.below b5, HMB.out.2.2.below b5⟩
            obtain ⟨-, -, q2⟩ := HQ.out w5 B5.out
            clear CV Q0 Q1 VA VB b5 HMB HBR HMK
            obtain ⟨wq, rfl⟩ : ∃ wq, wq = w5 := ⟨_, rfl⟩
            go_wp2_with fail
            go_loopw [9, 14] (fun a b wr => a = .bool an ∧ b = .int .i64 0 ∧ wr = wq) (fun _ _ _ => 0)
            case atStart => exact ⟨rfl, rfl, rfl⟩
            case round =>
              obtain ⟨rfl, rfl, rfl⟩ := hrel
              by_cases hc0 : 0 < C.length
              · have hd0 : decide ((0 : Int) < ((C.length : Nat) : Int)) = true := by simp; omega
                go_wp2_with fail
                go_roundw
                case rel => exact ⟨k + 1, MA, MB, MC, an, rfl, by go_num, by omega, HNX, HM5, B5⟩
                case measure => simp [intOf]; omega
              · have hd0 : decide ((0 : Int) < ((C.length : Nat) : Int)) = false := decide_eq_false (by omega)
                go_wp2_with fail
                go_roundw
                case rel => exact ⟨k + 1, MA, MB, MC, an, rfl, by go_num, by omega, HNX, HM5, B5⟩
                case measure => simp [intOf]; omega
          | some r =>
            rw [hf] at CV
            change Hid (∀ d os, Calls Tryz.prog 152 #[.int .i64 kind, .int .i64 av, .int .i64 bv] (grow (redrawn wr d) os) fun e w'' => e = .returned (.tuple #[.int .i64 r, .bool true]) ∧ ∃ p : Regrown, w'' = grow (redrawn wr p.d) p.os) at CV
            have HH2 : Hid (∀ j, hitN (kindV kind) A Bs C i k j ↔ r = C.getD j 0) := Lib.hid (fun j => by rw [HHIT.out, hf, Option.some.injEq])
            clear HHIT hf
            go_upto_region 11 with fail
            clear q0 q1 q2 va vb
            refine wp_region_quiet_below (by kernel_rfl) (by kernel_rfl) ?_
            repeat (first | go_big_quiet_step (first | (go_at_call 152; with_reducible exact CV.out _ _)) | quiet_step (fail))
            refine wpQuiet_nil ?_
            intro _ hw'
            obtain ⟨⟨dq, osq⟩, hw''⟩ := hw'
            subst hw''
            have b5 := below_regrown wr dq osq
            generalize grow (redrawn wr dq) osq = w5 at *
            have B5 := Lib.hid (HBR.out.trans (b5.mono HBR.out.size))
            have HM5 : Hid (MarkB w5 ga MA ∧ MarkB w5 gb MB ∧ MarkB w5 gc MC) := Lib.hid ⟨HMB.out.1.below b5, HMB.out.2.1.below b5, HMB.out.2.2.below b5⟩
            clear CV Q0 Q1 VA VB b5 HMB HBR
            obtain ⟨wq, rfl⟩ : ∃ wq, wq = w5 := ⟨_, rfl⟩
            go_wp2_with fail
            go_loopw [9, 14] (fun a b wr => ∃ (j : Nat) (MA MB MC : List Bool) (an : Bool), a = .bool an ∧ b = .int .i64 (j : Nat) ∧ j ≤ C.length ∧ Hid (Marks (hitN (kindV kind) A Bs C) A.length Bs.length C.length i k j MA MB MC an) ∧ Hid (MarkB wr ga MA ∧ MarkB wr gb MB ∧ MarkB wr gc MC) ∧ Hid (Below w.heap.size w wr)) (fun _ b _ => C.length - (intOf b).toNat)
            case atStart => exact ⟨0, MA, MB, MC, an, rfl, rfl, by omega, HMK, HM5, B5⟩
            case round =>
              clear HM5 B5 HMK
              obtain ⟨j, MA, MB, MC, an, rfl, rfl, hj, HMK, HMB, HBR⟩ := hrel
              obtain ⟨-, -, q2⟩ := HQ.out wr HBR.out
              by_cases hltj : j < C.length
              · obtain ⟨adC, eC, hbC, hcC⟩ := (HC.out.below HBR.out).lies (show 0 < C.length by omega)
                simp only at eC
                have vc : wr.cell? (adC.add j) = some (.int .i64 (C.getD j 0)) := hcC j hltj
                subst eC
                have HHJ : Hid (hitN (kindV kind) A Bs C i k j ↔ r = C.getD j 0) := Lib.hid (HH2.out j)
                obtain ⟨cv, hcv⟩ : ∃ v, v = C.getD j 0 := ⟨_, rfl⟩
                rw [← hcv] at vc HHJ
                clear hcC hbC hcv
                by_cases he : cv = r
                · have he' : (cv == r) = true := by simp [he]
                  have HNX := Lib.hid (HMK.out.yes (HHJ.out.2 he.symm) hlt hltk hltj)
                  have hlA : i < MA.length := by rw [HMK.out.la]; exact hlt
                  have hlB : k < MB.length := by rw [HMK.out.lb]; exact hltk
                  have hlC : j < MC.length := by rw [HMK.out.lc]; exact hltj
                  have LL := HL.out
                  have LG := HGA.out
                  have m1 := HMB.out.1
                  have a1 := m1.cell hlA
                  have f1 := m1.free i
                  obtain ⟨x1, hx1⟩ : ∃ x1, wr.setCell ⟨ga, i, none⟩ (.bool true) = x1 := ⟨_, rfl⟩
                  have M1 : Hid (MarkB x1 ga (MA.set i true) ∧ MarkB x1 gb MB ∧ MarkB x1 gc MC) := Lib.hid (hx1 ▸ ⟨m1.put i, HMB.out.2.1.far (by omega) i _, HMB.out.2.2.far (by omega) i _⟩)
                  have a2 := M1.out.2.1.cell hlB
                  have f2 := M1.out.2.1.free k
                  obtain ⟨x2, hx2⟩ : ∃ x2, x1.setCell ⟨gb, k, none⟩ (.bool true) = x2 := ⟨_, rfl⟩
                  have M2 : Hid (MarkB x2 ga (MA.set i true) ∧ MarkB x2 gb (MB.set k true) ∧ MarkB x2 gc MC) := Lib.hid (hx2 ▸ ⟨M1.out.1.far (by omega) k _, M1.out.2.1.put k, M1.out.2.2.far (by omega) k _⟩)
                  have a3 := M2.out.2.2.cell hlC
                  have f3 := M2.out.2.2.free j
                  obtain ⟨x3, hx3⟩ : ∃ x3, x2.setCell ⟨gc, j, none⟩ (.bool true) = x3 := ⟨_, rfl⟩
                  have M3 : Hid (MarkB x3 ga (MA.set i true) ∧ MarkB x3 gb (MB.set k true) ∧ MarkB x3 gc (MC.set j true)) := Lib.hid (hx3 ▸ ⟨M2.out.1.far (by omega) j _, M2.out.2.1.far (by omega) j _, M2.out.2.2.put j⟩)
                  have y1 := HBR.out.setCell (p := ⟨ga, i, none⟩) (show w.heap.size ≤ ga by omega) (.bool true)
                  rw [hx1] at y1
                  have y2 := y1.setCell (p := ⟨gb, k, none⟩) (show w.heap.size ≤ gb by omega) (.bool true)
                  rw [hx2] at y2
                  have y3 := y2.setCell (p := ⟨gc, j, none⟩) (show w.heap.size ≤ gc by omega) (.bool true)
                  rw [hx3] at y3
                  have B3 := Lib.hid y3
                  clear HHJ he m1 LL LG HMB HBR HMK M1 M2 y1 y2 y3
                  go_wp2_with fail
                  go_roundw
                  case rel => exact ⟨j + 1, _, _, _, true, rfl, by go_num, by omega, HNX, M3, B3⟩
                  case measure => simp [intOf]; omega
                · have he' : (cv == r) = false := by simp [he]
                  have HNX := Lib.hid (HMK.out.no (fun q => he (HHJ.out.1 q).symm))
                  clear HHJ he
                  go_wp2_with fail
                  go_roundw
                  case rel => exact ⟨j + 1, MA, MB, MC, an, rfl, by go_num, by omega, HNX, HMB, HBR⟩
                  case measure => simp [intOf]; omega
              · have HNX := Lib.hid ((show Marks (hitN (kindV kind) A Bs C) A.length Bs.length C.length i k C.length MA MB MC an by have := HMK.out; rwa [show j = C.length by omega] at this).next)
                clear HMK
                go_wp2_with fail
                go_roundw
                case rel => exact ⟨k + 1, MA, MB, MC, an, rfl, by go_num, by omega, HNX, HMB, HBR⟩
                case measure => simp [intOf]; omega
        · have HNX := Lib.hid ((show Marks (hitN (kindV kind) A Bs C) A.length Bs.length C.length i Bs.length 0 MA MB MC an by have := HMK.out; rwa [show k = Bs.length by omega] at this).down)
          clear HMK q0 q2
          go_wp2_with fail
          go_roundw
          case rel => exact ⟨i + 1, MA, MB, MC, an, rfl, by go_num, by omega, HNX, HMB, HBR⟩
          case measure => simp [intOf]; omega
    · have e3 : i = A.length := by omega
      subst e3
      clear hlt
      cases an with
      | false =>
        go_wp2_with fail
        go_ret2
        exact ⟨⟨false, MA, MB, MC, HMK.out, ⟨none, 0, 0⟩, rfl, IsRows.nil _⟩, HBR.out⟩
      | true =>
        have C1 := Lib.hid (those_any ⟨aA, A.length, aC⟩ A ga A.length MA wr (HA.out.below HBR.out) HMB.out.1 HMK.out.la hA)
        go_wp2_with fail
        refine C1.out.mono ?_
        rintro e w1 ⟨⟨y1, rfl, r1⟩, b1⟩
        have R1 := Lib.hid (ints_own r1 (by have := thoseE_len A MA A.length; omega))
        have B1 := Lib.hid (HBR.out.trans (b1.mono HBR.out.size))
        have HM1 : Hid (MarkB w1 gb MB ∧ MarkB w1 gc MC) := Lib.hid ⟨HMB.out.2.1.below b1, HMB.out.2.2.below b1⟩
        obtain ⟨-, q1, -⟩ := HQ.out w1 B1.out
        have C2 := Lib.hid (those_any ⟨bA, Bs.length, bC⟩ Bs gb Bs.length MB w1 (HB.out.below B1.out) HM1.out.1 HMK.out.lb hB)
        clear C1 r1 b1 HMB q0
        go_wp2_with fail
        refine C2.out.mono ?_
        rintro e w2 ⟨⟨y2, rfl, r2⟩, b2⟩
        have R2 := Lib.hid (ints_own r2 (by have := thoseE_len Bs MB Bs.length; omega))
        have R1' := Lib.hid (R1.out.below b2)
        have B2 := Lib.hid (B1.out.trans (b2.mono B1.out.size))
        have HM2 : Hid (MarkB w2 gc MC) := Lib.hid (HM1.out.2.below b2)
        obtain ⟨-, -, q2⟩ := HQ.out w2 B2.out
        have C3 := Lib.hid (those_any ⟨cA, C.length, cC⟩ C gc C.length MC w2 (HC.out.below B2.out) HM2.out HMK.out.lc hC)
        clear C2 r2 b2 HM1 q1 R1 B1
        go_wp2_with fail
        refine C3.out.mono ?_
        rintro e w3 ⟨⟨y3, rfl, r3⟩, b3⟩
        have R3 := Lib.hid (ints_own r3 (by have := thoseE_len C MC C.length; omega))
        have HF := Lib.hid (rows_build3 (R1'.out.below b3) (R2.out.below b3) R3.out)
        have B3 := Lib.hid (B2.out.trans (b3.mono B2.out.size))
        have BF := Lib.hid (B3.out.trans ((below1 w3 (.cells #[.slice y1.A y1.n y1.c, .slice y2.A y2.n y2.c, .slice y3.A y3.n y3.c] 26)).mono B3.out.size))
        clear C3 r3 b3 HM2 q2 R1' R2 R3 B2 B3
        go_wp2_with fail
        go_ret2
        exact ⟨⟨true, MA, MB, MC, HMK.out, ⟨some ⟨w3.heap.size, 0, none⟩, 3, 3⟩, rfl, HF.out⟩, BF.out⟩
end Go.Proofs.YtcmdgjkoalophaaGreatDoor

namespace Go.Proofs.YtcmdgjkoalophaaGreatDoor
open Go.RowKit

/-- A list that is a domain's. -/
def DomL (L : List Int) : Prop := L.Pairwise (· < ·) ∧ (L ≠ [] → ofErr L = 0)
theorem ofErr_sub {L S : List Int} (h : ofErr L = 0) (hs : S ≠ []) (hm : ∀ v ∈ S, v ∈ L) : ofErr S = 0 := by
  unfold ofErr at h ⊢
  split at h
  · cases h
  · split at h
    · cases h
    · next h1 h2 =>
      split at h
      · cases h
      · next h3 =>
        rw [if_neg (by simpa using hs), if_neg, if_neg]
        · intro e
          apply h3
          rw [List.any_eq_true] at e ⊢
          obtain ⟨a, ha, e⟩ := e
          rw [List.any_eq_true] at e
          obtain ⟨b, hb, e⟩ := e
          exact ⟨a, hm a ha, List.any_eq_true.2 ⟨b, hm b hb, e⟩⟩
        · intro e
          apply h2
          rw [List.any_eq_true] at e ⊢
          obtain ⟨a, ha, e⟩ := e
          exact ⟨a, hm a ha, e⟩
theorem domL_in {L : List Int} (h : DomL L) : ∀ v ∈ L, -1000000 ≤ v ∧ v ≤ 1000000 := by
  intro v hv
  have he := h.2 (List.ne_nil_of_mem hv)
  unfold ofErr at he
  split at he
  · cases he
  · split at he
    · cases he
    · next h2 =>
      have := List.any_eq_false.1 (Bool.eq_false_iff.2 h2) v hv
      simp [mayB] at this
      omega
/-- The numbers of a domain that are among others: as a set of these. -/
theorem filter_is {L S : List Int} (hL : DomL L) (hs : S ≠ []) (hm : ∀ v ∈ S, v ∈ L) : L.filter (fun v => decide (v ∈ S)) = ofL S := by
  rw [ofL_ok _ (ofErr_sub (hL.2 (fun e => by
    obtain ⟨v, hv⟩ := List.exists_mem_of_ne_nil S hs
    have := hm v hv
    rw [e] at this
    cases this)) hs hm)]
  apply eq_of_rising _ _ (hL.1.filter _) (rising_setOf _)
  intro v
  rw [List.mem_filter, mem_setOf, decide_eq_true_eq]
  exact ⟨fun h => h.2, fun h => ⟨hm v h, h⟩⟩
theorem thoseE_is {L S : List Int} {M : List Bool} (k : Nat) (hk : k ≤ L.length) (h : ∀ i, i < L.length → (M.getD i false = true ↔ L.getD i 0 ∈ S)) : thoseE L M k = (L.take k).filter fun v => decide (v ∈ S) := by
  induction k with
  | zero => simp [thoseE]
  | succ k ih =>
    rw [thoseE_step, ih (by omega), List.take_succ_eq_append_getElem (show k < L.length by omega), List.filter_append]
    congr 1
    have := h k (by omega)
    have eL : L.getD k 0 = L[k] := by rw [List.getD_eq_getElem?_getD, List.getElem?_eq_getElem (show k < L.length by omega)]; rfl
    rw [eL] at this ⊢
    rw [List.filter_cons]
    by_cases hc : M.getD k false = true
    · rw [if_pos hc, if_pos (by simpa using this.1 hc)]; rfl
    · rw [if_neg hc, if_neg (by simpa using fun q => hc (this.2 q))]; rfl
theorem mem_getD_iff {L : List Int} {v : Int} : v ∈ L ↔ ∃ i, i < L.length ∧ L.getD i 0 = v := by
  constructor
  · intro h
    obtain ⟨i, hi, e⟩ := List.getElem_of_mem h
    exact ⟨i, hi, by rw [List.getD_eq_getElem?_getD, List.getElem?_eq_getElem hi]; exact e⟩
  · rintro ⟨i, hi, rfl⟩
    exact getD_mem L i hi
section
variable {f : Int → Int → Option Int} {A B C : List Int}
theorem mem_h1 {v : Int} : v ∈ h1 (hitsE f C A B) ↔ v ∈ A ∧ ∃ b r, b ∈ B ∧ r ∈ C ∧ f v b = some r := by
  unfold h1
  rw [List.mem_map]
  constructor
  · rintro ⟨⟨a, b, r⟩, ht, rfl⟩
    obtain ⟨q1, q2, q3, q4⟩ := mem_hitsE.1 ht
    exact ⟨q1, b, r, q2, q4, q3⟩
  · rintro ⟨q1, b, r, q2, q4, q3⟩
    exact ⟨(v, b, r), mem_hitsE.2 ⟨q1, q2, q3, q4⟩, rfl⟩
theorem mem_h2 {v : Int} : v ∈ h2 (hitsE f C A B) ↔ v ∈ B ∧ ∃ a r, a ∈ A ∧ r ∈ C ∧ f a v = some r := by
  unfold h2
  rw [List.mem_map]
  constructor
  · rintro ⟨⟨a, b, r⟩, ht, rfl⟩
    obtain ⟨q1, q2, q3, q4⟩ := mem_hitsE.1 ht
    exact ⟨q2, a, r, q1, q4, q3⟩
  · rintro ⟨q2, a, r, q1, q4, q3⟩
    exact ⟨(a, v, r), mem_hitsE.2 ⟨q1, q2, q3, q4⟩, rfl⟩
theorem mem_h3 {v : Int} : v ∈ h3 (hitsE f C A B) ↔ v ∈ C ∧ ∃ a b, a ∈ A ∧ b ∈ B ∧ f a b = some v := by
  unfold h3
  rw [List.mem_map]
  constructor
  · rintro ⟨⟨a, b, r⟩, ht, rfl⟩
    obtain ⟨q1, q2, q3, q4⟩ := mem_hitsE.1 ht
    exact ⟨q4, a, b, q1, q2, q3⟩
  · rintro ⟨q4, a, b, q1, q2, q3⟩
    exact ⟨(a, b, v), mem_hitsE.2 ⟨q1, q2, q3, q4⟩, rfl⟩
theorem h_ne {l : List (Int × Int × Int)} (h : l ≠ []) : h1 l ≠ [] ∧ h2 l ≠ [] ∧ h3 l ≠ [] := by
  refine ⟨?_, ?_, ?_⟩ <;> (intro e; apply h; simpa [h1, h2, h3] using e)
/-- What the marks tell, all gone through. -/
theorem marks_tell {MA MB MC : List Bool} {an : Bool} (hA : DomL A) (hB : DomL B) (hC : DomL C) (h : Marks (hitN f A B C) A.length B.length C.length A.length 0 0 MA MB MC an) :
    an = decide (hitsE f C A B ≠ []) ∧ (an = true → thoseE A MA A.length = ofL (h1 (hitsE f C A B)) ∧ thoseE B MB B.length = ofL (h2 (hitsE f C A B)) ∧ thoseE C MC C.length = ofL (h3 (hitsE f C A B))) := by
  obtain ⟨ha, hb, hc, han⟩ := h.full
  have hne : an = true ↔ hitsE f C A B ≠ [] := by
    rw [han]
    constructor
    · rintro ⟨i, k, j, hi, hk, hj, hh⟩ e
      have : (A.getD i 0, B.getD k 0, C.getD j 0) ∈ hitsE f C A B := mem_hitsE.2 ⟨getD_mem A i hi, getD_mem B k hk, hh, getD_mem C j hj⟩
      rw [e] at this
      cases this
    · intro e
      obtain ⟨t, ht⟩ := List.exists_mem_of_ne_nil _ e
      obtain ⟨q1, q2, q3, q4⟩ := mem_hitsE.1 ht
      obtain ⟨i, hi, e1⟩ := mem_getD_iff.1 q1
      obtain ⟨k, hk, e2⟩ := mem_getD_iff.1 q2
      obtain ⟨j, hj, e3⟩ := mem_getD_iff.1 q4
      exact ⟨i, k, j, hi, hk, hj, by unfold hitN; rw [e1, e2, e3]; exact q3⟩
  refine ⟨?_, fun hyes => ?_⟩
  · rw [Bool.eq_iff_iff, decide_eq_true_eq]; exact hne
  · obtain ⟨n1, n2, n3⟩ := h_ne (hne.1 hyes)
    refine ⟨?_, ?_, ?_⟩
    · rw [thoseE_is (S := h1 (hitsE f C A B)) A.length (Nat.le_refl _) (fun i hi => ?_), List.take_of_length_le (Nat.le_refl _), filter_is hA n1 (fun v hv => (mem_h1.1 hv).1)]
      rw [ha i hi, mem_h1]
      constructor
      · rintro ⟨k, j, hk, hj, hh⟩
        exact ⟨getD_mem A i hi, _, _, getD_mem B k hk, getD_mem C j hj, hh⟩
      · rintro ⟨-, b, r, q1, q2, q3⟩
        obtain ⟨k, hk, e2⟩ := mem_getD_iff.1 q1
        obtain ⟨j, hj, e3⟩ := mem_getD_iff.1 q2
        exact ⟨k, j, hk, hj, by unfold hitN; rw [e2, e3]; exact q3⟩
    · rw [thoseE_is (S := h2 (hitsE f C A B)) B.length (Nat.le_refl _) (fun k hk => ?_), List.take_of_length_le (Nat.le_refl _), filter_is hB n2 (fun v hv => (mem_h2.1 hv).1)]
      rw [hb k hk, mem_h2]
      constructor
      · rintro ⟨i, j, hi, hj, hh⟩
        exact ⟨getD_mem B k hk, _, _, getD_mem A i hi, getD_mem C j hj, hh⟩
      · rintro ⟨-, a, r, q1, q2, q3⟩
        obtain ⟨i, hi, e2⟩ := mem_getD_iff.1 q1
        obtain ⟨j, hj, e3⟩ := mem_getD_iff.1 q2
        exact ⟨i, j, hi, hj, by unfold hitN; rw [e2, e3]; exact q3⟩
    · rw [thoseE_is (S := h3 (hitsE f C A B)) C.length (Nat.le_refl _) (fun j hj => ?_), List.take_of_length_le (Nat.le_refl _), filter_is hC n3 (fun v hv => (mem_h3.1 hv).1)]
      rw [hc j hj, mem_h3]
      constructor
      · rintro ⟨i, k, hi, hk, hh⟩
        exact ⟨getD_mem C j hj, _, _, getD_mem A i hi, getD_mem B k hk, hh⟩
      · rintro ⟨-, a, b, q1, q2, q3⟩
        obtain ⟨i, hi, e2⟩ := mem_getD_iff.1 q1
        obtain ⟨k, hk, e3⟩ := mem_getD_iff.1 q2
        exact ⟨i, k, hi, hk, by unfold hitN; rw [e2, e3]; exact q3⟩
end
theorem ofL_ne {S : List Int} (h : ofErr S = 0) (hs : S ≠ []) : ofL S ≠ [] := by
  rw [ofL_ok _ h]
  intro e
  obtain ⟨v, hv⟩ := List.exists_mem_of_ne_nil S hs
  have := (mem_setOf S v).2 hv
  rw [e] at this
  cases this
/-- Where few pairs are looked at: what is left. -/
theorem mulE_few {c : ConL} {A B C : List Int} (hf : fitsE c [A, B, C] 5 7 = true) (hA : DomL A) (hB : DomL B) (hC : DomL C) (hn : A.length * B.length ≤ 4096) :
    mulE c [A, B, C] = if hitsE (kindV c.kind) C A B = [] then none else some [ofL (h1 (hitsE (kindV c.kind) C A B)), ofL (h2 (hitsE (kindV c.kind) C A B)), ofL (h3 (hitsE (kindV c.kind) C A B))] := by
  have hm : mulL c.kind A B C = [ofL (h1 (hitsE (kindV c.kind) C A B)), ofL (h2 (hitsE (kindV c.kind) C A B)), ofL (h3 (hitsE (kindV c.kind) C A B))] := by unfold mulL; rw [if_pos hn]
  unfold mulE
  rw [if_pos hf]
  have e0 : ([A, B, C] : List (List Int)).getD 0 [] = A := rfl
  have e1 : ([A, B, C] : List (List Int)).getD 1 [] = B := rfl
  have e2 : ([A, B, C] : List (List Int)).getD 2 [] = C := rfl
  rw [e0, e1, e2, hm]
  by_cases h : hitsE (kindV c.kind) C A B = []
  · rw [if_pos h, h]
    rfl
  · rw [if_neg h]
    obtain ⟨n1, n2, n3⟩ := h_ne h
    obtain ⟨t, ht⟩ := List.exists_mem_of_ne_nil _ h
    obtain ⟨q1, q2, q3, q4⟩ := mem_hitsE.1 ht
    have k1 := ofL_ne (ofErr_sub (hA.2 (List.ne_nil_of_mem q1)) n1 (fun v hv => (mem_h1.1 hv).1)) n1
    have k2 := ofL_ne (ofErr_sub (hB.2 (List.ne_nil_of_mem q2)) n2 (fun v hv => (mem_h2.1 hv).1)) n2
    have k3 := ofL_ne (ofErr_sub (hC.2 (List.ne_nil_of_mem q4)) n3 (fun v hv => (mem_h3.1 hv).1)) n3
    rw [if_neg]
    simp [k1, k2, k3]
end Go.Proofs.YtcmdgjkoalophaaGreatDoor

namespace Go.Proofs.YtcmdgjkoalophaaGreatDoor
open Go.RowKit Go.Sort

set_option maxHeartbeats 4000000 in
set_option maxRecDepth 100000 in
theorem pairs_any (kind : Int) (x : Sl) (A Bs C : List Int) (w : World) (hk : kind = 5 ∨ kind = 6 ∨ kind = 7) (h : IsRows w x [A, Bs, C]) (hA : DomL A) (hB : DomL Bs) (hC : DomL C) (lA : A.length ≤ 200000) (lB : Bs.length ≤ 200000) (lC : C.length ≤ 200000) :
    Calls Tryz.prog 98 #[.int .i64 kind, .slice x.A x.n x.c] w fun e w' => (∃ (y : Sl), e = .returned (.tuple #[.slice y.A y.n y.c, .bool (decide (hitsE (kindV kind) C A Bs ≠ []))]) ∧
      IsRows w' y (if hitsE (kindV kind) C A Bs = [] then [] else [ofL (h1 (hitsE (kindV kind) C A Bs)), ofL (h2 (hitsE (kindV kind) C A Bs)), ofL (h3 (hitsE (kindV kind) C A Bs))])) ∧ Below w.heap.size w w' := by
  refine (pairs_walk kind x A Bs C w hk h lA lB lC (domL_in hA) (domL_in hB)).mono ?_
  rintro e w' ⟨⟨an, MA, MB, MC, hM, y, rfl, hy⟩, b⟩
  obtain ⟨han, htell⟩ := marks_tell hA hB hC hM
  refine ⟨⟨y, by rw [han], ?_⟩, b⟩
  by_cases hh : hitsE (kindV kind) C A Bs = []
  · rw [if_pos hh]
    rw [if_neg (by rw [han]; simp [hh])] at hy
    exact hy
  · have hy1 : an = true := by rw [han]; simpa using hh
    rw [if_neg hh]
    rw [if_pos hy1] at hy
    obtain ⟨t1, t2, t3⟩ := htell hy1
    rw [t1, t2, t3] at hy
    exact hy

set_option maxHeartbeats 4000000 in
set_option maxRecDepth 100000 in
theorem refmul_few (v : ConV) (c : ConL) (x : Sl) (D : List (List Int)) (w : World) (h : ConIn w v c) (hx : IsRows w x D) (hD : ∀ l ∈ D, DomL l ∧ l.length ≤ 60) :
    Calls Tryz.prog 45 #[v.val c.kind c.K, .slice x.A x.n x.c] w fun e w' => (∃ y : Sl, e = .returned (.tuple #[.slice y.A y.n y.c, .bool (mulE c D).isSome]) ∧ IsRows w' y ((mulE c D).getD [])) ∧ Below w.heap.size w w' := by
  obtain ⟨wb, hwb⟩ : ∃ wb, cBox w v c.kind c.K = wb := ⟨_, rfl⟩
  have HR : Hid (RBox w.heap.size wb v c ⟨none, 0, 0⟩ [] ∧ Below w.heap.size w wb) := Lib.hid (hwb ▸ ⟨RBox.start h (IsInts.nil _), cBox_below _ _ _ _⟩)
  have HX := Lib.hid (hx.below HR.out.2)
  have CM := Lib.hid (fits_any v c x D 5 7 wb HR.out.1.con HX.out)
  obtain ⟨R, hR⟩ : ∃ R, R = mulE c D := ⟨_, rfl⟩
  rw [← hR]
  have HWB := Lib.hid hwb
  have HB := Lib.hid HR.out.2
  have d0 := HR.out.1.c0
  have d1 := HR.out.1.c1
  have d2 := HR.out.1.c2
  have d3 := HR.out.1.c3
  have d4 := HR.out.1.c4
  have d5 := HR.out.1.c5
  have d6 := HR.out.1.c6
  have d7 := HR.out.1.c7
  have HRR := Lib.hid hR
  clear hwb h hx hR
  cases hf : fitsE c D 5 7 with
  | false =>
    rw [hf] at CM
    have HF : Hid (R = none) := Lib.hid (by rw [HRR.out]; unfold mulE; rw [if_neg (by rw [hf]; decide)])
    clear hf HRR
    go_enter Tryz.func45, Tryz.ntmps45
    go_upto_region 1 with fail
    change Code.wp _ _ _ _ (cBox w v c.kind c.K)
    rw [HWB.out]
    clear HWB
    go_wp2_with fail
    refine CM.out.mono ?_
    rintro e w1 ⟨rfl, b1⟩
    have B1 := Lib.hid (HB.out.trans (b1.mono HB.out.size))
    clear b1 CM d0 d1 d2 d3 d4 d5 d6 d7
    go_wp2_with fail
    go_ret2
    rw [HF.out]
    exact ⟨⟨⟨none, 0, 0⟩, rfl, IsRows.nil _⟩, B1.out⟩
  | true =>
    rw [hf] at CM
    obtain ⟨A, Bs, C, hDD, hk, ha, hb, hc⟩ := fits_three hf
    subst hDD
    obtain ⟨qA, lA⟩ := hD A (by simp)
    obtain ⟨qB, lB⟩ := hD Bs (by simp)
    obtain ⟨qC, lC⟩ := hD C (by simp)
    have hab : A.length * Bs.length ≤ 4096 := Nat.le_trans (Nat.mul_le_mul lA lB) (by omega)
    have HV : Hid (R = if hitsE (kindV c.kind) C A Bs = [] then none else some [ofL (h1 (hitsE (kindV c.kind) C A Bs)), ofL (h2 (hitsE (kindV c.kind) C A Bs)), ofL (h3 (hitsE (kindV c.kind) C A Bs))]) := Lib.hid (by rw [HRR.out]; exact mulE_few hf qA qB qC hab)
    have CP := Lib.hid (fun W (hW : Below wb.heap.size wb W) => pairs_any c.kind x A Bs C W hk (HX.out.below hW) qA qB qC (by omega) (by omega) (by omega))
    obtain ⟨xA, xn, xc⟩ := x
    have hxn : xn = 3 := HX.out.len
    subst hxn
    obtain ⟨ad, uA, e0, c0, hA0⟩ := rows_at HX.out 0 (show 0 < 3 by omega)
    obtain ⟨ad1, uB, e1, c1, hB0⟩ := rows_at HX.out 1 (show 1 < 3 by omega)
    simp only at e0 e1
    subst e0
    obtain rfl : ad = ad1 := Option.some.inj e1
    obtain ⟨ab, ao, af⟩ := ad
    obtain ⟨aA, aN, aC⟩ := uA
    obtain ⟨bA, bN, bC⟩ := uB
    have hA1 : IsInts wb ⟨aA, aN, aC⟩ A := hA0
    have hB1 : IsInts wb ⟨bA, bN, bC⟩ Bs := hB0
    obtain rfl : aN = A.length := hA1.len
    obtain rfl : bN = Bs.length := hB1.len
    have c0 : wb.cell? ⟨ab, ao, af⟩ = some (.slice aA A.length aC) := by rw [add_zero] at c0; exact c0
    have c1 : wb.cell? ⟨ab, ao + 1, none⟩ = some (.slice bA Bs.length bC) := by simpa [Addr.add] using c1
    have HC0 := Lib.hid c0
    have HC1 := Lib.hid c1
    have t1 : decide (((A.length : Nat) : Int) * ((Bs.length : Nat) : Int) ≤ 4096) = true := by
      have : (((A.length : Nat) : Int) * ((Bs.length : Nat) : Int)) = ((A.length * Bs.length : Nat) : Int) := by simp
      simp only [this, decide_eq_true_eq]; omega
    have hwr : IntKind.i64.wrap (((A.length : Nat) : Int) * ((Bs.length : Nat) : Int)) = ((A.length : Nat) : Int) * ((Bs.length : Nat) : Int) := IntWalk.i64_in _ (by
      have : (((A.length : Nat) : Int) * ((Bs.length : Nat) : Int)) = ((A.length * Bs.length : Nat) : Int) := by simp
      omega)
    obtain ⟨hs, hhs⟩ : ∃ hs, hs = hitsE (kindV c.kind) C A Bs := ⟨_, rfl⟩
    rw [← hhs] at HV CP
    clear hf HRR hk ha hb hc qA qB qC lA lB lC hab hA0 hB0 hA1 hB1 c0 c1 e1 hhs HX hD
    go_enter Tryz.func45, Tryz.ntmps45
    go_upto_region 1 with fail
    change Code.wp _ _ _ _ (cBox w v c.kind c.K)
    rw [HWB.out]
    clear HWB
    go_wp2_with fail
    refine CM.out.mono ?_
    rintro e w1 ⟨rfl, b1⟩
    have B1 := Lib.hid b1
    have d0' := (b1.cell (World.block_lt_of_cell? _ _ d0)).trans d0
    have Q0 := cell_regrown ((b1.cell (World.block_lt_of_cell? _ _ HC0.out)).trans HC0.out)
    have Q1 := cell_regrown ((b1.cell (World.block_lt_of_cell? _ _ HC1.out)).trans HC1.out)
    have HD0 := Lib.hid d0'
    clear b1 CM d0 d1 d2 d3 d4 d5 d6 d7
    go_upto_region 4 with fail
    refine wp_region_quiet_below (by kernel_rfl) (by kernel_rfl) ?_
    repeat (first | go_big_quiet_step (fail) | quiet_step (fail))
    refine wpQuiet_nil ?_
    intro _ hw'
    obtain ⟨⟨dq, osq⟩, hw''⟩ := hw'
    subst hw''
    have b5 := below_regrown w1 dq osq
    generalize grow (redrawn w1 dq) osq = w5 at *
    have B5 := Lib.hid (B1.out.trans (b5.mono B1.out.size))
    have d5 := (b5.cell (World.block_lt_of_cell? _ _ HD0.out)).trans HD0.out
    have CPP := Lib.hid (CP.out w5 B5.out)
    clear Q0 Q1 b5 d0' HD0 B1 CP HC0 HC1
    cases he : decide (hs ≠ []) with
    | false =>
      have hne : hs = [] := by simpa using he
      rw [he, if_pos hne] at CPP
      have HF : Hid (R = none) := Lib.hid (by rw [HV.out, if_pos hne])
      clear he hne HV
      go_wp2_with fail
      refine CPP.out.mono ?_
      rintro e w6 ⟨⟨y, rfl, hy⟩, b6⟩
      have HY := Lib.hid hy
      have B6 := Lib.hid (HB.out.trans ((B5.out.trans (b6.mono B5.out.size)).mono HB.out.size))
      clear hy b6 CPP
      go_wp2_with fail
      go_ret2
      rw [HF.out]
      exact ⟨⟨y, rfl, HY.out⟩, B6.out⟩
    | true =>
      have hne : hs ≠ [] := by simpa using he
      rw [he, if_neg hne] at CPP
      have HF : Hid (R = some [ofL (h1 hs), ofL (h2 hs), ofL (h3 hs)]) := Lib.hid (by rw [HV.out, if_neg hne])
      clear he hne HV
      go_wp2_with fail
      refine CPP.out.mono ?_
      rintro e w6 ⟨⟨y, rfl, hy⟩, b6⟩
      have HY := Lib.hid hy
      have B6 := Lib.hid (HB.out.trans ((B5.out.trans (b6.mono B5.out.size)).mono HB.out.size))
      clear hy b6 CPP
      go_wp2_with fail
      go_ret2
      rw [HF.out]
      exact ⟨⟨y, rfl, HY.out⟩, B6.out⟩
end Go.Proofs.YtcmdgjkoalophaaGreatDoor
