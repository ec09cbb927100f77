/- Contracts: near; Clone and Reverse of rows. -/
import Derived.Test.YtppiemgdjkehkaaDoorMkmore
import Derived.RegionTactic
import Derived.ChangeAlike
namespace Go.Proofs.YtppiemgdjkehkaaDoor
open Go.RowKit Go.Sort

def nearE (l : List Int) (i : Nat) : Int := if i < l.length then (l.getD i 0).tmod 7 else (i : Int)
theorem near_in (l : List Int) (i : Nat) (hi : i < 7) : -7 < nearE l i ∧ nearE l i < 7 := by
  unfold nearE
  split
  · exact tmod_in _ 7 (by omega)
  · omega
set_option maxHeartbeats 1000000 in
set_option maxRecDepth 100000 in
theorem near_any (x : Sl) (l : List Int) (n : Nat) (w : World) (h : IsNs .i64 w x l) (hn : n ≤ 1000) :
    Calls Tryd.prog 7 #[.slice x.A x.n x.c, .int .i64 (n : Nat)] w fun e w' => (∃ y : Sl, e = .returned (.slice y.A y.n y.c) ∧ Row3 w' w.heap.size y (mkL (nearE l) n)) ∧ Below w.heap.size w w' := by
  obtain ⟨A, m, c⟩ := x
  obtain ⟨hlen, hL, hbig, hcap⟩ := h
  simp only at hlen hL hbig ⊢
  have HL := Lib.hid hL
  have HN := Lib.hid hlen
  obtain ⟨i0, hi, hz0, hz1, hz2⟩ := info_parts Tryd.info3
  clear hL hlen
  go_enter Tryd.func7, Tryd.ntmps7
  go_wp2_with fail
  go_loopw [5, 9] (fun s i wr => ∃ (k : Nat) (y : Sl), s = .slice y.A y.n y.c ∧ i = .int .i64 (k : Nat) ∧ k ≤ n ∧ Hid (wr.ownsRow w.heap.size 3 1 (.slice y.A y.n y.c) k (I (mkL (nearE l) k))) ∧ Hid (Below w.heap.size w wr)) (fun _ i _ => n - (intOf i).toNat)
  case atStart => exact ⟨0, ⟨none, 0, 0⟩, rfl, rfl, by omega, Lib.hid (World.ownsRow_nil _ _ _ _), Lib.hid (Below.refl _ _)⟩
  case round =>
    obtain ⟨k, y, rfl, rfl, hk, HO, HB0⟩ := hrel
    by_cases hlt : k < n
    · have HT : Hid (I (mkL (nearE l) (k + 1)) = I (mkL (nearE l) k) ++ [.int .i64 (nearE l k)]) := Lib.hid (by rw [mkL_succ, I_append]; rfl)
      have Z5 := Lib.hid HB0.out.size
      by_cases hkm : k < m
      · obtain ⟨ad, rfl, hbk, hcl⟩ := HL.out (by omega)
        have hck : wr.cell? (ad.add k) = some (.int .i64 (l.getD k 0)) := (HB0.out.cell (by rw [add_block]; exact hbk)).trans (hcl k hkm)
        have he : Hid (nearE l k = (l.getD k 0).tmod 7) := Lib.hid (by unfold nearE; rw [if_pos (by rw [← HN.out]; exact hkm)])
        rw [he.out] at HT
        have ht := tmod_in (l.getD k 0) 7 (by omega)
        generalize l.getD k 0 = z at hck HT ht
        have w2 : IntKind.i64.wrap (z.tmod 7) = z.tmod 7 := IntWalk.i64_in _ (by omega)
        clear hcl hbk he ht
        go_wp2_with (at_builtin; refine wpList_append_own _ rfl _ _ 27 rfl w.heap.size 3 i0 (.int .i64 0) 1 8 Tryd.underlying27 hi hz0 hz1 hz2 rfl (by decide) _ _ _ rfl (HO.out.alloc _) ⟨_, 0, none⟩ 1 1 [.int .i64 (z.tmod 7)] rfl rfl ?c1 ?c2 ?c3 ?c4 ?c5 ?_)
        case c1 => intro j u hj; match j, hj with | 0, hj => simp at hj; subst hj; simp [Addr.add]
        case c2 => intro u hu; simp at hu; subst hu; rfl
        case c3 => unfold maxLen; omega
        case c4 => omega
        case c5 => have := Z5.out; simp; omega
        intro v' w7 hown' hgrow _
        have HB7 := Lib.hid ((HB0.out.alloc HB0.out.size _).grown hgrow (by have := HB0.out.size; simp; omega) (own_ge HO.out))
        rw [← HT.out] at hown'
        obtain ⟨Y, kY, rfl⟩ := slice_row hown'
        have HO7 := Lib.hid hown'
        clear hown' hgrow HO HB0 hck
        go_wp2_with fail
        go_roundw
        case rel => exact ⟨k + 1, ⟨Y, _, kY⟩, rfl, by go_num, by omega, HO7, HB7⟩
        case measure => simp [intOf]; omega
      · have he : Hid (nearE l k = ((k : Nat) : Int)) := Lib.hid (by unfold nearE; rw [if_neg (by rw [← HN.out]; exact hkm)])
        rw [he.out] at HT
        clear he
        go_wp2_with (at_builtin; refine wpList_append_own _ rfl _ _ 27 rfl w.heap.size 3 i0 (.int .i64 0) 1 8 Tryd.underlying27 hi hz0 hz1 hz2 rfl (by decide) _ _ _ rfl (HO.out.alloc _) ⟨_, 0, none⟩ 1 1 [.int .i64 ((k : Nat) : Int)] rfl rfl ?c1 ?c2 ?c3 ?c4 ?c5 ?_)
        case c1 => intro j u hj; match j, hj with | 0, hj => simp at hj; subst hj; simp [Addr.add]
        case c2 => intro u hu; simp at hu; subst hu; rfl
        case c3 => unfold maxLen; omega
        case c4 => omega
        case c5 => have := Z5.out; simp; omega
        intro v' w7 hown' hgrow _
        have HB7 := Lib.hid ((HB0.out.alloc HB0.out.size _).grown hgrow (by have := HB0.out.size; simp; omega) (own_ge HO.out))
        rw [← HT.out] at hown'
        obtain ⟨Y, kY, rfl⟩ := slice_row hown'
        have HO7 := Lib.hid hown'
        clear hown' hgrow HO HB0
        go_wp2_with fail
        go_roundw
        case rel => exact ⟨k + 1, ⟨Y, _, kY⟩, rfl, by go_num, by omega, HO7, HB7⟩
        case measure => simp [intOf]; omega
    · have HO2 : Hid (Row3 wr w.heap.size y (mkL (nearE l) n)) := Lib.hid (by have := HO.out; rw [show k = n by omega] at this; unfold Row3; rw [mkL_len]; exact this)
      clear HO
      go_wp2_with fail
      go_ret
      exact ⟨⟨y, rfl, HO2.out⟩, HB0.out⟩

/-! A row of values, turned from its ends inward. -/
section
variable {α : Type} (d : α)
def rvTo (zs : List α) (k : Nat) : List α := (List.range zs.length).map fun t => if t < k ∨ zs.length - k ≤ t then zs.getD (zs.length - 1 - t) d else zs.getD t d
theorem rvTo_len (zs : List α) (k : Nat) : (rvTo d zs k).length = zs.length := by simp [rvTo]
theorem rvTo_get (zs : List α) (k t : Nat) (h : t < zs.length) : (rvTo d zs k).getD t d = if t < k ∨ zs.length - k ≤ t then zs.getD (zs.length - 1 - t) d else zs.getD t d := by
  unfold rvTo
  rw [List.getD_eq_getElem?_getD, List.getElem?_map, List.getElem?_range h]
  rfl
theorem ext_getD' (a b : List α) (hl : a.length = b.length) (h : ∀ t, t < a.length → a.getD t d = b.getD t d) : a = b := by
  apply List.ext_getElem hl
  intro i h1 h2
  have := h i h1
  simpa [List.getD_eq_getElem?_getD, List.getElem?_eq_getElem h1, List.getElem?_eq_getElem h2] using this
theorem rvTo_zero (zs : List α) : rvTo d zs 0 = zs := by
  apply ext_getD' d _ _ (rvTo_len d _ _)
  intro t ht
  rw [rvTo_len] at ht
  rw [rvTo_get _ _ _ _ ht, if_neg (by omega)]
theorem rvTo_all (zs : List α) (k : Nat) (h : zs.length ≤ 2 * k + 1) : rvTo d zs k = zs.reverse := by
  apply ext_getD' d _ _ (by simp [rvTo_len])
  intro t ht
  rw [rvTo_len] at ht
  rw [rvTo_get _ _ _ _ ht]
  have hr : zs.reverse.getD t d = zs.getD (zs.length - 1 - t) d := by
    rw [List.getD_eq_getElem?_getD, List.getElem?_reverse ht, List.getD_eq_getElem?_getD]
  rw [hr]
  by_cases hc : t < k ∨ zs.length - k ≤ t
  · rw [if_pos hc]
  · rw [if_neg hc, show zs.length - 1 - t = t by omega]
theorem getD_set' (ws : List α) (i j : Nat) (x : α) (hi : i < ws.length) : (ws.set i x).getD j d = if i = j then x else ws.getD j d := by
  rw [List.getD_eq_getElem?_getD, List.getElem?_set]
  by_cases h : i = j
  · subst h; simp [hi]
  · simp [h, List.getD_eq_getElem?_getD]
theorem rvTo_step (zs : List α) (k j : Nat) (hj : j = zs.length - 1 - k) (hk : k < j) : ((rvTo d zs k).set k ((rvTo d zs k).getD j d)).set j ((rvTo d zs k).getD k d) = rvTo d zs (k + 1) := by
  apply ext_getD' d _ _ (by simp [rvTo_len])
  intro t ht
  simp only [List.length_set, rvTo_len] at ht
  rw [getD_set' _ _ _ _ _ (by simp [rvTo_len]; omega), getD_set' _ _ _ _ _ (by rw [rvTo_len]; omega), rvTo_get _ _ _ _ (by omega), rvTo_get _ _ _ _ (by omega), rvTo_get _ _ _ _ ht, rvTo_get _ _ _ _ ht]
  by_cases h1 : j = t
  · subst h1
    rw [if_pos rfl, if_neg (by omega), if_pos (by omega)]
    congr 1; omega
  · rw [if_neg h1]
    by_cases h2 : k = t
    · subst h2
      rw [if_pos rfl, if_neg (by omega), if_pos (by omega)]
      congr 1
    · rw [if_neg h2]
      by_cases h3 : t < k ∨ zs.length - k ≤ t
      · rw [if_pos h3, if_pos (by omega)]
      · rw [if_neg h3, if_neg (by omega)]
end
def slV (x : Sl) : Value := .slice x.A x.n x.c
theorem own_val_ints {w : World} {base g m cap k : Nat} {zs : List Int} (h : w.ownsRow base 3 1 (.slice (some ⟨g, 0, none⟩) m cap) m (zs.map (Value.int .i64))) (hz : zs.length = m) (hk : k < m) : w.cell? ⟨g, k, none⟩ = some (.int .i64 (zs.getD k 0)) := by
  rw [h.cellAt k (by omega), List.getD_eq_getElem?_getD, List.getElem?_map, List.getElem?_eq_getElem (show k < zs.length by omega)]
  rfl
theorem own_put_ints {w : World} {base g m cap : Nat} {zs : List Int} (h : w.ownsRow base 3 1 (.slice (some ⟨g, 0, none⟩) m cap) m (zs.map (Value.int .i64))) (k : Nat) (x : Int) : (w.setCell ⟨g, k, none⟩ (.int .i64 x)).ownsRow base 3 1 (.slice (some ⟨g, 0, none⟩) m cap) m ((zs.set k x).map (Value.int .i64)) := by
  have := (h.stored k (.int .i64 x)).1
  rwa [show (zs.map (Value.int .i64)).set k (.int .i64 x) = (zs.set k x).map (Value.int .i64) by rw [List.map_set] <;> rfl] at this

set_option maxHeartbeats 2000000 in
set_option maxRecDepth 100000 in
theorem reverse_ints (g n cap base : Nat) (zs : List Int) (w : World) (hn : zs.length = n) (hbig : n ≤ 1000000) (hbase : base ≤ g) (hown : w.ownsRow base 3 1 (.slice (some ⟨g, 0, none⟩) n cap) n (zs.map (Value.int .i64))) :
    Calls Tryd.prog 13 #[.slice (some ⟨g, 0, none⟩) n cap] w fun e w' => e = .returned (.tuple #[]) ∧ w'.ownsRow base 3 1 (.slice (some ⟨g, 0, none⟩) n cap) n (zs.reverse.map (Value.int .i64)) ∧ Below base w w' := by
  have Hn := Lib.hid hn
  have h0 := hown
  rw [← rvTo_zero 0 zs] at h0
  have H0 := Lib.hid h0
  clear hn hown h0
  go_enter Tryd.func13, Tryd.ntmps13
  go_wp2_with fail
  go_loopw [2, 3] (fun i j wr => ∃ k : Nat, i = .int .i64 (k : Nat) ∧ j = .int .i64 ((n : Int) - 1 - (k : Int)) ∧ 2 * k ≤ n + 1 ∧ Hid (wr.ownsRow base 3 1 (.slice (some ⟨g, 0, none⟩) n cap) n ((rvTo 0 zs k).map (Value.int .i64))) ∧ Hid (Below base w wr)) (fun i _ _ => n - (intOf i).toNat)
  case atStart => exact ⟨0, rfl, by simp, by omega, H0, Lib.hid (Below.refl _ _)⟩
  case round =>
    obtain ⟨k, rfl, rfl, hk2, HO, HB⟩ := hrel
    clear H0
    by_cases hlt : 2 * k + 1 < n
    · obtain ⟨j, hj⟩ : ∃ j : Nat, (n : Int) - 1 - (k : Int) = (j : Int) := ⟨n - 1 - k, by omega⟩
      have hkj : k < j := by omega
      have hjn : j < n := by omega
      have hkn : k < n := by omega
      have hlen : (rvTo 0 zs k).length = n := by rw [rvTo_len, Hn.out]
      have ci := own_val_ints HO.out hlen hkn
      have cj := own_val_ints HO.out hlen hjn
      have fi := HO.out.frozenAt k
      have fj := HO.out.frozenAt j
      have hstep := rvTo_step 0 zs k j (by rw [Hn.out]; omega) hkj
      have hput1 := own_put_ints HO.out k ((rvTo 0 zs k).getD j 0)
      have hput := own_put_ints hput1 j ((rvTo 0 zs k).getD k 0)
      have cj2 := own_val_ints hput1 (by simp [hlen]) hjn
      have fj2 := hput1.frozenAt j
      rw [getD_set' _ _ _ _ _ (by omega), if_neg (by omega)] at cj2
      rw [hstep] at hput
      generalize (rvTo 0 zs k).getD j 0 = xj at *
      generalize (rvTo 0 zs k).getD k 0 = xi at *
      have Hput := Lib.hid hput
      have hki : (k : Int) < (n : Int) := by omega
      have hji : (j : Int) < (n : Int) := by omega
      have hlti : (k : Int) < (j : Int) := by omega
      clear hput hput1 hstep hlen
      rw [hj]
      go_wp2_with fail
      go_region
      all_goals
        go_wp2_with fail
        go_roundw
        case rel => exact ⟨k + 1, by go_num, by go_num, by omega, Lib.hid Hput.out.drew, Lib.hid ((HB.out.setCell (p := ⟨g, k, none⟩) hbase _).setCell (p := ⟨g, j, none⟩) hbase _).drew⟩
        case measure => simp [intOf]; omega
    · have hd : decide ((k : Int) < (n : Int) - 1 - (k : Int)) = false := by simp; omega
      have HF : Hid (wr.ownsRow base 3 1 (.slice (some ⟨g, 0, none⟩) n cap) n (zs.reverse.map (Value.int .i64))) := Lib.hid (by have := HO.out; rwa [rvTo_all 0 zs k (by rw [Hn.out]; omega)] at this)
      go_wp2_with fail
      go_end0
      exact ⟨rfl, HF.out, HB.out⟩
theorem reverse_ints0 (c : Nat) (w : World) (A : Option Addr) : Calls Tryd.prog 13 #[.slice A 0 c] w fun e w' => e = .returned (.tuple #[]) ∧ w = w' := by
  go_enter Tryd.func13, Tryd.ntmps13
  go_wp2_with fail
  refine wp_loop_rounds 1 ?_
  rw [rounds_succ]
  go_wp2_with fail
  go_end0
  exact ⟨rfl, rfl⟩

theorem own_val_rows {w : World} {base g m cap k : Nat} {zs : List Sl} (h : w.ownsRow base 27 1 (.slice (some ⟨g, 0, none⟩) m cap) m (zs.map slV)) (hz : zs.length = m) (hk : k < m) : w.cell? ⟨g, k, none⟩ = some (.slice (zs.getD k ⟨none, 0, 0⟩).A (zs.getD k ⟨none, 0, 0⟩).n (zs.getD k ⟨none, 0, 0⟩).c) := by
  rw [h.cellAt k (by omega), List.getD_eq_getElem?_getD, List.getElem?_map, List.getElem?_eq_getElem (show k < zs.length by omega)]
  rfl
theorem own_put_rows {w : World} {base g m cap : Nat} {zs : List Sl} (h : w.ownsRow base 27 1 (.slice (some ⟨g, 0, none⟩) m cap) m (zs.map slV)) (k : Nat) (x : Sl) : (w.setCell ⟨g, k, none⟩ (.slice x.A x.n x.c)).ownsRow base 27 1 (.slice (some ⟨g, 0, none⟩) m cap) m ((zs.set k x).map slV) := by
  have := (h.stored k (.slice x.A x.n x.c)).1
  rwa [show (zs.map slV).set k (.slice x.A x.n x.c) = (zs.set k x).map slV by rw [List.map_set] <;> rfl] at this

set_option maxHeartbeats 2000000 in
set_option maxRecDepth 100000 in
theorem reverse_rows (g n cap base : Nat) (zs : List Sl) (w : World) (hn : zs.length = n) (hbig : n ≤ 1000000) (hbase : base ≤ g) (hown : w.ownsRow base 27 1 (.slice (some ⟨g, 0, none⟩) n cap) n (zs.map slV)) :
    Calls Tryd.prog 15 #[.slice (some ⟨g, 0, none⟩) n cap] w fun e w' => e = .returned (.tuple #[]) ∧ w'.ownsRow base 27 1 (.slice (some ⟨g, 0, none⟩) n cap) n (zs.reverse.map slV) ∧ Below base w w' := by
  have Hn := Lib.hid hn
  have h0 := hown
  rw [← rvTo_zero (⟨none, 0, 0⟩ : Sl) zs] at h0
  have H0 := Lib.hid h0
  clear hn hown h0
  go_enter Tryd.func15, Tryd.ntmps15
  go_wp2_with fail
  go_loopw [2, 3] (fun i j wr => ∃ k : Nat, i = .int .i64 (k : Nat) ∧ j = .int .i64 ((n : Int) - 1 - (k : Int)) ∧ 2 * k ≤ n + 1 ∧ Hid (wr.ownsRow base 27 1 (.slice (some ⟨g, 0, none⟩) n cap) n ((rvTo (⟨none, 0, 0⟩ : Sl) zs k).map slV)) ∧ Hid (Below base w wr)) (fun i _ _ => n - (intOf i).toNat)
  case atStart => exact ⟨0, rfl, by simp, by omega, H0, Lib.hid (Below.refl _ _)⟩
  case round =>
    obtain ⟨k, rfl, rfl, hk2, HO, HB⟩ := hrel
    clear H0
    by_cases hlt : 2 * k + 1 < n
    · obtain ⟨j, hj⟩ : ∃ j : Nat, (n : Int) - 1 - (k : Int) = (j : Int) := ⟨n - 1 - k, by omega⟩
      have hkj : k < j := by omega
      have hjn : j < n := by omega
      have hkn : k < n := by omega
      have hlen : (rvTo (⟨none, 0, 0⟩ : Sl) zs k).length = n := by rw [rvTo_len, Hn.out]
      have ci := own_val_rows HO.out hlen hkn
      have cj := own_val_rows HO.out hlen hjn
      have fi := HO.out.frozenAt k
      have fj := HO.out.frozenAt j
      have hstep := rvTo_step (⟨none, 0, 0⟩ : Sl) zs k j (by rw [Hn.out]; omega) hkj
      have hput1 := own_put_rows HO.out k ((rvTo (⟨none, 0, 0⟩ : Sl) zs k).getD j (⟨none, 0, 0⟩ : Sl))
      have hput := own_put_rows hput1 j ((rvTo (⟨none, 0, 0⟩ : Sl) zs k).getD k (⟨none, 0, 0⟩ : Sl))
      have cj2 := own_val_rows hput1 (by simp [hlen]) hjn
      have fj2 := hput1.frozenAt j
      rw [getD_set' _ _ _ _ _ (by omega), if_neg (by omega)] at cj2
      rw [hstep] at hput
      generalize (rvTo (⟨none, 0, 0⟩ : Sl) zs k).getD j (⟨none, 0, 0⟩ : Sl) = xj at *
      generalize (rvTo (⟨none, 0, 0⟩ : Sl) zs k).getD k (⟨none, 0, 0⟩ : Sl) = xi at *
      have Hput := Lib.hid hput
      have hki : (k : Int) < (n : Int) := by omega
      have hji : (j : Int) < (n : Int) := by omega
      have hlti : (k : Int) < (j : Int) := by omega
      clear hput hput1 hstep hlen
      rw [hj]
      go_wp2_with fail
      go_region
      all_goals
        go_wp2_with fail
        go_roundw
        case rel => exact ⟨k + 1, by go_num, by go_num, by omega, Lib.hid Hput.out.drew, Lib.hid ((HB.out.setCell (p := ⟨g, k, none⟩) hbase _).setCell (p := ⟨g, j, none⟩) hbase _).drew⟩
        case measure => simp [intOf]; omega
    · have hd : decide ((k : Int) < (n : Int) - 1 - (k : Int)) = false := by simp; omega
      have HF : Hid (wr.ownsRow base 27 1 (.slice (some ⟨g, 0, none⟩) n cap) n (zs.reverse.map slV)) := Lib.hid (by have := HO.out; rwa [rvTo_all (⟨none, 0, 0⟩ : Sl) zs k (by rw [Hn.out]; omega)] at this)
      go_wp2_with fail
      go_end0
      exact ⟨rfl, HF.out, HB.out⟩
theorem reverse_rows0 (c : Nat) (w : World) (A : Option Addr) : Calls Tryd.prog 15 #[.slice A 0 c] w fun e w' => e = .returned (.tuple #[]) ∧ w = w' := by
  go_enter Tryd.func15, Tryd.ntmps15
  go_wp2_with fail
  refine wp_loop_rounds 1 ?_
  rw [rounds_succ]
  go_wp2_with fail
  go_end0
  exact ⟨rfl, rfl⟩
end Go.Proofs.YtppiemgdjkehkaaDoor
