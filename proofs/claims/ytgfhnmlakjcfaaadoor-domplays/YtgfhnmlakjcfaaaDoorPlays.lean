/- The walk of the law DomPlays: it returns true. -/
import Derived.Test.YtgfhnmlakjcfaaaDoorLessw
namespace Go.Proofs.YtgfhnmlakjcfaaaDoor
open Go.RowKit Go.Sort

/-- What lies between two acts: the domain in its box, and its list. -/
def Hold (w : World) (g : Nat) (v7 : Value) (W : World) : Prop :=
  ∃ s A m c L B cB, L.length ≤ 40 ∧ v7 = .slice B L.length cB ∧ Cell3 W g s A m c (L.length : Nat) ∧ IsDom W (.agg #[.int .i64 s, .slice A m c, .int .i64 (L.length : Nat)]) L ∧ Lies W B L.length (i64f L) ∧
    (∀ ad, B = some ad → 0 < L.length → ad.block ≠ g) ∧ Below w.heap.size w W ∧ w.heap.size ≤ g

theorem Hold.below {w W W' : World} {g : Nat} {v7 : Value} (h : Hold w g v7 W) (hb : Below W.heap.size W W') : Hold w g v7 W' := by
  obtain ⟨s, A, m, c, L, B, cB, h1, h2, h3, h4, h5, h6, h7, h8⟩ := h
  exact ⟨s, A, m, c, L, B, cB, h1, h2, h3.below hb, h4.below hb, h5.below hb, h6, h7.trans (hb.mono h7.size), h8⟩

theorem add_next (a : Addr) (n j : Nat) (hj : 0 < j) : ({ block := (a.add n).block, off := (a.add n).off + j } : Addr) = a.add (n + j) := by
  unfold Addr.add
  rw [if_neg (show ¬ n + j = 0 by omega)]
  split
  · rename_i h; subst h; simp
  · simp; omega

/-- One act. -/
structure Act1 (w : World) (kd v : Int) (Z : Option Addr) (nz cz : Nat) : Prop where
  k0 : 0 ≤ kd
  v0 : -9223372036854775808 ≤ v
  v1 : v ≤ 9223372036854775807
  ls : ∃ zs, nz = zs.length ∧ nz ≤ cz ∧ Lies w Z nz (i64f zs)

/-- The acts of the argument. -/
def Acts (w : World) (ad : Addr) (n : Nat) : Prop := ad.block < w.heap.size ∧ ∀ k, k < n → ∃ kd v Z nz cz, w.cell? (ad.add (k * 3)) = some (.int .u8 kd) ∧ w.cell? (ad.add (k * 3 + 1)) = some (.int .i64 v) ∧ w.cell? (ad.add (k * 3 + 2)) = some (.slice Z nz cz) ∧ Act1 w kd v Z nz cz

/-- The two acts of a round. -/
def Acts2 (w : World) (g : Nat) (W : World) : Prop := g < W.heap.size ∧ ∀ k, k < 2 → ∃ kd v Z nz cz, W.cell? ⟨g, k * 3, none⟩ = some (.int .u8 kd) ∧ W.cell? ⟨g, k * 3 + 1, none⟩ = some (.int .i64 v) ∧ W.cell? ⟨g, k * 3 + 2, none⟩ = some (.slice Z nz cz) ∧ Act1 w kd v Z nz cz
theorem Acts2.below {w W W' : World} {g : Nat} (h : Acts2 w g W) (hb : Below W.heap.size W W') : Acts2 w g W' := by
  refine ⟨Nat.lt_of_lt_of_le h.1 hb.size, fun k hk => ?_⟩
  obtain ⟨kd, v, Z, nz, cz, h1, h2, h3, h4⟩ := h.2 k hk
  exact ⟨kd, v, Z, nz, cz, (hb.cell h.1).trans h1, (hb.cell h.1).trans h2, (hb.cell h.1).trans h3, h4⟩
theorem Acts2.store {w W : World} {g g' : Nat} (h : Acts2 w g W) (hne : g ≠ g') (v0 v1 v2 : Value) : Acts2 w g (store3 W g' v0 v1 v2) := by
  refine ⟨by rw [store3_size]; exact h.1, fun k hk => ?_⟩
  obtain ⟨kd, v, Z, nz, cz, h1, h2, h3, h4⟩ := h.2 k hk
  exact ⟨kd, v, Z, nz, cz, (store3_cell _ _ _ _ _ _ hne).trans h1, (store3_cell _ _ _ _ _ _ hne).trans h2, (store3_cell _ _ _ _ _ _ hne).trans h3, h4⟩
theorem Acts2.new {w W : World} {kd v : Int} {Z : Option Addr} {nz cz : Nat} (h : Act1 w kd v Z nz cz) :
    Acts2 w W.heap.size (W.alloc (.cells #[.int .u8 kd, .int .i64 v, .slice Z nz cz, .int .u8 kd, .int .i64 (v.tmod 3000), .slice Z nz cz] 44)) := by
  refine ⟨by simp, fun k hk => ?_⟩
  have := tmod_small v
  match k, hk with
  | 0, _ => exact ⟨kd, v, Z, nz, cz, by simp, by simp, by simp, h⟩
  | 1, _ => exact ⟨kd, v.tmod 3000, Z, nz, cz, by simp, by simp, by simp, ⟨h.k0, by omega, by omega, h.ls⟩⟩

set_option maxHeartbeats 4000000 in
set_option maxRecDepth 100000 in
theorem plays_some (X : Option Addr) (xs : List Int) (cx nx ny cy mm : Nat) (ya : Addr) (w : World) (hT : Tab w) (hnx : nx = xs.length) (hX : Lies w X nx (i64f xs)) (hcx : nx ≤ cx) (hy0 : 0 < ny) (hyc : ny ≤ cy) (hA : Acts w ya ny) (hmm : min (ny : Int) 12 = (mm : Int)) :
    Calls Tryd.prog 4 #[.slice X nx cx, .slice (some ya) ny cy] w fun e w' => e = .returned (.bool true) ∧ Below w.heap.size w w' := by
  have hmn : mm ≤ ny := by omega
  have hm12 : mm ≤ 12 := by omega
  have HA := Lib.hid hA
  clear hA
  have HN := Lib.hid fun W (hW : Below w.heap.size w W) => (near_any X xs cx W (by rw [← hnx]; exact hX.below hW) (by rw [← hnx]; exact hcx)).mono fun _ _ => GivesInts.slice
  rw [← hnx] at HN
  have hnl : (nearL xs).length ≤ 40 := by rw [near_len]; omega
  have hll : (ofL (nearL xs)).length ≤ 40 := by
    unfold ofL
    split
    · exact Nat.le_trans (setOf_len _) hnl
    · simp
  have HO1 := Lib.hid fun A1 k1 W (h : Lies W A1 (nearL xs).length (i64f (nearL xs))) => of_near A1 xs k1 _ W rfl h
  have HO2 := Lib.hid fun A1 k1 W (h : Lies W A1 (nearL xs).length (i64f (nearL xs))) => refof_any A1 (nearL xs) _ k1 W rfl h (by omega)
  generalize ofL (nearL xs) = L at *
  generalize ofErr (nearL xs) = er at *
  clear hX hnx hcx hnl
  go_enter Tryd.func4, Tryd.ntmps4
  go_wp2_with fail
  refine (HN.out _ (Below.refl _ _)).mono ?_
  rintro e w1 ⟨A1, k1, rfl, hl1, -, hb1⟩
  have HL1 := Lib.hid hl1
  have HB1 := Lib.hid hb1
  clear hl1 hb1
  go_wp2_with fail
  refine (HO1.out _ _ _ HL1.out).mono ?_
  rintro e w2 ⟨s1, B1, m1, d1, rfl, hd1, hb2⟩
  have o2 := below1 w2 (.cells #[.int .i64 s1, .slice B1 m1 d1, .int .i64 (L.length : Nat)] 27)
  have b2 := hb2.trans (o2.mono hb2.size)
  have hg := Nat.le_trans HB1.out.size hb2.size
  have HB2 := Lib.hid (HB1.out.trans (b2.mono HB1.out.size))
  have HC := Lib.hid (Cell3.new w2 s1 (L.length : Nat) B1 m1 d1)
  have HD := Lib.hid (hd1.below o2)
  clear hd1 hb2 o2 b2 HB1 HL1 HO1
  go_wp2_with fail
  refine (HN.out _ HB2.out).mono ?_
  rintro e w3 ⟨A3, k3, rfl, hl3, -, hb3⟩
  have HL3 := Lib.hid hl3
  have HB3 := Lib.hid (HB2.out.trans (hb3.mono HB2.out.size))
  have HC := Lib.hid (HC.out.below hb3)
  have HD := Lib.hid (HD.out.below hb3)
  clear hl3 hb3 HB2 HN
  go_wp2_with fail
  refine (HO2.out _ _ _ HL3.out).mono ?_
  rintro e w4 ⟨v4, rfl, ho4, hb4⟩
  obtain ⟨B4, c4, rfl, hl4, -⟩ := own_lies ho4
  have hfar : ∀ ad, B4 = some ad → 0 < L.length → ad.block ≠ w2.heap.size := by
    intro ad e _
    subst e
    have h1 := own_ge ho4 ad.block rfl
    have h3 := HC.out.lt
    omega
  have HH : Hid (Hold w w2.heap.size (.slice B4 L.length c4) w4) := ⟨s1, B1, m1, d1, L, B4, c4, hll, rfl, HC.out.below hb4, HD.out.below hb4, hl4, hfar, HB3.out.trans (hb4.mono HB3.out.size), hg⟩
  clear ho4 hl4 hb4 HB3 HC HD HL3 HO2 hfar hll hg
  go_wp2_with fail
  go_loopw [7, 35] (fun l i wr => ∃ k : Nat, k ≤ mm ∧ i = .int .i64 (k : Nat) ∧ Hid (Hold w w2.heap.size l wr)) (fun _ i _ => mm - (intOf i).toNat)
  case atStart => exact ⟨0, by omega, rfl, HH⟩
  case round =>
    clear HH
    obtain ⟨wo, rfl⟩ : ∃ wo, wo = wr := ⟨_, rfl⟩
    obtain ⟨k, hk, rfl, HH⟩ := hrel
    by_cases hlt : k < mm
    · obtain ⟨hyb, hya⟩ := HA.out
      obtain ⟨kd, v, Z, nz, cz, y0, y1, y2, hact⟩ := hya k (by omega)
      have hbw : Below w.heap.size w wo := by obtain ⟨s, A, m, c, L', B, cB, h1, h2, h3, h4, h5, h6, h7, h8⟩ := HH.out; exact h7
      have y0 := (hbw.cell (by rw [add_block]; exact hyb)).trans y0
      have y1 := (hbw.cell (by rw [add_block]; exact hyb)).trans y1
      have y2 := (hbw.cell (by rw [add_block]; exact hyb)).trans y2
      rw [← add_next _ _ _ (by omega)] at y1 y2
      have Hact := Lib.hid hact
      clear hya hact hyb hbw
      have hg2 : w2.heap.size < wo.heap.size := by obtain ⟨s, A, m, c, L', B, cB, h1, h2, h3, h4, h5, h6, h7, h8⟩ := HH.out; exact h3.lt
      have HA2 : Hid (Acts2 w (wo.heap.size + 1) ((wo.alloc (.cells #[.int .u8 kd, .int .i64 v, .slice Z nz cz] 44)).alloc (.cells #[.int .u8 kd, .int .i64 v, .slice Z nz cz, .int .u8 kd, .int .i64 (v.tmod 3000), .slice Z nz cz] 44))) := by
        have := Acts2.new (W := wo.alloc (.cells #[.int .u8 kd, .int .i64 v, .slice Z nz cz] 44)) Hact.out
        rw [show (wo.alloc (.cells #[.int .u8 kd, .int .i64 v, .slice Z nz cz] 44)).heap.size = wo.heap.size + 1 by simp] at this
        exact this
      have HH2 := Lib.hid ((HH.out.below (below1 wo (.cells #[.int .u8 kd, .int .i64 v, .slice Z nz cz] 44))).below (below1 _ (.cells #[.int .u8 kd, .int .i64 v, .slice Z nz cz, .int .u8 kd, .int .i64 (v.tmod 3000), .slice Z nz cz] 44)))
      clear HH Hact
      go_wp2_with fail
      go_loopw [7, 50] (fun l i wr => ∃ k : Nat, k ≤ 2 ∧ i = .int .i64 (k : Nat) ∧ Hid (Hold w w2.heap.size l wr) ∧ Hid (Acts2 w (wo.heap.size + 1) wr)) (fun _ i _ => 2 - (intOf i).toNat)
      case atStart => exact ⟨0, by omega, rfl, HH2, HA2⟩
      case round =>
        clear HH2 HA2 y0 y1 y2
        obtain ⟨wi, rfl⟩ : ∃ wi, wi = wr := ⟨_, rfl⟩
        obtain ⟨j, hj, rfl, HH, HA2⟩ := hrel
        by_cases hlt2 : j < 2
        · obtain ⟨hgb, hga⟩ := HA2.out
          obtain ⟨kd', v', Z', nz', cz', y0, y1, y2, hact⟩ := hga j hlt2
          obtain ⟨s, A, m, c, N, B, cB, h40, e7, hC, hD, hBl, hfar, hbw, hgw⟩ := HH.out
          subst e7
          have o8 := below1 wi (.cells #[.int .u8 kd', .int .i64 v', .slice Z' nz' cz'] 44)
          have hC8 := hC.below o8
          have hD8 := hD.below o8
          have ht8 := At3.new wi (.int .u8 kd') (.int .i64 v') (.slice Z' nz' cz') 44
          have hs8 : (wi.alloc (.cells #[.int .u8 kd', .int .i64 v', .slice Z' nz' cz'] 44)).heap.size = wi.heap.size + 1 := by simp
          obtain ⟨W8, hW8⟩ : ∃ W, wi.alloc (.cells #[.int .u8 kd', .int .i64 v', .slice Z' nz' cz'] 44) = W := ⟨_, rfl⟩
          rw [hW8] at o8 hC8 hD8 ht8 hs8
          have o9 := below1 W8 (.cells #[.int .i64 s, .slice A m c, .int .i64 (N.length : Nat)] 27)
          have hX9 := Box.new hD8
          rw [hs8] at hX9
          have hC9 := hC8.below o9
          have ht9 := ht8.below o9
          obtain ⟨a0, a1, a2⟩ := hC8.cells
          obtain ⟨b0, b1, b2⟩ := hC9.cells
          obtain ⟨-, t0, t1, t2⟩ := ht9
          have q9 := o8.trans (o9.mono o8.size)
          obtain ⟨zs, hz1, hz2, hz3⟩ := hact.ls
          have hb9 := hbw.trans (q9.mono hbw.size)
          obtain ⟨R, hRl, hless⟩ := less_any s A B Z' m c cB nz' cz' N zs kd' v' _ hX9.dom ((hBl.below q9)) (by omega) (hT.below hb9) (hz3.below hb9) hz1 hz2 hact.k0
          have Hless := Lib.hid hless
          have HH9 := Lib.hid (HH.out.below q9)
          have HA9 := Lib.hid (HA2.out.below q9)
          have HX9 := Lib.hid hX9
          have HT9 := Lib.hid (ht8.below o9)
          have HL9 := Lib.hid (hBl.below q9)
          have HC9 := Lib.hid hC9
          have hv0 := hact.v0
          have hv1 := hact.v1
          have hg9 : w2.heap.size < (W8.alloc (.cells #[.int .i64 s, .slice A m c, .int .i64 (N.length : Nat)] 27)).heap.size := hC9.lt
          have HW8 := Lib.hid hW8
          rw [← hW8] at a0 a1 a2 b0 b1 b2 t0 t1 t2
          clear hga hact hgb HH HA2 o8 o9 q9 hz1 hz2 hz3 hless hX9 hC9 hC8 ht8 hD8 hC hD hBl hb9 hW8
          go_wp2_with fail
          rw [HW8.out]
          refine Hless.out.mono ?_
          rintro e w10 ⟨s', A', m', c', B', cB', rfl, hd', ho', hb'⟩
          obtain ⟨W9, hW9⟩ : ∃ W, W8.alloc (.cells #[.int .i64 s, .slice A m c, .int .i64 (N.length : Nat)] 27) = W := ⟨_, rfl⟩
          rw [hW9] at ho' hb' hg9 HH9 HA9 HX9 HT9 HL9 HC9
          have o10 := below1 w10 (.cells #[.int .i64 s', .slice A' m' c', .int .i64 (R.length : Nat)] 27)
          have q10 := hb'.trans (o10.mono hb'.size)
          have X10 := Box.new hd'
          have ho2 := own_below ho' o10
          have hl' : Lies (w10.alloc (.cells #[.int .i64 s', .slice A' m' c', .int .i64 (R.length : Nat)] 27)) B' R.length (i64f R) := by
            obtain ⟨B2, c2, e, hl, -⟩ := own_lies ho2
            cases e
            exact hl
          have far2 : ∀ ad, B' = some ad → ad.block ≠ w2.heap.size := by
            intro ad e
            subst e
            have h1 := own_ge ho2 ad.block rfl
            omega
          have HFar := Lib.hid far2
          have HX10 := Lib.hid X10
          have HL10 := Lib.hid hl'
          have HH10 := Lib.hid (HH9.out.below q10)
          have HA10 := Lib.hid (HA9.out.below q10)
          have HT10 := Lib.hid (HT9.out.below q10)
          have HN10 := Lib.hid (HX9.out.below q10)
          have HM10 := Lib.hid (HL9.out.below q10)
          have HC10 := Lib.hid (HC9.out.below q10)
          have HB10 : Hid (Below w.heap.size w (w10.alloc (.cells #[.int .i64 s', .slice A' m' c', .int .i64 (R.length : Nat)] 27))) := by
            obtain ⟨_, _, _, _, _, _, _, _, _, _, _, _, _, h7, _⟩ := HH10.out
            exact h7
          clear a0 a1 a2 b0 b1 b2 t0 t1 t2 hd' ho' hb' ho2 hl' far2 o10 q10 X10 HH9 HA9 HT9 HX9 HL9 HC9 hW9 Hless hfar
          obtain ⟨-, x0, x1, x2⟩ := HX10.out.at3
          obtain ⟨-, t0, t1, t2⟩ := HT10.out
          go_wp2_with fail
          refine (same_true _ _ _ _ _ _ R v' _ HX10.out.dom HL10.out (hT.below HB10.out) hv0 hv1).mono ?_
          rintro e w11 ⟨rfl, hb11⟩
          have HX11 := Lib.hid (HX10.out.below hb11)
          have HL11 := Lib.hid (HL10.out.below hb11)
          have HH11 := Lib.hid (HH10.out.below hb11)
          have HA11 := Lib.hid (HA10.out.below hb11)
          have HT11 := Lib.hid (HT10.out.below hb11)
          have HN11 := Lib.hid (HN10.out.below hb11)
          have HM11 := Lib.hid (HM10.out.below hb11)
          have HC11 := Lib.hid (HC10.out.below hb11)
          have HB11 := Lib.hid (HB10.out.trans (hb11.mono HB10.out.size))
          clear x0 x1 x2 t0 t1 t2 hb11 HX10 HL10 HH10 HA10 HT10 HN10 HM10 HC10 HB10
          obtain ⟨-, x0, x1, x2⟩ := HN11.out.at3
          obtain ⟨-, t0, t1, t2⟩ := HT11.out
          go_wp2_with fail
          refine (same_true _ _ _ _ _ _ N v' _ HN11.out.dom HM11.out (hT.below HB11.out) hv0 hv1).mono ?_
          rintro e w12 ⟨rfl, hb12⟩
          have HX12 := Lib.hid (HX11.out.below hb12)
          have HL12 := Lib.hid (HL11.out.below hb12)
          have HH12 := Lib.hid (HH11.out.below hb12)
          have HA12 := Lib.hid (HA11.out.below hb12)
          have HC12 := Lib.hid (HC11.out.below hb12)
          have HB12 := Lib.hid (HB11.out.trans (hb12.mono HB11.out.size))
          clear x0 x1 x2 t0 t1 t2 hb12 HX11 HL11 HH11 HA11 HT11 HN11 HM11 HC11 HB11
          by_cases hj1 : j = 1
          · have hj1' : ((j : Int) == 1) = true := by simp [hj1]
            have hjle : j + 1 ≤ 2 := by omega
            clear hj1
            obtain ⟨-, x0, x1, x2⟩ := HX12.out.at3
            obtain ⟨c0, c1, c2⟩ := HC12.out.cells
            have f0 := HC12.out.free 0
            have f1 := HC12.out.free 1
            have f2 := HC12.out.free 2
            have HHn : Hid (Hold w w2.heap.size (.slice B' R.length cB') (store3 w12 w2.heap.size (.int .i64 s') (.slice A' m' c') (.int .i64 (R.length : Nat)))) :=
              ⟨s', A', m', c', R, B', cB', by omega, rfl, store3_same HC12.out s' (R.length : Nat) A' m' c', HX12.out.dom.store HC12.out _ _ _, HL12.out.store HFar.out _ _ _, fun ad e _ => HFar.out ad e, store3_below HB12.out _ hgw _ _ _, hgw⟩
            have HAn := Lib.hid (HA12.out.store (g' := w2.heap.size) (by omega) (.int .i64 s') (.slice A' m' c') (.int .i64 (R.length : Nat)))
            clear HX12 HL12 HH12 HA12 HC12 HB12
            go_wp2_with fail
            go_roundw
            case rel => exact ⟨j + 1, hjle, by go_num, HHn, HAn⟩
            case measure => simp [intOf]; omega
          · have hj1' : ((j : Int) == 1) = false := by simp; omega
            clear hj1 HX12 HL12 HC12 HB12
            go_wp2_with fail
            go_roundw
            case rel => exact ⟨j + 1, by omega, by go_num, HH12, HA12⟩
            case measure => simp [intOf]; omega
        · go_wp2_with fail
          go_roundw
          case rel => exact ⟨k + 1, by omega, by go_num, HH⟩
          case measure => simp [intOf]; omega
    · have hbw : Below w.heap.size w wo := by obtain ⟨s, A, m, c, L', B, cB, h1, h2, h3, h4, h5, h6, h7, h8⟩ := HH.out; exact h7
      have HBw := Lib.hid hbw
      clear hbw HH
      go_wp2_with fail
      refine (wakes_true _ (hT.below HBw.out)).mono ?_
      rintro e w9 ⟨rfl, hb9⟩
      have HB9 := Lib.hid (HBw.out.trans (hb9.mono HBw.out.size))
      clear hb9 HBw
      go_wp2_with fail
      go_ret
      exact ⟨rfl, HB9.out⟩

set_option maxHeartbeats 4000000 in
set_option maxRecDepth 100000 in
theorem plays_none (X Y : Option Addr) (xs : List Int) (cx nx cy : Nat) (w : World) (hT : Tab w) (hnx : nx = xs.length) (hX : Lies w X nx (i64f xs)) (hcx : nx ≤ cx) :
    Calls Tryd.prog 4 #[.slice X nx cx, .slice Y 0 cy] w fun e w' => e = .returned (.bool true) ∧ Below w.heap.size w w' := by
  have HN := Lib.hid fun W (hW : Below w.heap.size w W) => (near_any X xs cx W (by rw [← hnx]; exact hX.below hW) (by rw [← hnx]; exact hcx)).mono fun _ _ => GivesInts.slice
  rw [← hnx] at HN
  have hnl : (nearL xs).length ≤ 40 := by rw [near_len]; omega
  have hll : (ofL (nearL xs)).length ≤ 40 := by
    unfold ofL
    split
    · exact Nat.le_trans (setOf_len _) hnl
    · simp
  have HO1 := Lib.hid fun A1 k1 W (h : Lies W A1 (nearL xs).length (i64f (nearL xs))) => of_near A1 xs k1 _ W rfl h
  have HO2 := Lib.hid fun A1 k1 W (h : Lies W A1 (nearL xs).length (i64f (nearL xs))) => refof_any A1 (nearL xs) _ k1 W rfl h (by omega)
  generalize ofL (nearL xs) = L at *
  generalize ofErr (nearL xs) = er at *
  clear hX hnx hcx hnl
  go_enter Tryd.func4, Tryd.ntmps4
  go_wp2_with fail
  refine (HN.out _ (Below.refl _ _)).mono ?_
  rintro e w1 ⟨A1, k1, rfl, hl1, -, hb1⟩
  have HL1 := Lib.hid hl1
  have HB1 := Lib.hid hb1
  clear hl1 hb1
  go_wp2_with fail
  refine (HO1.out _ _ _ HL1.out).mono ?_
  rintro e w2 ⟨s1, B1, m1, d1, rfl, hd1, hb2⟩
  have o2 := below1 w2 (.cells #[.int .i64 s1, .slice B1 m1 d1, .int .i64 (L.length : Nat)] 27)
  have b2 := hb2.trans (o2.mono hb2.size)
  have hg := Nat.le_trans HB1.out.size hb2.size
  have HB2 := Lib.hid (HB1.out.trans (b2.mono HB1.out.size))
  have HC := Lib.hid (Cell3.new w2 s1 (L.length : Nat) B1 m1 d1)
  have HD := Lib.hid (hd1.below o2)
  clear hd1 hb2 o2 b2 HB1 HL1 HO1
  go_wp2_with fail
  refine (HN.out _ HB2.out).mono ?_
  rintro e w3 ⟨A3, k3, rfl, hl3, -, hb3⟩
  have HL3 := Lib.hid hl3
  have HB3 := Lib.hid (HB2.out.trans (hb3.mono HB2.out.size))
  have HC := Lib.hid (HC.out.below hb3)
  have HD := Lib.hid (HD.out.below hb3)
  clear hl3 hb3 HB2 HN
  go_wp2_with fail
  refine (HO2.out _ _ _ HL3.out).mono ?_
  rintro e w4 ⟨v4, rfl, ho4, hb4⟩
  obtain ⟨B4, c4, rfl, hl4, -⟩ := own_lies ho4
  have hfar : ∀ ad, B4 = some ad → 0 < L.length → ad.block ≠ w2.heap.size := by
    intro ad e _
    subst e
    have h1 := own_ge ho4 ad.block rfl
    have h3 := HC.out.lt
    omega
  have HH : Hid (Hold w w2.heap.size (.slice B4 L.length c4) w4) := ⟨s1, B1, m1, d1, L, B4, c4, hll, rfl, HC.out.below hb4, HD.out.below hb4, hl4, hfar, HB3.out.trans (hb4.mono HB3.out.size), hg⟩
  clear ho4 hl4 hb4 HB3 HC HD HL3 HO2 hfar hll hg
  go_wp2_with fail
  have hbw : Below w.heap.size w w4 := by obtain ⟨s, A, m, c, L', B, cB, h1, h2, h3, h4, h5, h6, h7, h8⟩ := HH.out; exact h7
  have HBw := Lib.hid hbw
  clear hbw HH
  refine wp_loop_rounds 1 ?_
  rw [rounds_succ]
  go_wp2_with fail
  refine (wakes_true _ (hT.below HBw.out)).mono ?_
  rintro e w9 ⟨rfl, hb9⟩
  have HB9 := Lib.hid (HBw.out.trans (hb9.mono HBw.out.size))
  clear hb9 HBw
  go_wp2_with fail
  go_ret
  exact ⟨rfl, HB9.out⟩
end Go.Proofs.YtgfhnmlakjcfaaaDoor
