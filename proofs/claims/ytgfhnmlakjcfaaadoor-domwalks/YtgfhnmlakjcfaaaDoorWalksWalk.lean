/- The walk of the law DomWalks: it returns true. -/
import Derived.Test.YtgfhnmlakjcfaaaDoorWalkm
namespace Go.Proofs.YtgfhnmlakjcfaaaDoor
open Go.RowKit Go.Sort

set_option maxHeartbeats 4000000 in
set_option maxRecDepth 100000 in
theorem walks_walk (X : Option Addr) (xs : List Int) (cx nx : Nat) (v : Int) (w : World) (hT : Tab w) (hnx : nx = xs.length) (hx : Lies w X nx (i64f xs)) (hcx : nx ≤ cx) :
    Calls Tryd.prog 6 #[.slice X nx cx, .int .i64 v] w fun e w' => e = .returned (.bool true) ∧ Below w.heap.size w w' := by
  have N1 := near_any X xs cx w (by rw [← hnx]; exact hx) (by rw [← hnx]; exact hcx)
  rw [← hnx] at N1
  have HN1 := Lib.hid N1
  clear N1 hx hnx hcx
  obtain ⟨L, hL⟩ : ∃ L, ofL (nearL xs) = L := ⟨_, rfl⟩
  have O1 := fun A c n W => of_near A xs c n W
  rw [hL] at O1
  obtain ⟨er, her⟩ : ∃ er, ofErr (nearL xs) = er := ⟨_, rfl⟩
  rw [her] at O1
  have HO1 := Lib.hid O1
  have hLr : L.Pairwise (· < ·) := by rw [← hL]; unfold ofL; split; exact rising_setOf _; exact List.Pairwise.nil
  have hl40 : L.length ≤ 40 := by
    rw [← hL]; unfold ofL
    split
    · have := setOf_len (nearL xs); rw [near_len] at this; omega
    · simp
  have hne : er = 0 → 0 < L.length := by
    intro e0
    rw [← hL]; unfold ofL
    rw [her, e0, if_pos rfl]
    apply List.length_pos_iff.2
    intro hnil
    rw [e0] at her
    unfold ofErr at her
    by_cases h0 : (nearL xs).length = 0
    · rw [if_pos h0] at her; omega
    · obtain ⟨z, hz⟩ := List.exists_mem_of_length_pos (show 0 < (nearL xs).length by omega)
      have := (mem_setOf (nearL xs) z).2 hz
      rw [hnil] at this; simp at this
  have f8 : ∀ u ∈ L, -2000000 ≤ u ∧ u ≤ 2000000 := by
    intro u hu
    rw [← hL] at hu
    unfold ofL at hu
    split at hu
    · rw [mem_setOf] at hu
      unfold nearL at hu
      obtain ⟨z, -, rfl⟩ := List.mem_map.1 hu
      have := tmod_small z
      omega
    · simp at hu
  obtain ⟨t, ht⟩ : ∃ t, v.tmod 3000 = t := ⟨_, rfl⟩
  obtain ⟨P, hP⟩ : ∃ P, L.filter (fun u => decide (t ≤ u)) = P := ⟨_, rfl⟩
  obtain ⟨Q, hQ⟩ : ∃ Q, L.filter (fun u => decide (u ≤ t)) = Q := ⟨_, rfl⟩
  obtain ⟨R, hR⟩ : ∃ R, P.filter (fun u => decide (u ∈ Q)) = R := ⟨_, rfl⟩
  obtain ⟨S, hS⟩ : ∃ S, L.filter (fun u => decide (u = t)) = S := ⟨_, rfl⟩
  have HP := Lib.hid (least_parts L P _ t hP rfl)
  have HQ := Lib.hid (most_parts L Q _ t hQ rfl)
  have HR := Lib.hid (and_parts P Q R _ hR rfl)
  have HS := Lib.hid (only_parts L S _ t hS rfl)
  have g1 : P.length + Q.length = L.length + S.length := by rw [← hP, ← hQ, ← hS]; exact walks_lens L t
  have g2 : R = S := by rw [← hR, ← hP, ← hQ, ← hS]; exact walks_both hLr t
  have G1 := Lib.hid g1
  have G2 := Lib.hid g2
  clear hP hQ hR hS g1 g2
  have HLr := Lib.hid hLr
  have Hne := Lib.hid hne
  have F8 := Lib.hid f8
  clear O1 hL her hLr hne f8
  by_cases he : er = 0
  · have hLp := Hne.out he
    have he' : (er != 0) = false := by simp [he]
    have Her := Lib.hid he
    clear he Hne
    obtain ⟨i0, hi, hz0, hz1, hz2⟩ := info_parts Tryd.info3
    go_enter Tryd.func6, Tryd.ntmps6
    go_wp2_with fail
    refine HN1.out.mono ?_
    intro e w1 h1
    obtain ⟨A1, k1, rfl, hl1, -, hb1⟩ := h1.slice
    have HL1 := Lib.hid hl1
    clear h1 hl1
    go_wp2_with fail
    refine (HO1.out _ _ _ _ rfl HL1.out).mono ?_
    rintro e w2 ⟨s1, B1, m1, d1, rfl, hd1, hb2⟩
    have b2 := hb1.trans (hb2.mono hb1.size)
    have o2 := below1 w2 (.cells #[.int .i64 s1, .slice B1 m1 d1, .int .i64 (L.length : Nat)] 27)
    have HB2 := Lib.hid (b2.trans (o2.mono b2.size))
    have HX1 := Lib.hid (Box.new hd1)
    obtain ⟨-, x0, x1, x2⟩ := HX1.out.at3
    clear hb1 hb2 b2 o2 hd1 HL1 HN1 HO1
    go_wp2_with fail
    refine (min_dom _ _ _ HX1.out.dom (hT.below HB2.out)).mono ?_
    rintro e w3 ⟨rfl, hb3⟩
    have HB3 := Lib.hid (HB2.out.trans (hb3.mono HB2.out.size))
    have HX1 := Lib.hid (HX1.out.below hb3)
    rw [show L.head?.getD 0 = elI L 0 by unfold elI; rw [List.head?_eq_getElem?, List.getD_eq_getElem?_getD]]
    clear hb3 HB2 x0 x1 x2
    go_wp2_with fail
    go_loopw [7, 9, 10] (fun up x ok wr => ∃ (k : Nat) (A : Option Addr) (c : Nat), k ≤ L.length ∧ up = .slice A k c ∧ x = .int .i64 (elI L k) ∧ ok = .bool (decide (k < L.length)) ∧ wr.ownsRow w3.heap.size 3 1 (.slice A k c) k (I (L.take k)) ∧ Below w3.heap.size w3 wr) (fun up _ _ _ => 100 - lenOf up)
    case atStart => exact ⟨0, none, 0, Nat.zero_le _, rfl, rfl, by simp [hLp], World.ownsRow_nil _ _ _ _, Below.refl _ _⟩
    case round =>
      obtain ⟨k, A, c, hk, rfl, rfl, rfl, hown, hbr⟩ := hrel
      by_cases hlt : k < L.length
      · have hv := F8.out _ (getD_mem L k hlt)
        have HNx := Lib.hid fun W => next_parts L k HLr.out hlt (by unfold elI; omega) (Value.agg #[.int .i64 s1, .slice B1 m1 d1, .int .i64 (L.length : Nat)]) W
        have hte := take_el L k hlt
        have Hte := Lib.hid hte
        have hd : decide (k < L.length) = true := by simpa using hlt
        have hd5 : decide ((k : Int) < 50) = true := by simp; omega
        have hd5' : decide (k < 50) = true := by simp; omega
        clear hte hv
        go_wp2_with (at_builtin; refine wpList_append_own _ rfl _ _ 22 rfl w3.heap.size 3 i0 (.int .i64 0) 1 8 Tryd.underlying22 hi hz0 hz1 hz2 rfl (by decide) _ _ _ rfl (hown.alloc _) ⟨_, 0, none⟩ 1 1 [.int .i64 (elI L k)] rfl rfl (by intro j u hj; match j, hj with | 0, hj => simp at hj; subst hj; simp [Addr.add]) (by intro u hu; simp at hu; subst hu; rfl) (by unfold maxLen; omega) (by omega) (by have := hbr.size; simp; omega) ?_; intro v' w5 hown' hgrow _; rw [Hte.out] at hown'; have hb5 : Below w3.heap.size w3 w5 := (hbr.alloc hbr.size _).grown hgrow (by have := hbr.size; simp; omega) (fun g hg => own_ge hown g hg); obtain ⟨-, x0, x1, x2⟩ := (HX1.out.below hb5).at3)
        refine (HNx.out _ (HX1.out.below hb5).dom (hT.below (HB3.out.trans (hb5.mono HB3.out.size)))).mono ?_
        rintro e w6 ⟨rfl, hb6⟩
        have hown6 := own_below hown' hb6
        obtain ⟨A', c', hv'⟩ := own_shape hown6
        subst hv'
        have hb6' := hb5.trans (hb6.mono hb5.size)
        clear hown hown' hgrow hbr hb5 hb6 x0 x1 x2
        go_wp2
        go_roundw
        case rel => exact ⟨k + 1, A', c', by omega, rfl, rfl, rfl, hown6, hb6'⟩
        case measure => simp only [lenOf]; simp; omega
      · have hkL : k = L.length := by omega
        rw [hkL, List.take_length] at hown
        subst hkL
        have hd : decide (L.length < L.length) = false := by simp
        have HB4 := Lib.hid (HB3.out.trans (hbr.mono HB3.out.size))
        have HX1 := Lib.hid (HX1.out.below hbr)
        obtain ⟨-, x0, x1, x2⟩ := HX1.out.at3
        have Hup := Lib.hid hown
        clear hk hown hbr HB3 hlt
        go_wp2_with fail
        refine (max_dom _ _ _ HX1.out.dom).mono ?_
        rintro e w7 ⟨rfl, hb7⟩
        have HB7 := Lib.hid (HB4.out.trans (hb7.mono HB4.out.size))
        have HX1 := Lib.hid (HX1.out.below hb7)
        have Hup := Lib.hid (own_below Hup.out hb7)
        rw [show L.getLast?.getD 0 = elI L.reverse 0 by unfold elI; rw [List.getD_eq_getElem?_getD, ← List.head?_eq_getElem?, List.head?_reverse]]
        clear hb7 HB4 x0 x1 x2 hd
        go_wp2_with fail
        go_loopw [8, 11, 12] (fun up x ok wr => ∃ (k : Nat) (A : Option Addr) (c : Nat), k ≤ L.length ∧ up = .slice A k c ∧ x = .int .i64 (elI L.reverse k) ∧ ok = .bool (decide (k < L.length)) ∧ wr.ownsRow w7.heap.size 3 1 (.slice A k c) k (I (L.reverse.take k)) ∧ Below w7.heap.size w7 wr) (fun up _ _ _ => 100 - lenOf up)
        case atStart => exact ⟨0, none, 0, Nat.zero_le _, rfl, rfl, by simp [hLp], World.ownsRow_nil _ _ _ _, Below.refl _ _⟩
        case round =>
          obtain ⟨k, A2, c2, hk, rfl, rfl, rfl, hown, hbr⟩ := hrel
          by_cases hlt : k < L.length
          · have hv := F8.out _ (List.mem_reverse.1 (getD_mem L.reverse k (by simpa using hlt)))
            have HNx := Lib.hid fun W => prev_parts L k HLr.out hlt (by unfold elI; omega) (Value.agg #[.int .i64 s1, .slice B1 m1 d1, .int .i64 (L.length : Nat)]) W
            have hte := take_el L.reverse k (by simpa using hlt)
            have Hte := Lib.hid hte
            have hd : decide (k < L.length) = true := by simpa using hlt
            have hd5 : decide ((k : Int) < 50) = true := by simp; omega
            have hd5' : decide (k < 50) = true := by simp; omega
            clear hte hv
            go_wp2_with (at_builtin; refine wpList_append_own _ rfl _ _ 22 rfl w7.heap.size 3 i0 (.int .i64 0) 1 8 Tryd.underlying22 hi hz0 hz1 hz2 rfl (by decide) _ _ _ rfl (hown.alloc _) ⟨_, 0, none⟩ 1 1 [.int .i64 (elI L.reverse k)] rfl rfl (by intro j u hj; match j, hj with | 0, hj => simp at hj; subst hj; simp [Addr.add]) (by intro u hu; simp at hu; subst hu; rfl) (by unfold maxLen; omega) (by omega) (by have := hbr.size; simp; omega) ?_; intro v' w5 hown' hgrow _; rw [Hte.out] at hown'; have hb5 : Below w7.heap.size w7 w5 := (hbr.alloc hbr.size _).grown hgrow (by have := hbr.size; simp; omega) (fun g hg => own_ge hown g hg); obtain ⟨-, x0, x1, x2⟩ := (HX1.out.below hb5).at3)
            refine (HNx.out _ (HX1.out.below hb5).dom (hT.below (HB7.out.trans (hb5.mono HB7.out.size)))).mono ?_
            rintro e w6 ⟨rfl, hb6⟩
            have hown6 := own_below hown' hb6
            obtain ⟨A', c', hv'⟩ := own_shape hown6
            subst hv'
            have hb6' := hb5.trans (hb6.mono hb5.size)
            clear hown hown' hgrow hbr hb5 hb6 x0 x1 x2
            go_wp2
            go_roundw
            case rel => exact ⟨k + 1, A', c', by omega, rfl, rfl, rfl, hown6, hb6'⟩
            case measure => simp only [lenOf]; simp; omega
          · have hkL : k = L.length := by omega
            rw [hkL, show L.reverse.take L.length = L.reverse by rw [← List.length_reverse, List.take_length]] at hown
            subst hkL
            have hd : decide (L.length < L.length) = false := by simp
            have Hdn := Lib.hid hown
            have Hbr := Lib.hid hbr
            clear hk hown hbr hlt
            go_wp2_with fail
            obtain ⟨g, hA2, hg⟩ : ∃ g, A2 = some ⟨g, 0, none⟩ ∧ w7.heap.size ≤ g := by
              rcases Hdn.out.2 with ⟨q, q0⟩ | ⟨g, cap, cur, q, q2, _⟩
              · omega
              · injection q with q3
                exact ⟨g, q3, q2⟩
            subst hA2
            refine (reverse_some g L.length c2 w7.heap.size L.reverse wr (by simp) (by omega) hg Hdn.out).mono ?_
            rintro e w8 ⟨rfl, hdn8, hb8⟩
            rw [List.reverse_reverse] at hdn8
            have hb8' := Hbr.out.trans hb8
            have HB8 := Lib.hid (HB7.out.trans (hb8'.mono HB7.out.size))
            have HX1 := Lib.hid (HX1.out.below hb8')
            have Hup := Lib.hid (own_below Hup.out hb8')
            have Hdn := Lib.hid hdn8
            obtain ⟨-, x0, x1, x2⟩ := HX1.out.at3
            clear hb8 hb8' hdn8 Hbr HB7 hd hg
            go_wp2_with fail
            refine (HP.out _ _ HX1.out.dom (hT.below HB8.out)).mono ?_
            rintro e w9 ⟨s3, B3, m3, d3, rfl, hd3, hbn⟩
            have on := below1 w9 (.cells #[.int .i64 s3, .slice B3 m3 d3, .int .i64 (P.length : Nat)] 27)
            have bn := hbn.trans (on.mono hbn.size)
            have HB9 := Lib.hid (HB8.out.trans (bn.mono HB8.out.size))
            have Hup := Lib.hid (own_below Hup.out bn)
            have Hdn := Lib.hid (own_below Hdn.out bn)
            have HX1 := Lib.hid (HX1.out.below bn)
            have HX3 := Lib.hid (Box.new hd3)
            clear x0 x1 x2
            obtain ⟨-, x0, x1, x2⟩ := HX1.out.at3
            clear hd3 hbn on bn HB8
            go_wp2_with fail
            refine (HQ.out _ _ HX1.out.dom (hT.below HB9.out)).mono ?_
            rintro e w10 ⟨s4, B4, m4, d4, rfl, hd4, hbn⟩
            have on := below1 w10 (.cells #[.int .i64 s4, .slice B4 m4 d4, .int .i64 (Q.length : Nat)] 27)
            have bn := hbn.trans (on.mono hbn.size)
            have HB10 := Lib.hid (HB9.out.trans (bn.mono HB9.out.size))
            have Hup := Lib.hid (own_below Hup.out bn)
            have Hdn := Lib.hid (own_below Hdn.out bn)
            have HX1 := Lib.hid (HX1.out.below bn)
            have HX3 := Lib.hid (HX3.out.below bn)
            have HX4 := Lib.hid (Box.new hd4)
            clear x0 x1 x2
            obtain ⟨-, x0, x1, x2⟩ := HX3.out.at3
            obtain ⟨-, y0, y1, y2⟩ := HX4.out.at3
            clear hd4 hbn on bn HB9
            go_wp2_with fail
            refine (HR.out _ _ _ HX3.out.dom HX4.out.dom (hT.below HB10.out)).mono ?_
            rintro e w11 ⟨s5, B5, m5, d5, rfl, hd5, hbn⟩
            have on := below1 w11 (.cells #[.int .i64 s5, .slice B5 m5 d5, .int .i64 (R.length : Nat)] 27)
            have bn := hbn.trans (on.mono hbn.size)
            have HB11 := Lib.hid (HB10.out.trans (bn.mono HB10.out.size))
            have Hup := Lib.hid (own_below Hup.out bn)
            have Hdn := Lib.hid (own_below Hdn.out bn)
            have HX1 := Lib.hid (HX1.out.below bn)
            have HX3 := Lib.hid (HX3.out.below bn)
            have HX4 := Lib.hid (HX4.out.below bn)
            have HX5 := Lib.hid (Box.new hd5)
            clear x0 x1 x2 y0 y1 y2
            obtain ⟨-, x0, x1, x2⟩ := HX1.out.at3
            clear hd5 hbn on bn HB10
            go_wp2_with fail
            refine (HS.out _ _ HX1.out.dom (hT.below HB11.out)).mono ?_
            rintro e w12 ⟨s6, B6, m6, d6, rfl, hd6, hbn⟩
            have on := below1 w12 (.cells #[.int .i64 s6, .slice B6 m6 d6, .int .i64 (S.length : Nat)] 27)
            have bn := hbn.trans (on.mono hbn.size)
            have HB12 := Lib.hid (HB11.out.trans (bn.mono HB11.out.size))
            have Hup := Lib.hid (own_below Hup.out bn)
            have Hdn := Lib.hid (own_below Hdn.out bn)
            have HX1 := Lib.hid (HX1.out.below bn)
            have HX3 := Lib.hid (HX3.out.below bn)
            have HX4 := Lib.hid (HX4.out.below bn)
            have HX5 := Lib.hid (HX5.out.below bn)
            have HX6 := Lib.hid (Box.new hd6)
            clear x0 x1 x2
            clear hd6 hbn on bn HB11
            obtain ⟨W, hW⟩ : ∃ W, w12.alloc (.cells #[.int .i64 s6, .slice B6 m6 d6, .int .i64 (S.length : Nat)] 27) = W := ⟨_, rfl⟩
            rw [hW] at HB12 HX1 HX3 HX4 HX5 HX6 Hup Hdn
            have HW := Lib.hid hW
            clear hW
            have z3 : Hid (∀ d os, Calls Tryd.prog 13 #[(Value.agg #[.int .i64 s3, .slice B3 m3 d3, .int .i64 (P.length : Nat)])] (grow (redrawn W d) os) fun e w'' => e = .returned (.int .i64 (P.length : Nat)) ∧ ∃ p : Regrown, w'' = grow (redrawn W p.d) p.os) := fun d os => Calls.regrown_of (size_dom _ P _ (HX3.out.dom.below (below_regrown W d os)))
            have z4 : Hid (∀ d os, Calls Tryd.prog 13 #[(Value.agg #[.int .i64 s4, .slice B4 m4 d4, .int .i64 (Q.length : Nat)])] (grow (redrawn W d) os) fun e w'' => e = .returned (.int .i64 (Q.length : Nat)) ∧ ∃ p : Regrown, w'' = grow (redrawn W p.d) p.os) := fun d os => Calls.regrown_of (size_dom _ Q _ (HX4.out.dom.below (below_regrown W d os)))
            have z5 : Hid (∀ d os, Calls Tryd.prog 13 #[(Value.agg #[.int .i64 s5, .slice B5 m5 d5, .int .i64 (R.length : Nat)])] (grow (redrawn W d) os) fun e w'' => e = .returned (.int .i64 (R.length : Nat)) ∧ ∃ p : Regrown, w'' = grow (redrawn W p.d) p.os) := fun d os => Calls.regrown_of (size_dom _ R _ (HX5.out.dom.below (below_regrown W d os)))
            obtain ⟨-, p0, p1, p2⟩ := HX3.out.at3
            have Rp0 := cell_regrown p0
            have Rp1 := cell_regrown p1
            have Rp2 := cell_regrown p2
            obtain ⟨-, q0, q1, q2⟩ := HX4.out.at3
            have Rq0 := cell_regrown q0
            have Rq1 := cell_regrown q1
            have Rq2 := cell_regrown q2
            obtain ⟨-, r0, r1, r2⟩ := HX5.out.at3
            have Rr0 := cell_regrown r0
            have Rr1 := cell_regrown r1
            have Rr2 := cell_regrown r2
            have l3 := HX3.out.dom.len
            have l4 := HX4.out.dom.len
            have l5 := HX5.out.dom.len
            have hlR : R.length = S.length := by rw [G2.out]
            have e9 : IntKind.i64.wrap ((P.length : Int) + (Q.length : Int)) = (P.length : Int) + (Q.length : Int) := IntWalk.i64_in _ (by omega)
            have e11 : (P.length : Int) + (Q.length : Int) - (R.length : Int) = (L.length : Int) := by have := G1.out; omega
            have e10 : IntKind.i64.wrap (L.length : Int) = (L.length : Int) := IntWalk.i64_in _ (by omega)
            clear p0 p1 p2 q0 q1 q2 r0 r1 r2 hlR
            go_wp2_with fail
            rw [HW.out]
            refine wp_region_quiet_below (by kernel_rfl) (by kernel_rfl) ?_
            repeat (first | go_big_quiet_step ((first | (go_at_call_of 13 (Value.agg #[.int .i64 s3, .slice B3 m3 d3, .int .i64 (P.length : Nat)]); exact z3.out _ _) | (go_at_call_of 13 (Value.agg #[.int .i64 s4, .slice B4 m4 d4, .int .i64 (Q.length : Nat)]); exact z4.out _ _) | (go_at_call_of 13 (Value.agg #[.int .i64 s5, .slice B5 m5 d5, .int .i64 (R.length : Nat)]); exact z5.out _ _))) | quiet_step ((first | (go_at_call_of 13 (Value.agg #[.int .i64 s3, .slice B3 m3 d3, .int .i64 (P.length : Nat)]); exact z3.out _ _) | (go_at_call_of 13 (Value.agg #[.int .i64 s4, .slice B4 m4 d4, .int .i64 (Q.length : Nat)]); exact z4.out _ _) | (go_at_call_of 13 (Value.agg #[.int .i64 s5, .slice B5 m5 d5, .int .i64 (R.length : Nat)]); exact z5.out _ _))))
            refine wpQuiet_nil ?_
            intro _ hw'
            obtain ⟨⟨dq, osq⟩, hw''⟩ := hw'
            subst hw''
            have hbq := below_regrown W dq osq
            generalize grow (redrawn W dq) osq = V at hbq
            have HBV := Lib.hid (HB12.out.trans (hbq.mono HB12.out.size))
            have HX1 := Lib.hid (HX1.out.below hbq)
            have HX5 := Lib.hid (HX5.out.below hbq)
            have HX6 := Lib.hid (HX6.out.below hbq)
            have Hup := Lib.hid (own_below Hup.out hbq)
            have Hdn := Lib.hid (own_below Hdn.out hbq)
            clear z3 z4 z5 Rp0 Rp1 Rp2 Rq0 Rq1 Rq2 Rr0 Rr1 Rr2 hbq HX3 HX4 e9 e10 e11
            go_wp2_with fail
            refine (wakes_true _ (hT.below HBV.out)).mono ?_
            rintro e w13 ⟨rfl, hb13⟩
            have HB13 := Lib.hid (HBV.out.trans (hb13.mono HBV.out.size))
            have HX1 := Lib.hid (HX1.out.below hb13)
            have HX5 := Lib.hid (HX5.out.below hb13)
            have HX6 := Lib.hid (HX6.out.below hb13)
            have Hup := Lib.hid (own_below Hup.out hb13)
            have Hdn := Lib.hid (own_below Hdn.out hb13)
            obtain ⟨-, x0, x1, x2⟩ := HX1.out.at3
            clear hb13 HBV
            go_wp2_with fail
            refine (list_parts _ _ _ HX1.out.dom (hT.below HB13.out)).mono ?_
            rintro e w14 ⟨A14, k14, rfl, hl14, -, hb14⟩
            have HB14 := Lib.hid (HB13.out.trans (hb14.mono HB13.out.size))
            have HX1 := Lib.hid (HX1.out.below hb14)
            have HX5 := Lib.hid (HX5.out.below hb14)
            have HX6 := Lib.hid (HX6.out.below hb14)
            have Hup := Lib.hid (own_below Hup.out hb14)
            have Hdn := Lib.hid (own_below Hdn.out hb14)
            have HE := Lib.hid (equal_same A A14 L c k14 w14 (own_lies2 Hup.out rfl) hl14 (by omega))
            clear hb14 HB13 hl14 x0 x1 x2
            go_wp2_with fail
            refine HE.out.mono ?_
            rintro e w15 ⟨rfl, hb15⟩
            have HB15 := Lib.hid (HB14.out.trans (hb15.mono HB14.out.size))
            have HX1 := Lib.hid (HX1.out.below hb15)
            have HX5 := Lib.hid (HX5.out.below hb15)
            have HX6 := Lib.hid (HX6.out.below hb15)
            have Hup := Lib.hid (own_below Hup.out hb15)
            have Hdn := Lib.hid (own_below Hdn.out hb15)
            have HE := Lib.hid (equal_same (some ⟨g, 0, none⟩) A L c2 c w15 (own_lies2 Hdn.out rfl) (own_lies2 Hup.out rfl) (by omega))
            clear hb15 HB14
            go_wp2_with fail
            refine HE.out.mono ?_
            rintro e w16 ⟨rfl, hb16⟩
            have HB16 := Lib.hid (HB15.out.trans (hb16.mono HB15.out.size))
            have HX1 := Lib.hid (HX1.out.below hb16)
            have HX5 := Lib.hid (HX5.out.below hb16)
            have HX6 := Lib.hid (HX6.out.below hb16)
            obtain ⟨-, r0, r1, r2⟩ := HX5.out.at3
            obtain ⟨-, f0, f1, f2⟩ := HX6.out.at3
            clear hb16 HB15
            go_wp2_with fail
            refine (equal_parts R S _ _ true _ HX5.out.dom HX6.out.dom (by simp [G2.out])).mono ?_
            rintro e w17 ⟨rfl, hb17⟩
            have HB17 := Lib.hid (HB16.out.trans (hb17.mono HB16.out.size))
            have HX1 := Lib.hid (HX1.out.below hb17)
            obtain ⟨-, x0, x1, x2⟩ := HX1.out.at3
            clear hb17 HB16 r0 r1 r2 f0 f1 f2
            go_wp2_with fail
            refine (size_dom _ _ _ HX1.out.dom).mono ?_
            rintro e w18 ⟨rfl, hb18⟩
            go_wp2
            go_ret
            exact ⟨rfl, HB17.out.trans (hb18.mono HB17.out.size)⟩
  · have he' : (er != 0) = true := by simpa using he
    clear he Hne HP HQ HR HS
    go_enter Tryd.func6, Tryd.ntmps6
    go_wp2_with fail
    refine HN1.out.mono ?_
    intro e w1 h1
    obtain ⟨A1, k1, rfl, hl1, -, hb1⟩ := h1.slice
    have HL1 := Lib.hid hl1
    clear h1 hl1
    go_wp2_with fail
    refine (HO1.out _ _ _ _ rfl HL1.out).mono ?_
    rintro e w2 ⟨s1, B1, m1, d1, rfl, hd1, hb2⟩
    have b2 := hb1.trans (hb2.mono hb1.size)
    have o2 := below1 w2 (.cells #[.int .i64 s1, .slice B1 m1 d1, .int .i64 (L.length : Nat)] 27)
    have HB2 := Lib.hid (b2.trans (o2.mono b2.size))
    clear hb1 hb2 b2 o2 hd1 HL1 HN1 HO1
    go_wp2_with fail
    refine (wakes_true _ (hT.below HB2.out)).mono ?_
    rintro e w3 ⟨rfl, hb3⟩
    go_wp2
    go_ret
    exact ⟨rfl, HB2.out.trans (hb3.mono HB2.out.size)⟩
end Go.Proofs.YtgfhnmlakjcfaaaDoor
