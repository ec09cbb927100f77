/- The walk of QueuePlays. -/
import Derived.Test.YtfbpdkajonpphaaPa
import Derived.Lib.QuietBelow
import Derived.Lib.MinMax
namespace Go.Proofs.Ytfbpdkajonpphaa
open Go.RowKit Go.Sort

set_option maxHeartbeats 16000000 in
set_option maxRecDepth 100000 in
theorem plays_walk (n0 : Int) (O : Option Addr) (no co mo : Nat) (w : World) (ho : ActsIn w O no) (hoc : no ≤ co) (hmo : min (no : Int) 60 = (mo : Int)) (hO : no = 0 ∨ ∃ ad, O = some ad) :
    Calls Try.prog 3 #[.int .i64 n0, .slice O no co] w fun e w' => e = .returned (.bool true) ∧ Below w.heap.size w w' := by
  have Ho := Lib.hid ho
  have hmo1 : mo ≤ no := by omega
  have hmo2 : mo ≤ 60 := by omega
  clear ho
  go_enter Try.func3, Try.ntmps3
  go_upto_region 1 with fail
  go_cut [5] (fun a wx => ∃ sz, a = .int .i64 sz ∧ w = wx)
  case first =>
    go_wp2_with fail
    all_goals
      go_meet
      case rel => exact ⟨_, rfl, rfl⟩
  case rest =>
    obtain ⟨sz, rfl, rfl⟩ := hcut
    go_wp2_with fail
    refine (new_any w sz).mono ?_
    rintro e w1 ⟨q0, rfl, hn, h1, hb1, ho1⟩
    have HP : Hid (Pq w w1 sz q0 [] (.slice none 0 0) 0) := Lib.hid ⟨h1, OneT.nil _ _, hn, ho1, hb1, Nat.le_refl _⟩
    obtain ⟨Q0, hQ0⟩ : ∃ Q0, q0.Q = Q0 := ⟨_, rfl⟩
    rw [hQ0]
    have HQ0 := Lib.hid hQ0
    clear h1 hb1 ho1 hn hQ0
    go_upto_region 4 with fail
    go_cut [28, 29, 30] (fun a b i wx => a = .slice O mo co ∧ b = .int .i64 (mo : Nat) ∧ i = .int .i64 0 ∧ w1 = wx)
    case first =>
      cases O
      all_goals
        go_wp2_with fail
        go_meet
        case rel => exact ⟨rfl, rfl, rfl, rfl⟩
    case rest =>
      obtain ⟨rfl, rfl, rfl, rfl⟩ := hcut
      go_wp2_with fail
      go_loopw [7, 30] (fun lv i wr => ∃ k : Nat, k ≤ mo ∧ i = .int .i64 (k : Nat) ∧ Hid (∃ q l, Pq w wr sz q l lv (2 * k) ∧ q.Q = Q0)) (fun _ i _ => mo - (intOf i).toNat)
      case atStart => exact ⟨0, Nat.zero_le _, rfl, Lib.hid ⟨_, _, HP.out, HQ0.out⟩⟩
      case round =>
        clear HP HQ0
        obtain ⟨wo, rfl⟩ : ∃ wo, wo = wr := ⟨_, rfl⟩
        obtain ⟨k, hk, rfl, HH⟩ := hrel
        obtain ⟨q, l, hP, hQ⟩ := HH.out
        obtain ⟨Al, cl, e⟩ := hP.shape
        obtain ⟨z, hz⟩ : ∃ z, z = l.length := ⟨_, rfl⟩
        rw [← hz] at e
        subst e
        have HP := Lib.hid hP
        have HQ := Lib.hid hQ
        have Hz := Lib.hid hz
        have hz120 : z ≤ 120 := by rw [hz]; have := hP.len; omega
        clear hP hQ HH hz
        by_cases hlt : k < mo
        · obtain ⟨ad, rfl⟩ : ∃ ad, O = some ad := by
            rcases hO with h0 | h0
            · omega
            · exact h0
          obtain ⟨kd, x, b, N, y0, y1, y2, y3, hA⟩ := Ho.out.at HP.out.low (k := k) (by omega)
          have HA := Lib.hid hA
          have hkd0 := hA.kd0
          have hkd1 := hA.kd1
          have hN0 := hA.N0
          have hN1 := hA.N1
          have hki : (k : Int) < (mo : Nat) := by omega
          have K1 := below1 wo (.cells #[.int .u8 kd, .int .i64 x, .int .i64 b, .int .u8 N] 27)
          have HP1 := Lib.hid (HP.out.below K1)
          have HX1 := Lib.hid (Blk.new wo #[.int .u8 kd, .int .i64 x, .int .i64 b, .int .u8 N] 27)
          clear hA K1 HP
          by_cases d3 : kd % 6 = 3
          · have q3 : (kd % 6 == 3) = true := by simp [d3]
            clear d3
            rcases hl : l with _ | ⟨p0, lr⟩
            · have HE := Lib.hid hl
              have hz0 : z = 0 := by rw [Hz.out, hl]; rfl
              subst hz0
              have HPo := Lib.hid (pop_none (w := wo.alloc (.cells #[.int .u8 kd, .int .i64 x, .int .i64 b, .int .u8 N] 27)) (q := q) (by rw [← HE.out]; exact HP1.out.isq))
              rw [HQ.out] at HPo
              clear hl
              go_wp2_with fail
              clear y0 y1 y2 y3
              refine HPo.out.mono ?_
              rintro e w5 ⟨rfl, rfl⟩
              go_wp2_with fail
              refine (refpop_none Al cl _).mono ?_
              rintro e w5 ⟨rfl, rfl⟩
              go_upto_region 27 with fail
              have HPn := Lib.hid (HP1.out.more (show 2 * k ≤ 2 * (k + 1) by omega))
              obtain ⟨wb, hwb⟩ : ∃ wb, wb = wo.alloc (.cells #[.int .u8 kd, .int .i64 x, .int .i64 b, .int .u8 N] 27) := ⟨_, rfl⟩
              rw [← hwb] at HPn HX1 ⊢
              clear HP1 HPo hwb
              obtain ⟨T, hT⟩ : ∃ T : Int → Bool, T = fun y => decide (y ∈ l.map Prod.fst) := ⟨_, rfl⟩
              have HT := Lib.hid hT
              clear hT
              have HPl := Lib.hid fun (V : World) (hV : Below (wb).heap.size wb V) => HPn.out.below hV
              have C1 : Hid (∀ d os, Calls Try.prog 12 #[ptr Q0] (grow (redrawn wb d) os) fun e w'' => e = .returned (.int .i64 (0 : Nat)) ∧ ∃ p : Regrown, w'' = grow (redrawn wb p.d) p.os) := Lib.hid fun d os => Calls.regrown_of (by
                have := len_q (HPl.out _ (below_regrown _ d os)).isq
                rw [HQ.out, ← Hz.out] at this
                exact this.mono fun _ _ h => ⟨h.1, h.2 ▸ Below.refl _ _⟩)
              have C2 : Hid (∀ y, (Lit.int .i64 y).wf = true → ∀ d os, Calls Try.prog 13 #[ptr Q0, .int .i64 y] (grow (redrawn wb d) os) fun e w'' => e = .returned (.bool (T y)) ∧ ∃ p : Regrown, w'' = grow (redrawn wb p.d) p.os) := Lib.hid fun y hy d os => Calls.regrown_of (by
                have := has_q (HPl.out _ (below_regrown _ d os)).isq y hy
                rw [HQ.out] at this
                rw [HT.out]
                exact this)
              have C3 : Hid (∀ y, ∀ d os, Calls Try.prog 14 #[.slice Al 0 cl, .int .i64 y] (grow (redrawn wb d) os) fun e w'' => e = .returned (.bool (T y)) ∧ ∃ p : Regrown, w'' = grow (redrawn wb p.d) p.os) := Lib.hid fun y d os => Calls.regrown_of (by
                have := refhas 0 Al 0 cl l y _ Hz.out (HPl.out _ (below_regrown _ d os)).ref (by omega)
                rw [HT.out]
                exact this.mono fun _ _ h => ⟨h.1, h.2 ▸ Below.refl _ _⟩)
              have B5 := cell_regrown (HX1.out.cell 1 : (wb).cell? ⟨wo.heap.size, 1, none⟩ = some (.int .i64 x))
              have Hw : Hid ((Lit.int .i64 x).wf = true ∧ (Lit.int .i64 (max 0 x % 20)).wf = true) := Lib.hid ⟨wf_of HA.out.x0 HA.out.x1, wf_of (by omega) (by omega)⟩
              have C2a := Lib.hid (C2.out x Hw.out.1)
              have C2b := Lib.hid (C2.out (max 0 x % 20) Hw.out.2)
              have hne1 : (T x != T x) = false := by simp
              have hne2 : (T (max 0 x % 20) != T (max 0 x % 20)) = false := by simp
              have hne3 : (((0 : Nat) : Int) != ((0 : Nat) : Int)) = false := by simp
              clear C2 Hw
              refine wp_region_quiet_below (by kernel_rfl) (by kernel_rfl) ?_
              repeat (first | go_big_quiet_step ((first | (go_at_call 12; with_reducible exact C1.out _ _) | (go_at_call 13; with_reducible exact C2a.out _ _) | (go_at_call 13; with_reducible exact C2b.out _ _) | (go_at_call 14; with_reducible exact C3.out _ _ _))) | quiet_step ((first | (go_at_call 12; with_reducible exact C1.out _ _) | (go_at_call 13; with_reducible exact C2a.out _ _) | (go_at_call 13; with_reducible exact C2b.out _ _) | (go_at_call 14; with_reducible exact C3.out _ _ _))))
              refine wpQuiet_nil ?_
              intro _ hw'
              obtain ⟨⟨dq, osq⟩, hw''⟩ := hw'
              subst hw''
              have HN5 := Lib.hid (HPl.out _ (below_regrown wb dq osq))
              generalize grow (redrawn wb dq) osq = W6 at *
              clear B5 C1 C2a C2b C3 HPl
              go_wp2_with fail
              go_roundw
              case rel => exact ⟨k + 1, by omega, by go_num, Lib.hid ⟨_, _, HN5.out, HQ.out⟩⟩
              case measure => simp [intOf]; omega
            · obtain ⟨l1, l2, px, pb, hM⟩ := most_of (l := l) (by rw [hl]; simp)
              have HM := Lib.hid hM
              have HPo := Lib.hid (pop_most HP1.out.isq hM)
              rw [HQ.out] at HPo
              have hnex : (px != px) = false := by simp
              clear hl hM
              go_wp2_with fail
              clear y0 y1 y2 y3
              refine HPo.out.mono ?_
              rintro e w5 ⟨rfl, v5, hq5, hf5⟩
              have HR5 := Lib.hid (HP1.out.ref.fq HP1.out.isq hf5)
              have HX5 := Lib.hid (hf5.blk HX1.out (HP1.out.isq.out HX1.out (by decide) (by decide)))
              have HQ5 : Hid ((q.put pb v5).Q = Q0) := Lib.hid (hf5.Q.trans HQ.out)
              have HI5 := Lib.hid hq5
              have HF5 := Lib.hid hf5
              clear hq5 hf5 HPo
              go_wp2_with fail
              refine (refpop_most 0 Al z cl l l1 l2 px pb w5 Hz.out HR5.out (by omega) HM.out).mono ?_
              rintro e w6 ⟨v6, rfl, hr6, hb6⟩
              obtain ⟨A6, c6, e6⟩ := hr6.shape
              obtain ⟨z6, hz6⟩ : ∃ z6, z6 = (l1 ++ l2).length := ⟨_, rfl⟩
              rw [← hz6] at e6
              subst e6
              have Hz6 := Lib.hid hz6
              have hlen : (l1 ++ l2).length + 1 = l.length := by rw [HM.out.eq]; simp; omega
              have hz6b : z6 ≤ 120 := by rw [hz6]; have := Hz.out; omega
              have HPn : Hid (Pq w w6 sz (q.put pb v5) (l1 ++ l2) (.slice A6 z6 c6) (2 * (k + 1))) := Lib.hid ⟨HI5.out.below hb6, own_base hr6 (Nat.zero_le _), HF5.out.same.2.trans HP1.out.n, HF5.out.above HP1.out.own HP1.out.low.size, (HP1.out.low.trans (HF5.out.below HP1.out.own HP1.out.low.size)).trans (hb6.mono (Nat.le_trans HP1.out.low.size HF5.out.size)), by have := HP1.out.len; omega⟩
              have HX6 := Lib.hid (HX5.out.below hb6)
              clear hr6 hb6 hlen hz6 HR5 HI5 HF5 HP1 HX1 HX5
              go_upto_region 27 with fail
              obtain ⟨T, hT⟩ : ∃ T : Int → Bool, T = fun y => decide (y ∈ (l1 ++ l2).map Prod.fst) := ⟨_, rfl⟩
              have HT := Lib.hid hT
              clear hT
              have HPl := Lib.hid fun (V : World) (hV : Below (w6).heap.size w6 V) => HPn.out.below hV
              have C1 : Hid (∀ d os, Calls Try.prog 12 #[ptr Q0] (grow (redrawn w6 d) os) fun e w'' => e = .returned (.int .i64 (z6 : Nat)) ∧ ∃ p : Regrown, w'' = grow (redrawn w6 p.d) p.os) := Lib.hid fun d os => Calls.regrown_of (by
                have := len_q (HPl.out _ (below_regrown _ d os)).isq
                rw [HQ5.out, ← Hz6.out] at this
                exact this.mono fun _ _ h => ⟨h.1, h.2 ▸ Below.refl _ _⟩)
              have C2 : Hid (∀ y, (Lit.int .i64 y).wf = true → ∀ d os, Calls Try.prog 13 #[ptr Q0, .int .i64 y] (grow (redrawn w6 d) os) fun e w'' => e = .returned (.bool (T y)) ∧ ∃ p : Regrown, w'' = grow (redrawn w6 p.d) p.os) := Lib.hid fun y hy d os => Calls.regrown_of (by
                have := has_q (HPl.out _ (below_regrown _ d os)).isq y hy
                rw [HQ5.out] at this
                rw [HT.out]
                exact this)
              have C3 : Hid (∀ y, ∀ d os, Calls Try.prog 14 #[.slice A6 z6 c6, .int .i64 y] (grow (redrawn w6 d) os) fun e w'' => e = .returned (.bool (T y)) ∧ ∃ p : Regrown, w'' = grow (redrawn w6 p.d) p.os) := Lib.hid fun y d os => Calls.regrown_of (by
                have := refhas 0 A6 z6 c6 (l1 ++ l2) y _ Hz6.out (HPl.out _ (below_regrown _ d os)).ref (by omega)
                rw [HT.out]
                exact this.mono fun _ _ h => ⟨h.1, h.2 ▸ Below.refl _ _⟩)
              have B5 := cell_regrown (HX6.out.cell 1 : (w6).cell? ⟨wo.heap.size, 1, none⟩ = some (.int .i64 x))
              have Hw : Hid ((Lit.int .i64 x).wf = true ∧ (Lit.int .i64 (max 0 x % 20)).wf = true) := Lib.hid ⟨wf_of HA.out.x0 HA.out.x1, wf_of (by omega) (by omega)⟩
              have C2a := Lib.hid (C2.out x Hw.out.1)
              have C2b := Lib.hid (C2.out (max 0 x % 20) Hw.out.2)
              have hne1 : (T x != T x) = false := by simp
              have hne2 : (T (max 0 x % 20) != T (max 0 x % 20)) = false := by simp
              have hne3 : (((z6 : Nat) : Int) != ((z6 : Nat) : Int)) = false := by simp
              clear C2 Hw
              refine wp_region_quiet_below (by kernel_rfl) (by kernel_rfl) ?_
              repeat (first | go_big_quiet_step ((first | (go_at_call 12; with_reducible exact C1.out _ _) | (go_at_call 13; with_reducible exact C2a.out _ _) | (go_at_call 13; with_reducible exact C2b.out _ _) | (go_at_call 14; with_reducible exact C3.out _ _ _))) | quiet_step ((first | (go_at_call 12; with_reducible exact C1.out _ _) | (go_at_call 13; with_reducible exact C2a.out _ _) | (go_at_call 13; with_reducible exact C2b.out _ _) | (go_at_call 14; with_reducible exact C3.out _ _ _))))
              refine wpQuiet_nil ?_
              intro _ hw'
              obtain ⟨⟨dq, osq⟩, hw''⟩ := hw'
              subst hw''
              have HN5 := Lib.hid (HPl.out _ (below_regrown w6 dq osq))
              generalize grow (redrawn w6 dq) osq = W6 at *
              clear B5 C1 C2a C2b C3 HPl
              go_wp2_with fail
              go_roundw
              case rel => exact ⟨k + 1, by omega, by go_num, Lib.hid ⟨_, _, HN5.out, HQ5.out⟩⟩
              case measure => simp [intOf]; omega
          · by_cases d4 : kd % 6 = 4
            · have q3 : (kd % 6 == 3) = false := by simp; omega
              have q4 : (kd % 6 == 4) = true := by simp [d4]
              clear d3 d4
              rcases hl : l with _ | ⟨p0, lr⟩
              · have HE := Lib.hid hl
                have hz0 : z = 0 := by rw [Hz.out, hl]; rfl
                subst hz0
                have HPo := Lib.hid (pop_none (w := wo.alloc (.cells #[.int .u8 kd, .int .i64 x, .int .i64 b, .int .u8 N] 27)) (q := q) (by rw [← HE.out]; exact HP1.out.isq))
                rw [HQ.out] at HPo
                clear hl
                go_wp2_with fail
                clear y0 y1 y2 y3
                refine HPo.out.mono ?_
                rintro e w5 ⟨rfl, rfl⟩
                go_wp2_with fail
                refine (refpop_none Al cl _).mono ?_
                rintro e w5 ⟨rfl, rfl⟩
                go_upto_region 27 with fail
                have HPn := Lib.hid (HP1.out.more (show 2 * k ≤ 2 * (k + 1) by omega))
                obtain ⟨wb, hwb⟩ : ∃ wb, wb = wo.alloc (.cells #[.int .u8 kd, .int .i64 x, .int .i64 b, .int .u8 N] 27) := ⟨_, rfl⟩
                rw [← hwb] at HPn HX1 ⊢
                clear HP1 HPo hwb
                obtain ⟨T, hT⟩ : ∃ T : Int → Bool, T = fun y => decide (y ∈ l.map Prod.fst) := ⟨_, rfl⟩
                have HT := Lib.hid hT
                clear hT
                have HPl := Lib.hid fun (V : World) (hV : Below (wb).heap.size wb V) => HPn.out.below hV
                have C1 : Hid (∀ d os, Calls Try.prog 12 #[ptr Q0] (grow (redrawn wb d) os) fun e w'' => e = .returned (.int .i64 (0 : Nat)) ∧ ∃ p : Regrown, w'' = grow (redrawn wb p.d) p.os) := Lib.hid fun d os => Calls.regrown_of (by
                  have := len_q (HPl.out _ (below_regrown _ d os)).isq
                  rw [HQ.out, ← Hz.out] at this
                  exact this.mono fun _ _ h => ⟨h.1, h.2 ▸ Below.refl _ _⟩)
                have C2 : Hid (∀ y, (Lit.int .i64 y).wf = true → ∀ d os, Calls Try.prog 13 #[ptr Q0, .int .i64 y] (grow (redrawn wb d) os) fun e w'' => e = .returned (.bool (T y)) ∧ ∃ p : Regrown, w'' = grow (redrawn wb p.d) p.os) := Lib.hid fun y hy d os => Calls.regrown_of (by
                  have := has_q (HPl.out _ (below_regrown _ d os)).isq y hy
                  rw [HQ.out] at this
                  rw [HT.out]
                  exact this)
                have C3 : Hid (∀ y, ∀ d os, Calls Try.prog 14 #[.slice Al 0 cl, .int .i64 y] (grow (redrawn wb d) os) fun e w'' => e = .returned (.bool (T y)) ∧ ∃ p : Regrown, w'' = grow (redrawn wb p.d) p.os) := Lib.hid fun y d os => Calls.regrown_of (by
                  have := refhas 0 Al 0 cl l y _ Hz.out (HPl.out _ (below_regrown _ d os)).ref (by omega)
                  rw [HT.out]
                  exact this.mono fun _ _ h => ⟨h.1, h.2 ▸ Below.refl _ _⟩)
                have B5 := cell_regrown (HX1.out.cell 1 : (wb).cell? ⟨wo.heap.size, 1, none⟩ = some (.int .i64 x))
                have Hw : Hid ((Lit.int .i64 x).wf = true ∧ (Lit.int .i64 (max 0 x % 20)).wf = true) := Lib.hid ⟨wf_of HA.out.x0 HA.out.x1, wf_of (by omega) (by omega)⟩
                have C2a := Lib.hid (C2.out x Hw.out.1)
                have C2b := Lib.hid (C2.out (max 0 x % 20) Hw.out.2)
                have hne1 : (T x != T x) = false := by simp
                have hne2 : (T (max 0 x % 20) != T (max 0 x % 20)) = false := by simp
                have hne3 : (((0 : Nat) : Int) != ((0 : Nat) : Int)) = false := by simp
                clear C2 Hw
                refine wp_region_quiet_below (by kernel_rfl) (by kernel_rfl) ?_
                repeat (first | go_big_quiet_step ((first | (go_at_call 12; with_reducible exact C1.out _ _) | (go_at_call 13; with_reducible exact C2a.out _ _) | (go_at_call 13; with_reducible exact C2b.out _ _) | (go_at_call 14; with_reducible exact C3.out _ _ _))) | quiet_step ((first | (go_at_call 12; with_reducible exact C1.out _ _) | (go_at_call 13; with_reducible exact C2a.out _ _) | (go_at_call 13; with_reducible exact C2b.out _ _) | (go_at_call 14; with_reducible exact C3.out _ _ _))))
                refine wpQuiet_nil ?_
                intro _ hw'
                obtain ⟨⟨dq, osq⟩, hw''⟩ := hw'
                subst hw''
                have HN5 := Lib.hid (HPl.out _ (below_regrown wb dq osq))
                generalize grow (redrawn wb dq) osq = W6 at *
                clear B5 C1 C2a C2b C3 HPl
                go_wp2_with fail
                go_roundw
                case rel => exact ⟨k + 1, by omega, by go_num, Lib.hid ⟨_, _, HN5.out, HQ.out⟩⟩
                case measure => simp [intOf]; omega
              · obtain ⟨l1, l2, px, pb, hM⟩ := most_of (l := l) (by rw [hl]; simp)
                have HM := Lib.hid hM
                have HPo := Lib.hid (pop_most HP1.out.isq hM)
                rw [HQ.out] at HPo
                have hnex : (px != px) = false := by simp
                clear hl hM
                go_wp2_with fail
                clear y0 y1 y2 y3
                refine HPo.out.mono ?_
                rintro e w5 ⟨rfl, v5, hq5, hf5⟩
                have HR5 := Lib.hid (HP1.out.ref.fq HP1.out.isq hf5)
                have HX5 := Lib.hid (hf5.blk HX1.out (HP1.out.isq.out HX1.out (by decide) (by decide)))
                have HQ5 : Hid ((q.put pb v5).Q = Q0) := Lib.hid (hf5.Q.trans HQ.out)
                have HI5 := Lib.hid hq5
                have HF5 := Lib.hid hf5
                clear hq5 hf5 HPo
                go_wp2_with fail
                refine (refpop_most 0 Al z cl l l1 l2 px pb w5 Hz.out HR5.out (by omega) HM.out).mono ?_
                rintro e w6 ⟨v6, rfl, hr6, hb6⟩
                obtain ⟨A6, c6, e6⟩ := hr6.shape
                obtain ⟨z6, hz6⟩ : ∃ z6, z6 = (l1 ++ l2).length := ⟨_, rfl⟩
                rw [← hz6] at e6
                subst e6
                have Hz6 := Lib.hid hz6
                have hlen : (l1 ++ l2).length + 1 = l.length := by rw [HM.out.eq]; simp; omega
                have hz6b : z6 ≤ 120 := by rw [hz6]; have := Hz.out; omega
                have HPn : Hid (Pq w w6 sz (q.put pb v5) (l1 ++ l2) (.slice A6 z6 c6) (2 * (k + 1))) := Lib.hid ⟨HI5.out.below hb6, own_base hr6 (Nat.zero_le _), HF5.out.same.2.trans HP1.out.n, HF5.out.above HP1.out.own HP1.out.low.size, (HP1.out.low.trans (HF5.out.below HP1.out.own HP1.out.low.size)).trans (hb6.mono (Nat.le_trans HP1.out.low.size HF5.out.size)), by have := HP1.out.len; omega⟩
                have HX6 := Lib.hid (HX5.out.below hb6)
                clear hr6 hb6 hlen hz6 HR5 HI5 HF5 HP1 HX1 HX5
                go_upto_region 27 with fail
                obtain ⟨T, hT⟩ : ∃ T : Int → Bool, T = fun y => decide (y ∈ (l1 ++ l2).map Prod.fst) := ⟨_, rfl⟩
                have HT := Lib.hid hT
                clear hT
                have HPl := Lib.hid fun (V : World) (hV : Below (w6).heap.size w6 V) => HPn.out.below hV
                have C1 : Hid (∀ d os, Calls Try.prog 12 #[ptr Q0] (grow (redrawn w6 d) os) fun e w'' => e = .returned (.int .i64 (z6 : Nat)) ∧ ∃ p : Regrown, w'' = grow (redrawn w6 p.d) p.os) := Lib.hid fun d os => Calls.regrown_of (by
                  have := len_q (HPl.out _ (below_regrown _ d os)).isq
                  rw [HQ5.out, ← Hz6.out] at this
                  exact this.mono fun _ _ h => ⟨h.1, h.2 ▸ Below.refl _ _⟩)
                have C2 : Hid (∀ y, (Lit.int .i64 y).wf = true → ∀ d os, Calls Try.prog 13 #[ptr Q0, .int .i64 y] (grow (redrawn w6 d) os) fun e w'' => e = .returned (.bool (T y)) ∧ ∃ p : Regrown, w'' = grow (redrawn w6 p.d) p.os) := Lib.hid fun y hy d os => Calls.regrown_of (by
                  have := has_q (HPl.out _ (below_regrown _ d os)).isq y hy
                  rw [HQ5.out] at this
                  rw [HT.out]
                  exact this)
                have C3 : Hid (∀ y, ∀ d os, Calls Try.prog 14 #[.slice A6 z6 c6, .int .i64 y] (grow (redrawn w6 d) os) fun e w'' => e = .returned (.bool (T y)) ∧ ∃ p : Regrown, w'' = grow (redrawn w6 p.d) p.os) := Lib.hid fun y d os => Calls.regrown_of (by
                  have := refhas 0 A6 z6 c6 (l1 ++ l2) y _ Hz6.out (HPl.out _ (below_regrown _ d os)).ref (by omega)
                  rw [HT.out]
                  exact this.mono fun _ _ h => ⟨h.1, h.2 ▸ Below.refl _ _⟩)
                have B5 := cell_regrown (HX6.out.cell 1 : (w6).cell? ⟨wo.heap.size, 1, none⟩ = some (.int .i64 x))
                have Hw : Hid ((Lit.int .i64 x).wf = true ∧ (Lit.int .i64 (max 0 x % 20)).wf = true) := Lib.hid ⟨wf_of HA.out.x0 HA.out.x1, wf_of (by omega) (by omega)⟩
                have C2a := Lib.hid (C2.out x Hw.out.1)
                have C2b := Lib.hid (C2.out (max 0 x % 20) Hw.out.2)
                have hne1 : (T x != T x) = false := by simp
                have hne2 : (T (max 0 x % 20) != T (max 0 x % 20)) = false := by simp
                have hne3 : (((z6 : Nat) : Int) != ((z6 : Nat) : Int)) = false := by simp
                clear C2 Hw
                refine wp_region_quiet_below (by kernel_rfl) (by kernel_rfl) ?_
                repeat (first | go_big_quiet_step ((first | (go_at_call 12; with_reducible exact C1.out _ _) | (go_at_call 13; with_reducible exact C2a.out _ _) | (go_at_call 13; with_reducible exact C2b.out _ _) | (go_at_call 14; with_reducible exact C3.out _ _ _))) | quiet_step ((first | (go_at_call 12; with_reducible exact C1.out _ _) | (go_at_call 13; with_reducible exact C2a.out _ _) | (go_at_call 13; with_reducible exact C2b.out _ _) | (go_at_call 14; with_reducible exact C3.out _ _ _))))
                refine wpQuiet_nil ?_
                intro _ hw'
                obtain ⟨⟨dq, osq⟩, hw''⟩ := hw'
                subst hw''
                have HN5 := Lib.hid (HPl.out _ (below_regrown w6 dq osq))
                generalize grow (redrawn w6 dq) osq = W6 at *
                clear B5 C1 C2a C2b C3 HPl
                go_wp2_with fail
                go_roundw
                case rel => exact ⟨k + 1, by omega, by go_num, Lib.hid ⟨_, _, HN5.out, HQ5.out⟩⟩
                case measure => simp [intOf]; omega
            · by_cases d5 : kd % 6 = 5
              · have q3 : (kd % 6 == 3) = false := by simp; omega
                have q4 : (kd % 6 == 4) = false := by simp; omega
                have q5 : (kd % 6 == 5) = true := by simp [d5]
                clear d3 d4 d5
                rcases hN2 : (N % 2 == 0) with _ | _
                · go_upto_region 27 with fail
                  have HPn := Lib.hid (HP1.out.more (show 2 * k ≤ 2 * (k + 1) by omega))
                  obtain ⟨wb, hwb⟩ : ∃ wb, wb = wo.alloc (.cells #[.int .u8 kd, .int .i64 x, .int .i64 b, .int .u8 N] 27) := ⟨_, rfl⟩
                  rw [← hwb] at HPn HX1 ⊢
                  clear HP1 hwb y0 y1 y2 y3
                  obtain ⟨T, hT⟩ : ∃ T : Int → Bool, T = fun y => decide (y ∈ l.map Prod.fst) := ⟨_, rfl⟩
                  have HT := Lib.hid hT
                  clear hT
                  have HPl := Lib.hid fun (V : World) (hV : Below (wb).heap.size wb V) => HPn.out.below hV
                  have C1 : Hid (∀ d os, Calls Try.prog 12 #[ptr Q0] (grow (redrawn wb d) os) fun e w'' => e = .returned (.int .i64 (z : Nat)) ∧ ∃ p : Regrown, w'' = grow (redrawn wb p.d) p.os) := Lib.hid fun d os => Calls.regrown_of (by
                    have := len_q (HPl.out _ (below_regrown _ d os)).isq
                    rw [HQ.out, ← Hz.out] at this
                    exact this.mono fun _ _ h => ⟨h.1, h.2 ▸ Below.refl _ _⟩)
                  have C2 : Hid (∀ y, (Lit.int .i64 y).wf = true → ∀ d os, Calls Try.prog 13 #[ptr Q0, .int .i64 y] (grow (redrawn wb d) os) fun e w'' => e = .returned (.bool (T y)) ∧ ∃ p : Regrown, w'' = grow (redrawn wb p.d) p.os) := Lib.hid fun y hy d os => Calls.regrown_of (by
                    have := has_q (HPl.out _ (below_regrown _ d os)).isq y hy
                    rw [HQ.out] at this
                    rw [HT.out]
                    exact this)
                  have C3 : Hid (∀ y, ∀ d os, Calls Try.prog 14 #[.slice Al z cl, .int .i64 y] (grow (redrawn wb d) os) fun e w'' => e = .returned (.bool (T y)) ∧ ∃ p : Regrown, w'' = grow (redrawn wb p.d) p.os) := Lib.hid fun y d os => Calls.regrown_of (by
                    have := refhas 0 Al z cl l y _ Hz.out (HPl.out _ (below_regrown _ d os)).ref (by omega)
                    rw [HT.out]
                    exact this.mono fun _ _ h => ⟨h.1, h.2 ▸ Below.refl _ _⟩)
                  have B5 := cell_regrown (HX1.out.cell 1 : (wb).cell? ⟨wo.heap.size, 1, none⟩ = some (.int .i64 x))
                  have Hw : Hid ((Lit.int .i64 x).wf = true ∧ (Lit.int .i64 (max 0 x % 20)).wf = true) := Lib.hid ⟨wf_of HA.out.x0 HA.out.x1, wf_of (by omega) (by omega)⟩
                  have C2a := Lib.hid (C2.out x Hw.out.1)
                  have C2b := Lib.hid (C2.out (max 0 x % 20) Hw.out.2)
                  have hne1 : (T x != T x) = false := by simp
                  have hne2 : (T (max 0 x % 20) != T (max 0 x % 20)) = false := by simp
                  have hne3 : (((z : Nat) : Int) != ((z : Nat) : Int)) = false := by simp
                  clear C2 Hw
                  refine wp_region_quiet_below (by kernel_rfl) (by kernel_rfl) ?_
                  repeat (first | go_big_quiet_step ((first | (go_at_call 12; with_reducible exact C1.out _ _) | (go_at_call 13; with_reducible exact C2a.out _ _) | (go_at_call 13; with_reducible exact C2b.out _ _) | (go_at_call 14; with_reducible exact C3.out _ _ _))) | quiet_step ((first | (go_at_call 12; with_reducible exact C1.out _ _) | (go_at_call 13; with_reducible exact C2a.out _ _) | (go_at_call 13; with_reducible exact C2b.out _ _) | (go_at_call 14; with_reducible exact C3.out _ _ _))))
                  refine wpQuiet_nil ?_
                  intro _ hw'
                  obtain ⟨⟨dq, osq⟩, hw''⟩ := hw'
                  subst hw''
                  have HN5 := Lib.hid (HPl.out _ (below_regrown wb dq osq))
                  generalize grow (redrawn wb dq) osq = W6 at *
                  clear B5 C1 C2a C2b C3 HPl
                  go_wp2_with fail
                  go_roundw
                  case rel => exact ⟨k + 1, by omega, by go_num, Lib.hid ⟨_, _, HN5.out, HQ.out⟩⟩
                  case measure => simp [intOf]; omega
                · have HC := Lib.hid (clear_q HP1.out.isq)
                  rw [HQ.out] at HC
                  go_wp2_with fail
                  clear y0 y1 y2 y3
                  refine HC.out.mono ?_
                  rintro e w5 ⟨rfl, q5', hq5, hf5⟩
                  have HX5 := Lib.hid (hf5.blk HX1.out (HP1.out.isq.out HX1.out (by decide) (by decide)))
                  have HQ5 : Hid (q5'.Q = Q0) := Lib.hid (hf5.Q.trans HQ.out)
                  have HPn := Lib.hid (HP1.out.fq hq5 hf5 (OneT.nil 0 _) (show ([] : List (Int × Nat)).length ≤ 2 * (k + 1) from Nat.zero_le _))
                  obtain ⟨l5, hl5⟩ : ∃ l5 : List (Int × Nat), l5 = [] := ⟨_, rfl⟩
                  have Hz5 : Hid (0 = l5.length) := Lib.hid (by rw [hl5]; rfl)
                  rw [← hl5] at HPn
                  clear hq5 hf5 HC HP1 HX1 hl5
                  go_upto_region 27 with fail
                  obtain ⟨T, hT⟩ : ∃ T : Int → Bool, T = fun y => decide (y ∈ l5.map Prod.fst) := ⟨_, rfl⟩
                  have HT := Lib.hid hT
                  clear hT
                  have HPl := Lib.hid fun (V : World) (hV : Below (w5).heap.size w5 V) => HPn.out.below hV
                  have C1 : Hid (∀ d os, Calls Try.prog 12 #[ptr Q0] (grow (redrawn w5 d) os) fun e w'' => e = .returned (.int .i64 (0 : Nat)) ∧ ∃ p : Regrown, w'' = grow (redrawn w5 p.d) p.os) := Lib.hid fun d os => Calls.regrown_of (by
                    have := len_q (HPl.out _ (below_regrown _ d os)).isq
                    rw [HQ5.out, ← Hz5.out] at this
                    exact this.mono fun _ _ h => ⟨h.1, h.2 ▸ Below.refl _ _⟩)
                  have C2 : Hid (∀ y, (Lit.int .i64 y).wf = true → ∀ d os, Calls Try.prog 13 #[ptr Q0, .int .i64 y] (grow (redrawn w5 d) os) fun e w'' => e = .returned (.bool (T y)) ∧ ∃ p : Regrown, w'' = grow (redrawn w5 p.d) p.os) := Lib.hid fun y hy d os => Calls.regrown_of (by
                    have := has_q (HPl.out _ (below_regrown _ d os)).isq y hy
                    rw [HQ5.out] at this
                    rw [HT.out]
                    exact this)
                  have C3 : Hid (∀ y, ∀ d os, Calls Try.prog 14 #[.slice none 0 0, .int .i64 y] (grow (redrawn w5 d) os) fun e w'' => e = .returned (.bool (T y)) ∧ ∃ p : Regrown, w'' = grow (redrawn w5 p.d) p.os) := Lib.hid fun y d os => Calls.regrown_of (by
                    have := refhas 0 none 0 0 l5 y _ Hz5.out (HPl.out _ (below_regrown _ d os)).ref (by omega)
                    rw [HT.out]
                    exact this.mono fun _ _ h => ⟨h.1, h.2 ▸ Below.refl _ _⟩)
                  have B5 := cell_regrown (HX5.out.cell 1 : (w5).cell? ⟨wo.heap.size, 1, none⟩ = some (.int .i64 x))
                  have Hw : Hid ((Lit.int .i64 x).wf = true ∧ (Lit.int .i64 (max 0 x % 20)).wf = true) := Lib.hid ⟨wf_of HA.out.x0 HA.out.x1, wf_of (by omega) (by omega)⟩
                  have C2a := Lib.hid (C2.out x Hw.out.1)
                  have C2b := Lib.hid (C2.out (max 0 x % 20) Hw.out.2)
                  have hne1 : (T x != T x) = false := by simp
                  have hne2 : (T (max 0 x % 20) != T (max 0 x % 20)) = false := by simp
                  have hne3 : (((0 : Nat) : Int) != ((0 : Nat) : Int)) = false := by simp
                  clear C2 Hw
                  refine wp_region_quiet_below (by kernel_rfl) (by kernel_rfl) ?_
                  repeat (first | go_big_quiet_step ((first | (go_at_call 12; with_reducible exact C1.out _ _) | (go_at_call 13; with_reducible exact C2a.out _ _) | (go_at_call 13; with_reducible exact C2b.out _ _) | (go_at_call 14; with_reducible exact C3.out _ _ _))) | quiet_step ((first | (go_at_call 12; with_reducible exact C1.out _ _) | (go_at_call 13; with_reducible exact C2a.out _ _) | (go_at_call 13; with_reducible exact C2b.out _ _) | (go_at_call 14; with_reducible exact C3.out _ _ _))))
                  refine wpQuiet_nil ?_
                  intro _ hw'
                  obtain ⟨⟨dq, osq⟩, hw''⟩ := hw'
                  subst hw''
                  have HN5 := Lib.hid (HPl.out _ (below_regrown w5 dq osq))
                  generalize grow (redrawn w5 dq) osq = W6 at *
                  clear B5 C1 C2a C2b C3 HPl
                  go_wp2_with fail
                  go_roundw
                  case rel => exact ⟨k + 1, by omega, by go_num, Lib.hid ⟨_, _, HN5.out, HQ5.out⟩⟩
                  case measure => simp [intOf]; omega
              · have q3 : (kd % 6 == 3) = false := by simp; omega
                have q4 : (kd % 6 == 4) = false := by simp; omega
                have q5 : (kd % 6 == 5) = false := by simp; omega
                clear d3 d4 d5
                go_wp2_with fail
                have K2 := below1 (wo.alloc (.cells #[.int .u8 kd, .int .i64 x, .int .i64 b, .int .u8 N] 27)) (.cells #[.int .i64 x, .int .i64 (max 0 x % 20)] 3)
                have HP2 := Lib.hid (HP1.out.below K2)
                have HX2 := Lib.hid (HX1.out.below K2)
                have HY2 := Lib.hid (Blk.new (wo.alloc (.cells #[.int .u8 kd, .int .i64 x, .int .i64 b, .int .u8 N] 27)) #[.int .i64 x, .int .i64 (max 0 x % 20)] 3)
                have HO2 : Hid (¬ q.own (wo.alloc (.cells #[.int .u8 kd, .int .i64 x, .int .i64 b, .int .u8 N] 27)).heap.size) := Lib.hid (fun ho => by have := HP1.out.isq.lt _ ho; omega)
                rw [show (wo.alloc (.cells #[.int .u8 kd, .int .i64 x, .int .i64 b, .int .u8 N] 27)).heap.size = wo.heap.size + 1 by simp] at HY2 HO2
                clear K2 HP1 HX1 y0 y1 y2 y3
                go_loopw [7, 45] (fun lv i wr => ∃ j : Nat, j ≤ 2 ∧ i = .int .i64 (j : Nat) ∧ Hid (Blk wr (wo.heap.size + 1) #[.int .i64 x, .int .i64 (max 0 x % 20)] 3 ∧ Blk wr wo.heap.size #[.int .u8 kd, .int .i64 x, .int .i64 b, .int .u8 N] 27 ∧ ∃ q l, Pq w wr sz q l lv (2 * k + j) ∧ q.Q = Q0 ∧ ¬ q.own (wo.heap.size + 1))) (fun _ i _ => 2 - (intOf i).toNat)
                case atStart => exact ⟨0, by omega, rfl, Lib.hid ⟨HY2.out, HX2.out, _, _, HP2.out, HQ.out, HO2.out⟩⟩
                case round =>
                  clear HP2 HX2 HY2 HO2
                  obtain ⟨wb, rfl⟩ : ∃ wb, wb = wr := ⟨_, rfl⟩
                  obtain ⟨j, hj, rfl, HH⟩ := hrel
                  obtain ⟨hY, hX, q7, l3, hP3, hQ3, hO3⟩ := HH.out
                  obtain ⟨A3, c3, e⟩ := hP3.shape
                  obtain ⟨z3, hz3⟩ : ∃ z3, z3 = l3.length := ⟨_, rfl⟩
                  rw [← hz3] at e
                  subst e
                  have hz3b : z3 ≤ 122 := by rw [hz3]; have := hP3.len; omega
                  have HP3 := Lib.hid hP3
                  have HX3 := Lib.hid hX
                  have HY3 := Lib.hid hY
                  have HQ3 := Lib.hid hQ3
                  have HO3 := Lib.hid hO3
                  have Hz3 := Lib.hid hz3
                  clear hP3 hX hY hQ3 hO3 hz3 HH
                  by_cases hj2 : j < 2
                  · obtain ⟨m, hm, hmw⟩ : ∃ m : Int, wb.cell? ⟨wo.heap.size + 1, j, none⟩ = some (.int .i64 m) ∧ (Lit.int .i64 m).wf = true := by
                      match j, hj2 with
                      | 0, _ => exact ⟨_, HY3.out.cell 0, wf_of HA.out.x0 HA.out.x1⟩
                      | 1, _ => exact ⟨_, HY3.out.cell 1, wf_of (by omega) (by omega)⟩
                    have hji : (j : Int) < 2 := by omega
                    have a2 : wb.cell? ⟨wo.heap.size, 2, none⟩ = some (.int .i64 b) := HX3.out.cell 2
                    have HRP := Lib.hid (refpush_any A3 z3 c3 l3 sz m b wb Hz3.out HP3.out.ref (by omega))
                    have Hmw := Lib.hid hmw
                    clear hmw
                    obtain ⟨t, ht⟩ : ∃ t, t = taken sz l3 m := ⟨_, rfl⟩
                    rw [← ht] at HRP
                    have Ht := Lib.hid ht
                    have hne : (t != t) = false := by simp
                    clear ht
                    go_wp2_with fail
                    refine HRP.out.mono ?_
                    rintro e w5 ⟨A5, n5, c5, rfl, hr5, hb5⟩
                    have HI5 := Lib.hid (HP3.out.isq.below hb5)
                    have HX5 := Lib.hid (HX3.out.below hb5)
                    have HY5 := Lib.hid (HY3.out.below hb5)
                    have HR5 := Lib.hid hr5
                    have HP5 := Lib.hid (HP3.out.below hb5)
                    have a5 : w5.cell? ⟨wo.heap.size, 2, none⟩ = some (.int .i64 b) := HX5.out.cell 2
                    have HPu := Lib.hid (push_any HI5.out m b Hmw.out (by have := HP3.out.len; omega))
                    rw [HQ3.out, HP3.out.n, ← Ht.out] at HPu
                    clear hr5 hb5 HRP hm a2 HX3 HY3
                    go_wp2_with fail
                    refine HPu.out.mono ?_
                    rintro e w6 ⟨rfl, q6, hq6, hf6⟩
                    have HX6 := Lib.hid (hf6.blk HX5.out (HI5.out.out HX5.out (by decide) (by decide)))
                    have HY6 := Lib.hid (hf6.blk HY5.out HO3.out)
                    have HO6 := Lib.hid (hf6.out HY5.out HO3.out)
                    have HQ6 : Hid (q6.Q = Q0) := Lib.hid (hf6.Q.trans HQ3.out)
                    have HP6 := Lib.hid (HP5.out.fq hq6 hf6 (HR5.out.fq HI5.out hf6) (by have h1 := after_len sz l3 m b; have h2 := HP3.out.len; show _ ≤ 2 * k + (j + 1); omega))
                    clear hq6 hf6 HI5 HX5 HY5 HR5 HP5 a5 HPu HP3 HQ3 HO3 Hz3
                    go_wp2_with fail
                    go_roundw
                    case rel => exact ⟨j + 1, by omega, by go_num, Lib.hid ⟨HY6.out, HX6.out, _, _, HP6.out, HQ6.out, HO6.out⟩⟩
                    case measure => simp [intOf]; omega
                  · have hji : ¬ ((j : Int) < 2) := by omega
                    go_upto_region 27 with fail
                    have HPn := Lib.hid (HP3.out.more (show 2 * k + j ≤ 2 * (k + 1) by omega))
                    clear HP3 HY3 HO3 HQ
                    obtain ⟨T, hT⟩ : ∃ T : Int → Bool, T = fun y => decide (y ∈ l3.map Prod.fst) := ⟨_, rfl⟩
                    have HT := Lib.hid hT
                    clear hT
                    have HPl := Lib.hid fun (V : World) (hV : Below (wb).heap.size wb V) => HPn.out.below hV
                    have C1 : Hid (∀ d os, Calls Try.prog 12 #[ptr Q0] (grow (redrawn wb d) os) fun e w'' => e = .returned (.int .i64 (z3 : Nat)) ∧ ∃ p : Regrown, w'' = grow (redrawn wb p.d) p.os) := Lib.hid fun d os => Calls.regrown_of (by
                      have := len_q (HPl.out _ (below_regrown _ d os)).isq
                      rw [HQ3.out, ← Hz3.out] at this
                      exact this.mono fun _ _ h => ⟨h.1, h.2 ▸ Below.refl _ _⟩)
                    have C2 : Hid (∀ y, (Lit.int .i64 y).wf = true → ∀ d os, Calls Try.prog 13 #[ptr Q0, .int .i64 y] (grow (redrawn wb d) os) fun e w'' => e = .returned (.bool (T y)) ∧ ∃ p : Regrown, w'' = grow (redrawn wb p.d) p.os) := Lib.hid fun y hy d os => Calls.regrown_of (by
                      have := has_q (HPl.out _ (below_regrown _ d os)).isq y hy
                      rw [HQ3.out] at this
                      rw [HT.out]
                      exact this)
                    have C3 : Hid (∀ y, ∀ d os, Calls Try.prog 14 #[.slice A3 z3 c3, .int .i64 y] (grow (redrawn wb d) os) fun e w'' => e = .returned (.bool (T y)) ∧ ∃ p : Regrown, w'' = grow (redrawn wb p.d) p.os) := Lib.hid fun y d os => Calls.regrown_of (by
                      have := refhas 0 A3 z3 c3 l3 y _ Hz3.out (HPl.out _ (below_regrown _ d os)).ref (by omega)
                      rw [HT.out]
                      exact this.mono fun _ _ h => ⟨h.1, h.2 ▸ Below.refl _ _⟩)
                    have B5 := cell_regrown (HX3.out.cell 1 : (wb).cell? ⟨wo.heap.size, 1, none⟩ = some (.int .i64 x))
                    have Hw : Hid ((Lit.int .i64 x).wf = true ∧ (Lit.int .i64 (max 0 x % 20)).wf = true) := Lib.hid ⟨wf_of HA.out.x0 HA.out.x1, wf_of (by omega) (by omega)⟩
                    have C2a := Lib.hid (C2.out x Hw.out.1)
                    have C2b := Lib.hid (C2.out (max 0 x % 20) Hw.out.2)
                    have hne1 : (T x != T x) = false := by simp
                    have hne2 : (T (max 0 x % 20) != T (max 0 x % 20)) = false := by simp
                    have hne3 : (((z3 : Nat) : Int) != ((z3 : Nat) : Int)) = false := by simp
                    clear C2 Hw
                    refine wp_region_quiet_below (by kernel_rfl) (by kernel_rfl) ?_
                    repeat (first | go_big_quiet_step ((first | (go_at_call 12; with_reducible exact C1.out _ _) | (go_at_call 13; with_reducible exact C2a.out _ _) | (go_at_call 13; with_reducible exact C2b.out _ _) | (go_at_call 14; with_reducible exact C3.out _ _ _))) | quiet_step ((first | (go_at_call 12; with_reducible exact C1.out _ _) | (go_at_call 13; with_reducible exact C2a.out _ _) | (go_at_call 13; with_reducible exact C2b.out _ _) | (go_at_call 14; with_reducible exact C3.out _ _ _))))
                    refine wpQuiet_nil ?_
                    intro _ hw'
                    obtain ⟨⟨dq, osq⟩, hw''⟩ := hw'
                    subst hw''
                    have HN5 := Lib.hid (HPl.out _ (below_regrown wb dq osq))
                    generalize grow (redrawn wb dq) osq = W6 at *
                    clear B5 C1 C2a C2b C3 HPl
                    go_wp2_with fail
                    go_roundw
                    case rel => exact ⟨k + 1, by omega, by go_num, Lib.hid ⟨_, _, HN5.out, HQ3.out⟩⟩
                    case measure => simp [intOf]; omega
        · go_wp2_with fail
          refine (wakes_true _).mono ?_
          rintro e w5 ⟨rfl, hb5⟩
          go_wp2_with fail
          go_ret
          exact ⟨rfl, HP.out.low.trans (hb5.mono HP.out.low.size)⟩
end Go.Proofs.Ytfbpdkajonpphaa
