/- The walk of QueueOnce. -/
import Derived.Test.YtfbpdkajonpphaaOq
import Derived.Lib.MinMax
namespace Go.Proofs.Ytfbpdkajonpphaa
open Go.RowKit Go.Maps

theorem bk_eq (b : Int) : max 0 (min b 3) = ((bk b : Nat) : Int) := by
  unfold bk
  omega

set_option maxHeartbeats 4000000 in
set_option maxRecDepth 100000 in
theorem once_walk (O : Option Addr) (no co mo : Nat) (w : World) (ho : ActsIn w O no) (hoc : no ≤ co) (hmo : min (no : Int) 40 = (mo : Int)) (hO : no = 0 ∨ ∃ ad, O = some ad) :
    Calls Try.prog 4 #[.slice O no co] w fun e w' => e = .returned (.bool true) ∧ Below w.heap.size w w' := by
  have Ho := Lib.hid ho
  have hmo1 : mo ≤ no := by omega
  have hmo2 : mo ≤ 40 := by omega
  have hmm := @run_makeMap Try.prog
  clear ho
  go_enter Try.func4, Try.ntmps4
  go_wp2_with fail
  refine (new_any w 20).mono ?_
  rintro e w1 ⟨q0, rfl, hn, h1, hb1, ho1⟩
  obtain ⟨Q0, hQ0⟩ : ∃ Q0, q0.Q = Q0 := ⟨_, rfl⟩
  rw [hQ0]
  have K1 := below1 w1 (.map #[] 0)
  have HP : Hid (Oq w (w1.alloc (.map #[] 0)) Q0 w1.heap.size q0 []) := Lib.hid ⟨h1.below K1, Bm.new w1, hQ0, hn, ho1, fun ho => by have := h1.lt _ ho; omega, hb1.size, hb1.trans (K1.mono hb1.size)⟩
  obtain ⟨M, hM⟩ : ∃ M, M = w1.heap.size := ⟨_, rfl⟩
  rw [← hM] at HP
  have HM := Lib.hid hM
  clear h1 hb1 ho1 hn hQ0 K1 hM
  go_upto_region 3 with fail
  rw [← HM.out]
  go_cut [23, 24, 25] (fun a b i wx => a = .slice O mo co ∧ b = .int .i64 (mo : Nat) ∧ i = .int .i64 0 ∧ wx = w1.alloc (.map #[] 0))
  case first =>
    cases O
    all_goals
      go_wp2_with fail
      go_meet
      case rel => exact ⟨rfl, rfl, rfl, rfl⟩
  case rest =>
    obtain ⟨rfl, rfl, rfl, rfl⟩ := hcut
    generalize w1.alloc (.map #[] 0) = wc at *
    go_wp2_with fail
    go_loopw [25] (fun i wr => ∃ k : Nat, k ≤ mo ∧ i = .int .i64 (k : Nat) ∧ Hid (∃ q l, Oq w wr Q0 M q l ∧ l.length ≤ k)) (fun i _ => mo - (intOf i).toNat)
    case atStart => exact ⟨0, Nat.zero_le _, rfl, Lib.hid ⟨_, _, HP.out, Nat.le_refl _⟩⟩
    case round =>
      clear HP HM
      obtain ⟨wo, rfl⟩ : ∃ wo, wo = wr := ⟨_, rfl⟩
      obtain ⟨k, hk, rfl, HH⟩ := hrel
      obtain ⟨q, l, hP, hlk⟩ := HH.out
      have HP := Lib.hid hP
      have Hl := Lib.hid hlk
      clear hP HH hlk
      by_cases hlt : k < mo
      · obtain ⟨ad, rfl⟩ : ∃ ad, O = some ad := by
          rcases hO with h0 | h0
          · omega
          · exact h0
        obtain ⟨kd, x, b, N, y0, y1, y2, y3, hA⟩ := Ho.out.at HP.out.low (k := k) (by omega)
        have HA := Lib.hid hA
        have hki : (k : Int) < (mo : Nat) := by omega
        have K1 := below1 wo (.cells #[.int .u8 kd, .int .i64 x, .int .i64 b, .int .u8 N] 27)
        have HP1 := Lib.hid (HP.out.below K1)
        have HX1 := Lib.hid (Blk.new wo #[.int .u8 kd, .int .i64 x, .int .i64 b, .int .u8 N] 27)
        have hwf : (Lit.int .i64 (max 0 x % 20)).wf = true := wf_of (by omega) (by omega)
        have Hwf := Lib.hid hwf
        have hkey := key_mk hwf
        obtain ⟨D, hD, hBm⟩ := HP1.out.bm
        have Hid0 : Hid (0 ≤ max 0 x % 20 ∧ max 0 x % 20 < 20) := Lib.hid (by omega)
        have hh := hBm.1 (max 0 x % 20)
        clear hA K1 HP hBm hwf
        by_cases hmem : max 0 x % 20 ∈ l.map Prod.fst
        · rw [decide_eq_true hmem] at hh
          have HPu := Lib.hid (push_there HP1.out.isq (max 0 x % 20) b Hwf.out (by have := Hid0.out; simp; omega) (by rw [HP1.out.n]; have := Hid0.out; simp; omega) hmem)
          rw [HP1.out.Q] at HPu
          clear hmem
          go_wp2_with (first | (at_lookup; refine wpList_lookup_own_ok_int _ rfl _ _ 41 rfl 3 3 .i64 law3 Try.underlying41 Try.underlying3 (zero3 _) M (size D) D rfl hD _ _ rfl hkey ?_; intro c hat hwc) | fail)
          refine HPu.out.mono ?_
          rintro e w5 ⟨rfl, hb5⟩
          have HP5 := Lib.hid (HP1.out.below hb5)
          clear hb5 HPu HP1 HX1 hD hat hwc y0 y1 y2 y3
          go_wp2_with fail
          go_roundw
          case rel => exact ⟨k + 1, by omega, by go_num, Lib.hid ⟨_, _, HP5.out, by have := Hl.out; omega⟩⟩
          case measure => simp [intOf]; omega
        · rw [decide_eq_false hmem] at hh
          have HPu := Lib.hid (push_yes HP1.out.isq (max 0 x % 20) b Hwf.out (by have := Hid0.out; simp; omega) (by rw [HP1.out.n]; have := Hid0.out; simp; omega) hmem (by have := Hl.out; omega))
          rw [HP1.out.Q] at HPu
          have Hmem := Lib.hid hmem
          clear hmem
          go_wp2_with (first | (at_lookup; refine wpList_lookup_own_ok_int _ rfl _ _ 41 rfl 3 3 .i64 law3 Try.underlying41 Try.underlying3 (zero3 _) M (size D) D rfl hD _ _ rfl hkey ?_; intro c hat hwc) | fail)
          refine HPu.out.mono ?_
          rintro e w5 ⟨rfl, v5, hq5, hf5⟩
          have HX5 := Lib.hid (hf5.blk HX1.out (HP1.out.isq.out HX1.out (by decide) (by decide)))
          have a2 : w5.cell? ⟨wo.heap.size, 2, none⟩ = some (.int .i64 b) := HX5.out.cell 2
          obtain ⟨D5, hD5, hlt5, hfin⟩ := HP1.out.push hq5 hf5 Hmem.out (by have := Hl.out; omega)
          have HFin := Lib.hid hfin
          have hval : plainElem (H := Unit) Try.prog 3 (.int .i64 (max 0 (min b 3))) = some (num (bk b : Nat), []) := by rw [bk_eq]; exact plainElem_int Try.underlying3 (wf_of (by omega) (by have := bk_lt b; omega))
          clear hq5 hf5 HPu HP1 HX1 hD hat hwc y0 y1 y2 y3 hfin
          go_wp2_with (first | (at_mapUpdate; refine wpList_mapUpdate_in _ rfl _ _ _ 41 rfl 3 3 law3 Try.underlying41 _ M (size D5) D5 rfl hD5 hlt5 _ _ _ rfl rfl hkey _ _ hval ?_; intro w6 hown6 ht6) | fail)
          have HP6 := Lib.hid (HFin.out w6 hown6 ht6)
          clear hown6 ht6 hD5 hlt5 HFin a2 HX5
          go_wp2_with fail
          go_roundw
          case rel => exact ⟨k + 1, by omega, by go_num, Lib.hid ⟨_, _, HP6.out, by have := Hl.out; simp; omega⟩⟩
          case measure => simp [intOf]; omega
      · obtain ⟨D, hD, hBm⟩ := HP.out.bm
        have hsz : size D = l.length := hBm.2.2
        obtain ⟨n0, hn0⟩ : ∃ n0, n0 = l.length := ⟨_, rfl⟩
        have hn40 : n0 ≤ 40 := by rw [hn0]; have := Hl.out; omega
        rw [← hn0] at hsz
        have Hn0 := Lib.hid hn0
        clear hn0 hBm
        go_wp2_with (first | (at_len; refine wpList_len_own _ rfl _ 41 rfl 3 3 Try.underlying41 _ M (size D) D rfl hD ?_) | fail)
        clear hD hsz
        go_loopw [10, 57] (fun t i wr => ∃ (j last : Nat), j ≤ n0 ∧ i = .int .i64 (j : Nat) ∧ t = .int .i64 (last : Nat) ∧ Hid (∃ q l, Oq w wr Q0 M q l ∧ l.length + j = n0 ∧ ∀ p ∈ l, last ≤ p.2)) (fun _ i _ => n0 - (intOf i).toNat)
        case atStart => exact ⟨0, 0, Nat.zero_le _, rfl, rfl, Lib.hid ⟨_, _, HP.out, by rw [Hn0.out]; rfl, fun _ _ => Nat.zero_le _⟩⟩
        case round =>
          clear HP Hl Hn0
          obtain ⟨wi, rfl⟩ : ∃ wi, wi = wr := ⟨_, rfl⟩
          obtain ⟨j, last, hj, rfl, rfl, HH⟩ := hrel
          obtain ⟨q3, l3, hP, hlj, hla⟩ := HH.out
          have HP := Lib.hid hP
          have Hlj := Lib.hid hlj
          have Hla := Lib.hid hla
          clear hP HH hlj hla
          by_cases hjn : j < n0
          · have hji : (j : Int) < (n0 : Nat) := by omega
            have hji' : decide (j < n0) = true := by simpa using hjn
            obtain ⟨l1, l2, px, pb, hMo⟩ := most_of (l := l3) (by intro e; have := Hlj.out; rw [e] at this; simp at this; omega)
            have HMo := Lib.hid hMo
            have HPo := Lib.hid (pop_most HP.out.isq hMo)
            rw [HP.out.Q] at HPo
            clear hMo
            go_wp2_with fail
            refine HPo.out.mono ?_
            rintro e w5 ⟨rfl, v5, hq5, hf5⟩
            obtain ⟨D5, hD5, hh5, hat5, hx5, hfin⟩ := HP.out.pop hq5 hf5 HMo.out.eq
            have hwf : (Lit.int .i64 px).wf = true := HP.out.isq.wf (px, pb) HMo.out.mem
            have hkey := key_mk hwf
            have hd5 := hD5 w5 (Below.refl _ _)
            have HQ5 : Hid ((q3.put pb v5).Q = Q0) := Lib.hid (hf5.Q.trans HP.out.Q)
            have Hh := Lib.hid (has_q hq5 px hwf)
            rw [decide_eq_false hx5, HQ5.out] at Hh
            have HD5 := Lib.hid hD5
            have HFin := Lib.hid hfin
            have Hat5 := Lib.hid hat5
            have hlast : decide (pb < last) = false := by have := Hla.out (px, pb) HMo.out.mem; simp; omega
            clear hq5 hf5 HPo hfin hD5 hx5 hwf hat5
            go_wp2_with (first | (at_lookup; refine wpList_lookup_own_ok_int _ rfl _ _ 41 rfl 3 3 .i64 law3 Try.underlying41 Try.underlying3 (zero3 _) M (size D5) D5 rfl hd5 _ _ rfl hkey ?_; intro c hat hwc; obtain rfl : c = ((pb : Nat) : Int) := (by have e := Hat5.out.symm.trans hat; injection e with e; injection e with _ e; exact e.symm); clear hat hwc) | fail)
            refine Hh.out.mono ?_
            rintro e w6 ⟨rfl, hb6⟩
            have hd6 := HD5.out w6 hb6
            have Hb6 := Lib.hid hb6
            clear hd5 hb6 Hh
            go_wp2_with (first | (at_delete; refine wpList_delete_own _ rfl _ _ 41 3 rfl 3 law3 Try.underlying41 _ M (size D5) D5 rfl hd6 _ _ rfl hkey ?_; intro w7 hown7 ht7) | fail)
            have HP7 := Lib.hid (HFin.out w6 Hb6.out w7 hown7 ht7)
            clear hown7 ht7 hd6 HFin HD5 hh5 Hb6
            go_wp2_with fail
            go_roundw
            case rel =>
              refine ⟨j + 1, pb, by omega, by go_num, rfl, Lib.hid ⟨_, _, HP7.out, ?_, fun p hp => ?_⟩⟩
              · have h1 := Hlj.out
                rw [HMo.out.eq] at h1
                simp at h1 ⊢
                omega
              · refine HMo.out.low p ?_
                rw [HMo.out.eq]
                rcases List.mem_append.1 hp with hp | hp
                · exact List.mem_append_left _ hp
                · exact List.mem_append_right _ (List.mem_cons_of_mem _ hp)
            case measure => simp [intOf]; omega
          · have hji : decide (j < n0) = false := by simpa using hjn
            have hnil : l3 = [] := List.eq_nil_of_length_eq_zero (by have := Hlj.out; omega)
            subst hnil
            have HPo := Lib.hid (pop_none HP.out.isq)
            rw [HP.out.Q] at HPo
            go_wp2_with fail
            refine HPo.out.mono ?_
            rintro e w5 ⟨rfl, rfl⟩
            go_wp2_with fail
            refine (wakes_true _).mono ?_
            rintro e w5 ⟨rfl, hb5⟩
            have HP5 := Lib.hid (HP.out.below hb5)
            have HL := Lib.hid (len_q HP5.out.isq)
            rw [HP5.out.Q] at HL
            clear hb5 HPo HP
            go_wp2_with fail
            refine HL.out.mono ?_
            rintro e w6 ⟨rfl, rfl⟩
            obtain ⟨D, hD, hBm⟩ := HP5.out.bm
            have hsz : size D = 0 := hBm.2.2
            have hlen : (Builtin.len_ #[41] 3 #[.map (some M)]).run Try.prog w5 = .ok (.int .i64 0) w5 := by rw [hD.len Try.underlying41, hsz]; rfl
            clear hBm HL hD hsz
            go_wp2_with fail
            go_ret
            exact ⟨rfl, HP5.out.low⟩
end Go.Proofs.Ytfbpdkajonpphaa
