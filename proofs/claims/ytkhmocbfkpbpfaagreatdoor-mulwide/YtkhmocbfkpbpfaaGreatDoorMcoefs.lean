/- Contract: the document's Coefs. -/
import Derived.Test.YtkhmocbfkpbpfaaGreatDoorMshapes
import Derived.Deep.DeepCutAuto
namespace Go.Proofs.YtkhmocbfkpbpfaaGreatDoor
open Go.RowKit Go.Sort

theorem take_no {p : Int → Bool} {L : List Int} {k : Nat} (hk : k ≤ L.length) (h : anyTo p L k) : (L.take k).any p = false := by
  apply any_no
  intro j hj
  rw [List.length_take] at hj
  rw [List.getD_eq_getElem?_getD, List.getElem?_take, if_pos (by omega), ← List.getD_eq_getElem?_getD]
  exact h j (by omega)
theorem take_yes {p : Int → Bool} {L : List Int} {k j : Nat} (hk : k ≤ L.length) (hj : j < k) (h : p (L.getD j 0) = true) : (L.take k).any p = true := by
  refine any_yes (k := j) (by rw [List.length_take]; omega) ?_
  rw [List.getD_eq_getElem?_getD, List.getElem?_take, if_pos hj, ← List.getD_eq_getElem?_getD]
  exact h

set_option maxHeartbeats 16000000 in
set_option maxRecDepth 100000 in
theorem coefs_any (v : ConV) (c : ConL) (w : World) (h : ConIn w v c) (hg : c.kind = 21 → c.D.length = c.C.length ∧ c.E.length = c.C.length) : Calls Tryz.prog 131 #[v.val c.kind c.K] w fun e w' => e = .returned (.bool (coefsB c)) ∧ Below w.heap.size w w' := by
  have HNO := Lib.hid (fun k => counts_no (c := c) (k := k))
  have HYES := Lib.hid (counts_yes (c := c))
  have HOK : Hid (∀ j, cntOK c j = (decide (c.D.getD j 0 ≤ c.E.getD j 0) && !(c.C.take j).any (· == c.C.getD j 0))) := Lib.hid (fun j => rfl)
  have C1 : Hid (∀ W, Below w.heap.size w W → Calls Tryz.prog 130 #[.slice v.c.A v.c.n v.c.c, .int .i64 (lowC c), .int .i64 1000000] W fun e w' => e = .returned (.bool (!c.C.any (outB (lowC c) 1000000))) ∧ W = w') := Lib.hid (fun W hW => refIn_any v.c c.C (lowC c) 1000000 W (h.c.below hW))
  have C2 : Hid (∀ W, Below w.heap.size w W → Calls Tryz.prog 130 #[.slice v.d.A v.d.n v.d.c, .int .i64 (secD c), .int .i64 1000000] W fun e w' => e = .returned (.bool (!c.D.any (outB (secD c) 1000000))) ∧ W = w') := Lib.hid (fun W hW => refIn_any v.d c.D (secD c) 1000000 W (h.d.below hW))
  have C3 : Hid (∀ W, Below w.heap.size w W → Calls Tryz.prog 130 #[.slice v.e.A v.e.n v.e.c, .int .i64 (secD c), .int .i64 1000000] W fun e w' => e = .returned (.bool (!c.E.any (outB (secD c) 1000000))) ∧ W = w') := Lib.hid (fun W hW => refIn_any v.e c.E (secD c) 1000000 W (h.e.below hW))
  have hR := h.r
  have HC := Lib.hid h.c
  have HD := Lib.hid h.d
  have HE := Lib.hid h.e
  have hcbig := h.c.big
  have HG : Hid (c.kind = 21 → v.d.n = v.c.n ∧ v.e.n = v.c.n) := Lib.hid (fun q => by
    rw [h.d.len, h.e.len, h.c.len]
    exact hg q)
  have HLC : Hid (v.c.n = c.C.length) := Lib.hid h.c.len
  have hlc : Hid (lowC c = if c.kind = 19 then 0 else -1000000) := Lib.hid rfl
  have hlk : Hid (lowK c = if c.kind = 19 then 0 else -9999999999) := Lib.hid rfl
  have hls : Hid (secD c = if c.kind = 19 ∨ c.kind = 21 then 0 else -1000000) := Lib.hid rfl
  have hres : Hid (coefsB c = (!c.C.any (outB (lowC c) 1000000) && !c.D.any (outB (secD c) 1000000) && !c.E.any (outB (secD c) 1000000) && !outB (lowK c) 9999999999 c.K && !c.rows.any (fun r => r.any (outB (-1000000) 1000000)) && (c.kind != 21 || countsB c))) := Lib.hid rfl
  generalize coefsB c = RES at hres ⊢
  generalize lowC c = LC at hres C1 hlc
  generalize lowK c = LK at hres hlk
  generalize secD c = LS at hres C2 C3 hls
  generalize (!c.C.any (outB LC 1000000)) = t1 at hres C1
  generalize (!c.D.any (outB LS 1000000)) = t2 at hres C2
  generalize (!c.E.any (outB LS 1000000)) = t3 at hres C3
  generalize countsB c = t6 at hres HNO HYES
  generalize hRR : c.rows = RR at *
  obtain ⟨hrn, hrbig, hrl⟩ := hR
  have HRL := Lib.hid hrl
  have HRN : Hid (v.r.n = RR.length) := Lib.hid hrn
  clear hrl hrn hRR h hg
  generalize c.kind = kd at *
  generalize c.K = kk at *
  obtain ⟨wb, hwb⟩ : ∃ wb, (w.alloc (.cells (v.cells kd kk) 32)) = wb := ⟨_, rfl⟩
  have Bb : Hid (Below (w.heap.size + 1) (w.alloc (.cells (v.cells kd kk) 32)) wb) := Lib.hid (by rw [← hwb, show w.heap.size + 1 = (w.alloc (.cells (v.cells kd kk) 32)).heap.size by simp]; exact Below.refl _ _)
  have HWB := Lib.hid hwb
  clear hwb
  go_enter Tryz.func131, Tryz.ntmps131
  go_upto_region 1 with fail
  change Code.wp _ _ _ _ (w.alloc (.cells (v.cells kd kk) 32))
  rw [HWB.out]
  clear HWB
  obtain ⟨c0, c1, c2, c3, c4, c5, c6, c7⟩ := box8 Bb.out
  go_upto_if 15 with fail
  go_cut [3, 4, 5] (fun a3 a4 a5 wx => a3 = .int .i64 LC ∧ (∃ z, a4 = .int .i64 z ∧ (kd = 19 → z = 0) ∧ (kd ≠ 19 → z = -1000000)) ∧ a5 = .int .i64 LK ∧ wb = wx)
  case first =>
    by_cases h19 : kd = 19
    · have hb : (kd == 19) = true := by simpa using h19
      have h1 := hlc.out
      have h2 := hlk.out
      rw [if_pos h19] at h1 h2
      subst h1 h2
      go_wp2_with fail
      go_meet
      case rel => exact ⟨rfl, ⟨_, rfl, fun _ => rfl, fun q => absurd h19 q⟩, rfl, by first | rfl | trivial⟩
    · have hb : (kd == 19) = false := by simpa using h19
      have h1 := hlc.out
      have h2 := hlk.out
      rw [if_neg h19] at h1 h2
      subst h2
      subst h1
      go_wp2_with fail
      go_meet
      case rel => exact ⟨rfl, ⟨_, rfl, fun q => absurd q h19, fun _ => rfl⟩, rfl, by first | rfl | trivial⟩
  case rest =>
    obtain ⟨rfl, ⟨z, rfl, hz1, hz2⟩, rfl, rfl⟩ := hcut
    have HZ : Hid ((kd = 21 → LS = 0) ∧ (kd ≠ 21 → z = LS)) := Lib.hid ⟨fun q => by rw [hls.out, if_pos (.inr q)], fun q => by
      rw [hls.out]
      by_cases h19 : kd = 19
      · rw [if_pos (.inl h19), hz1 h19]
      · rw [if_neg (by omega), hz2 h19]⟩
    clear hz1 hz2
    go_upto_if 18 with fail
    go_cut [4] (fun a4 wx => a4 = .int .i64 LS ∧ wb = wx)
    case first =>
      by_cases h21 : kd = 21
      · have hb : (kd == 21) = true := by simpa using h21
        have HS := Lib.hid (HZ.out.1 h21)
        clear h21 HZ
        go_wp2_with fail
        go_meet
        case rel => exact ⟨by rw [HS.out], by first | rfl | trivial⟩
      · have hb : (kd == 21) = false := by simpa using h21
        have HS := Lib.hid (HZ.out.2 h21)
        clear h21 HZ
        go_wp2_with fail
        go_meet
        case rel => exact ⟨by rw [HS.out], by first | rfl | trivial⟩
    case rest =>
      obtain ⟨rfl, rfl⟩ := hcut
      clear HZ
      go_wp2_with fail
      refine (C1.out _ (of_boxed Bb.out)).mono ?_
      rintro e w' ⟨rfl, rfl⟩
      go_wp2_with fail
      refine (C2.out _ (of_boxed Bb.out)).mono ?_
      rintro e w' ⟨rfl, rfl⟩
      go_wp2_with fail
      refine (C3.out _ (of_boxed Bb.out)).mono ?_
      rintro e w' ⟨rfl, rfl⟩
      generalize hT13 : (!t1 || !t2 || !t3 || decide (kk < LK) || decide (9999999999 < kk)) = T13
      have HT13 := Lib.hid hT13
      clear hT13
      go_upto_region 13 with fail
      go_cut [51] (fun a wx => a = .bool T13 ∧ wb = wx)
      case first =>
        cases t1
        · as_aux_lemma =>
            go_wp2_with fail
            go_meet
            case rel => exact ⟨congrArg Value.bool (by rw [← HT13.out]; first | rfl | trivial), by first | rfl | trivial⟩
        · skip
          cases t2
          · as_aux_lemma =>
              go_wp2_with fail
              go_meet
              case rel => exact ⟨congrArg Value.bool (by rw [← HT13.out]; first | rfl | trivial), by first | rfl | trivial⟩
          · skip
            cases t3
            · as_aux_lemma =>
                go_wp2_with fail
                go_meet
                case rel => exact ⟨congrArg Value.bool (by rw [← HT13.out]; first | rfl | trivial), by first | rfl | trivial⟩
            · skip
              cases hk1 : decide (kk < LK)
              · cases hk2 : decide (9999999999 < kk)
                · as_aux_lemma =>
                    go_wp2_with fail
                    go_meet
                    case rel => exact ⟨congrArg Value.bool (by rw [← HT13.out, hk1, hk2]; first | rfl | trivial), by first | rfl | trivial⟩
                · as_aux_lemma =>
                    go_wp2_with fail
                    go_meet
                    case rel => exact ⟨congrArg Value.bool (by rw [← HT13.out, hk1, hk2]; first | rfl | trivial), by first | rfl | trivial⟩
              · as_aux_lemma =>
                  go_wp2_with fail
                  go_meet
                  case rel => exact ⟨congrArg Value.bool (by rw [← HT13.out, hk1]; first | rfl | trivial), by first | rfl | trivial⟩
      case rest =>
        obtain ⟨rfl, rfl⟩ := hcut
        have HRES : Hid ((T13 = true → RES = false) ∧ (T13 = false → RES = (!RR.any (fun r => r.any (outB (-1000000) 1000000)) && (kd != 21 || t6)))) := Lib.hid (by
          rw [hres.out, ← HT13.out]
          unfold outB
          cases t1 <;> cases t2 <;> cases t3 <;> cases decide (kk < LK) <;> cases decide (9999999999 < kk) <;> simp)
        clear HT13 hres
        cases T13
        · have HR2 := Lib.hid (HRES.out.2 rfl)
          clear HRES
          go_wp2_with fail
          go_loopw [9] (fun i wr => ∃ k : Nat, i = .int .i64 (k : Nat) ∧ k ≤ v.r.n ∧ Hid (anyRow (fun r => r.any (outB (-1000000) 1000000)) RR k) ∧ Hid (wb = wr)) (fun i _ => v.r.n - (intOf i).toNat)
          case atStart => exact ⟨0, rfl, by omega, Lib.hid (fun j hj => absurd hj (by omega)), Lib.hid rfl⟩
          case round =>
            obtain ⟨k, rfl, hk, H0, HW⟩ := hrel
            have Hwr := Bb
            rw [HW.out] at Hwr
            clear c0 c1 c2 c3 c4 c5 c6 c7
            obtain ⟨c0, c1, c2, c3, c4, c5, c6, c7⟩ := box8 Hwr.out
            by_cases hlt : k < v.r.n
            · obtain ⟨ad, hra, hbk, hcl⟩ := HRL.out (by omega)
              obtain ⟨u, hu, hr⟩ := hcl k hlt
              have hbw := of_boxed Hwr.out
              have hck : wr.cell? (ad.add k) = some (.slice u.A u.n u.c) := (hbw.cell (by rw [add_block]; exact hbk)).trans hu
              have HY := Lib.hid (anyRow_yes (p := fun r => r.any (outB (-1000000) 1000000)) (R := RR) (k := k) (by rw [← HRN.out]; exact hlt))
              have HN : Hid ((RR.getD k []).any (outB (-1000000) 1000000) = false → anyRow (fun r => r.any (outB (-1000000) 1000000)) RR (k + 1)) := Lib.hid (fun e j hj => by
                by_cases h : j < k
                · exact H0.out j h
                · obtain rfl : j = k := by omega
                  exact e)
              have cS := Lib.hid (refIn_any u (RR.getD k []) (-1000000) 1000000 wr (hr.below hbw))
              rw [hra] at c7
              clear hcl hbk hu hr H0 hra hbw
              generalize RR.getD k [] = zz at HY HN cS
              cases hz : zz.any (outB (-1000000) 1000000)
              · have HN2 := Lib.hid (HN.out hz)
                rw [hz] at cS
                clear HN HY hz
                go_wp2_with fail
                refine cS.out.mono ?_
                rintro e w' ⟨rfl, rfl⟩
                go_wp2_with fail
                go_roundw
                case rel => exact ⟨k + 1, by go_num, by omega, HN2, HW⟩
                case measure => simp [intOf]; omega
              · have HY2 := Lib.hid (HY.out hz)
                rw [hz] at cS
                clear HN HY hz
                go_wp2_with fail
                refine cS.out.mono ?_
                rintro e w' ⟨rfl, rfl⟩
                go_wp2_with fail
                go_ret
                exact ⟨ret_bool (by rw [HR2.out, HY2.out]; rfl), of_boxed Hwr.out⟩
            · have HN : Hid (RR.any (fun r => r.any (outB (-1000000) 1000000)) = false) := Lib.hid (anyRow_no (by rw [← HRN.out]; have := H0.out; rwa [show k = v.r.n by omega] at this))
              have HR3 := HR2.out
              rw [HN.out] at HR3
              have HR4 := Lib.hid HR3
              clear H0 HR3 HR2 HN
              by_cases h21 : kd = 21
              · have HDN : Hid (v.d.n = v.c.n) := Lib.hid (HG.out h21).1
                have HEN : Hid (v.e.n = v.c.n) := Lib.hid (HG.out h21).2
                have hk21 : (kd == 21) = true := by simpa using h21
                have HR5 : Hid (RES = t6) := Lib.hid (by rw [HR4.out]; simp [h21])
                clear h21 HR4
                obtain ⟨wo, rfl⟩ : ∃ wo, wo = wr := ⟨_, rfl⟩
                go_wp2_with fail
                go_loopw [11] (fun i wx => ∃ m : Nat, i = .int .i64 (m : Nat) ∧ m ≤ v.c.n ∧ Hid (∀ j, j < m → cntOK c j = true) ∧ Hid (Below (w.heap.size + 1) (w.alloc (.cells (v.cells kd kk) 32)) wx)) (fun i _ => v.c.n - (intOf i).toNat)
                case atStart => exact ⟨0, rfl, by omega, Lib.hid (fun j hj => absurd hj (by omega)), Hwr⟩
                case round =>
                  have Hwr2 := Hwr
                  clear c0 c1 c2 c3 c4 c5 c6 c7
                  clear Hwr HW
                  obtain ⟨m, rfl, hm, H0, HB⟩ := hrel
                  obtain ⟨c0, c1, c2, c3, c4, c5, c6, c7⟩ := box8 HB.out
                  by_cases hlt : m < v.c.n
                  · have hbw := of_boxed HB.out
                    obtain ⟨adC, eC, hbC, hclC⟩ := HC.out.lies (by omega)
                    obtain ⟨adD, eD, hbD, hclD⟩ := HD.out.lies (by have := HDN.out; omega)
                    obtain ⟨adE, eE, hbE, hclE⟩ := HE.out.lies (by have := HEN.out; omega)
                    have hmd : m < v.d.n := by have := HDN.out; omega
                    have hme : m < v.e.n := by have := HEN.out; omega
                    have HCL : Hid (∀ j, j < v.c.n → ∀ W, Below w.heap.size w W → ∀ d os, (grow (redrawn W d) os).cell? (adC.add j) = some (.int .i64 (c.C.getD j 0))) := Lib.hid (fun j hj W hW => cell_regrown ((hW.cell (by rw [add_block]; exact hbC)).trans (hclC j hj)))
                    have hcD := cell_regrown ((hbw.cell (by rw [add_block]; exact hbD)).trans (hclD m hmd))
                    have hcE := cell_regrown ((hbw.cell (by rw [add_block]; exact hbE)).trans (hclE m hme))
                    unfold i64f at hcD hcE
                    have HN : Hid (cntOK c m = true → ∀ j, j < m + 1 → cntOK c j = true) := Lib.hid (fun e j hj => by
                      by_cases h : j < m
                      · exact H0.out j h
                      · obtain rfl : j = m := by omega
                        exact e)
                    have HF0 := Lib.hid (HNO.out m (by rw [← HLC.out]; exact hlt))
                    have HTN := Lib.hid (take_no (p := (· == c.C.getD m 0)) (L := c.C) (k := m) (by rw [← HLC.out]; omega))
                    have HTY := Lib.hid (fun j => take_yes (p := (· == c.C.getD m 0)) (L := c.C) (k := m) (j := j) (by rw [← HLC.out]; omega))
                    have HCM := Lib.hid (HCL.out m hlt)
                    rw [HOK.out] at HN HF0
                    obtain ⟨b0, b1, b2, b3, b4, b5, b6, b7⟩ := ConBox.of HB.out
                    rw [eC] at b3
                    rw [eD] at b4
                    rw [eE] at b5
                    have ECE : Hid (v.c.A = some adC) := Lib.hid eC
                    clear hclC hclD hclE hbC hbD hbE H0 eC eD eE c1 c2 c4 c5 c6 c7
                    generalize c.C.getD m 0 = zc at *
                    generalize c.D.getD m 0 = zd at *
                    generalize c.E.getD m 0 = ze at *
                    by_cases hle : zd ≤ ze
                    · have hgt2 : decide (ze < zd) = false := by simp; omega
                      have hle2 : decide (zd ≤ ze) = true := by simpa using hle
                      rw [hle2] at HN HF0
                      clear hle hle2
                      go_wp2_with fail
                      refine wp_region_quiet_below (by kernel_rfl) (by kernel_rfl) ?_
                      repeat (first | go_big_quiet_step (fail) | quiet_step (fail))
                      refine wpQuiet_nil ?_
                      intro _ hw'
                      obtain ⟨⟨dq, osq⟩, hw''⟩ := hw'
                      subst hw''
                      have B6 : Hid (Below (w.heap.size + 1) (w.alloc (.cells (v.cells kd kk) 32)) (grow (redrawn wr dq) osq)) := Lib.hid (HB.out.trans ((below_regrown wr dq osq).mono (by have := HB.out.size; simpa using this)))
                      generalize grow (redrawn wr dq) osq = W6 at *
                      clear b0 b1 b2 b3 b4 b5 b6 b7 hcD hcE c0 c3
                      go_wp2_with fail
                      go_loopw [12] (fun i wy => ∃ j : Nat, i = .int .i64 (j : Nat) ∧ j ≤ m ∧ Hid (anyTo (· == zc) c.C j) ∧ Hid (Below (w.heap.size + 1) (w.alloc (.cells (v.cells kd kk) 32)) wy)) (fun i _ => m - (intOf i).toNat)
                      case atStart => exact ⟨0, rfl, by omega, Lib.hid (fun j hj => absurd hj (by omega)), B6⟩
                      case round =>
                        obtain ⟨j, rfl, hj, HJ, HBj⟩ := hrel
                        by_cases hjm : j < m
                        · obtain ⟨b0, b1, b2, b3, b4, b5, b6, b7⟩ := ConBox.of HBj.out
                          rw [ECE.out] at b3
                          have hcm := HCM.out _ (of_boxed HBj.out)
                          have hcj := HCL.out j (by omega) _ (of_boxed HBj.out)
                          have hjc : j < v.c.n := by omega
                          have HJ2 : Hid ((c.C.getD j 0 == zc) = false → anyTo (· == zc) c.C (j + 1)) := Lib.hid (fun e i hi => by
                            by_cases h : i < j
                            · exact HJ.out i h
                            · obtain rfl : i = j := by omega
                              exact e)
                          have HTYj := Lib.hid (HTY.out j hjm)
                          generalize c.C.getD j 0 = zj at *
                          by_cases hq : zj = zc
                          · have hqb : (zc == zj) = true := by simp [hq]
                            have HF := Lib.hid (HF0.out (by rw [HTYj.out (by simpa using hq)]; rfl))
                            clear hq HF0 HN HTYj HJ2
                            go_wp2_with fail
                            refine wp_region_quiet_below (by kernel_rfl) (by kernel_rfl) ?_
                            repeat (first | go_big_quiet_step (fail) | quiet_step (fail))
                            refine wpQuiet_nil ?_
                            intro _ hw'
                            obtain ⟨⟨dq, osq⟩, hw''⟩ := hw'
                            subst hw''
                            have B7 : Hid (Below w.heap.size w (grow (redrawn wr dq) osq)) := Lib.hid (of_boxed (HBj.out.trans ((below_regrown wr dq osq).mono (by have := HBj.out.size; simpa using this))))
                            generalize grow (redrawn wr dq) osq = W7 at *
                            clear b0 b1 b2 b3 b4 b5 b6 b7 hcm hcj
                            go_wp2_with fail
                            go_ret
                            exact ⟨ret_bool (by rw [HR5.out, HF.out]), B7.out⟩
                          · have hqb : (zc == zj) = false := by rw [beq_eq_false_iff_ne]; exact fun e => hq e.symm
                            have HJ3 := Lib.hid (HJ2.out (by simpa using hq))
                            clear hq HTYj HJ2
                            go_wp2_with fail
                            refine wp_region_quiet_below (by kernel_rfl) (by kernel_rfl) ?_
                            repeat (first | go_big_quiet_step (fail) | quiet_step (fail))
                            refine wpQuiet_nil ?_
                            intro _ hw'
                            obtain ⟨⟨dq, osq⟩, hw''⟩ := hw'
                            subst hw''
                            have B7 : Hid (Below (w.heap.size + 1) (w.alloc (.cells (v.cells kd kk) 32)) (grow (redrawn wr dq) osq)) := Lib.hid (HBj.out.trans ((below_regrown wr dq osq).mono (by have := HBj.out.size; simpa using this)))
                            generalize grow (redrawn wr dq) osq = W7 at *
                            clear b0 b1 b2 b3 b4 b5 b6 b7 hcm hcj
                            go_wp2_with fail
                            go_roundw
                            case rel => exact ⟨j + 1, by go_num, by omega, HJ3, B7⟩
                            case measure => simp [intOf]; omega
                        · have HNm := Lib.hid (HN.out (by rw [HTN.out (by have := HJ.out; rwa [show j = m by omega] at this)]; rfl))
                          clear HN HF0
                          go_wp2_with fail
                          go_roundw
                          case rel => exact ⟨m + 1, by go_num, by omega, HNm, HBj⟩
                          case measure => simp [intOf]; omega
                    · have hgt2 : decide (ze < zd) = true := by simp; omega
                      have HF := Lib.hid (HF0.out (by simp [hle]))
                      clear hle HN HF0
                      go_wp2_with fail
                      refine wp_region_quiet_below (by kernel_rfl) (by kernel_rfl) ?_
                      repeat (first | go_big_quiet_step (fail) | quiet_step (fail))
                      refine wpQuiet_nil ?_
                      intro _ hw'
                      obtain ⟨⟨dq, osq⟩, hw''⟩ := hw'
                      subst hw''
                      have B6 : Hid (Below w.heap.size w (grow (redrawn wr dq) osq)) := Lib.hid (of_boxed (HB.out.trans ((below_regrown wr dq osq).mono (by have := HB.out.size; simpa using this))))
                      generalize grow (redrawn wr dq) osq = W6 at *
                      clear b0 b1 b2 b3 b4 b5 b6 b7 hcD hcE c0 c3
                      go_wp2_with fail
                      go_ret
                      exact ⟨ret_bool (by rw [HR5.out, HF.out]), B6.out⟩
                  · have HF := Lib.hid (HYES.out (fun j hj => H0.out j (by have := HLC.out; omega)))
                    clear H0
                    go_wp2_with fail
                    go_ret
                    exact ⟨ret_bool (by rw [HR5.out, HF.out]), of_boxed HB.out⟩
              · have hk21 : (kd == 21) = false := by simpa using h21
                have HR5 : Hid (RES = true) := Lib.hid (by rw [HR4.out]; simp [h21])
                clear h21 HR4
                go_wp2_with fail
                go_loopw [11] (fun i wx => i = .int .i64 0 ∧ Hid (wr = wx)) (fun i _ => 0)
                case atStart => exact ⟨rfl, Lib.hid rfl⟩
                case round =>
                  obtain ⟨rfl, HW2⟩ := hrel
                  have H2 := Hwr
                  rw [HW2.out] at H2
                  clear c0 c1 c2 c3 c4 c5 c6 c7
                  obtain ⟨c0, c1, c2, c3, c4, c5, c6, c7⟩ := box8 H2.out
                  go_wp2_with fail
                  go_ret
                  exact ⟨ret_bool HR5.out.symm, of_boxed H2.out⟩
        · have HR2 := Lib.hid (HRES.out.1 rfl)
          clear HRES
          go_wp2_with fail
          go_ret
          exact ⟨ret_bool HR2.out.symm, of_boxed Bb.out⟩
end Go.Proofs.YtkhmocbfkpbpfaaGreatDoor
