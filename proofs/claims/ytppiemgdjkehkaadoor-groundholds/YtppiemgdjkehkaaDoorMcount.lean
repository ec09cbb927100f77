/- Contracts: slices.Index and Contains over numbers; rightCounts. -/
import Derived.Test.YtppiemgdjkehkaaDoorMsizes
namespace Go.Proofs.YtppiemgdjkehkaaDoor
open Go.RowKit Go.Sort

set_option maxHeartbeats 1000000 in
theorem index_ints (x : Sl) (L : List Int) (z : Int) (w : World) (h : IsInts w x L) :
    Calls Tryd.prog 81 #[.slice x.A x.n x.c, .int .i64 z] w fun e w' => (∃ k : Int, e = .returned (.int .i64 k) ∧ decide (0 ≤ k) = L.any (· == z)) ∧ w = w' := by
  obtain ⟨A, n, c⟩ := x
  obtain ⟨hn, hL, hlen, hcap⟩ := h
  simp only at hn hL hlen ⊢
  have HL := Lib.hid hL
  have Hn := Lib.hid hn.symm
  clear hL hn
  go_enter Tryd.func81, Tryd.ntmps81
  go_wp2_with fail
  go_loopw [8] (fun i wr => ∃ k : Nat, i = .int .i64 (k : Nat) ∧ k ≤ n ∧ Hid (anyTo (· == z) L k) ∧ Hid (w = wr)) (fun i _ => n - (intOf i).toNat)
  case atStart => exact ⟨0, rfl, by omega, Lib.hid (fun j hj => absurd hj (by omega)), Lib.hid rfl⟩
  case round =>
    obtain ⟨k, rfl, hk, H0, HB⟩ := hrel
    by_cases hlt : k < n
    · obtain ⟨ad, rfl, hbk, hcl⟩ := HL.out (by omega)
      have hck : wr.cell? (ad.add k) = some (.int .i64 (L.getD k 0)) := by rw [← HB.out]; exact hcl k hlt
      have HY := Lib.hid (any_yes (p := (· == z)) (L := L) (k := k) (by rw [Hn.out]; exact hlt))
      have HN : Hid ((L.getD k 0 == z) = false → anyTo (· == z) L (k + 1)) := Lib.hid (fun e j hj => by
        by_cases h : j < k
        · exact H0.out j h
        · obtain rfl : j = k := by omega
          exact e)
      clear hcl hbk
      generalize L.getD k 0 = y at hck HY HN
      by_cases hz : y = z
      · have HY2 := Lib.hid (HY.out (by simpa using hz))
        have hb : (z == y) = true := by simp [hz]
        clear HN HY hz
        go_wp2_with fail
        go_ret
        exact ⟨⟨_, rfl, by rw [HY2.out]; simp⟩, HB.out⟩
      · have HN2 := Lib.hid (HN.out (by simpa using hz))
        have hb : (z == y) = false := by rw [beq_eq_false_iff_ne]; exact fun e => hz e.symm
        clear HN HY hz
        go_wp2_with fail
        go_roundw
        case rel => exact ⟨k + 1, by go_num, by omega, HN2, HB⟩
        case measure => simp [intOf]; omega
    · have HN : Hid (L.any (· == z) = false) := Lib.hid (any_no (by rw [Hn.out]; have := H0.out; rwa [show k = n by omega] at this))
      clear H0
      go_wp2_with fail
      go_ret
      exact ⟨⟨_, rfl, by rw [HN.out]; simp⟩, HB.out⟩

theorem contains_ints (x : Sl) (L : List Int) (z : Int) (w : World) (h : IsInts w x L) :
    Calls Tryd.prog 50 #[.slice x.A x.n x.c, .int .i64 z] w fun e w' => e = .returned (.bool (L.any (· == z))) ∧ w = w' := by
  have C := Lib.hid (index_ints x L z w h)
  clear h
  go_enter Tryd.func50, Tryd.ntmps50
  go_wp2_with fail
  refine C.out.mono ?_
  rintro e w1 ⟨⟨k, rfl, hk⟩, rfl⟩
  have HK := Lib.hid hk
  clear hk
  go_wp2_with fail
  go_ret
  exact ⟨ret_bool HK.out, rfl⟩

/-- The numbers up to a place. -/
theorem IsInts.take {w : World} {x : Sl} {L : List Int} (h : IsInts w x L) {k : Nat} (hk : k ≤ x.n) : IsInts w ⟨x.A, k, x.c⟩ (L.take k) := by
  have hl := h.len
  refine ⟨by simp; omega, fun h0 => ?_, by have := h.big; simp only; omega, by have := h.cap; simp only; omega⟩
  simp only at h0 ⊢
  obtain ⟨ad, e, hb, hc⟩ := h.lies (by omega)
  refine ⟨ad, e, hb, fun j hj => ?_⟩
  rw [hc j (by omega)]
  unfold i64f
  rw [List.getD_eq_getElem?_getD, List.getD_eq_getElem?_getD, List.getElem?_take, if_pos hj]

/-- Is each value there once, its least count no more than its most? -/
def cntOK (c : ConL) (j : Nat) : Bool := decide (c.D.getD j 0 ≤ c.E.getD j 0) && !(c.C.take j).any (· == c.C.getD j 0)
def countsB (c : ConL) : Bool := (List.range c.C.length).all (cntOK c)
theorem counts_no {c : ConL} {k : Nat} (hk : k < c.C.length) (h : cntOK c k = false) : countsB c = false := by
  unfold countsB
  rw [List.all_eq_false]
  exact ⟨k, List.mem_range.2 hk, by rw [h]; decide⟩
theorem counts_yes {c : ConL} (h : ∀ j, j < c.C.length → cntOK c j = true) : countsB c = true := by
  unfold countsB
  rw [List.all_eq_true]
  exact fun j hj => h j (List.mem_range.1 hj)

theorem ConBox.of {w W : World} {v : ConV} {kd kk : Int} {t : TypeId} (h : Below (w.heap.size + 1) (w.alloc (.cells (v.cells kd kk) t)) W) : ConBox W w.heap.size v kd kk :=
  ⟨cell_regrown (by rw [h.cell (by simp)]; simp), cell_regrown (by rw [h.cell (by simp)]; simp), cell_regrown (by rw [h.cell (by simp)]; simp), cell_regrown (by rw [h.cell (by simp)]; simp), cell_regrown (by rw [h.cell (by simp)]; simp), cell_regrown (by rw [h.cell (by simp)]; simp), cell_regrown (by rw [h.cell (by simp)]; simp), cell_regrown (by rw [h.cell (by simp)]; simp)⟩

set_option maxHeartbeats 4000000 in
set_option maxRecDepth 100000 in
theorem rightCounts_any (v : ConV) (c : ConL) (w : World) (h : ConIn w v c) (hd : c.D.length = c.C.length) (he : c.E.length = c.C.length) : Calls Tryd.prog 79 #[v.val c.kind c.K] w fun e w' => e = .returned (.bool (countsB c)) ∧ Below w.heap.size w w' := by
  obtain ⟨n, hn⟩ : ∃ n, v.c.n = n := ⟨_, rfl⟩
  have hdn : v.d.n = n := by rw [h.d.len, hd, ← h.c.len, hn]
  have hen : v.e.n = n := by rw [h.e.len, he, ← h.c.len, hn]
  have hbig : n ≤ 4611686018427387903 := hn ▸ h.c.big
  have hcap : v.c.n ≤ v.c.c := h.c.cap
  have HC := Lib.hid h.c
  have HD := Lib.hid h.d
  have HE := Lib.hid h.e
  have HNO := Lib.hid (fun k => counts_no (c := c) (k := k))
  have HYES := Lib.hid (@counts_yes c)
  have HLC : Hid (n = c.C.length) := Lib.hid (by rw [← hn, h.c.len])
  have HOK : Hid (∀ j, cntOK c j = (decide (c.D.getD j 0 ≤ c.E.getD j 0) && !(c.C.take j).any (· == c.C.getD j 0))) := Lib.hid (fun j => rfl)
  generalize countsB c = RES at HNO HYES ⊢
  generalize c.kind = kd at *
  generalize c.K = kk at *
  obtain ⟨va, vb, ⟨cA, cn, cc⟩, ⟨dA, dn, dc⟩, ⟨eA, en, ec⟩, vr⟩ := v
  simp only at hn hdn hen HC HD HE hcap
  subst hen hdn hn
  clear h hd he
  go_enter Tryd.func79, Tryd.ntmps79
  go_wp2_with fail
  go_loopw [8] (fun i wr => ∃ k : Nat, i = .int .i64 (k : Nat) ∧ k ≤ cn ∧ Hid (∀ j, j < k → cntOK c j = true) ∧ Hid (Below (w.heap.size + 1) (w.alloc (.cells (ConV.cells ⟨va, vb, ⟨cA, cn, cc⟩, ⟨dA, cn, dc⟩, ⟨eA, cn, ec⟩, vr⟩ kd kk) 30)) wr)) (fun i _ => cn - (intOf i).toNat)
  case atStart => exact ⟨0, rfl, by omega, Lib.hid (fun j hj => absurd hj (by omega)), Lib.hid (by rw [show w.heap.size + 1 = (w.alloc (.cells (ConV.cells ⟨va, vb, ⟨cA, cn, cc⟩, ⟨dA, cn, dc⟩, ⟨eA, cn, ec⟩, vr⟩ kd kk) 30)).heap.size by simp]; exact Below.refl _ _)⟩
  case round =>
    obtain ⟨k, rfl, hk, H0, HB⟩ := hrel
    by_cases hlt : k < cn
    · have hbw := of_boxed HB.out
      obtain ⟨adC, eC, hbC, hclC⟩ := (HC.out.below hbw).lies (by simp only; omega)
      obtain ⟨adD, eD, hbD, hclD⟩ := (HD.out.below hbw).lies (by simp only; omega)
      obtain ⟨adE, eE, hbE, hclE⟩ := (HE.out.below hbw).lies (by simp only; omega)
      simp only at eC eD eE
      subst eC eD eE
      obtain ⟨b0, b1, b2, b3, b4, b5, b6, b7⟩ := ConBox.of HB.out
      have hcC := cell_regrown (hclC k hlt)
      have hcD := cell_regrown (hclD k hlt)
      have hcE := cell_regrown (hclE k hlt)
      have hc0 : wr.cell? (adC.add k) = some (.int .i64 (c.C.getD k 0)) := hclC k hlt
      unfold i64f at hcC hcD hcE
      have CK := Lib.hid (bo_regrown (w := wr) (fun W hW => (contains_ints ⟨some adC, k, cc⟩ (c.C.take k) (c.C.getD k 0) W (((HC.out.below hbw).below hW).take (by simp only; omega))).mono fun _ _ q => ⟨q.1, q.2 ▸ Below.refl _ _⟩))
      have HN : Hid (cntOK c k = true → ∀ j, j < k + 1 → cntOK c j = true) := Lib.hid (fun e j hj => by
        by_cases h : j < k
        · exact H0.out j h
        · obtain rfl : j = k := by omega
          exact e)
      have HF0 := Lib.hid (HNO.out k (by rw [← HLC.out]; exact hlt))
      rw [HOK.out] at HN HF0
      clear hclC hclD hclE hbC hbD hbE hbw H0
      generalize c.C.getD k 0 = zc at *
      generalize c.D.getD k 0 = zd at *
      generalize c.E.getD k 0 = ze at *
      generalize (c.C.take k).any (· == zc) = tt at CK HN HF0
      have hix : ((k : Nat) : Int) < ((cn : Nat) : Int) := by omega
      have hgt : decide (ze < zd) = !decide (zd ≤ ze) := by rw [Bool.eq_iff_iff]; simp
      by_cases hle : zd ≤ ze
      · have hgt2 : decide (ze < zd) = false := by simp; omega
        cases tt
        · have HN2 := Lib.hid (HN.out (by simp [hle]))
          clear HN HF0 hgt
          go_wp2_with fail
          refine wp_region_quiet_below (by kernel_rfl) (by kernel_rfl) ?_
          repeat (first | go_big_quiet_step (first | (go_at_call 50; with_reducible exact CK.out _ _)) | quiet_step (first | (go_at_call 50; with_reducible exact CK.out _ _)))
          refine wpQuiet_nil ?_
          intro _ hw'
          obtain ⟨⟨dq, osq⟩, hw''⟩ := hw'
          subst hw''
          have B6 : Hid (Below (w.heap.size + 1) (w.alloc (.cells (ConV.cells ⟨va, vb, ⟨some adC, cn, cc⟩, ⟨some adD, cn, dc⟩, ⟨some adE, cn, ec⟩, vr⟩ kd kk) 30)) (grow (redrawn wr dq) osq)) := Lib.hid (HB.out.trans ((below_regrown wr dq osq).mono (by have := HB.out.size; simpa using this)))
          generalize grow (redrawn wr dq) osq = W6 at *
          clear CK b0 b1 b2 b3 b4 b5 b6 b7 hcC hcD hcE
          go_wp2_with fail
          go_roundw
          case rel => exact ⟨k + 1, by go_num, by omega, HN2, B6⟩
          case measure => simp [intOf]; omega
        · have HF := Lib.hid (HF0.out (by simp))
          clear HN HF0 hgt
          go_wp2_with fail
          refine wp_region_quiet_below (by kernel_rfl) (by kernel_rfl) ?_
          repeat (first | go_big_quiet_step (first | (go_at_call 50; with_reducible exact CK.out _ _)) | quiet_step (first | (go_at_call 50; with_reducible exact CK.out _ _)))
          refine wpQuiet_nil ?_
          intro _ hw'
          obtain ⟨⟨dq, osq⟩, hw''⟩ := hw'
          subst hw''
          have B6 : Hid (Below (w.heap.size + 1) (w.alloc (.cells (ConV.cells ⟨va, vb, ⟨some adC, cn, cc⟩, ⟨some adD, cn, dc⟩, ⟨some adE, cn, ec⟩, vr⟩ kd kk) 30)) (grow (redrawn wr dq) osq)) := Lib.hid (HB.out.trans ((below_regrown wr dq osq).mono (by have := HB.out.size; simpa using this)))
          generalize grow (redrawn wr dq) osq = W6 at *
          clear CK b0 b1 b2 b3 b4 b5 b6 b7 hcC hcD hcE
          go_wp2_with fail
          go_ret
          exact ⟨ret_bool (HF.out).symm, of_boxed B6.out⟩
      · have hgt2 : decide (ze < zd) = true := by simp; omega
        have HF := Lib.hid (HF0.out (by simp [hle]))
        clear HN HF0 hgt
        go_wp2_with fail
        refine wp_region_quiet_below (by kernel_rfl) (by kernel_rfl) ?_
        repeat (first | go_big_quiet_step (first | (go_at_call 50; with_reducible exact CK.out _ _)) | quiet_step (first | (go_at_call 50; with_reducible exact CK.out _ _)))
        refine wpQuiet_nil ?_
        intro _ hw'
        obtain ⟨⟨dq, osq⟩, hw''⟩ := hw'
        subst hw''
        have B6 : Hid (Below (w.heap.size + 1) (w.alloc (.cells (ConV.cells ⟨va, vb, ⟨some adC, cn, cc⟩, ⟨some adD, cn, dc⟩, ⟨some adE, cn, ec⟩, vr⟩ kd kk) 30)) (grow (redrawn wr dq) osq)) := Lib.hid (HB.out.trans ((below_regrown wr dq osq).mono (by have := HB.out.size; simpa using this)))
        generalize grow (redrawn wr dq) osq = W6 at *
        clear CK b0 b1 b2 b3 b4 b5 b6 b7 hcC hcD hcE
        go_wp2_with fail
        go_ret
        exact ⟨ret_bool (HF.out).symm, of_boxed B6.out⟩
    · have HF := Lib.hid (HYES.out (fun j hj => H0.out j (by have := HLC.out; omega)))
      clear H0
      go_wp2_with fail
      go_ret
      exact ⟨ret_bool (HF.out).symm, of_boxed HB.out⟩
end Go.Proofs.YtppiemgdjkehkaaDoor
