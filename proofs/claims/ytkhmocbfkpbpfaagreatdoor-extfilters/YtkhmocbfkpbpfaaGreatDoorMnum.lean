/- Contracts: slices.Index and Contains over numbers; rightCounts. -/
import Derived.Test.YtkhmocbfkpbpfaaGreatDoorMsizes
namespace Go.Proofs.YtkhmocbfkpbpfaaGreatDoor
open Go.RowKit Go.Sort

set_option maxHeartbeats 1000000 in
theorem index_ints (x : Sl) (L : List Int) (z : Int) (w : World) (h : IsInts w x L) :
    Calls Tryz.prog 68 #[.slice x.A x.n x.c, .int .i64 z] w fun e w' => (∃ k : Int, e = .returned (.int .i64 k) ∧ decide (0 ≤ k) = L.any (· == z)) ∧ w = w' := by
  obtain ⟨A, n, c⟩ := x
  obtain ⟨hn, hL, hlen, hcap⟩ := h
  simp only at hn hL hlen ⊢
  have HL := Lib.hid hL
  have Hn := Lib.hid hn.symm
  clear hL hn
  go_enter Tryz.func68, Tryz.ntmps68
  go_wp2_with fail
  go_loopw [8] (fun i wr => ∃ k : Nat, i = .int .i64 (k : Nat) ∧ k ≤ n ∧ Hid (anyTo (· == z) L k) ∧ Hid (w = wr)) (fun i _ => n - (intOf i).toNat)
  case atStart => exact ⟨0, rfl, by omega, Lib.hid (fun j hj => absurd hj (by omega)), Lib.hid rfl⟩
  case round =>
    obtain ⟨k, rfl, hk, H0, HB⟩ := hrel
    by_cases hlt : k < n
    · obtain ⟨ad, rfl, hbk, hcl⟩ := HL.out (by omega)
      have hck : wr.cell? (ad.add k) = some (.int .i64 (L.getD k 0)) := by rw [← HB.out]; exact hcl k hlt
      have HY := Lib.hid (any_yes (p := (· == z)) (L := L) (k := k) (by rw [Hn.out]; exact hlt))
      have HN : Hid ((L.getD k 0 == z) = false → anyTo (· == z) L (k + 1)) := Lib.hid (fun e j hj => by
        by_cases h : j < k
        · exact H0.out j h
        · obtain rfl : j = k := by omega
          exact e)
      clear hcl hbk
      generalize L.getD k 0 = y at hck HY HN
      by_cases hz : y = z
      · have HY2 := Lib.hid (HY.out (by simpa using hz))
        have hb : (z == y) = true := by simp [hz]
        clear HN HY hz
        go_wp2_with fail
        go_ret
        exact ⟨⟨_, rfl, by rw [HY2.out]; simp⟩, HB.out⟩
      · have HN2 := Lib.hid (HN.out (by simpa using hz))
        have hb : (z == y) = false := by rw [beq_eq_false_iff_ne]; exact fun e => hz e.symm
        clear HN HY hz
        go_wp2_with fail
        go_roundw
        case rel => exact ⟨k + 1, by go_num, by omega, HN2, HB⟩
        case measure => simp [intOf]; omega
    · have HN : Hid (L.any (· == z) = false) := Lib.hid (any_no (by rw [Hn.out]; have := H0.out; rwa [show k = n by omega] at this))
      clear H0
      go_wp2_with fail
      go_ret
      exact ⟨⟨_, rfl, by rw [HN.out]; simp⟩, HB.out⟩

theorem contains_ints (x : Sl) (L : List Int) (z : Int) (w : World) (h : IsInts w x L) :
    Calls Tryz.prog 27 #[.slice x.A x.n x.c, .int .i64 z] w fun e w' => e = .returned (.bool (L.any (· == z))) ∧ w = w' := by
  have C := Lib.hid (index_ints x L z w h)
  clear h
  go_enter Tryz.func27, Tryz.ntmps27
  go_wp2_with fail
  refine C.out.mono ?_
  rintro e w1 ⟨⟨k, rfl, hk⟩, rfl⟩
  have HK := Lib.hid hk
  clear hk
  go_wp2_with fail
  go_ret
  exact ⟨ret_bool HK.out, rfl⟩

/-- The numbers up to a place. -/
theorem IsInts.take {w : World} {x : Sl} {L : List Int} (h : IsInts w x L) {k : Nat} (hk : k ≤ x.n) : IsInts w ⟨x.A, k, x.c⟩ (L.take k) := by
  have hl := h.len
  refine ⟨by simp; omega, fun h0 => ?_, by have := h.big; simp only; omega, by have := h.cap; simp only; omega⟩
  simp only at h0 ⊢
  obtain ⟨ad, e, hb, hc⟩ := h.lies (by omega)
  refine ⟨ad, e, hb, fun j hj => ?_⟩
  rw [hc j (by omega)]
  unfold i64f
  rw [List.getD_eq_getElem?_getD, List.getD_eq_getElem?_getD, List.getElem?_take, if_pos hj]

/-- Is each value there once, its least count no more than its most? -/
def cntOK (c : ConL) (j : Nat) : Bool := decide (c.D.getD j 0 ≤ c.E.getD j 0) && !(c.C.take j).any (· == c.C.getD j 0)
def countsB (c : ConL) : Bool := (List.range c.C.length).all (cntOK c)
theorem counts_no {c : ConL} {k : Nat} (hk : k < c.C.length) (h : cntOK c k = false) : countsB c = false := by
  unfold countsB
  rw [List.all_eq_false]
  exact ⟨k, List.mem_range.2 hk, by rw [h]; decide⟩
theorem counts_yes {c : ConL} (h : ∀ j, j < c.C.length → cntOK c j = true) : countsB c = true := by
  unfold countsB
  rw [List.all_eq_true]
  exact fun j hj => h j (List.mem_range.1 hj)

theorem ConBox.of {w W : World} {v : ConV} {kd kk : Int} {t : TypeId} (h : Below (w.heap.size + 1) (w.alloc (.cells (v.cells kd kk) t)) W) : ConBox W w.heap.size v kd kk :=
  ⟨cell_regrown (by rw [h.cell (by simp)]; simp), cell_regrown (by rw [h.cell (by simp)]; simp), cell_regrown (by rw [h.cell (by simp)]; simp), cell_regrown (by rw [h.cell (by simp)]; simp), cell_regrown (by rw [h.cell (by simp)]; simp), cell_regrown (by rw [h.cell (by simp)]; simp), cell_regrown (by rw [h.cell (by simp)]; simp), cell_regrown (by rw [h.cell (by simp)]; simp)⟩

set_option maxHeartbeats 4000000 in
set_option maxRecDepth 100000 in
theorem rightCounts_any (v : ConV) (c : ConL) (w : World) (h : ConIn w v c) (hd : c.D.length = c.C.length) (he : c.E.length = c.C.length) : Calls Tryz.prog 230 #[v.val c.kind c.K] w fun e w' => e = .returned (.bool (countsB c)) ∧ Below w.heap.size w w' := by
  obtain ⟨n, hn⟩ : ∃ n, v.c.n = n := ⟨_, rfl⟩
  have hdn : v.d.n = n := by rw [h.d.len, hd, ← h.c.len, hn]
  have hen : v.e.n = n := by rw [h.e.len, he, ← h.c.len, hn]
  have hbig : n ≤ 4611686018427387903 := hn ▸ h.c.big
  have hcap : v.c.n ≤ v.c.c := h.c.cap
  have HC := Lib.hid h.c
  have HD := Lib.hid h.d
  have HE := Lib.hid h.e
  have HNO := Lib.hid (fun k => counts_no (c := c) (k := k))
  have HYES := Lib.hid (@counts_yes c)
  have HLC : Hid (n = c.C.length) := Lib.hid (by rw [← hn, h.c.len])
  have HOK : Hid (∀ j, cntOK c j = (decide (c.D.getD j 0 ≤ c.E.getD j 0) && !(c.C.take j).any (· == c.C.getD j 0))) := Lib.hid (fun j => rfl)
  generalize countsB c = RES at HNO HYES ⊢
  generalize c.kind = kd at *
  generalize c.K = kk at *
  obtain ⟨va, vb, ⟨cA, cn, cc⟩, ⟨dA, dn, dc⟩, ⟨eA, en, ec⟩, vr⟩ := v
  simp only at hn hdn hen HC HD HE hcap
  subst hen hdn hn
  clear h hd he
  go_enter Tryz.func230, Tryz.ntmps230
  go_wp2_with fail
  go_loopw [8] (fun i wr => ∃ k : Nat, i = .int .i64 (k : Nat) ∧ k ≤ cn ∧ Hid (∀ j, j < k → cntOK c j = true) ∧ Hid (Below (w.heap.size + 1) (w.alloc (.cells (ConV.cells ⟨va, vb, ⟨cA, cn, cc⟩, ⟨dA, cn, dc⟩, ⟨eA, cn, ec⟩, vr⟩ kd kk) 32)) wr)) (fun i _ => cn - (intOf i).toNat)
  case atStart => exact ⟨0, rfl, by omega, Lib.hid (fun j hj => absurd hj (by omega)), Lib.hid (by rw [show w.heap.size + 1 = (w.alloc (.cells (ConV.cells ⟨va, vb, ⟨cA, cn, cc⟩, ⟨dA, cn, dc⟩, ⟨eA, cn, ec⟩, vr⟩ kd kk) 32)).heap.size by simp]; exact Below.refl _ _)⟩
  case round =>
    obtain ⟨k, rfl, hk, H0, HB⟩ := hrel
    by_cases hlt : k < cn
    · have hbw := of_boxed HB.out
      obtain ⟨adC, eC, hbC, hclC⟩ := (HC.out.below hbw).lies (by simp only; omega)
      obtain ⟨adD, eD, hbD, hclD⟩ := (HD.out.below hbw).lies (by simp only; omega)
      obtain ⟨adE, eE, hbE, hclE⟩ := (HE.out.below hbw).lies (by simp only; omega)
      simp only at eC eD eE
      subst eC eD eE
      obtain ⟨b0, b1, b2, b3, b4, b5, b6, b7⟩ := ConBox.of HB.out
      have hcC := cell_regrown (hclC k hlt)
      have hcD := cell_regrown (hclD k hlt)
      have hcE := cell_regrown (hclE k hlt)
      have hc0 : wr.cell? (adC.add k) = some (.int .i64 (c.C.getD k 0)) := hclC k hlt
      unfold i64f at hcC hcD hcE
      have CK := Lib.hid (bo_regrown (w := wr) (fun W hW => (contains_ints ⟨some adC, k, cc⟩ (c.C.take k) (c.C.getD k 0) W (((HC.out.below hbw).below hW).take (by simp only; omega))).mono fun _ _ q => ⟨q.1, q.2 ▸ Below.refl _ _⟩))
      have HN : Hid (cntOK c k = true → ∀ j, j < k + 1 → cntOK c j = true) := Lib.hid (fun e j hj => by
        by_cases h : j < k
        · exact H0.out j h
        · obtain rfl : j = k := by omega
          exact e)
      have HF0 := Lib.hid (HNO.out k (by rw [← HLC.out]; exact hlt))
      rw [HOK.out] at HN HF0
      clear hclC hclD hclE hbC hbD hbE hbw H0
      generalize c.C.getD k 0 = zc at *
      generalize c.D.getD k 0 = zd at *
      generalize c.E.getD k 0 = ze at *
      generalize (c.C.take k).any (· == zc) = tt at CK HN HF0
      have hix : ((k : Nat) : Int) < ((cn : Nat) : Int) := by omega
      have hgt : decide (ze < zd) = !decide (zd ≤ ze) := by rw [Bool.eq_iff_iff]; simp
      by_cases hle : zd ≤ ze
      · have hgt2 : decide (ze < zd) = false := by simp; omega
        cases tt
        · have HN2 := Lib.hid (HN.out (by simp [hle]))
          clear HN HF0 hgt
          go_wp2_with fail
          refine wp_region_quiet_below (by kernel_rfl) (by kernel_rfl) ?_
          repeat (first | go_big_quiet_step (first | (go_at_call 27; with_reducible exact CK.out _ _)) | quiet_step (first | (go_at_call 27; with_reducible exact CK.out _ _)))
          refine wpQuiet_nil ?_
          intro _ hw'
          obtain ⟨⟨dq, osq⟩, hw''⟩ := hw'
          subst hw''
          have B6 : Hid (Below (w.heap.size + 1) (w.alloc (.cells (ConV.cells ⟨va, vb, ⟨some adC, cn, cc⟩, ⟨some adD, cn, dc⟩, ⟨some adE, cn, ec⟩, vr⟩ kd kk) 32)) (grow (redrawn wr dq) osq)) := Lib.hid (HB.out.trans ((below_regrown wr dq osq).mono (by have := HB.out.size; simpa using this)))
          generalize grow (redrawn wr dq) osq = W6 at *
          clear CK b0 b1 b2 b3 b4 b5 b6 b7 hcC hcD hcE
          go_wp2_with fail
          go_roundw
          case rel => exact ⟨k + 1, by go_num, by omega, HN2, B6⟩
          case measure => simp [intOf]; omega
        · have HF := Lib.hid (HF0.out (by simp))
          clear HN HF0 hgt
          go_wp2_with fail
          refine wp_region_quiet_below (by kernel_rfl) (by kernel_rfl) ?_
          repeat (first | go_big_quiet_step (first | (go_at_call 27; with_reducible exact CK.out _ _)) | quiet_step (first | (go_at_call 27; with_reducible exact CK.out _ _)))
          refine wpQuiet_nil ?_
          intro _ hw'
          obtain ⟨⟨dq, osq⟩, hw''⟩ := hw'
          subst hw''
          have B6 : Hid (Below (w.heap.size + 1) (w.alloc (.cells (ConV.cells ⟨va, vb, ⟨some adC, cn, cc⟩, ⟨some adD, cn, dc⟩, ⟨some adE, cn, ec⟩, vr⟩ kd kk) 32)) (grow (redrawn wr dq) osq)) := Lib.hid (HB.out.trans ((below_regrown wr dq osq).mono (by have := HB.out.size; simpa using this)))
          generalize grow (redrawn wr dq) osq = W6 at *
          clear CK b0 b1 b2 b3 b4 b5 b6 b7 hcC hcD hcE
          go_wp2_with fail
          go_ret
          exact ⟨ret_bool (HF.out).symm, of_boxed B6.out⟩
      · have hgt2 : decide (ze < zd) = true := by simp; omega
        have HF := Lib.hid (HF0.out (by simp [hle]))
        clear HN HF0 hgt
        go_wp2_with fail
        refine wp_region_quiet_below (by kernel_rfl) (by kernel_rfl) ?_
        repeat (first | go_big_quiet_step (first | (go_at_call 27; with_reducible exact CK.out _ _)) | quiet_step (first | (go_at_call 27; with_reducible exact CK.out _ _)))
        refine wpQuiet_nil ?_
        intro _ hw'
        obtain ⟨⟨dq, osq⟩, hw''⟩ := hw'
        subst hw''
        have B6 : Hid (Below (w.heap.size + 1) (w.alloc (.cells (ConV.cells ⟨va, vb, ⟨some adC, cn, cc⟩, ⟨some adD, cn, dc⟩, ⟨some adE, cn, ec⟩, vr⟩ kd kk) 32)) (grow (redrawn wr dq) osq)) := Lib.hid (HB.out.trans ((below_regrown wr dq osq).mono (by have := HB.out.size; simpa using this)))
        generalize grow (redrawn wr dq) osq = W6 at *
        clear CK b0 b1 b2 b3 b4 b5 b6 b7 hcC hcD hcE
        go_wp2_with fail
        go_ret
        exact ⟨ret_bool (HF.out).symm, of_boxed B6.out⟩
    · have HF := Lib.hid (HYES.out (fun j hj => H0.out j (by have := HLC.out; omega)))
      clear H0
      go_wp2_with fail
      go_ret
      exact ⟨ret_bool (HF.out).symm, of_boxed HB.out⟩
end Go.Proofs.YtkhmocbfkpbpfaaGreatDoor

/- Contracts: rightNumbers, Right. -/
namespace Go.Proofs.YtkhmocbfkpbpfaaGreatDoor
open Go.RowKit Go.Sort

def lowC (c : ConL) : Int := if c.kind = 19 then 0 else -1000000
def lowK (c : ConL) : Int := if c.kind = 19 then 0 else -9999999999
/-- Are all numbers within their bounds? -/
def numsB (c : ConL) : Bool := !c.C.any (outB (lowC c) 1000000) && !c.D.any (outB 0 1000000) && !c.E.any (outB 0 1000000) && !outB (lowK c) 9999999999 c.K && !c.rows.any (fun r => r.any (outB (-1000000) 1000000)) && (c.kind != 21 || countsB c)

theorem box8 {w W : World} {v : ConV} {kd kk : Int} {t : TypeId} (h : Below (w.heap.size + 1) (w.alloc (.cells (v.cells kd kk) t)) W) :
    W.cell? ⟨w.heap.size, 0, none⟩ = some (.int .i64 kd) ∧ W.cell? ⟨w.heap.size, 1, none⟩ = some (.slice v.a.A v.a.n v.a.c) ∧ W.cell? ⟨w.heap.size, 2, none⟩ = some (.slice v.b.A v.b.n v.b.c) ∧ W.cell? ⟨w.heap.size, 3, none⟩ = some (.slice v.c.A v.c.n v.c.c) ∧ W.cell? ⟨w.heap.size, 4, none⟩ = some (.slice v.d.A v.d.n v.d.c) ∧ W.cell? ⟨w.heap.size, 5, none⟩ = some (.slice v.e.A v.e.n v.e.c) ∧ W.cell? ⟨w.heap.size, 6, none⟩ = some (.int .i64 kk) ∧ W.cell? ⟨w.heap.size, 7, none⟩ = some (.slice v.r.A v.r.n v.r.c) := by
  refine ⟨?_, ?_, ?_, ?_, ?_, ?_, ?_, ?_⟩ <;> rw [h.cell (by simp)] <;> simp

/-- Rows that are all within bounds, up to a place. -/
def rowTo (R : List (List Int)) (k : Nat) : Prop := anyRow (fun r => r.any (outB (-1000000) 1000000)) R k

set_option maxHeartbeats 8000000 in
set_option maxRecDepth 100000 in
theorem rightNumbers_any (v : ConV) (c : ConL) (w : World) (h : ConIn w v c) (hg : c.kind = 21 → c.D.length = c.C.length ∧ c.E.length = c.C.length) : Calls Tryz.prog 170 #[v.val c.kind c.K] w fun e w' => e = .returned (.bool (numsB c)) ∧ Below w.heap.size w w' := by
  have H := Lib.hid h
  have CW := Lib.hid (fun x L low W hx => within_any x L low 1000000 W hx)
  have CC : Hid (∀ W, Below w.heap.size w W → c.kind = 21 → Calls Tryz.prog 230 #[v.val c.kind c.K] W fun e w' => e = .returned (.bool (countsB c)) ∧ Below W.heap.size W w') := Lib.hid (fun W hW q => rightCounts_any v c W (h.below hW) (hg q).1 (hg q).2)
  have hnum : Hid (numsB c = (!c.C.any (outB (lowC c) 1000000) && !c.D.any (outB 0 1000000) && !c.E.any (outB 0 1000000) && !outB (lowK c) 9999999999 c.K && !c.rows.any (fun r => r.any (outB (-1000000) 1000000)) && (c.kind != 21 || countsB c))) := Lib.hid rfl
  have C1 : Hid (∀ W, Below w.heap.size w W → Calls Tryz.prog 229 #[.slice v.c.A v.c.n v.c.c, .int .i64 (lowC c), .int .i64 1000000] W fun e w' => e = .returned (.bool (!c.C.any (outB (lowC c) 1000000))) ∧ Below W.heap.size W w') := Lib.hid (fun W hW => CW.out v.c c.C (lowC c) W (h.c.below hW))
  have C2 : Hid (∀ W, Below w.heap.size w W → Calls Tryz.prog 229 #[.slice v.d.A v.d.n v.d.c, .int .i64 0, .int .i64 1000000] W fun e w' => e = .returned (.bool (!c.D.any (outB 0 1000000))) ∧ Below W.heap.size W w') := Lib.hid (fun W hW => CW.out v.d c.D 0 W (h.d.below hW))
  have C3 : Hid (∀ W, Below w.heap.size w W → Calls Tryz.prog 229 #[.slice v.e.A v.e.n v.e.c, .int .i64 0, .int .i64 1000000] W fun e w' => e = .returned (.bool (!c.E.any (outB 0 1000000))) ∧ Below W.heap.size W w') := Lib.hid (fun W hW => CW.out v.e c.E 0 W (h.e.below hW))
  have hR := h.r
  have hlc : Hid (lowC c = if c.kind = 19 then 0 else -1000000) := Lib.hid rfl
  have hlk : Hid (lowK c = if c.kind = 19 then 0 else -9999999999) := Lib.hid rfl
  generalize numsB c = RES at hnum ⊢
  generalize lowC c = LC at hnum C1 hlc
  generalize lowK c = LK at hnum hlk
  generalize (!c.C.any (outB LC 1000000)) = t1 at hnum C1
  generalize (!c.D.any (outB 0 1000000)) = t2 at hnum C2
  generalize (!c.E.any (outB 0 1000000)) = t3 at hnum C3
  generalize countsB c = t6 at hnum CC
  generalize c.kind = kd at *
  generalize c.K = kk at *
  generalize hrr : c.rows = RR at *
  obtain ⟨va, vb, vc, vd, ve, ⟨rA, rn, rc⟩⟩ := v
  obtain ⟨hrn, hrbig, hrl⟩ := hR
  simp only at *
  have HRL := Lib.hid hrl
  have HRN := Lib.hid hrn
  clear hrl hrn h H CW hg hrr
  go_enter Tryz.func170, Tryz.ntmps170
  go_upto_if 9 with fail
  go_cut [3, 4] (fun a3 a4 wx => a3 = .int .i64 LC ∧ a4 = .int .i64 LK ∧ wx = (w.alloc (.cells (ConV.cells ⟨va, vb, vc, vd, ve, ⟨rA, rn, rc⟩⟩ kd kk) 32)))
  case first =>
    by_cases h19 : kd = 19
    · have hb : (kd == 19) = true := by simpa using h19
      have h1 := hlc.out
      have h2 := hlk.out
      rw [if_pos h19] at h1 h2
      subst h1 h2
      clear h19
      go_wp2_with fail
      go_meet
      case rel => exact ⟨rfl, rfl, rfl⟩
    · have hb : (kd == 19) = false := by simpa using h19
      have h1 := hlc.out
      have h2 := hlk.out
      rw [if_neg h19] at h1 h2
      subst h1 h2
      clear h19
      go_wp2_with fail
      go_meet
      case rel => exact ⟨rfl, rfl, rfl⟩
  case rest =>
    obtain ⟨rfl, rfl, rfl⟩ := hcut
    cases t1
    · go_wp2_with fail
      refine (C1.out _ (below1 w _)).mono ?_
      rintro e w1 ⟨rfl, b1⟩
      have Bw1 : Hid (Below (w.heap.size + 1) (w.alloc (.cells (ConV.cells ⟨va, vb, vc, vd, ve, ⟨rA, rn, rc⟩⟩ kd kk) 32)) w1) := Lib.hid (b1.mono (by simp))
      clear b1
      obtain ⟨c0, c1, c2, c3, c4, c5, c6, c7⟩ := box8 Bw1.out
      go_wp2_with fail
      go_ret
      exact ⟨ret_bool (by rw [hnum.out]; simp), of_boxed Bw1.out⟩
    · cases t2
      · go_wp2_with fail
        refine (C1.out _ (below1 w _)).mono ?_
        rintro e w1 ⟨rfl, b1⟩
        have Bw1 : Hid (Below (w.heap.size + 1) (w.alloc (.cells (ConV.cells ⟨va, vb, vc, vd, ve, ⟨rA, rn, rc⟩⟩ kd kk) 32)) w1) := Lib.hid (b1.mono (by simp))
        clear b1
        obtain ⟨c0, c1, c2, c3, c4, c5, c6, c7⟩ := box8 Bw1.out
        go_wp2_with fail
        refine (C2.out _ (of_boxed Bw1.out)).mono ?_
        rintro e w2 ⟨rfl, b1⟩
        have Bw2 : Hid (Below (w.heap.size + 1) (w.alloc (.cells (ConV.cells ⟨va, vb, vc, vd, ve, ⟨rA, rn, rc⟩⟩ kd kk) 32)) w2) := Lib.hid (Bw1.out.trans (b1.mono (by have := Bw1.out.size; simpa using this)))
        clear b1 c0 c1 c2 c3 c4 c5 c6 c7
        obtain ⟨c0, c1, c2, c3, c4, c5, c6, c7⟩ := box8 Bw2.out
        go_wp2_with fail
        go_ret
        exact ⟨ret_bool (by rw [hnum.out]; simp), of_boxed Bw2.out⟩
      · cases t3
        · go_wp2_with fail
          refine (C1.out _ (below1 w _)).mono ?_
          rintro e w1 ⟨rfl, b1⟩
          have Bw1 : Hid (Below (w.heap.size + 1) (w.alloc (.cells (ConV.cells ⟨va, vb, vc, vd, ve, ⟨rA, rn, rc⟩⟩ kd kk) 32)) w1) := Lib.hid (b1.mono (by simp))
          clear b1
          obtain ⟨c0, c1, c2, c3, c4, c5, c6, c7⟩ := box8 Bw1.out
          go_wp2_with fail
          refine (C2.out _ (of_boxed Bw1.out)).mono ?_
          rintro e w2 ⟨rfl, b1⟩
          have Bw2 : Hid (Below (w.heap.size + 1) (w.alloc (.cells (ConV.cells ⟨va, vb, vc, vd, ve, ⟨rA, rn, rc⟩⟩ kd kk) 32)) w2) := Lib.hid (Bw1.out.trans (b1.mono (by have := Bw1.out.size; simpa using this)))
          clear b1 c0 c1 c2 c3 c4 c5 c6 c7
          obtain ⟨c0, c1, c2, c3, c4, c5, c6, c7⟩ := box8 Bw2.out
          go_wp2_with fail
          refine (C3.out _ (of_boxed Bw2.out)).mono ?_
          rintro e w3 ⟨rfl, b1⟩
          have Bw3 : Hid (Below (w.heap.size + 1) (w.alloc (.cells (ConV.cells ⟨va, vb, vc, vd, ve, ⟨rA, rn, rc⟩⟩ kd kk) 32)) w3) := Lib.hid (Bw2.out.trans (b1.mono (by have := Bw2.out.size; simpa using this)))
          clear b1 c0 c1 c2 c3 c4 c5 c6 c7
          obtain ⟨c0, c1, c2, c3, c4, c5, c6, c7⟩ := box8 Bw3.out
          go_wp2_with fail
          go_ret
          exact ⟨ret_bool (by rw [hnum.out]; simp), of_boxed Bw3.out⟩
        · by_cases hk1 : kk < LK
          · have hk1b : decide (kk < LK) = true := by simpa using hk1
            go_wp2_with fail
            refine (C1.out _ (below1 w _)).mono ?_
            rintro e w1 ⟨rfl, b1⟩
            have Bw1 : Hid (Below (w.heap.size + 1) (w.alloc (.cells (ConV.cells ⟨va, vb, vc, vd, ve, ⟨rA, rn, rc⟩⟩ kd kk) 32)) w1) := Lib.hid (b1.mono (by simp))
            clear b1
            obtain ⟨c0, c1, c2, c3, c4, c5, c6, c7⟩ := box8 Bw1.out
            go_wp2_with fail
            refine (C2.out _ (of_boxed Bw1.out)).mono ?_
            rintro e w2 ⟨rfl, b1⟩
            have Bw2 : Hid (Below (w.heap.size + 1) (w.alloc (.cells (ConV.cells ⟨va, vb, vc, vd, ve, ⟨rA, rn, rc⟩⟩ kd kk) 32)) w2) := Lib.hid (Bw1.out.trans (b1.mono (by have := Bw1.out.size; simpa using this)))
            clear b1 c0 c1 c2 c3 c4 c5 c6 c7
            obtain ⟨c0, c1, c2, c3, c4, c5, c6, c7⟩ := box8 Bw2.out
            go_wp2_with fail
            refine (C3.out _ (of_boxed Bw2.out)).mono ?_
            rintro e w3 ⟨rfl, b1⟩
            have Bw3 : Hid (Below (w.heap.size + 1) (w.alloc (.cells (ConV.cells ⟨va, vb, vc, vd, ve, ⟨rA, rn, rc⟩⟩ kd kk) 32)) w3) := Lib.hid (Bw2.out.trans (b1.mono (by have := Bw2.out.size; simpa using this)))
            clear b1 c0 c1 c2 c3 c4 c5 c6 c7
            obtain ⟨c0, c1, c2, c3, c4, c5, c6, c7⟩ := box8 Bw3.out
            go_wp2_with fail
            go_ret
            exact ⟨ret_bool (by rw [hnum.out]; simp [outB, hk1b]), of_boxed Bw3.out⟩
          · have hk1b : decide (kk < LK) = false := by simpa using hk1
            by_cases hk2 : 9999999999 < kk
            · have hk2b : decide (9999999999 < kk) = true := by simpa using hk2
              go_wp2_with fail
              refine (C1.out _ (below1 w _)).mono ?_
              rintro e w1 ⟨rfl, b1⟩
              have Bw1 : Hid (Below (w.heap.size + 1) (w.alloc (.cells (ConV.cells ⟨va, vb, vc, vd, ve, ⟨rA, rn, rc⟩⟩ kd kk) 32)) w1) := Lib.hid (b1.mono (by simp))
              clear b1
              obtain ⟨c0, c1, c2, c3, c4, c5, c6, c7⟩ := box8 Bw1.out
              go_wp2_with fail
              refine (C2.out _ (of_boxed Bw1.out)).mono ?_
              rintro e w2 ⟨rfl, b1⟩
              have Bw2 : Hid (Below (w.heap.size + 1) (w.alloc (.cells (ConV.cells ⟨va, vb, vc, vd, ve, ⟨rA, rn, rc⟩⟩ kd kk) 32)) w2) := Lib.hid (Bw1.out.trans (b1.mono (by have := Bw1.out.size; simpa using this)))
              clear b1 c0 c1 c2 c3 c4 c5 c6 c7
              obtain ⟨c0, c1, c2, c3, c4, c5, c6, c7⟩ := box8 Bw2.out
              go_wp2_with fail
              refine (C3.out _ (of_boxed Bw2.out)).mono ?_
              rintro e w3 ⟨rfl, b1⟩
              have Bw3 : Hid (Below (w.heap.size + 1) (w.alloc (.cells (ConV.cells ⟨va, vb, vc, vd, ve, ⟨rA, rn, rc⟩⟩ kd kk) 32)) w3) := Lib.hid (Bw2.out.trans (b1.mono (by have := Bw2.out.size; simpa using this)))
              clear b1 c0 c1 c2 c3 c4 c5 c6 c7
              obtain ⟨c0, c1, c2, c3, c4, c5, c6, c7⟩ := box8 Bw3.out
              go_wp2_with fail
              go_ret
              exact ⟨ret_bool (by rw [hnum.out]; simp [outB, hk2b]), of_boxed Bw3.out⟩
            · have hk2b : decide (9999999999 < kk) = false := by simpa using hk2
              have hkk : outB LK 9999999999 kk = false := by simp [outB, hk1b, hk2b]
              go_wp2_with fail
              refine (C1.out _ (below1 w _)).mono ?_
              rintro e w1 ⟨rfl, b1⟩
              have Bw1 : Hid (Below (w.heap.size + 1) (w.alloc (.cells (ConV.cells ⟨va, vb, vc, vd, ve, ⟨rA, rn, rc⟩⟩ kd kk) 32)) w1) := Lib.hid (b1.mono (by simp))
              clear b1
              obtain ⟨c0, c1, c2, c3, c4, c5, c6, c7⟩ := box8 Bw1.out
              go_wp2_with fail
              refine (C2.out _ (of_boxed Bw1.out)).mono ?_
              rintro e w2 ⟨rfl, b1⟩
              have Bw2 : Hid (Below (w.heap.size + 1) (w.alloc (.cells (ConV.cells ⟨va, vb, vc, vd, ve, ⟨rA, rn, rc⟩⟩ kd kk) 32)) w2) := Lib.hid (Bw1.out.trans (b1.mono (by have := Bw1.out.size; simpa using this)))
              clear b1 c0 c1 c2 c3 c4 c5 c6 c7
              obtain ⟨c0, c1, c2, c3, c4, c5, c6, c7⟩ := box8 Bw2.out
              go_wp2_with fail
              refine (C3.out _ (of_boxed Bw2.out)).mono ?_
              rintro e w3 ⟨rfl, b1⟩
              have Bw3 : Hid (Below (w.heap.size + 1) (w.alloc (.cells (ConV.cells ⟨va, vb, vc, vd, ve, ⟨rA, rn, rc⟩⟩ kd kk) 32)) w3) := Lib.hid (Bw2.out.trans (b1.mono (by have := Bw2.out.size; simpa using this)))
              clear b1 c0 c1 c2 c3 c4 c5 c6 c7
              obtain ⟨c0, c1, c2, c3, c4, c5, c6, c7⟩ := box8 Bw3.out
              go_wp2_with fail
              clear c0 c1 c2 c3 c4 c5 c6 c7
              go_loopw [39] (fun i wr => ∃ k : Nat, i = .int .i64 (k : Nat) ∧ k ≤ rn ∧ Hid (anyRow (fun r => r.any (outB (-1000000) 1000000)) RR k) ∧ Hid (Below (w.heap.size + 1) (w.alloc (.cells (ConV.cells ⟨va, vb, vc, vd, ve, ⟨rA, rn, rc⟩⟩ kd kk) 32)) wr)) (fun i _ => rn - (intOf i).toNat)
              case atStart => exact ⟨0, rfl, by omega, Lib.hid (fun j hj => absurd hj (by omega)), Bw3⟩
              case round =>
                obtain ⟨k, rfl, hk, H0, HB⟩ := hrel
                by_cases hlt : k < rn
                · obtain ⟨ad, rfl, hbk, hcl⟩ := HRL.out (by omega)
                  obtain ⟨u, hu, hr⟩ := hcl k hlt
                  have hbw := of_boxed HB.out
                  have hck : wr.cell? (ad.add k) = some (.slice u.A u.n u.c) := (hbw.cell (by rw [add_block]; exact hbk)).trans hu
                  have HY := Lib.hid (anyRow_yes (p := fun r => r.any (outB (-1000000) 1000000)) (R := RR) (k := k) (by rw [← HRN.out]; exact hlt))
                  have HN : Hid ((RR.getD k []).any (outB (-1000000) 1000000) = false → anyRow (fun r => r.any (outB (-1000000) 1000000)) RR (k + 1)) := Lib.hid (fun e j hj => by
                    by_cases h : j < k
                    · exact H0.out j h
                    · obtain rfl : j = k := by omega
                      exact e)
                  have cS := Lib.hid (within_any u (RR.getD k []) (-1000000) 1000000 wr (hr.below hbw))
                  clear hcl hbk hu hr hbw H0
                  generalize RR.getD k [] = z at HY HN cS
                  cases hz : z.any (outB (-1000000) 1000000)
                  · have HN2 := Lib.hid (HN.out hz)
                    rw [hz] at cS
                    clear HN HY hz
                    go_wp2_with fail
                    refine cS.out.mono ?_
                    rintro e w4 ⟨rfl, b1⟩
                    have B4 : Hid (Below (w.heap.size + 1) (w.alloc (.cells (ConV.cells ⟨va, vb, vc, vd, ve, ⟨some ad, rn, rc⟩⟩ kd kk) 32)) w4) := Lib.hid (HB.out.trans (b1.mono (by have := HB.out.size; simpa using this)))
                    clear b1
                    go_wp2_with fail
                    go_roundw
                    case rel => exact ⟨k + 1, by go_num, by omega, HN2, B4⟩
                    case measure => simp [intOf]; omega
                  · have HY2 := Lib.hid (HY.out hz)
                    rw [hz] at cS
                    clear HN HY hz
                    go_wp2_with fail
                    refine cS.out.mono ?_
                    rintro e w4 ⟨rfl, b1⟩
                    have B4 := Lib.hid (HB.out.trans (b1.mono (by have := HB.out.size; simpa using this)))
                    clear b1
                    go_wp2_with fail
                    go_ret
                    exact ⟨ret_bool (by rw [hnum.out, HY2.out]; simp), of_boxed B4.out⟩
                · have HN : Hid (RR.any (fun r => r.any (outB (-1000000) 1000000)) = false) := Lib.hid (anyRow_no (by rw [← HRN.out]; have := H0.out; rwa [show k = rn by omega] at this))
                  clear H0
                  obtain ⟨c0, c1, c2, c3, c4, c5, c6, c7⟩ := box8 HB.out
                  by_cases h21 : kd = 21
                  · have hb : (kd != 21) = false := by simp [h21]
                    have C21 := Lib.hid (CC.out wr (of_boxed HB.out) h21)
                    clear h21
                    go_wp2_with fail
                    refine C21.out.mono ?_
                    rintro e w4 ⟨rfl, b1⟩
                    have B4 := Lib.hid (HB.out.trans (b1.mono (by have := HB.out.size; simpa using this)))
                    clear b1
                    go_wp2_with fail
                    go_ret
                    exact ⟨ret_bool (by rw [hnum.out, HN.out, hkk, hb]; simp), of_boxed B4.out⟩
                  · have hb : (kd != 21) = true := by simp [h21]
                    clear h21
                    go_wp2_with fail
                    go_ret
                    exact ⟨ret_bool (by rw [hnum.out, HN.out, hkk, hb]; simp), of_boxed HB.out⟩
end Go.Proofs.YtkhmocbfkpbpfaaGreatDoor
