/- Contracts: slices.Equal, EqualFunc; equalLists, equalCons, Equal. -/
import Derived.Test.YtmamgaaeeonfmaaGreatDoorMcheckv
namespace Go.Proofs.YtmamgaaeeonfmaaGreatDoor
open Go.RowKit Go.Sort Go.Maps

section
variable {α : Type} [BEq α] [LawfulBEq α]
def alikeTo (L K : List α) (z : α) (k : Nat) : Prop := ∀ j, j < k → L.getD j z = K.getD j z
theorem alike_yes {L K : List α} (z : α) (hl : L.length = K.length) (h : alikeTo L K z L.length) : (L == K) = true := by
  rw [beq_iff_eq]
  apply List.ext_getElem hl
  intro i h1 h2
  have := h i h1
  rw [List.getD_eq_getElem?_getD, List.getD_eq_getElem?_getD, List.getElem?_eq_getElem h1, List.getElem?_eq_getElem h2] at this
  exact this
theorem alike_no {L K : List α} {k : Nat} (z : α) (h : L.getD k z ≠ K.getD k z) : (L == K) = false := by
  rw [beq_eq_false_iff_ne]
  intro e
  exact h (by rw [e])
theorem alike_len {L K : List α} (h : L.length ≠ K.length) : (L == K) = false := by
  rw [beq_eq_false_iff_ne]
  intro e
  exact h (by rw [e])
end

set_option maxHeartbeats 2000000 in
theorem equal_ints (x y : Sl) (L K : List Int) (w : World) (hx : IsInts w x L) (hy : IsInts w y K) : Calls Tryz.prog 34 #[.slice x.A x.n x.c, .slice y.A y.n y.c] w fun e w' => e = .returned (.bool (L == K)) ∧ Below w.heap.size w w' := by
  have HX := Lib.hid hx
  have HY := Lib.hid hy
  have S1 := Lib.hid (alike_yes (L := L) (K := K) 0)
  have S2 := Lib.hid (fun k => alike_no (L := L) (K := K) (k := k) 0)
  have S3 := Lib.hid (alike_len (L := L) (K := K))
  rw [← hx.len, ← hy.len] at S1 S3
  have hxb := hx.big
  generalize (L == K) = RES at S1 S2 S3 ⊢
  obtain ⟨xA, xn, xc⟩ := x
  obtain ⟨yA, yn, yc⟩ := y
  simp only at *
  clear hx hy
  by_cases hl : xn = yn
  · subst hl
    have hlb : (((xn : Nat) : Int) != ((xn : Nat) : Int)) = false := by simp
    have S1' := Lib.hid (S1.out rfl)
    clear S1 S3
    go_enter Tryz.func34, Tryz.ntmps34
    go_wp2_with fail
    go_loopw [13] (fun i wr => ∃ k : Nat, i = .int .i64 (k : Nat) ∧ k ≤ xn ∧ Hid (alikeTo L K 0 k) ∧ Hid (Below w.heap.size w wr)) (fun i _ => xn - (intOf i).toNat)
    case atStart => exact ⟨0, rfl, by omega, Lib.hid (fun j hj => absurd hj (by omega)), Lib.hid (Below.refl _ _)⟩
    case round =>
      obtain ⟨k, rfl, hk, H0, HB⟩ := hrel
      by_cases hlt : k < xn
      · obtain ⟨ad, eA, hb1, hc1⟩ := HX.out.lies (by simp only; omega)
        obtain ⟨bd, eB, hb2, hc2⟩ := HY.out.lies (by simp only; omega)
        simp only at eA eB
        subst eA eB
        have z1 : ∀ d os, (grow (redrawn wr d) os).cell? (ad.add k) = some (.int .i64 (L.getD k 0)) := cell_regrown ((HB.out.cell (by rw [add_block]; exact hb1)).trans (hc1 k hlt))
        have z2 : ∀ d os, (grow (redrawn wr d) os).cell? (bd.add k) = some (.int .i64 (K.getD k 0)) := cell_regrown ((HB.out.cell (by rw [add_block]; exact hb2)).trans (hc2 k hlt))
        have HN : Hid (L.getD k 0 = K.getD k 0 → alikeTo L K 0 (k + 1)) := Lib.hid (fun e j hj => by
          by_cases h : j < k
          · exact H0.out j h
          · obtain rfl : j = k := by omega
            exact e)
        have S2k := Lib.hid (S2.out k)
        clear hc1 hc2 hb1 hb2
        generalize L.getD k 0 = a at z1 HN S2k
        generalize K.getD k 0 = b at z2 HN S2k
        by_cases hab : a = b
        · have HN2 := Lib.hid (HN.out hab)
          have hq : (a != b) = false := by simp [hab]
          clear hab
          clear HN S2k
          go_wp2_with fail
          refine wp_region_quiet_below (by kernel_rfl) (by kernel_rfl) ?_
          repeat (first | go_big_quiet_step (fail) | quiet_step (fail))
          refine wpQuiet_nil ?_
          intro _ hw'
          obtain ⟨⟨dq, osq⟩, hw''⟩ := hw'
          subst hw''
          have B6 : Hid (Below w.heap.size w (grow (redrawn wr dq) osq)) := Lib.hid (HB.out.trans ((below_regrown wr dq osq).mono HB.out.size))
          generalize grow (redrawn wr dq) osq = W6 at *
          clear z1 z2
          go_wp2_with fail
          go_roundw
          case rel => exact ⟨k + 1, by go_num, by omega, HN2, B6⟩
          case measure => simp [intOf]; omega
        · have HR := Lib.hid (S2k.out hab)
          have hq : (a != b) = true := by simpa using hab
          clear hab
          clear HN S2k
          go_wp2_with fail
          refine wp_region_quiet_below (by kernel_rfl) (by kernel_rfl) ?_
          repeat (first | go_big_quiet_step (fail) | quiet_step (fail))
          refine wpQuiet_nil ?_
          intro _ hw'
          obtain ⟨⟨dq, osq⟩, hw''⟩ := hw'
          subst hw''
          have B6 : Hid (Below w.heap.size w (grow (redrawn wr dq) osq)) := Lib.hid (HB.out.trans ((below_regrown wr dq osq).mono HB.out.size))
          generalize grow (redrawn wr dq) osq = W6 at *
          clear z1 z2
          go_wp2_with fail
          go_ret
          exact ⟨ret_bool HR.out.symm, B6.out⟩
      · have HR := Lib.hid (S1'.out (by have := H0.out; rwa [show k = xn by omega] at this))
        clear H0
        go_wp2_with fail
        go_ret
        exact ⟨ret_bool HR.out.symm, HB.out⟩
  · have hlb : (((xn : Nat) : Int) != ((yn : Nat) : Int)) = true := by simp; omega
    have HR := Lib.hid (S3.out hl)
    clear hl
    go_enter Tryz.func34, Tryz.ntmps34
    go_wp2_with fail
    go_ret
    exact ⟨ret_bool HR.out.symm, Below.refl _ _⟩

set_option maxHeartbeats 2000000 in
theorem equal_strs (x y : Sl) (L K : List Bs) (w : World) (hx : IsStrs w x L) (hy : IsStrs w y K) : Calls Tryz.prog 15 #[.slice x.A x.n x.c, .slice y.A y.n y.c] w fun e w' => e = .returned (.bool (L == K)) ∧ Below w.heap.size w w' := by
  have HX := Lib.hid hx
  have HY := Lib.hid hy
  have S1 := Lib.hid (alike_yes (L := L) (K := K) [])
  have S2 := Lib.hid (fun k => alike_no (L := L) (K := K) (k := k) [])
  have S3 := Lib.hid (alike_len (L := L) (K := K))
  rw [← hx.len, ← hy.len] at S1 S3
  have hxb := hx.big
  generalize (L == K) = RES at S1 S2 S3 ⊢
  obtain ⟨xA, xn, xc⟩ := x
  obtain ⟨yA, yn, yc⟩ := y
  simp only at *
  clear hx hy
  by_cases hl : xn = yn
  · subst hl
    have hlb : (((xn : Nat) : Int) != ((xn : Nat) : Int)) = false := by simp
    have S1' := Lib.hid (S1.out rfl)
    clear S1 S3
    go_enter Tryz.func15, Tryz.ntmps15
    go_wp2_with fail
    go_loopw [13] (fun i wr => ∃ k : Nat, i = .int .i64 (k : Nat) ∧ k ≤ xn ∧ Hid (alikeTo L K [] k) ∧ Hid (Below w.heap.size w wr)) (fun i _ => xn - (intOf i).toNat)
    case atStart => exact ⟨0, rfl, by omega, Lib.hid (fun j hj => absurd hj (by omega)), Lib.hid (Below.refl _ _)⟩
    case round =>
      obtain ⟨k, rfl, hk, H0, HB⟩ := hrel
      by_cases hlt : k < xn
      · obtain ⟨ad, eA, hb1, hc1⟩ := HX.out.lies (by simp only; omega)
        obtain ⟨bd, eB, hb2, hc2⟩ := HY.out.lies (by simp only; omega)
        simp only at eA eB
        subst eA eB
        have z1 : ∀ d os, (grow (redrawn wr d) os).cell? (ad.add k) = some (.string ⟨(L.getD k []).toArray⟩) := cell_regrown ((HB.out.cell (by rw [add_block]; exact hb1)).trans (hc1 k hlt))
        have z2 : ∀ d os, (grow (redrawn wr d) os).cell? (bd.add k) = some (.string ⟨(K.getD k []).toArray⟩) := cell_regrown ((HB.out.cell (by rw [add_block]; exact hb2)).trans (hc2 k hlt))
        have HN : Hid (L.getD k [] = K.getD k [] → alikeTo L K [] (k + 1)) := Lib.hid (fun e j hj => by
          by_cases h : j < k
          · exact H0.out j h
          · obtain rfl : j = k := by omega
            exact e)
        have S2k := Lib.hid (S2.out k)
        clear hc1 hc2 hb1 hb2
        generalize L.getD k [] = a at z1 HN S2k
        generalize K.getD k [] = b at z2 HN S2k
        by_cases hab : a = b
        · have HN2 := Lib.hid (HN.out hab)
          subst hab
          clear HN S2k
          go_wp2_with fail
          refine wp_region_quiet_below (by kernel_rfl) (by kernel_rfl) ?_
          repeat (first | go_big_quiet_step (fail) | quiet_step (fail))
          refine wpQuiet_nil ?_
          intro _ hw'
          obtain ⟨⟨dq, osq⟩, hw''⟩ := hw'
          subst hw''
          have B6 : Hid (Below w.heap.size w (grow (redrawn wr dq) osq)) := Lib.hid (HB.out.trans ((below_regrown wr dq osq).mono HB.out.size))
          generalize grow (redrawn wr dq) osq = W6 at *
          clear z1 z2
          go_wp2_with fail
          go_roundw
          case rel => exact ⟨k + 1, by go_num, by omega, HN2, B6⟩
          case measure => simp [intOf]; omega
        · have HR := Lib.hid (S2k.out hab)
          have hq : (a != b) = true := by simpa using hab
          have hq2 : (a == b) = false := by simpa using hab
          clear HN S2k
          go_wp2_with fail
          refine wp_region_quiet_below (by kernel_rfl) (by kernel_rfl) ?_
          repeat (first | go_big_quiet_step (fail) | quiet_step (fail))
          refine wpQuiet_nil ?_
          intro _ hw'
          obtain ⟨⟨dq, osq⟩, hw''⟩ := hw'
          subst hw''
          have B6 : Hid (Below w.heap.size w (grow (redrawn wr dq) osq)) := Lib.hid (HB.out.trans ((below_regrown wr dq osq).mono HB.out.size))
          generalize grow (redrawn wr dq) osq = W6 at *
          clear z1 z2
          go_wp2_with fail
          go_ret
          exact ⟨ret_bool HR.out.symm, B6.out⟩
      · have HR := Lib.hid (S1'.out (by have := H0.out; rwa [show k = xn by omega] at this))
        clear H0
        go_wp2_with fail
        go_ret
        exact ⟨ret_bool HR.out.symm, HB.out⟩
  · have hlb : (((xn : Nat) : Int) != ((yn : Nat) : Int)) = true := by simp; omega
    have HR := Lib.hid (S3.out hl)
    clear hl
    go_enter Tryz.func15, Tryz.ntmps15
    go_wp2_with fail
    go_ret
    exact ⟨ret_bool HR.out.symm, Below.refl _ _⟩

theorem eLists1 : ∀ args w, (callFunc 33 args).run Tryz.prog w = .ok (.enter 33 args) w := enters_of Tryz.func33 (by kernel_rfl) rfl
theorem eCons : ∀ args w, (callFunc 18 args).run Tryz.prog w = .ok (.enter 18 args) w := enters_of Tryz.func18 (by kernel_rfl) rfl

theorem lists1_any (x y : Sl) (L K : List Int) (w : World) (hx : IsInts w x L) (hy : IsInts w y K) : Calls Tryz.prog 33 #[.slice x.A x.n x.c, .slice y.A y.n y.c] w fun e w' => e = .returned (.bool (L == K)) ∧ Below w.heap.size w w' := by
  have C := Lib.hid (equal_ints x y L K w hx hy)
  clear hx hy
  go_enter Tryz.func33, Tryz.ntmps33
  go_wp2_with fail
  refine C.out.mono ?_
  rintro e w1 ⟨rfl, b1⟩
  have B1 := Lib.hid b1
  clear b1
  go_wp2_with fail
  go_ret
  exact ⟨rfl, B1.out⟩

set_option maxHeartbeats 2000000 in
theorem equal_rows (x y : Sl) (L K : List (List Int)) (w : World) (hx : IsRows w x L) (hy : IsRows w y K) : Calls Tryz.prog 32 #[.slice x.A x.n x.c, .slice y.A y.n y.c, .func (.func 33) #[] #[]] w fun e w' => e = .returned (.bool (L == K)) ∧ Below w.heap.size w w' := by
  have HX := Lib.hid hx
  have HY := Lib.hid hy
  have S1 := Lib.hid (alike_yes (L := L) (K := K) [])
  have S2 := Lib.hid (fun k => alike_no (L := L) (K := K) (k := k) [])
  have S3 := Lib.hid (alike_len (L := L) (K := K))
  rw [← hx.len, ← hy.len] at S1 S3
  have hxb := hx.big
  have e1 := eLists1
  generalize (L == K) = RES at S1 S2 S3 ⊢
  obtain ⟨xA, xn, xc⟩ := x
  obtain ⟨yA, yn, yc⟩ := y
  simp only at *
  clear hx hy
  by_cases hl : xn = yn
  · subst hl
    have hlb : (((xn : Nat) : Int) != ((xn : Nat) : Int)) = false := by simp
    have S1' := Lib.hid (S1.out rfl)
    clear S1 S3
    go_enter Tryz.func32, Tryz.ntmps32
    go_wp2_with fail
    go_loopw [17] (fun i wr => ∃ k : Nat, i = .int .i64 (k : Nat) ∧ k ≤ xn ∧ Hid (alikeTo L K [] k) ∧ Hid (Below w.heap.size w wr)) (fun i _ => xn - (intOf i).toNat)
    case atStart => exact ⟨0, rfl, by omega, Lib.hid (fun j hj => absurd hj (by omega)), Lib.hid (Below.refl _ _)⟩
    case round =>
      obtain ⟨k, rfl, hk, H0, HB⟩ := hrel
      by_cases hlt : k < xn
      · obtain ⟨ad, eA, hb1, hc1⟩ := HX.out.lies (by simp only; omega)
        obtain ⟨bd, eB, hb2, hc2⟩ := HY.out.lies (by simp only; omega)
        simp only at eA eB
        subst eA eB
        obtain ⟨u1, hu1, hi1⟩ := hc1 k hlt
        obtain ⟨u2, hu2, hi2⟩ := hc2 k hlt
        have z1 : wr.cell? (ad.add k) = some (.slice u1.A u1.n u1.c) := (HB.out.cell (by rw [add_block]; exact hb1)).trans hu1
        have z2 : wr.cell? (bd.add k) = some (.slice u2.A u2.n u2.c) := (HB.out.cell (by rw [add_block]; exact hb2)).trans hu2
        have cS := Lib.hid (lists1_any u1 u2 (L.getD k []) (K.getD k []) wr (hi1.below HB.out) (hi2.below HB.out))
        have HN : Hid (L.getD k [] = K.getD k [] → alikeTo L K [] (k + 1)) := Lib.hid (fun e j hj => by
          by_cases h : j < k
          · exact H0.out j h
          · obtain rfl : j = k := by omega
            exact e)
        have S2k := Lib.hid (S2.out k)
        clear hc1 hc2 hb1 hb2 hu1 hu2 hi1 hi2
        generalize L.getD k [] = a at cS HN S2k
        generalize K.getD k [] = b at cS HN S2k
        cases hab : (a == b)
        · have HR := Lib.hid (S2k.out (by simpa using hab))
          rw [hab] at cS
          clear HN S2k hab
          go_wp2_with fail
          refine cS.out.mono ?_
          rintro e w1 ⟨rfl, b1⟩
          have B1 := Lib.hid (HB.out.trans (b1.mono HB.out.size))
          clear b1
          go_wp2_with fail
          go_ret
          exact ⟨ret_bool HR.out.symm, B1.out⟩
        · have HN2 := Lib.hid (HN.out (by simpa using hab))
          rw [hab] at cS
          clear HN S2k hab
          go_wp2_with fail
          refine cS.out.mono ?_
          rintro e w1 ⟨rfl, b1⟩
          have B1 := Lib.hid (HB.out.trans (b1.mono HB.out.size))
          clear b1
          go_wp2_with fail
          go_roundw
          case rel => exact ⟨k + 1, by go_num, by omega, HN2, B1⟩
          case measure => simp [intOf]; omega
      · have HR := Lib.hid (S1'.out (by have := H0.out; rwa [show k = xn by omega] at this))
        clear H0
        go_wp2_with fail
        go_ret
        exact ⟨ret_bool HR.out.symm, HB.out⟩
  · have hlb : (((xn : Nat) : Int) != ((yn : Nat) : Int)) = true := by simp; omega
    have HR := Lib.hid (S3.out hl)
    clear hl
    go_enter Tryz.func32, Tryz.ntmps32
    go_wp2_with fail
    go_ret
    exact ⟨ret_bool HR.out.symm, Below.refl _ _⟩

theorem equalLists_any (x y : Sl) (L K : List (List Int)) (w : World) (hx : IsRows w x L) (hy : IsRows w y K) : Calls Tryz.prog 16 #[.slice x.A x.n x.c, .slice y.A y.n y.c] w fun e w' => e = .returned (.bool (L == K)) ∧ Below w.heap.size w w' := by
  have C := Lib.hid (equal_rows x y L K w hx hy)
  clear hx hy
  go_enter Tryz.func16, Tryz.ntmps16
  go_wp2_with fail
  refine C.out.mono ?_
  rintro e w1 ⟨rfl, b1⟩
  have B1 := Lib.hid b1
  clear b1
  go_wp2_with fail
  go_ret
  exact ⟨rfl, B1.out⟩

/-- Are two constraints the same? -/
def eqCon (a b : ConL) : Bool := a.kind == b.kind && a.K == b.K && a.A == b.A && a.B == b.B && a.C == b.C && a.D == b.D && a.E == b.E && a.rows == b.rows
theorem eqCon_iff (a b : ConL) : eqCon a b = true ↔ a = b := by
  obtain ⟨k1, a1, b1, c1, d1, e1, kk1, r1⟩ := a
  obtain ⟨k2, a2, b2, c2, d2, e2, kk2, r2⟩ := b
  simp only [eqCon, Bool.and_eq_true, beq_iff_eq, ConL.mk.injEq]
  constructor
  · rintro ⟨⟨⟨⟨⟨⟨⟨h1, h2⟩, h3⟩, h4⟩, h5⟩, h6⟩, h7⟩, h8⟩
    exact ⟨h1, h3, h4, h5, h6, h7, h2, h8⟩
  · rintro ⟨h1, h3, h4, h5, h6, h7, h2, h8⟩
    exact ⟨⟨⟨⟨⟨⟨⟨h1, h2⟩, h3⟩, h4⟩, h5⟩, h6⟩, h7⟩, h8⟩
end Go.Proofs.YtmamgaaeeonfmaaGreatDoor
