/- Contract of the document's Filter (layer 12). -/
import Derived.Test.YtkhmocbfkpbpfaaGreatDoorLay0
import Derived.Test.YtkhmocbfkpbpfaaGreatDoorExt3
import Derived.Test.YtkhmocbfkpbpfaaGreatDoorMulp
namespace Go.Proofs.YtkhmocbfkpbpfaaGreatDoor
open Go.RowKit Go.Sort

theorem between_in {A : List Int} {lo hi : Int} (h : ∀ v ∈ A, -1000000 ≤ v ∧ v ≤ 1000000) : ∀ v ∈ betweenE A lo hi, -1000000 ≤ v ∧ v ≤ 1000000 := fun v hv => h v (List.mem_filter.1 hv).1
theorem between_len (A : List Int) (lo hi : Int) : (betweenE A lo hi).length ≤ A.length := List.length_filter_le _ _
theorem low_tells {A B C : List Int} {E : List (List Int)} (lA : A.length ≤ 200000) (lB : B.length ≤ 200000) (lC : C.length ≤ 200000) (iA : ∀ v ∈ A, -1000000 ≤ v ∧ v ≤ 1000000) (iB : ∀ v ∈ B, -1000000 ≤ v ∧ v ≤ 1000000) (iC : ∀ v ∈ C, -1000000 ≤ v ∧ v ≤ 1000000) (h : lowE A B C = some E) :
    ∃ X Y Z, E = [X, Y, Z] ∧ (X.length ≤ 200000 ∧ Y.length ≤ 200000 ∧ Z.length ≤ 200000) ∧ (∀ v ∈ X, -1000000 ≤ v ∧ v ≤ 1000000) ∧ (∀ v ∈ Y, -1000000 ≤ v ∧ v ≤ 1000000) ∧ (∀ v ∈ Z, -1000000 ≤ v ∧ v ≤ 1000000) := by
  unfold lowE at h
  split at h
  · cases h
  · split at h
    · cases h
    · injection h with h
      exact ⟨_, _, _, h.symm, ⟨Nat.le_trans (between_len _ _ _) lA, Nat.le_trans (between_len _ _ _) lB, Nat.le_trans (between_len _ _ _) lC⟩, between_in iA, between_in iB, between_in iC⟩

set_option maxHeartbeats 8000000 in
set_option maxRecDepth 100000 in
theorem refext_no (v : ConV) (c : ConL) (x : Sl) (D : List (List Int)) (w : World) (h : ConIn w v c) (hx : IsRows w x D) (hf : fitsE c D 8 10 = false) :
    Calls Tryz.prog 19 #[v.val c.kind c.K, .slice x.A x.n x.c] w fun e w' => (∃ y : Sl, e = .returned (.tuple #[.slice y.A y.n y.c, .bool (extE c D).isSome]) ∧ IsRows w' y ((extE c D).getD [])) ∧ Below w.heap.size w w' := by
  obtain ⟨wb, hwb⟩ : ∃ wb, cBox w v c.kind c.K = wb := ⟨_, rfl⟩
  have HR : Hid (RBox w.heap.size wb v c ⟨none, 0, 0⟩ [] ∧ Below w.heap.size w wb) := Lib.hid (hwb ▸ ⟨RBox.start h (IsInts.nil _), cBox_below _ _ _ _⟩)
  have HX := Lib.hid (hx.below HR.out.2)
  have CM := Lib.hid (fits_any v c x D 8 10 wb HR.out.1.con HX.out)
  rw [hf] at CM
  obtain ⟨R, hR⟩ : ∃ R, R = extE c D := ⟨_, rfl⟩
  rw [← hR]
  have HWB := Lib.hid hwb
  have HB := Lib.hid HR.out.2
  have d0 := HR.out.1.c0
  have d1 := HR.out.1.c1
  have d2 := HR.out.1.c2
  have d3 := HR.out.1.c3
  have d4 := HR.out.1.c4
  have d5 := HR.out.1.c5
  have d6 := HR.out.1.c6
  have d7 := HR.out.1.c7
  have HRR := Lib.hid hR
  clear hwb h hx hR
  have HF : Hid (R = none) := Lib.hid (by rw [HRR.out]; exact extE_none hf)
  clear hf HRR
  go_enter Tryz.func19, Tryz.ntmps19
  go_upto_region 1 with fail
  change Code.wp _ _ _ _ (cBox w v c.kind c.K)
  rw [HWB.out]
  clear HWB
  go_wp2_with fail
  refine CM.out.mono ?_
  rintro e w1 ⟨rfl, b1⟩
  have B1 := Lib.hid (HB.out.trans (b1.mono HB.out.size))
  clear b1 CM d0 d1 d2 d3 d4 d5 d6 d7
  go_wp2_with fail
  go_ret2
  rw [HF.out]
  exact ⟨⟨⟨none, 0, 0⟩, rfl, IsRows.nil _⟩, B1.out⟩

set_option maxHeartbeats 8000000 in
set_option maxRecDepth 100000 in
theorem refext_two (v : ConV) (c : ConL) (x : Sl) (A Bs : List Int) (w : World) (h : ConIn w v c) (hx : IsRows w x [A, Bs]) (hf : fitsE c [A, Bs] 8 10 = true) (hk : c.kind = 8) (qA : DomL A) (qB : DomL Bs) (lA : A.length ≤ 200000) (lB : Bs.length ≤ 200000) :
    Calls Tryz.prog 19 #[v.val c.kind c.K, .slice x.A x.n x.c] w fun e w' => (∃ y : Sl, e = .returned (.tuple #[.slice y.A y.n y.c, .bool (extE c [A, Bs]).isSome]) ∧ IsRows w' y ((extE c [A, Bs]).getD [])) ∧ Below w.heap.size w w' := by
  obtain ⟨wb, hwb⟩ : ∃ wb, cBox w v c.kind c.K = wb := ⟨_, rfl⟩
  have HR : Hid (RBox w.heap.size wb v c ⟨none, 0, 0⟩ [] ∧ Below w.heap.size w wb) := Lib.hid (hwb ▸ ⟨RBox.start h (IsInts.nil _), cBox_below _ _ _ _⟩)
  have HX := Lib.hid (hx.below HR.out.2)
  have CM := Lib.hid (fits_any v c x [A, Bs] 8 10 wb HR.out.1.con HX.out)
  rw [hf] at CM
  obtain ⟨R, hR⟩ : ∃ R, R = extE c [A, Bs] := ⟨_, rfl⟩
  rw [← hR]
  have HWB := Lib.hid hwb
  have HB := Lib.hid HR.out.2
  have d0 := HR.out.1.c0
  have d1 := HR.out.1.c1
  have d2 := HR.out.1.c2
  have d3 := HR.out.1.c3
  have d4 := HR.out.1.c4
  have d5 := HR.out.1.c5
  have d6 := HR.out.1.c6
  have d7 := HR.out.1.c7
  have HRR := Lib.hid hR
  clear hwb h hx hR
  have HV : Hid (R = if absA A Bs = [] then none else some [ofL (absA A Bs), ofL (absB A Bs)]) := Lib.hid (by rw [HRR.out]; exact extE_two hf hk qA qB)
  have CP := Lib.hid (fun W (hW : Below wb.heap.size wb W) => refabs_walk x A Bs W (HX.out.below hW) lA lB (domL_in qA))
  have HTL := Lib.hid (fun MA MB MC an h => absmarks_tell (A := A) (B := Bs) (MA := MA) (MB := MB) (MC := MC) (an := an) qA qB h)
  have k8 : (c.kind == 8) = true := by simp [hk]
  clear hf HRR hk qA qB lA lB HX
  go_enter Tryz.func19, Tryz.ntmps19
  go_upto_region 1 with fail
  change Code.wp _ _ _ _ (cBox w v c.kind c.K)
  rw [HWB.out]
  clear HWB
  go_wp2_with fail
  refine CM.out.mono ?_
  rintro e w1 ⟨rfl, b1⟩
  have B1 := Lib.hid b1
  have e0 := (b1.cell (World.block_lt_of_cell? _ _ d0)).trans d0
  clear b1 CM d0 d1 d2 d3 d4 d5 d6 d7
  go_wp2_with fail
  refine (CP.out w1 B1.out).mono ?_
  rintro e w2 ⟨⟨an, MA, MB, MC, hM, y, rfl, hy⟩, b2⟩
  have B2 := Lib.hid (HB.out.trans ((B1.out.trans (b2.mono B1.out.size)).mono HB.out.size))
  have HY := Lib.hid hy
  obtain ⟨h1, h2⟩ := HTL.out MA MB MC an hM
  clear CP hy b2 e0 B1 hM
  cases an with
  | false =>
    have hE : absA A Bs = [] := by
      have := h1.symm
      simpa using this
    have HF : Hid (R = none) := Lib.hid (by rw [HV.out, if_pos hE])
    clear h1 h2 hE HV HTL
    go_wp2_with fail
    go_ret2
    rw [HF.out]
    exact ⟨⟨y, rfl, HY.out⟩, B2.out⟩
  | true =>
    have hE : absA A Bs ≠ [] := by
      have := h1.symm
      simpa using this
    obtain ⟨g1, g2⟩ := h2 rfl
    have HF : Hid (R = some [ofL (absA A Bs), ofL (absB A Bs)]) := Lib.hid (by rw [HV.out, if_neg hE])
    have HYY := Lib.hid (by have := HY.out; rw [if_pos rfl, g1, g2] at this; exact this)
    clear h1 h2 hE HV HTL g1 g2 HY
    go_wp2_with fail
    go_ret2
    rw [HF.out]
    exact ⟨⟨y, rfl, HYY.out⟩, B2.out⟩

set_option maxHeartbeats 8000000 in
set_option maxRecDepth 100000 in
theorem refext_fewp (v : ConV) (c : ConL) (x : Sl) (A Bs C : List Int) (w : World) (h : ConIn w v c) (hx : IsRows w x [A, Bs, C]) (hf : fitsE c [A, Bs, C] 8 10 = true) (hk : c.kind = 9 ∨ c.kind = 10) (hab : A.length * Bs.length ≤ 4096) (qA : DomL A) (qB : DomL Bs) (qC : DomL C) (lA : A.length ≤ 200000) (lB : Bs.length ≤ 200000) (lC : C.length ≤ 200000) :
    Calls Tryz.prog 19 #[v.val c.kind c.K, .slice x.A x.n x.c] w fun e w' => (∃ y : Sl, e = .returned (.tuple #[.slice y.A y.n y.c, .bool (extE c [A, Bs, C]).isSome]) ∧ IsRows w' y ((extE c [A, Bs, C]).getD [])) ∧ Below w.heap.size w w' := by
  obtain ⟨wb, hwb⟩ : ∃ wb, cBox w v c.kind c.K = wb := ⟨_, rfl⟩
  have HR : Hid (RBox w.heap.size wb v c ⟨none, 0, 0⟩ [] ∧ Below w.heap.size w wb) := Lib.hid (hwb ▸ ⟨RBox.start h (IsInts.nil _), cBox_below _ _ _ _⟩)
  have HX := Lib.hid (hx.below HR.out.2)
  have CM := Lib.hid (fits_any v c x [A, Bs, C] 8 10 wb HR.out.1.con HX.out)
  rw [hf] at CM
  obtain ⟨R, hR⟩ : ∃ R, R = extE c [A, Bs, C] := ⟨_, rfl⟩
  rw [← hR]
  have HWB := Lib.hid hwb
  have HB := Lib.hid HR.out.2
  have d0 := HR.out.1.c0
  have d1 := HR.out.1.c1
  have d2 := HR.out.1.c2
  have d3 := HR.out.1.c3
  have d4 := HR.out.1.c4
  have d5 := HR.out.1.c5
  have d6 := HR.out.1.c6
  have d7 := HR.out.1.c7
  have HRR := Lib.hid hR
  clear hwb h hx hR
  have HV : Hid (R = if hitsE (kindV c.kind) C A Bs = [] then none else some [ofL (h1 (hitsE (kindV c.kind) C A Bs)), ofL (h2 (hitsE (kindV c.kind) C A Bs)), ofL (h3 (hitsE (kindV c.kind) C A Bs))]) := Lib.hid (by rw [HRR.out]; exact extE_few hf hk qA qB qC hab)
  have CP := Lib.hid (fun W (hW : Below wb.heap.size wb W) => pairs_any c.kind x A Bs C W (by omega) (HX.out.below hW) qA qB qC lA lB lC)
  obtain ⟨xA, xn, xc⟩ := x
  have hxn : xn = 3 := HX.out.len
  subst hxn
  obtain ⟨ad, uA, e0, c0, hA0⟩ := rows_at HX.out 0 (show 0 < 3 by omega)
  obtain ⟨ad1, uB, e1, c1, hB0⟩ := rows_at HX.out 1 (show 1 < 3 by omega)
  obtain ⟨ad2, uC, e2, c2, hC0⟩ := rows_at HX.out 2 (show 2 < 3 by omega)
  simp only at e0 e1 e2
  subst e0
  obtain rfl : ad = ad1 := Option.some.inj e1
  obtain rfl : ad = ad2 := Option.some.inj e2
  obtain ⟨ab, ao, af⟩ := ad
  obtain ⟨aA, aN, aC⟩ := uA
  obtain ⟨bA, bN, bC⟩ := uB
  obtain ⟨cA, cN, cC⟩ := uC
  have hA1 : IsInts wb ⟨aA, aN, aC⟩ A := hA0
  have hB1 : IsInts wb ⟨bA, bN, bC⟩ Bs := hB0
  have hC1 : IsInts wb ⟨cA, cN, cC⟩ C := hC0
  obtain rfl : aN = A.length := hA1.len
  obtain rfl : bN = Bs.length := hB1.len
  obtain rfl : cN = C.length := hC1.len
  have c0 : wb.cell? ⟨ab, ao, af⟩ = some (.slice aA A.length aC) := by rw [add_zero] at c0; exact c0
  have c1 : wb.cell? ⟨ab, ao + 1, none⟩ = some (.slice bA Bs.length bC) := by simpa [Addr.add] using c1
  have c2 : wb.cell? ⟨ab, ao + 2, none⟩ = some (.slice cA C.length cC) := by simpa [Addr.add] using c2
  have HC0 := Lib.hid c0
  have HC1 := Lib.hid c1
  have HC2 := Lib.hid c2
  have HAI := Lib.hid hA1
  have HBI := Lib.hid hB1
  have HCI := Lib.hid hC1
  have hpl : A.length * Bs.length ≤ 200000 * 200000 := Nat.mul_le_mul lA lB
  have hwr : IntKind.i64.wrap (((A.length : Nat) : Int) * ((Bs.length : Nat) : Int)) = ((A.length : Nat) : Int) * ((Bs.length : Nat) : Int) := IntWalk.i64_in _ (by
    have : (((A.length : Nat) : Int) * ((Bs.length : Nat) : Int)) = ((A.length * Bs.length : Nat) : Int) := by simp
    omega)
  have k8 : (c.kind == 8) = false := by rw [beq_eq_false_iff_ne]; omega
  have t1 : decide (((A.length : Nat) : Int) * ((Bs.length : Nat) : Int) ≤ 4096) = true := by
    have : (((A.length : Nat) : Int) * ((Bs.length : Nat) : Int)) = ((A.length * Bs.length : Nat) : Int) := by simp
    simp only [this, decide_eq_true_eq]; omega
  obtain ⟨hs, hhs⟩ : ∃ hs, hs = hitsE (kindV c.kind) C A Bs := ⟨_, rfl⟩
  rw [← hhs] at HV CP
  clear hf HRR hk hab qA qB qC lA lB lC hhs hA0 hB0 hC0 hA1 hB1 hC1 c0 c1 c2 e1 e2 HX hpl HAI HBI HCI HC2
  go_enter Tryz.func19, Tryz.ntmps19
  go_upto_region 1 with fail
  change Code.wp _ _ _ _ (cBox w v c.kind c.K)
  rw [HWB.out]
  clear HWB
  go_wp2_with fail
  refine CM.out.mono ?_
  rintro e w1 ⟨rfl, b1⟩
  have B1 := Lib.hid b1
  have e0 := (b1.cell (World.block_lt_of_cell? _ _ d0)).trans d0
  have HD0 := Lib.hid e0
  have Q0 := cell_regrown ((b1.cell (World.block_lt_of_cell? _ _ HC0.out)).trans HC0.out)
  have Q1 := cell_regrown ((b1.cell (World.block_lt_of_cell? _ _ HC1.out)).trans HC1.out)
  clear b1 CM d0 d1 d2 d3 d4 d5 d6 d7
  go_upto_region 6 with fail
  refine wp_region_quiet_below (by kernel_rfl) (by kernel_rfl) ?_
  repeat (first | go_big_quiet_step (fail) | quiet_step (fail))
  refine wpQuiet_nil ?_
  intro _ hw'
  obtain ⟨⟨dq, osq⟩, hw''⟩ := hw'
  subst hw''
  have b5 := below_regrown w1 dq osq
  generalize grow (redrawn w1 dq) osq = w5 at *
  have B5 := Lib.hid (B1.out.trans (b5.mono B1.out.size))
  have d5 := (b5.cell (World.block_lt_of_cell? _ _ HD0.out)).trans HD0.out
  have CPP := Lib.hid (CP.out w5 B5.out)
  clear Q0 Q1 b5 e0 HD0 B1 CP HC0 HC1
  cases he : decide (hs ≠ []) with
  | false =>
    have hne : hs = [] := by simpa using he
    rw [he, if_pos hne] at CPP
    have HF : Hid (R = none) := Lib.hid (by rw [HV.out, if_pos hne])
    clear he hne HV
    go_wp2_with fail
    refine CPP.out.mono ?_
    rintro e w6 ⟨⟨y, rfl, hy⟩, b6⟩
    have HY := Lib.hid hy
    have B6 := Lib.hid (HB.out.trans ((B5.out.trans (b6.mono B5.out.size)).mono HB.out.size))
    clear hy b6 CPP
    go_wp2_with fail
    go_ret2
    rw [HF.out]
    exact ⟨⟨y, rfl, HY.out⟩, B6.out⟩
  | true =>
    have hne : hs ≠ [] := by simpa using he
    rw [he, if_neg hne] at CPP
    have HF : Hid (R = some [ofL (h1 hs), ofL (h2 hs), ofL (h3 hs)]) := Lib.hid (by rw [HV.out, if_neg hne])
    clear he hne HV
    go_wp2_with fail
    refine CPP.out.mono ?_
    rintro e w6 ⟨⟨y, rfl, hy⟩, b6⟩
    have HY := Lib.hid hy
    have B6 := Lib.hid (HB.out.trans ((B5.out.trans (b6.mono B5.out.size)).mono HB.out.size))
    clear hy b6 CPP
    go_wp2_with fail
    go_ret2
    rw [HF.out]
    exact ⟨⟨y, rfl, HY.out⟩, B6.out⟩

set_option maxHeartbeats 8000000 in
set_option maxRecDepth 100000 in
theorem refext_nine (v : ConV) (c : ConL) (x : Sl) (A Bs C : List Int) (w : World) (h : ConIn w v c) (hx : IsRows w x [A, Bs, C]) (hf : fitsE c [A, Bs, C] 8 10 = true) (hk : c.kind = 9) (hab : ¬ A.length * Bs.length ≤ 4096) (ha : A ≠ []) (hb : Bs ≠ []) (qA : DomL A) (qB : DomL Bs) (lA : A.length ≤ 200000) (lB : Bs.length ≤ 200000) (lC : C.length ≤ 200000) :
    Calls Tryz.prog 19 #[v.val c.kind c.K, .slice x.A x.n x.c] w fun e w' => (∃ y : Sl, e = .returned (.tuple #[.slice y.A y.n y.c, .bool (extE c [A, Bs, C]).isSome]) ∧ IsRows w' y ((extE c [A, Bs, C]).getD [])) ∧ Below w.heap.size w w' := by
  obtain ⟨wb, hwb⟩ : ∃ wb, cBox w v c.kind c.K = wb := ⟨_, rfl⟩
  have HR : Hid (RBox w.heap.size wb v c ⟨none, 0, 0⟩ [] ∧ Below w.heap.size w wb) := Lib.hid (hwb ▸ ⟨RBox.start h (IsInts.nil _), cBox_below _ _ _ _⟩)
  have HX := Lib.hid (hx.below HR.out.2)
  have CM := Lib.hid (fits_any v c x [A, Bs, C] 8 10 wb HR.out.1.con HX.out)
  rw [hf] at CM
  obtain ⟨R, hR⟩ : ∃ R, R = extE c [A, Bs, C] := ⟨_, rfl⟩
  rw [← hR]
  have HWB := Lib.hid hwb
  have HB := Lib.hid HR.out.2
  have d0 := HR.out.1.c0
  have d1 := HR.out.1.c1
  have d2 := HR.out.1.c2
  have d3 := HR.out.1.c3
  have d4 := HR.out.1.c4
  have d5 := HR.out.1.c5
  have d6 := HR.out.1.c6
  have d7 := HR.out.1.c7
  have HRR := Lib.hid hR
  clear hwb h hx hR
  have HV : Hid (R = lowE A Bs C) := Lib.hid (by rw [HRR.out]; exact low_nine hf hk hab (domL_in qA) (domL_in qB))
  have CP := Lib.hid (fun W (hW : Below wb.heap.size wb W) => low_any x A Bs C W (HX.out.below hW) lA lB lC ha hb)
  obtain ⟨xA, xn, xc⟩ := x
  have hxn : xn = 3 := HX.out.len
  subst hxn
  obtain ⟨ad, uA, e0, c0, hA0⟩ := rows_at HX.out 0 (show 0 < 3 by omega)
  obtain ⟨ad1, uB, e1, c1, hB0⟩ := rows_at HX.out 1 (show 1 < 3 by omega)
  obtain ⟨ad2, uC, e2, c2, hC0⟩ := rows_at HX.out 2 (show 2 < 3 by omega)
  simp only at e0 e1 e2
  subst e0
  obtain rfl : ad = ad1 := Option.some.inj e1
  obtain rfl : ad = ad2 := Option.some.inj e2
  obtain ⟨ab, ao, af⟩ := ad
  obtain ⟨aA, aN, aC⟩ := uA
  obtain ⟨bA, bN, bC⟩ := uB
  obtain ⟨cA, cN, cC⟩ := uC
  have hA1 : IsInts wb ⟨aA, aN, aC⟩ A := hA0
  have hB1 : IsInts wb ⟨bA, bN, bC⟩ Bs := hB0
  have hC1 : IsInts wb ⟨cA, cN, cC⟩ C := hC0
  obtain rfl : aN = A.length := hA1.len
  obtain rfl : bN = Bs.length := hB1.len
  obtain rfl : cN = C.length := hC1.len
  have c0 : wb.cell? ⟨ab, ao, af⟩ = some (.slice aA A.length aC) := by rw [add_zero] at c0; exact c0
  have c1 : wb.cell? ⟨ab, ao + 1, none⟩ = some (.slice bA Bs.length bC) := by simpa [Addr.add] using c1
  have c2 : wb.cell? ⟨ab, ao + 2, none⟩ = some (.slice cA C.length cC) := by simpa [Addr.add] using c2
  have HC0 := Lib.hid c0
  have HC1 := Lib.hid c1
  have HC2 := Lib.hid c2
  have HAI := Lib.hid hA1
  have HBI := Lib.hid hB1
  have HCI := Lib.hid hC1
  have hpl : A.length * Bs.length ≤ 200000 * 200000 := Nat.mul_le_mul lA lB
  have hwr : IntKind.i64.wrap (((A.length : Nat) : Int) * ((Bs.length : Nat) : Int)) = ((A.length : Nat) : Int) * ((Bs.length : Nat) : Int) := IntWalk.i64_in _ (by
    have : (((A.length : Nat) : Int) * ((Bs.length : Nat) : Int)) = ((A.length * Bs.length : Nat) : Int) := by simp
    omega)
  have k8 : (c.kind == 8) = false := by rw [beq_eq_false_iff_ne]; omega
  have t1 : decide (((A.length : Nat) : Int) * ((Bs.length : Nat) : Int) ≤ 4096) = false := by
    have : (((A.length : Nat) : Int) * ((Bs.length : Nat) : Int)) = ((A.length * Bs.length : Nat) : Int) := by simp
    simp only [this, decide_eq_false_iff_not]; omega
  have k9 : (c.kind == 9) = true := by simp [hk]
  rw [← HV.out] at CP
  clear hf HRR hk hab qA qB lA lB lC ha hb hA0 hB0 hC0 hA1 hB1 hC1 c0 c1 c2 e1 e2 HX hpl HAI HBI HCI HC2 HV
  go_enter Tryz.func19, Tryz.ntmps19
  go_upto_region 1 with fail
  change Code.wp _ _ _ _ (cBox w v c.kind c.K)
  rw [HWB.out]
  clear HWB
  go_wp2_with fail
  refine CM.out.mono ?_
  rintro e w1 ⟨rfl, b1⟩
  have B1 := Lib.hid b1
  have e0 := (b1.cell (World.block_lt_of_cell? _ _ d0)).trans d0
  have HD0 := Lib.hid e0
  have Q0 := cell_regrown ((b1.cell (World.block_lt_of_cell? _ _ HC0.out)).trans HC0.out)
  have Q1 := cell_regrown ((b1.cell (World.block_lt_of_cell? _ _ HC1.out)).trans HC1.out)
  clear b1 CM d0 d1 d2 d3 d4 d5 d6 d7
  go_upto_region 6 with fail
  refine wp_region_quiet_below (by kernel_rfl) (by kernel_rfl) ?_
  repeat (first | go_big_quiet_step (fail) | quiet_step (fail))
  refine wpQuiet_nil ?_
  intro _ hw'
  obtain ⟨⟨dq, osq⟩, hw''⟩ := hw'
  subst hw''
  have b5 := below_regrown w1 dq osq
  generalize grow (redrawn w1 dq) osq = w5 at *
  have B5 := Lib.hid (B1.out.trans (b5.mono B1.out.size))
  have d5 := (b5.cell (World.block_lt_of_cell? _ _ HD0.out)).trans HD0.out
  have CPP := Lib.hid (CP.out w5 B5.out)
  clear Q0 Q1 b5 e0 HD0 B1 CP HC0 HC1
  go_wp2_with fail
  refine CPP.out.mono ?_
  rintro e w6 ⟨⟨y, rfl, hy⟩, b6⟩
  have HY := Lib.hid hy
  have B6 := Lib.hid (HB.out.trans ((B5.out.trans (b6.mono B5.out.size)).mono HB.out.size))
  clear hy b6 CPP
  go_wp2_with fail
  go_ret2
  exact ⟨⟨y, rfl, HY.out⟩, B6.out⟩

set_option maxHeartbeats 8000000 in
set_option maxRecDepth 100000 in
theorem refext_ten (v : ConV) (c : ConL) (x : Sl) (A Bs C : List Int) (w : World) (h : ConIn w v c) (hx : IsRows w x [A, Bs, C]) (hf : fitsE c [A, Bs, C] 8 10 = true) (hk : c.kind = 10) (hab : ¬ A.length * Bs.length ≤ 4096) (ha : A ≠ []) (hb : Bs ≠ []) (qA : DomL A) (qB : DomL Bs) (qC : DomL C) (lA : A.length ≤ 200000) (lB : Bs.length ≤ 200000) (lC : C.length ≤ 200000) :
    Calls Tryz.prog 19 #[v.val c.kind c.K, .slice x.A x.n x.c] w fun e w' => (∃ y : Sl, e = .returned (.tuple #[.slice y.A y.n y.c, .bool (extE c [A, Bs, C]).isSome]) ∧ IsRows w' y ((extE c [A, Bs, C]).getD [])) ∧ Below w.heap.size w w' := by
  obtain ⟨wb, hwb⟩ : ∃ wb, cBox w v c.kind c.K = wb := ⟨_, rfl⟩
  have HR : Hid (RBox w.heap.size wb v c ⟨none, 0, 0⟩ [] ∧ Below w.heap.size w wb) := Lib.hid (hwb ▸ ⟨RBox.start h (IsInts.nil _), cBox_below _ _ _ _⟩)
  have HX := Lib.hid (hx.below HR.out.2)
  have CM := Lib.hid (fits_any v c x [A, Bs, C] 8 10 wb HR.out.1.con HX.out)
  rw [hf] at CM
  obtain ⟨R, hR⟩ : ∃ R, R = extE c [A, Bs, C] := ⟨_, rfl⟩
  rw [← hR]
  have HWB := Lib.hid hwb
  have HB := Lib.hid HR.out.2
  have d0 := HR.out.1.c0
  have d1 := HR.out.1.c1
  have d2 := HR.out.1.c2
  have d3 := HR.out.1.c3
  have d4 := HR.out.1.c4
  have d5 := HR.out.1.c5
  have d6 := HR.out.1.c6
  have d7 := HR.out.1.c7
  have HRR := Lib.hid hR
  clear hwb h hx hR
  have HV : Hid (R = (lowE (minusE A) (minusE Bs) (minusE C)).map fun E => E.map minusE) := Lib.hid (by rw [HRR.out]; exact low_ten hf hk hab ha hb (domL_in qA) (domL_in qB))
  have HIA := Lib.hid (domL_in qA)
  have HIB := Lib.hid (domL_in qB)
  have HIC := Lib.hid (domL_in qC)
  have HNA := Lib.hid (And.intro ha hb)
  have CN := Lib.hid (fun (x : Sl) (L : List Int) (W : World) (h : IsInts W x L) (hb : L.length ≤ 200000) (iL : ∀ v ∈ L, -1000000 ≤ v ∧ v ≤ 1000000) => minus_any x L W h hb iL)
  obtain ⟨xA, xn, xc⟩ := x
  have hxn : xn = 3 := HX.out.len
  subst hxn
  obtain ⟨ad, uA, e0, c0, hA0⟩ := rows_at HX.out 0 (show 0 < 3 by omega)
  obtain ⟨ad1, uB, e1, c1, hB0⟩ := rows_at HX.out 1 (show 1 < 3 by omega)
  obtain ⟨ad2, uC, e2, c2, hC0⟩ := rows_at HX.out 2 (show 2 < 3 by omega)
  simp only at e0 e1 e2
  subst e0
  obtain rfl : ad = ad1 := Option.some.inj e1
  obtain rfl : ad = ad2 := Option.some.inj e2
  obtain ⟨ab, ao, af⟩ := ad
  obtain ⟨aA, aN, aC⟩ := uA
  obtain ⟨bA, bN, bC⟩ := uB
  obtain ⟨cA, cN, cC⟩ := uC
  have hA1 : IsInts wb ⟨aA, aN, aC⟩ A := hA0
  have hB1 : IsInts wb ⟨bA, bN, bC⟩ Bs := hB0
  have hC1 : IsInts wb ⟨cA, cN, cC⟩ C := hC0
  obtain rfl : aN = A.length := hA1.len
  obtain rfl : bN = Bs.length := hB1.len
  obtain rfl : cN = C.length := hC1.len
  have c0 : wb.cell? ⟨ab, ao, af⟩ = some (.slice aA A.length aC) := by rw [add_zero] at c0; exact c0
  have c1 : wb.cell? ⟨ab, ao + 1, none⟩ = some (.slice bA Bs.length bC) := by simpa [Addr.add] using c1
  have c2 : wb.cell? ⟨ab, ao + 2, none⟩ = some (.slice cA C.length cC) := by simpa [Addr.add] using c2
  have HC0 := Lib.hid c0
  have HC1 := Lib.hid c1
  have HC2 := Lib.hid c2
  have HAI := Lib.hid hA1
  have HBI := Lib.hid hB1
  have HCI := Lib.hid hC1
  have hpl : A.length * Bs.length ≤ 200000 * 200000 := Nat.mul_le_mul lA lB
  have hwr : IntKind.i64.wrap (((A.length : Nat) : Int) * ((Bs.length : Nat) : Int)) = ((A.length : Nat) : Int) * ((Bs.length : Nat) : Int) := IntWalk.i64_in _ (by
    have : (((A.length : Nat) : Int) * ((Bs.length : Nat) : Int)) = ((A.length * Bs.length : Nat) : Int) := by simp
    omega)
  have k8 : (c.kind == 8) = false := by rw [beq_eq_false_iff_ne]; omega
  have t1 : decide (((A.length : Nat) : Int) * ((Bs.length : Nat) : Int) ≤ 4096) = false := by
    have : (((A.length : Nat) : Int) * ((Bs.length : Nat) : Int)) = ((A.length * Bs.length : Nat) : Int) := by simp
    simp only [this, decide_eq_false_iff_not]; omega
  have k9 : (c.kind == 9) = false := by rw [beq_eq_false_iff_ne]; omega
  clear hf HRR hk hab qA qB qC ha hb hA0 hB0 hC0 hA1 hB1 hC1 c0 c1 c2 e1 e2 HX hpl
  go_enter Tryz.func19, Tryz.ntmps19
  go_upto_region 1 with fail
  change Code.wp _ _ _ _ (cBox w v c.kind c.K)
  rw [HWB.out]
  clear HWB
  go_wp2_with fail
  refine CM.out.mono ?_
  rintro e w1 ⟨rfl, b1⟩
  have B1 := Lib.hid b1
  have e0 := (b1.cell (World.block_lt_of_cell? _ _ d0)).trans d0
  have HD0 := Lib.hid e0
  have Q0 := cell_regrown ((b1.cell (World.block_lt_of_cell? _ _ HC0.out)).trans HC0.out)
  have Q1 := cell_regrown ((b1.cell (World.block_lt_of_cell? _ _ HC1.out)).trans HC1.out)
  clear b1 CM d0 d1 d2 d3 d4 d5 d6 d7
  go_upto_region 6 with fail
  refine wp_region_quiet_below (by kernel_rfl) (by kernel_rfl) ?_
  repeat (first | go_big_quiet_step (fail) | quiet_step (fail))
  refine wpQuiet_nil ?_
  intro _ hw'
  obtain ⟨⟨dq, osq⟩, hw''⟩ := hw'
  subst hw''
  have b5 := below_regrown w1 dq osq
  generalize grow (redrawn w1 dq) osq = w5 at *
  have B5 := Lib.hid (B1.out.trans (b5.mono B1.out.size))
  have d5 := (b5.cell (World.block_lt_of_cell? _ _ HD0.out)).trans HD0.out
  clear Q0 Q1 b5 e0 HD0 B1
  have p0 := (B5.out.cell (World.block_lt_of_cell? _ _ HC0.out)).trans HC0.out
  have CN0 := Lib.hid (CN.out ⟨aA, A.length, aC⟩ A w5 (HAI.out.below B5.out) lA (HIA.out))
  go_wp2_with fail
  refine CN0.out.mono ?_
  rintro e w6 ⟨⟨m0, rfl, r0⟩, b6⟩
  have B6 := Lib.hid (B5.out.trans (b6.mono B5.out.size))
  have hM0 : IsInts w6 m0 (minusE A) := ints_own r0 (by rw [minus_len]; omega)
  have HM0 := Lib.hid hM0
  clear hM0 r0 b6 CN0 p0 B5
  have p1 := (B6.out.cell (World.block_lt_of_cell? _ _ HC1.out)).trans HC1.out
  have CN1 := Lib.hid (CN.out ⟨bA, Bs.length, bC⟩ Bs w6 (HBI.out.below B6.out) lB (HIB.out))
  go_wp2_with fail
  refine CN1.out.mono ?_
  rintro e w7 ⟨⟨m1, rfl, r1⟩, b7⟩
  have B7 := Lib.hid (B6.out.trans (b7.mono B6.out.size))
  have hM1 : IsInts w7 m1 (minusE Bs) := ints_own r1 (by rw [minus_len]; omega)
  have HM0 := Lib.hid (HM0.out.below b7)
  have HM1 := Lib.hid hM1
  clear hM1 r1 b7 CN1 p1 B6
  have p2 := (B7.out.cell (World.block_lt_of_cell? _ _ HC2.out)).trans HC2.out
  have CN2 := Lib.hid (CN.out ⟨cA, C.length, cC⟩ C w7 (HCI.out.below B7.out) lC (HIC.out))
  go_wp2_with fail
  refine CN2.out.mono ?_
  rintro e w8 ⟨⟨m2, rfl, r2⟩, b8⟩
  have B8 := Lib.hid (B7.out.trans (b8.mono B7.out.size))
  have hM2 : IsInts w8 m2 (minusE C) := ints_own r2 (by rw [minus_len]; omega)
  have HM0 := Lib.hid (HM0.out.below b8)
  have HM1 := Lib.hid (HM1.out.below b8)
  have HM2 := Lib.hid hM2
  clear hM2 r2 b8 CN2 p2 B7
  obtain ⟨w9, hw9⟩ : ∃ w9, w8.alloc (.cells #[.slice m0.A m0.n m0.c, .slice m1.A m1.n m1.c, .slice m2.A m2.n m2.c] 30) = w9 := ⟨_, rfl⟩
  have hrows := rows_build3 HM0.out HM1.out HM2.out
  rw [hw9] at hrows
  have b9 : Below w8.heap.size w8 w9 := hw9 ▸ below1 w8 _
  have B9 := Lib.hid (B8.out.trans (b9.mono B8.out.size))
  have CL := low_any ⟨some ⟨w8.heap.size, 0, none⟩, 3, 3⟩ (minusE A) (minusE Bs) (minusE C) w9 hrows (by rw [minus_len]; exact lA) (by rw [minus_len]; exact lB) (by rw [minus_len]; exact lC) (fun q => HNA.out.1 (minus_ne.1 q)) (fun q => HNA.out.2 (minus_ne.1 q))
  have HLE : Hid (∀ E, lowE (minusE A) (minusE Bs) (minusE C) = some E → ∃ X Y Z, E = [X, Y, Z] ∧ (X.length ≤ 200000 ∧ Y.length ≤ 200000 ∧ Z.length ≤ 200000) ∧ (∀ v ∈ X, -1000000 ≤ v ∧ v ≤ 1000000) ∧ (∀ v ∈ Y, -1000000 ≤ v ∧ v ≤ 1000000) ∧ (∀ v ∈ Z, -1000000 ≤ v ∧ v ≤ 1000000)) := Lib.hid (fun E h => low_tells (by rw [minus_len]; exact lA) (by rw [minus_len]; exact lB) (by rw [minus_len]; exact lC) (minus_in HIA.out) (minus_in HIB.out) (minus_in HIC.out) h)
  have CL := Lib.hid CL
  obtain ⟨E0, hE0⟩ : ∃ E0, E0 = lowE (minusE A) (minusE Bs) (minusE C) := ⟨_, rfl⟩
  rw [← hE0] at CL HV HLE
  clear hrows b9 HM0 HM1 HM2 B8 lA lB lC hE0 HC0 HC1 HC2 HAI HBI HCI HIA HIB HIC HNA t1 hwr
  cases E0 with
  | none =>
    have HF : Hid (R = none) := Lib.hid (by rw [HV.out]; rfl)
    have CL : Hid (Calls Tryz.prog 61 #[.slice (some ⟨w8.heap.size, 0, none⟩) 3 3] w9 fun e w' => (∃ y : Sl, e = .returned (.tuple #[.slice y.A y.n y.c, .bool false]) ∧ IsRows w' y []) ∧ Below w9.heap.size w9 w') := CL
    clear HV HLE CN
    go_wp2_with fail
    refine CL.out.mono ?_
    rintro e wA ⟨⟨y, rfl, -⟩, bA⟩
    have BA := Lib.hid (HB.out.trans ((B9.out.trans (bA.mono B9.out.size)).mono HB.out.size))
    clear CL bA
    go_wp2_with fail
    go_ret2
    rw [HF.out]
    exact ⟨⟨⟨none, 0, 0⟩, rfl, IsRows.nil _⟩, BA.out⟩
  | some E =>
    obtain ⟨X, Y, Z, rfl, ⟨lX, lY, lZ⟩, iX, iY, iZ⟩ := HLE.out E rfl
    have HF : Hid (R = some [minusE X, minusE Y, minusE Z]) := Lib.hid (by rw [HV.out]; rfl)
    have CL : Hid (Calls Tryz.prog 61 #[.slice (some ⟨w8.heap.size, 0, none⟩) 3 3] w9 fun e w' => (∃ y : Sl, e = .returned (.tuple #[.slice y.A y.n y.c, .bool true]) ∧ IsRows w' y [X, Y, Z]) ∧ Below w9.heap.size w9 w') := CL
    have HIX := Lib.hid (And.intro iX (And.intro iY iZ))
    clear HV HLE iX iY iZ
    go_wp2_with fail
    refine CL.out.mono ?_
    rintro e wA ⟨⟨y, rfl, hy⟩, bA⟩
    have BA := Lib.hid (B9.out.trans (bA.mono B9.out.size))
    obtain ⟨yA, yn, yc⟩ := y
    have hyn : yn = 3 := hy.len
    subst hyn
    obtain ⟨ad, uA, e0, c0, hA0⟩ := rows_at hy 0 (show 0 < 3 by omega)
    obtain ⟨ad1, uB, e1, c1, hB0⟩ := rows_at hy 1 (show 1 < 3 by omega)
    obtain ⟨ad2, uC, e2, c2, hC0⟩ := rows_at hy 2 (show 2 < 3 by omega)
    simp only at e0 e1 e2
    subst e0
    obtain rfl : ad = ad1 := Option.some.inj e1
    obtain rfl : ad = ad2 := Option.some.inj e2
    obtain ⟨gb, go, gf⟩ := ad
    have c0 : wA.cell? ⟨gb, go, gf⟩ = some (.slice uA.A uA.n uA.c) := by rw [add_zero] at c0; exact c0
    have c1 : wA.cell? ⟨gb, go + 1, none⟩ = some (.slice uB.A uB.n uB.c) := by simpa [Addr.add] using c1
    have c2 : wA.cell? ⟨gb, go + 2, none⟩ = some (.slice uC.A uC.n uC.c) := by simpa [Addr.add] using c2
    have HU := Lib.hid (And.intro (show IsInts wA uA X from hA0) (And.intro (show IsInts wA uB Y from hB0) (show IsInts wA uC Z from hC0)))
    have HK := Lib.hid (And.intro c1 c2)
    have N0 := Lib.hid (CN.out uA X wA HU.out.1 lX HIX.out.1)
    clear CL hy bA hA0 hB0 hC0 e1 e2 c1 c2 B9 hw9
    go_wp2_with fail
    refine N0.out.mono ?_
    rintro e wB ⟨⟨n0, rfl, r0⟩, bB⟩
    have hN0 : IsInts wB n0 (minusE X) := ints_own r0 (by rw [minus_len]; omega)
    have BB := Lib.hid (BA.out.trans (bB.mono BA.out.size))
    have c1 := (bB.cell (World.block_lt_of_cell? _ _ HK.out.1)).trans HK.out.1
    have N1 := Lib.hid (CN.out uB Y wB (HU.out.2.1.below bB) lY HIX.out.2.1)
    have HUC := Lib.hid (HU.out.2.2.below bB)
    have HKC := Lib.hid ((bB.cell (World.block_lt_of_cell? _ _ HK.out.2)).trans HK.out.2)
    have HN0 := Lib.hid hN0
    clear N0 r0 bB hN0 c0 HU HK BA
    go_wp2_with fail
    refine N1.out.mono ?_
    rintro e wC ⟨⟨n1, rfl, r1⟩, bC⟩
    have hN1 : IsInts wC n1 (minusE Y) := ints_own r1 (by rw [minus_len]; omega)
    have BC := Lib.hid (BB.out.trans (bC.mono BB.out.size))
    have c2 := (bC.cell (World.block_lt_of_cell? _ _ HKC.out)).trans HKC.out
    have N2 := Lib.hid (CN.out uC Z wC (HUC.out.below bC) lZ HIX.out.2.2)
    have HN0 := Lib.hid (HN0.out.below bC)
    have HN1 := Lib.hid hN1
    clear N1 r1 bC hN1 c1 HUC HKC BB CN HIX
    go_wp2_with fail
    refine N2.out.mono ?_
    rintro e wD ⟨⟨n2, rfl, r2⟩, bD⟩
    have hN2 : IsInts wD n2 (minusE Z) := ints_own r2 (by rw [minus_len]; omega)
    have BD := Lib.hid (HB.out.trans ((BC.out.trans (bD.mono BC.out.size)).mono HB.out.size))
    have HFF := Lib.hid (rows_build3 (HN0.out.below bD) (HN1.out.below bD) hN2)
    have BF := Lib.hid (BD.out.trans ((below1 wD (.cells #[.slice n0.A n0.n n0.c, .slice n1.A n1.n n1.c, .slice n2.A n2.n n2.c] 30)).mono BD.out.size))
    clear N2 r2 bD hN2 c2 HN0 HN1 BC BD lX lY lZ
    go_wp2_with fail
    go_ret2
    rw [HF.out]
    exact ⟨⟨⟨some ⟨wD.heap.size, 0, none⟩, 3, 3⟩, rfl, HFF.out⟩, BF.out⟩

theorem refext_any (v : ConV) (c : ConL) (x : Sl) (D : List (List Int)) (w : World) (h : ConIn w v c) (hx : IsRows w x D) (hD : ∀ l ∈ D, DomL l ∧ l.length ≤ 200000) :
    Calls Tryz.prog 19 #[v.val c.kind c.K, .slice x.A x.n x.c] w fun e w' => (∃ y : Sl, e = .returned (.tuple #[.slice y.A y.n y.c, .bool (extE c D).isSome]) ∧ IsRows w' y ((extE c D).getD [])) ∧ Below w.heap.size w w' := by
  cases hf : fitsE c D 8 10 with
  | false => exact refext_no v c x D w h hx hf
  | true =>
    rcases fits_ext hf with ⟨hk, A, B, rfl, ha, hb⟩ | ⟨hk, A, B, C, rfl, ha, hb, hc⟩
    · exact refext_two v c x A B w h hx hf hk (hD A (by simp)).1 (hD B (by simp)).1 (hD A (by simp)).2 (hD B (by simp)).2
    · obtain ⟨qA, lA⟩ := hD A (by simp)
      obtain ⟨qB, lB⟩ := hD B (by simp)
      obtain ⟨qC, lC⟩ := hD C (by simp)
      by_cases hab : A.length * B.length ≤ 4096
      · exact refext_fewp v c x A B C w h hx hf hk hab qA qB qC lA lB lC
      · rcases hk with hk | hk
        · exact refext_nine v c x A B C w h hx hf hk hab ha hb qA qB lA lB lC
        · exact refext_ten v c x A B C w h hx hf hk hab ha hb qA qB qC lA lB lC
theorem refext_few (v : ConV) (c : ConL) (x : Sl) (D : List (List Int)) (w : World) (h : ConIn w v c) (hx : IsRows w x D) (hD : ∀ l ∈ D, DomL l ∧ l.length ≤ 60) :
    Calls Tryz.prog 19 #[v.val c.kind c.K, .slice x.A x.n x.c] w fun e w' => (∃ y : Sl, e = .returned (.tuple #[.slice y.A y.n y.c, .bool (extE c D).isSome]) ∧ IsRows w' y ((extE c D).getD [])) ∧ Below w.heap.size w w' :=
  refext_any v c x D w h hx fun l hl => ⟨(hD l hl).1, by have := (hD l hl).2; omega⟩
end Go.Proofs.YtkhmocbfkpbpfaaGreatDoor
