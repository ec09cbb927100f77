/- Contracts: the document's three and logic, kind by kind. Made by tools/genrg3.py. -/
import Derived.Test.YtkhmocbfkpbpfaaGreatDoorRg2
import Derived.Lib.MinMax
namespace Go.Proofs.YtkhmocbfkpbpfaaGreatDoor
open Go.RowKit Go.Sort

set_option maxHeartbeats 4000000 in
set_option maxRecDepth 100000 in
theorem rthree5 (v : ConV) (c : ConL) (y : Sl) (a : List Int) (w : World) (h : ConIn w v c) (hy : IsInts w y a) (r : ConR a.length c) (ba : ∀ v ∈ a, -1000000 ≤ v ∧ v ≤ 1000000) (hk : c.kind = 5) :
    Calls Tryz.prog 77 #[v.val c.kind c.K, .slice y.A y.n y.c] w fun e w' => e = .returned (.bool ((valsE c.A a).getD 0 0 * (valsE c.A a).getD 1 0 == (valsE c.A a).getD 2 0)) ∧ Below w.heap.size w w' := by
  obtain ⟨wb, hwb⟩ : ∃ wb, cBox w v c.kind c.K = wb := ⟨_, rfl⟩
  have HR : Hid (RBox w.heap.size wb v c y a ∧ Below w.heap.size w wb) := Lib.hid (hwb ▸ ⟨RBox.start h hy, cBox_below _ _ _ _⟩)
  have HWB := Lib.hid hwb
  have hn1 : v.a.n = 3 := by rw [h.a.len]; exact r.three (by omega) (by omega) (by omega)
  have HX := Lib.hid (vals_le r.pa ba)
  have hx := getD_in HX.out (by omega) 0
  have hz := getD_in HX.out (by omega) 1
  obtain ⟨adL, ad, p0, eL, ea, q1, q2, q3, q4⟩ := HR.out.1.at_ r.pa 0 (by omega)
  obtain ⟨adL', ad', p1, eL', ea', r1, r2, r3, r4⟩ := HR.out.1.at_ r.pa 1 (by omega)
  obtain rfl : adL = adL' := by rw [eL] at eL'; exact Option.some.inj eL'
  obtain rfl : ad = ad' := by rw [ea] at ea'; exact Option.some.inj ea'
  rw [gadd0] at q1
  have r1 : wb.cell? ⟨adL.block, adL.off + 1, none⟩ = some (.int .i64 (p1 : Nat)) := r1
  have hu := getD_in HX.out (by omega) 2
  obtain ⟨adL', ad', p2, eL'', ea'', s1, s2, s3, s4⟩ := HR.out.1.at_ r.pa 2 (by omega)
  obtain rfl : adL = adL' := by rw [eL] at eL''; exact Option.some.inj eL''
  obtain rfl : ad = ad' := by rw [ea] at ea''; exact Option.some.inj ea''
  have s1 : wb.cell? ⟨adL.block, adL.off + 2, none⟩ = some (.int .i64 (p2 : Nat)) := s1
  clear ea'' eL''
  have t8 : (c.kind == 8) = false := by simp [hk]
  have t11 : (c.kind == 11) = false := by simp [hk]
  have t5 : (c.kind == 5) = true := by simp [hk]
  have t9 : (c.kind == 9) = false := by simp [hk]
  have t10 : (c.kind == 10) = false := by simp [hk]
  have t6 : (c.kind == 6) = false := by simp [hk]
  have d0 := HR.out.1.c0
  have d1 := HR.out.1.c1
  have d3 := HR.out.1.c3
  rw [eL] at d1
  have EA := Lib.hid ea
  have EL := Lib.hid eL
  clear hwb h hy r ba hk ea ea' eL eL' hn1 HX
  generalize (valsE c.A a).getD 0 0 = x at *
  generalize (valsE c.A a).getD 1 0 = z at *
  generalize (valsE c.A a).getD 2 0 = u at *
  have hm := mul_abs hx hz
  have w1 : IntKind.i64.wrap (x * z) = x * z := IntWalk.i64_in _ (by omega)
  clear hm hx hz hu
  cases e0 : (x * z == u)
  all_goals
    go_enter Tryz.func77, Tryz.ntmps77
    go_upto_region 1 with fail
    change Code.wp _ _ _ _ (cBox w v c.kind c.K)
    rw [HWB.out]
    clear HWB
    rw [EA.out]
    clear EA EL
    go_wp2_with fail
    go_ret
    exact ⟨ret_bool (by first | rfl | exact e0 | exact e0.symm), HR.out.2⟩

set_option maxHeartbeats 4000000 in
set_option maxRecDepth 100000 in
theorem rthree8 (v : ConV) (c : ConL) (y : Sl) (a : List Int) (w : World) (h : ConIn w v c) (hy : IsInts w y a) (r : ConR a.length c) (ba : ∀ v ∈ a, -1000000 ≤ v ∧ v ≤ 1000000) (hk : c.kind = 8) :
    Calls Tryz.prog 77 #[v.val c.kind c.K, .slice y.A y.n y.c] w fun e w' => e = .returned (.bool (max ((valsE c.A a).getD 0 0) (-((valsE c.A a).getD 0 0)) == (valsE c.A a).getD 1 0)) ∧ Below w.heap.size w w' := by
  obtain ⟨wb, hwb⟩ : ∃ wb, cBox w v c.kind c.K = wb := ⟨_, rfl⟩
  have HR : Hid (RBox w.heap.size wb v c y a ∧ Below w.heap.size w wb) := Lib.hid (hwb ▸ ⟨RBox.start h hy, cBox_below _ _ _ _⟩)
  have HWB := Lib.hid hwb
  have hn1 : v.a.n = 2 := by rw [h.a.len]; exact r.two (by omega)
  have HX := Lib.hid (vals_le r.pa ba)
  have hx := getD_in HX.out (by omega) 0
  have hz := getD_in HX.out (by omega) 1
  obtain ⟨adL, ad, p0, eL, ea, q1, q2, q3, q4⟩ := HR.out.1.at_ r.pa 0 (by omega)
  obtain ⟨adL', ad', p1, eL', ea', r1, r2, r3, r4⟩ := HR.out.1.at_ r.pa 1 (by omega)
  obtain rfl : adL = adL' := by rw [eL] at eL'; exact Option.some.inj eL'
  obtain rfl : ad = ad' := by rw [ea] at ea'; exact Option.some.inj ea'
  rw [gadd0] at q1
  have r1 : wb.cell? ⟨adL.block, adL.off + 1, none⟩ = some (.int .i64 (p1 : Nat)) := r1
  have t8 : (c.kind == 8) = true := by simp [hk]
  have t11 : (c.kind == 11) = false := by simp [hk]
  have t5 : (c.kind == 5) = false := by simp [hk]
  have t9 : (c.kind == 9) = false := by simp [hk]
  have t10 : (c.kind == 10) = false := by simp [hk]
  have t6 : (c.kind == 6) = false := by simp [hk]
  have d0 := HR.out.1.c0
  have d1 := HR.out.1.c1
  have d3 := HR.out.1.c3
  rw [eL] at d1
  have EA := Lib.hid ea
  have EL := Lib.hid eL
  clear hwb h hy r ba hk ea ea' eL eL' hn1 HX
  generalize (valsE c.A a).getD 0 0 = x at *
  generalize (valsE c.A a).getD 1 0 = z at *
  have w1 : IntKind.i64.wrap (-x) = -x := IntWalk.i64_in _ (by omega)
  obtain ⟨R, hR⟩ : ∃ R, R = (max x (-x) == z) := ⟨_, rfl⟩
  rw [← hR]
  by_cases g : 0 ≤ x
  · have g1 : decide (0 ≤ x) = true := by simpa using g
    have g2 : decide (x < 0) = false := by simpa using g
    rw [show max x (-x) = x by omega] at hR
    cases e0 : (z == x)
    all_goals
      have HV : Hid (R = (z == x)) := Lib.hid (by rw [hR, Bool.eq_iff_iff]; simp; omega)
      rw [e0] at HV
      clear g hR hx hz
      go_enter Tryz.func77, Tryz.ntmps77
      go_upto_region 1 with fail
      change Code.wp _ _ _ _ (cBox w v c.kind c.K)
      rw [HWB.out]
      clear HWB
      rw [EA.out]
      clear EA EL
      go_wp2_with fail
      go_ret
      exact ⟨ret_bool HV.out.symm, HR.out.2⟩
  · have g1 : decide (0 ≤ x) = false := by simpa using g
    have g2 : decide (x < 0) = true := by simp; omega
    rw [show max x (-x) = -x by omega] at hR
    cases e0 : (z == -x)
    all_goals
      have HV : Hid (R = (z == -x)) := Lib.hid (by rw [hR, Bool.eq_iff_iff]; simp; omega)
      rw [e0] at HV
      clear g hR hx hz
      go_enter Tryz.func77, Tryz.ntmps77
      go_upto_region 1 with fail
      change Code.wp _ _ _ _ (cBox w v c.kind c.K)
      rw [HWB.out]
      clear HWB
      rw [EA.out]
      clear EA EL
      go_wp2_with fail
      go_ret
      exact ⟨ret_bool HV.out.symm, HR.out.2⟩

set_option maxHeartbeats 4000000 in
set_option maxRecDepth 100000 in
theorem rthree9 (v : ConV) (c : ConL) (y : Sl) (a : List Int) (w : World) (h : ConIn w v c) (hy : IsInts w y a) (r : ConR a.length c) (ba : ∀ v ∈ a, -1000000 ≤ v ∧ v ≤ 1000000) (hk : c.kind = 9) :
    Calls Tryz.prog 77 #[v.val c.kind c.K, .slice y.A y.n y.c] w fun e w' => e = .returned (.bool (min ((valsE c.A a).getD 0 0) ((valsE c.A a).getD 1 0) == (valsE c.A a).getD 2 0)) ∧ Below w.heap.size w w' := by
  obtain ⟨wb, hwb⟩ : ∃ wb, cBox w v c.kind c.K = wb := ⟨_, rfl⟩
  have HR : Hid (RBox w.heap.size wb v c y a ∧ Below w.heap.size w wb) := Lib.hid (hwb ▸ ⟨RBox.start h hy, cBox_below _ _ _ _⟩)
  have HWB := Lib.hid hwb
  have hn1 : v.a.n = 3 := by rw [h.a.len]; exact r.three (by omega) (by omega) (by omega)
  have HX := Lib.hid (vals_le r.pa ba)
  have hx := getD_in HX.out (by omega) 0
  have hz := getD_in HX.out (by omega) 1
  obtain ⟨adL, ad, p0, eL, ea, q1, q2, q3, q4⟩ := HR.out.1.at_ r.pa 0 (by omega)
  obtain ⟨adL', ad', p1, eL', ea', r1, r2, r3, r4⟩ := HR.out.1.at_ r.pa 1 (by omega)
  obtain rfl : adL = adL' := by rw [eL] at eL'; exact Option.some.inj eL'
  obtain rfl : ad = ad' := by rw [ea] at ea'; exact Option.some.inj ea'
  rw [gadd0] at q1
  have r1 : wb.cell? ⟨adL.block, adL.off + 1, none⟩ = some (.int .i64 (p1 : Nat)) := r1
  have hu := getD_in HX.out (by omega) 2
  obtain ⟨adL', ad', p2, eL'', ea'', s1, s2, s3, s4⟩ := HR.out.1.at_ r.pa 2 (by omega)
  obtain rfl : adL = adL' := by rw [eL] at eL''; exact Option.some.inj eL''
  obtain rfl : ad = ad' := by rw [ea] at ea''; exact Option.some.inj ea''
  have s1 : wb.cell? ⟨adL.block, adL.off + 2, none⟩ = some (.int .i64 (p2 : Nat)) := s1
  clear ea'' eL''
  have t8 : (c.kind == 8) = false := by simp [hk]
  have t11 : (c.kind == 11) = false := by simp [hk]
  have t5 : (c.kind == 5) = false := by simp [hk]
  have t9 : (c.kind == 9) = true := by simp [hk]
  have t10 : (c.kind == 10) = false := by simp [hk]
  have t6 : (c.kind == 6) = false := by simp [hk]
  have d0 := HR.out.1.c0
  have d1 := HR.out.1.c1
  have d3 := HR.out.1.c3
  rw [eL] at d1
  have EA := Lib.hid ea
  have EL := Lib.hid eL
  clear hwb h hy r ba hk ea ea' eL eL' hn1 HX
  generalize (valsE c.A a).getD 0 0 = x at *
  generalize (valsE c.A a).getD 1 0 = z at *
  generalize (valsE c.A a).getD 2 0 = u at *
  obtain ⟨R, hR⟩ : ∃ R, R = (min x z == u) := ⟨_, rfl⟩
  rw [← hR]
  have HV : Hid (R = ((decide (u ≤ x) && decide (u ≤ z)) && (u == x || u == z))) := Lib.hid (by rw [hR, Bool.eq_iff_iff]; simp; omega)
  clear hR hx hz hu
  cases g1 : decide (u ≤ x) <;> cases g2 : decide (u ≤ z) <;> cases g3 : (u == x) <;> cases g4 : (u == z)
  all_goals
    rw [g1, g2, g3, g4] at HV
    go_enter Tryz.func77, Tryz.ntmps77
    go_upto_region 1 with fail
    change Code.wp _ _ _ _ (cBox w v c.kind c.K)
    rw [HWB.out]
    clear HWB
    rw [EA.out]
    clear EA EL
    go_wp2_with fail
    go_ret
    exact ⟨ret_bool HV.out.symm, HR.out.2⟩

set_option maxHeartbeats 4000000 in
set_option maxRecDepth 100000 in
theorem rthree10 (v : ConV) (c : ConL) (y : Sl) (a : List Int) (w : World) (h : ConIn w v c) (hy : IsInts w y a) (r : ConR a.length c) (ba : ∀ v ∈ a, -1000000 ≤ v ∧ v ≤ 1000000) (hk : c.kind = 10) :
    Calls Tryz.prog 77 #[v.val c.kind c.K, .slice y.A y.n y.c] w fun e w' => e = .returned (.bool (max ((valsE c.A a).getD 0 0) ((valsE c.A a).getD 1 0) == (valsE c.A a).getD 2 0)) ∧ Below w.heap.size w w' := by
  obtain ⟨wb, hwb⟩ : ∃ wb, cBox w v c.kind c.K = wb := ⟨_, rfl⟩
  have HR : Hid (RBox w.heap.size wb v c y a ∧ Below w.heap.size w wb) := Lib.hid (hwb ▸ ⟨RBox.start h hy, cBox_below _ _ _ _⟩)
  have HWB := Lib.hid hwb
  have hn1 : v.a.n = 3 := by rw [h.a.len]; exact r.three (by omega) (by omega) (by omega)
  have HX := Lib.hid (vals_le r.pa ba)
  have hx := getD_in HX.out (by omega) 0
  have hz := getD_in HX.out (by omega) 1
  obtain ⟨adL, ad, p0, eL, ea, q1, q2, q3, q4⟩ := HR.out.1.at_ r.pa 0 (by omega)
  obtain ⟨adL', ad', p1, eL', ea', r1, r2, r3, r4⟩ := HR.out.1.at_ r.pa 1 (by omega)
  obtain rfl : adL = adL' := by rw [eL] at eL'; exact Option.some.inj eL'
  obtain rfl : ad = ad' := by rw [ea] at ea'; exact Option.some.inj ea'
  rw [gadd0] at q1
  have r1 : wb.cell? ⟨adL.block, adL.off + 1, none⟩ = some (.int .i64 (p1 : Nat)) := r1
  have hu := getD_in HX.out (by omega) 2
  obtain ⟨adL', ad', p2, eL'', ea'', s1, s2, s3, s4⟩ := HR.out.1.at_ r.pa 2 (by omega)
  obtain rfl : adL = adL' := by rw [eL] at eL''; exact Option.some.inj eL''
  obtain rfl : ad = ad' := by rw [ea] at ea''; exact Option.some.inj ea''
  have s1 : wb.cell? ⟨adL.block, adL.off + 2, none⟩ = some (.int .i64 (p2 : Nat)) := s1
  clear ea'' eL''
  have t8 : (c.kind == 8) = false := by simp [hk]
  have t11 : (c.kind == 11) = false := by simp [hk]
  have t5 : (c.kind == 5) = false := by simp [hk]
  have t9 : (c.kind == 9) = false := by simp [hk]
  have t10 : (c.kind == 10) = true := by simp [hk]
  have t6 : (c.kind == 6) = false := by simp [hk]
  have d0 := HR.out.1.c0
  have d1 := HR.out.1.c1
  have d3 := HR.out.1.c3
  rw [eL] at d1
  have EA := Lib.hid ea
  have EL := Lib.hid eL
  clear hwb h hy r ba hk ea ea' eL eL' hn1 HX
  generalize (valsE c.A a).getD 0 0 = x at *
  generalize (valsE c.A a).getD 1 0 = z at *
  generalize (valsE c.A a).getD 2 0 = u at *
  obtain ⟨R, hR⟩ : ∃ R, R = (max x z == u) := ⟨_, rfl⟩
  rw [← hR]
  have HV : Hid (R = ((decide (x ≤ u) && decide (z ≤ u)) && (u == x || u == z))) := Lib.hid (by rw [hR, Bool.eq_iff_iff]; simp; omega)
  clear hR hx hz hu
  cases g1 : decide (x ≤ u) <;> cases g2 : decide (z ≤ u) <;> cases g3 : (u == x) <;> cases g4 : (u == z)
  all_goals
    rw [g1, g2, g3, g4] at HV
    go_enter Tryz.func77, Tryz.ntmps77
    go_upto_region 1 with fail
    change Code.wp _ _ _ _ (cBox w v c.kind c.K)
    rw [HWB.out]
    clear HWB
    rw [EA.out]
    clear EA EL
    go_wp2_with fail
    go_ret
    exact ⟨ret_bool HV.out.symm, HR.out.2⟩

set_option maxHeartbeats 4000000 in
set_option maxRecDepth 100000 in
theorem rthree6 (v : ConV) (c : ConL) (y : Sl) (a : List Int) (w : World) (h : ConIn w v c) (hy : IsInts w y a) (r : ConR a.length c) (ba : ∀ v ∈ a, -1000000 ≤ v ∧ v ≤ 1000000) (hk : c.kind = 6) :
    Calls Tryz.prog 77 #[v.val c.kind c.K, .slice y.A y.n y.c] w fun e w' => e = .returned (.bool ((valsE c.A a).getD 1 0 != 0 && ((valsE c.A a).getD 0 0).tdiv ((valsE c.A a).getD 1 0) == (valsE c.A a).getD 2 0)) ∧ Below w.heap.size w w' := by
  obtain ⟨wb, hwb⟩ : ∃ wb, cBox w v c.kind c.K = wb := ⟨_, rfl⟩
  have HR : Hid (RBox w.heap.size wb v c y a ∧ Below w.heap.size w wb) := Lib.hid (hwb ▸ ⟨RBox.start h hy, cBox_below _ _ _ _⟩)
  have HWB := Lib.hid hwb
  have hn1 : v.a.n = 3 := by rw [h.a.len]; exact r.three (by omega) (by omega) (by omega)
  have HX := Lib.hid (vals_le r.pa ba)
  have hx := getD_in HX.out (by omega) 0
  have hz := getD_in HX.out (by omega) 1
  obtain ⟨adL, ad, p0, eL, ea, q1, q2, q3, q4⟩ := HR.out.1.at_ r.pa 0 (by omega)
  obtain ⟨adL', ad', p1, eL', ea', r1, r2, r3, r4⟩ := HR.out.1.at_ r.pa 1 (by omega)
  obtain rfl : adL = adL' := by rw [eL] at eL'; exact Option.some.inj eL'
  obtain rfl : ad = ad' := by rw [ea] at ea'; exact Option.some.inj ea'
  rw [gadd0] at q1
  have r1 : wb.cell? ⟨adL.block, adL.off + 1, none⟩ = some (.int .i64 (p1 : Nat)) := r1
  have hu := getD_in HX.out (by omega) 2
  obtain ⟨adL', ad', p2, eL'', ea'', s1, s2, s3, s4⟩ := HR.out.1.at_ r.pa 2 (by omega)
  obtain rfl : adL = adL' := by rw [eL] at eL''; exact Option.some.inj eL''
  obtain rfl : ad = ad' := by rw [ea] at ea''; exact Option.some.inj ea''
  have s1 : wb.cell? ⟨adL.block, adL.off + 2, none⟩ = some (.int .i64 (p2 : Nat)) := s1
  clear ea'' eL''
  have t8 : (c.kind == 8) = false := by simp [hk]
  have t11 : (c.kind == 11) = false := by simp [hk]
  have t5 : (c.kind == 5) = false := by simp [hk]
  have t9 : (c.kind == 9) = false := by simp [hk]
  have t10 : (c.kind == 10) = false := by simp [hk]
  have t6 : (c.kind == 6) = true := by simp [hk]
  have d0 := HR.out.1.c0
  have d1 := HR.out.1.c1
  have d3 := HR.out.1.c3
  rw [eL] at d1
  have EA := Lib.hid ea
  have EL := Lib.hid eL
  clear hwb h hy r ba hk ea ea' eL eL' hn1 HX
  generalize (valsE c.A a).getD 0 0 = x at *
  generalize (valsE c.A a).getD 1 0 = z at *
  generalize (valsE c.A a).getD 2 0 = u at *
  by_cases g : z = 0
  · have QN := Lib.hid (fun w => rquo_no x z w g)
    have hv : (z != 0) = false := by simp [g]
    rw [hv]
    simp only [Bool.false_and]
    clear hx hz hu g hv
    go_enter Tryz.func77, Tryz.ntmps77
    go_upto_region 1 with fail
    change Code.wp _ _ _ _ (cBox w v c.kind c.K)
    rw [HWB.out]
    clear HWB
    rw [EA.out]
    clear EA EL
    go_wp2_with (go_at_call 134; refine (QN.out _).mono ?_; rintro e w' ⟨rfl, rfl⟩)
    go_ret
    exact ⟨rfl, HR.out.2⟩
  · have QY := Lib.hid (fun w => rquo_yes x z w hx hz g)
    have hv : (z != 0) = true := by simp [g]
    rw [hv]
    simp only [Bool.true_and]
    clear hv
    generalize x.tdiv z = q at QY ⊢
    cases e0 : (q == u)
    all_goals
      clear hx hz hu g
      go_enter Tryz.func77, Tryz.ntmps77
      go_upto_region 1 with fail
      change Code.wp _ _ _ _ (cBox w v c.kind c.K)
      rw [HWB.out]
      clear HWB
      rw [EA.out]
      clear EA EL
      go_wp2_with (go_at_call 134; refine (QY.out _).mono ?_; rintro e w' ⟨rfl, rfl⟩)
      go_ret
      exact ⟨ret_bool (by first | rfl | exact e0 | exact e0.symm), HR.out.2⟩

set_option maxHeartbeats 4000000 in
set_option maxRecDepth 100000 in
theorem rthree7 (v : ConV) (c : ConL) (y : Sl) (a : List Int) (w : World) (h : ConIn w v c) (hy : IsInts w y a) (r : ConR a.length c) (ba : ∀ v ∈ a, -1000000 ≤ v ∧ v ≤ 1000000) (hk : c.kind = 7) :
    Calls Tryz.prog 77 #[v.val c.kind c.K, .slice y.A y.n y.c] w fun e w' => e = .returned (.bool ((valsE c.A a).getD 1 0 != 0 && ((valsE c.A a).getD 0 0).tmod ((valsE c.A a).getD 1 0) == (valsE c.A a).getD 2 0)) ∧ Below w.heap.size w w' := by
  obtain ⟨wb, hwb⟩ : ∃ wb, cBox w v c.kind c.K = wb := ⟨_, rfl⟩
  have HR : Hid (RBox w.heap.size wb v c y a ∧ Below w.heap.size w wb) := Lib.hid (hwb ▸ ⟨RBox.start h hy, cBox_below _ _ _ _⟩)
  have HWB := Lib.hid hwb
  have hn1 : v.a.n = 3 := by rw [h.a.len]; exact r.three (by omega) (by omega) (by omega)
  have HX := Lib.hid (vals_le r.pa ba)
  have hx := getD_in HX.out (by omega) 0
  have hz := getD_in HX.out (by omega) 1
  obtain ⟨adL, ad, p0, eL, ea, q1, q2, q3, q4⟩ := HR.out.1.at_ r.pa 0 (by omega)
  obtain ⟨adL', ad', p1, eL', ea', r1, r2, r3, r4⟩ := HR.out.1.at_ r.pa 1 (by omega)
  obtain rfl : adL = adL' := by rw [eL] at eL'; exact Option.some.inj eL'
  obtain rfl : ad = ad' := by rw [ea] at ea'; exact Option.some.inj ea'
  rw [gadd0] at q1
  have r1 : wb.cell? ⟨adL.block, adL.off + 1, none⟩ = some (.int .i64 (p1 : Nat)) := r1
  have hu := getD_in HX.out (by omega) 2
  obtain ⟨adL', ad', p2, eL'', ea'', s1, s2, s3, s4⟩ := HR.out.1.at_ r.pa 2 (by omega)
  obtain rfl : adL = adL' := by rw [eL] at eL''; exact Option.some.inj eL''
  obtain rfl : ad = ad' := by rw [ea] at ea''; exact Option.some.inj ea''
  have s1 : wb.cell? ⟨adL.block, adL.off + 2, none⟩ = some (.int .i64 (p2 : Nat)) := s1
  clear ea'' eL''
  have t8 : (c.kind == 8) = false := by simp [hk]
  have t11 : (c.kind == 11) = false := by simp [hk]
  have t5 : (c.kind == 5) = false := by simp [hk]
  have t9 : (c.kind == 9) = false := by simp [hk]
  have t10 : (c.kind == 10) = false := by simp [hk]
  have t6 : (c.kind == 6) = false := by simp [hk]
  have d0 := HR.out.1.c0
  have d1 := HR.out.1.c1
  have d3 := HR.out.1.c3
  rw [eL] at d1
  have EA := Lib.hid ea
  have EL := Lib.hid eL
  clear hwb h hy r ba hk ea ea' eL eL' hn1 HX
  generalize (valsE c.A a).getD 0 0 = x at *
  generalize (valsE c.A a).getD 1 0 = z at *
  generalize (valsE c.A a).getD 2 0 = u at *
  by_cases g : z = 0
  · have QN := Lib.hid (fun w => rquo_no x z w g)
    have hv : (z != 0) = false := by simp [g]
    rw [hv]
    simp only [Bool.false_and]
    clear hx hz hu g hv
    go_enter Tryz.func77, Tryz.ntmps77
    go_upto_region 1 with fail
    change Code.wp _ _ _ _ (cBox w v c.kind c.K)
    rw [HWB.out]
    clear HWB
    rw [EA.out]
    clear EA EL
    go_wp2_with (go_at_call 134; refine (QN.out _).mono ?_; rintro e w' ⟨rfl, rfl⟩)
    go_ret
    exact ⟨rfl, HR.out.2⟩
  · have QY := Lib.hid (fun w => rquo_yes x z w hx hz g)
    have hv : (z != 0) = true := by simp [g]
    rw [hv]
    simp only [Bool.true_and]
    clear hv
    have hq : z * x.tdiv z + x.tmod z = x := Int.mul_tdiv_add_tmod x z
    have hm := tmod_abs (b := z) hx
    have w1 : IntKind.i64.wrap (z * x.tdiv z) = z * x.tdiv z := IntWalk.i64_in _ (by omega)
    have w2 : IntKind.i64.wrap (x - z * x.tdiv z) = x.tmod z := by rw [show x - z * x.tdiv z = x.tmod z by omega]; exact IntWalk.i64_in _ (by omega)
    generalize x.tmod z = mm at *
    generalize x.tdiv z = q at *
    cases e0 : (mm == u)
    all_goals
      clear hx hz hu g hq hm
      go_enter Tryz.func77, Tryz.ntmps77
      go_upto_region 1 with fail
      change Code.wp _ _ _ _ (cBox w v c.kind c.K)
      rw [HWB.out]
      clear HWB
      rw [EA.out]
      clear EA EL
      go_wp2_with (go_at_call 134; refine (QY.out _).mono ?_; rintro e w' ⟨rfl, rfl⟩)
      go_ret
      exact ⟨ret_bool (by first | rfl | exact e0 | exact e0.symm), HR.out.2⟩

set_option maxHeartbeats 4000000 in
set_option maxRecDepth 100000 in
theorem rthree11 (v : ConV) (c : ConL) (y : Sl) (a : List Int) (w : World) (h : ConIn w v c) (hy : IsInts w y a) (r : ConR a.length c) (ba : ∀ v ∈ a, -1000000 ≤ v ∧ v ≤ 1000000) (hk : c.kind = 11) :
    Calls Tryz.prog 77 #[v.val c.kind c.K, .slice y.A y.n y.c] w fun e w' => e = .returned (.bool (placeB ((valsE c.A a).getD 0 0) c.C.length && atE c.C ((valsE c.A a).getD 0 0 - 1) == (valsE c.A a).getD 1 0)) ∧ Below w.heap.size w w' := by
  obtain ⟨wb, hwb⟩ : ∃ wb, cBox w v c.kind c.K = wb := ⟨_, rfl⟩
  have HR : Hid (RBox w.heap.size wb v c y a ∧ Below w.heap.size w wb) := Lib.hid (hwb ▸ ⟨RBox.start h hy, cBox_below _ _ _ _⟩)
  have HWB := Lib.hid hwb
  have hn1 : v.a.n = 2 := by rw [h.a.len]; exact r.two (by omega)
  have HX := Lib.hid (vals_le r.pa ba)
  have hx := getD_in HX.out (by omega) 0
  have hz := getD_in HX.out (by omega) 1
  obtain ⟨adL, ad, p0, eL, ea, q1, q2, q3, q4⟩ := HR.out.1.at_ r.pa 0 (by omega)
  obtain ⟨adL', ad', p1, eL', ea', r1, r2, r3, r4⟩ := HR.out.1.at_ r.pa 1 (by omega)
  obtain rfl : adL = adL' := by rw [eL] at eL'; exact Option.some.inj eL'
  obtain rfl : ad = ad' := by rw [ea] at ea'; exact Option.some.inj ea'
  rw [gadd0] at q1
  have r1 : wb.cell? ⟨adL.block, adL.off + 1, none⟩ = some (.int .i64 (p1 : Nat)) := r1
  have t8 : (c.kind == 8) = false := by simp [hk]
  have t11 : (c.kind == 11) = true := by simp [hk]
  have t5 : (c.kind == 5) = false := by simp [hk]
  have t9 : (c.kind == 9) = false := by simp [hk]
  have t10 : (c.kind == 10) = false := by simp [hk]
  have t6 : (c.kind == 6) = false := by simp [hk]
  have d0 := HR.out.1.c0
  have d1 := HR.out.1.c1
  have d3 := HR.out.1.c3
  rw [eL] at d1
  have EA := Lib.hid ea
  have EL := Lib.hid eL
  have hc1 : 1 ≤ v.c.n := by rw [h.c.len]; exact r.c11 hk
  have HCL := Lib.hid h.c.len
  have hc64 : v.c.n ≤ 64 := by rw [h.c.len]; exact r.c64
  clear hwb h hy r ba hk ea ea' eL eL' hn1 HX
  generalize (valsE c.A a).getD 0 0 = x at *
  generalize (valsE c.A a).getD 1 0 = z at *
  obtain ⟨R, hR⟩ : ∃ R, R = (placeB x c.C.length && atE c.C (x - 1) == z) := ⟨_, rfl⟩
  rw [← hR]
  unfold placeB at hR
  by_cases g : 1 ≤ x
  · have g1 : decide (1 ≤ x) = true := by simpa using g
    by_cases g' : x ≤ (v.c.n : Nat)
    · have g2 : decide (x ≤ ((v.c.n : Nat) : Int)) = true := by simpa using g'
      obtain ⟨k, hkx⟩ : ∃ k : Nat, x = (k : Int) + 1 := ⟨(x - 1).toNat, by omega⟩
      have hkn : k < v.c.n := by omega
      obtain ⟨adC, eC, q5⟩ := ints_at HR.out.1.con.c k hkn
      have w1 : IntKind.i64.wrap (x - 1) = (k : Nat) := by rw [show x - 1 = (k : Int) by omega]; exact IntWalk.i64_in _ (by omega)
      have m1 : max (0 : Int) ((k : Nat) : Int) = (k : Nat) := by omega
      have m2 : max ((k : Nat) : Int) 0 = (k : Nat) := by omega
      have m3 : ((k : Nat) : Int).tmod ((v.c.n : Nat) : Int) = (k : Nat) := by rw [Int.tmod_eq_emod_of_nonneg (by omega)]; exact Int.emod_eq_of_lt (by omega) (by omega)
      have m4 : (((v.c.n : Nat) : Int) == 0) = false := by simp; omega
      have m5 : ¬ ((v.c.n : Nat) : Int) = 0 := by omega
      rw [eC] at d3
      have HV : Hid (R = (c.C.getD k 0 == z)) := Lib.hid (by
        rw [hR, show atE c.C (x - 1) = c.C.getD k 0 by unfold atE; rw [show x - 1 = (k : Int) by omega]; rfl, ← HCL.out, g1, g2]
        rfl)
      generalize c.C.getD k 0 = t at *
      cases e0 : (t == z)
      all_goals
        rw [e0] at HV
        clear g g' hR hx hz hkx eC
        go_enter Tryz.func77, Tryz.ntmps77
        go_upto_region 1 with fail
        change Code.wp _ _ _ _ (cBox w v c.kind c.K)
        rw [HWB.out]
        clear HWB
        rw [EA.out]
        clear EA EL
        go_upto_region 6 with fail
        go_quiet (fail)
        have HR2 := Lib.hid (below_drewN HR.out.2 nq)
        generalize wb.drewN nq = w3 at *
        go_wp2_with fail
        go_ret
        exact ⟨ret_bool HV.out.symm, HR2.out⟩
    · have g2 : decide (x ≤ ((v.c.n : Nat) : Int)) = false := by simpa using g'
      have HV : Hid (R = false) := Lib.hid (by rw [hR, ← HCL.out, g2]; simp)
      clear g g' hR hx hz
      go_enter Tryz.func77, Tryz.ntmps77
      go_upto_region 1 with fail
      change Code.wp _ _ _ _ (cBox w v c.kind c.K)
      rw [HWB.out]
      clear HWB
      rw [EA.out]
      clear EA EL
      go_upto_region 6 with fail
      go_quiet (fail)
      have HR2 := Lib.hid (below_drewN HR.out.2 nq)
      generalize wb.drewN nq = w3 at *
      go_wp2_with fail
      go_ret
      exact ⟨ret_bool HV.out.symm, HR2.out⟩
  · have g1 : decide (1 ≤ x) = false := by simpa using g
    have HV : Hid (R = false) := Lib.hid (by rw [hR, g1]; simp)
    clear g hR hx hz
    go_enter Tryz.func77, Tryz.ntmps77
    go_upto_region 1 with fail
    change Code.wp _ _ _ _ (cBox w v c.kind c.K)
    rw [HWB.out]
    clear HWB
    rw [EA.out]
    clear EA EL
    go_upto_region 6 with fail
    go_quiet (fail)
    have HR2 := Lib.hid (below_drewN HR.out.2 nq)
    generalize wb.drewN nq = w3 at *
    go_wp2_with fail
    go_ret
    exact ⟨ret_bool HV.out.symm, HR2.out⟩

theorem rthree_any (v : ConV) (c : ConL) (y : Sl) (a : List Int) (w : World) (h : ConIn w v c) (hy : IsInts w y a) (r : ConR a.length c) (ba : ∀ v ∈ a, -1000000 ≤ v ∧ v ≤ 1000000) (hk : 5 ≤ c.kind ∧ c.kind ≤ 11) :
    Calls Tryz.prog 77 #[v.val c.kind c.K, .slice y.A y.n y.c] w fun e w' => e = .returned (.bool (meetsB c (valsE c.A a) (valsE c.B a))) ∧ Below w.heap.size w w' := by
  have : c.kind = 5 ∨ c.kind = 6 ∨ c.kind = 7 ∨ c.kind = 8 ∨ c.kind = 9 ∨ c.kind = 10 ∨ c.kind = 11 := by omega
  rcases this with e | e | e | e | e | e | e
  · have he : meetsB c (valsE c.A a) (valsE c.B a) = ((valsE c.A a).getD 0 0 * (valsE c.A a).getD 1 0 == (valsE c.A a).getD 2 0) := by unfold meetsB worksB; simp only [e]; simp
    rw [he]; exact rthree5 v c y a w h hy r ba e
  · have he : meetsB c (valsE c.A a) (valsE c.B a) = ((valsE c.A a).getD 1 0 != 0 && ((valsE c.A a).getD 0 0).tdiv ((valsE c.A a).getD 1 0) == (valsE c.A a).getD 2 0) := by unfold meetsB worksB; simp only [e]; simp
    rw [he]; exact rthree6 v c y a w h hy r ba e
  · have he : meetsB c (valsE c.A a) (valsE c.B a) = ((valsE c.A a).getD 1 0 != 0 && ((valsE c.A a).getD 0 0).tmod ((valsE c.A a).getD 1 0) == (valsE c.A a).getD 2 0) := by unfold meetsB worksB; simp only [e]; simp
    rw [he]; exact rthree7 v c y a w h hy r ba e
  · have he : meetsB c (valsE c.A a) (valsE c.B a) = (max ((valsE c.A a).getD 0 0) (-((valsE c.A a).getD 0 0)) == (valsE c.A a).getD 1 0) := by unfold meetsB worksB; simp only [e]; simp
    rw [he]; exact rthree8 v c y a w h hy r ba e
  · have he : meetsB c (valsE c.A a) (valsE c.B a) = (min ((valsE c.A a).getD 0 0) ((valsE c.A a).getD 1 0) == (valsE c.A a).getD 2 0) := by unfold meetsB worksB; simp only [e]; simp
    rw [he]; exact rthree9 v c y a w h hy r ba e
  · have he : meetsB c (valsE c.A a) (valsE c.B a) = (max ((valsE c.A a).getD 0 0) ((valsE c.A a).getD 1 0) == (valsE c.A a).getD 2 0) := by unfold meetsB worksB; simp only [e]; simp
    rw [he]; exact rthree10 v c y a w h hy r ba e
  · have he : meetsB c (valsE c.A a) (valsE c.B a) = (placeB ((valsE c.A a).getD 0 0) c.C.length && atE c.C ((valsE c.A a).getD 0 0 - 1) == (valsE c.A a).getD 1 0) := by unfold meetsB; simp only [e]; simp
    rw [he]; exact rthree11 v c y a w h hy r ba e

end Go.Proofs.YtkhmocbfkpbpfaaGreatDoor
