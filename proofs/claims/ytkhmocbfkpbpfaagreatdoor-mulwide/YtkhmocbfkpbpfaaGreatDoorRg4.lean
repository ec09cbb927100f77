/- Contracts: the document's logic, kind by kind. Made by tools/genrg4.py. -/
import Derived.Test.YtkhmocbfkpbpfaaGreatDoorRg3
namespace Go.Proofs.YtkhmocbfkpbpfaaGreatDoor
open Go.RowKit Go.Sort

theorem none_yes {p : Nat → Bool} {n : Nat} (h : noTo p n) : noneN p n = true := by
  unfold noneN
  rw [show (List.range n).any p = false from List.any_eq_false.2 (fun x hx => by rw [h x (List.mem_range.1 hx)]; simp)]
  rfl
theorem none_no {p : Nat → Bool} {n k : Nat} (hk : k < n) (h : p k = true) : noneN p n = false := by
  unfold noneN
  rw [show (List.range n).any p = true from List.any_eq_true.2 ⟨k, List.mem_range.2 hk, h⟩]
  rfl
theorem noTo_step {p : Nat → Bool} {k : Nat} (h : noTo p k) (e : p k = false) : noTo p (k + 1) := fun j hj => by
  by_cases h' : j < k
  · exact h j h'
  · obtain rfl : j = k := by omega
    exact e
theorem noTo_zero (p : Nat → Bool) : noTo p 0 := fun j hj => absurd hj (by omega)

set_option maxHeartbeats 4000000 in
set_option maxRecDepth 100000 in
theorem rlogic12 (v : ConV) (c : ConL) (y : Sl) (a : List Int) (w : World) (h : ConIn w v c) (hy : IsInts w y a) (r : ConR a.length c) (hk : c.kind = 12) :
    Calls Tryz.prog 78 #[v.val c.kind c.K, .slice y.A y.n y.c] w fun e w' => e = .returned (.bool ((valsE c.A a).any (· == 1) || (valsE c.B a).any (· == 0))) ∧ Below w.heap.size w w' := by
  obtain ⟨wb, hwb⟩ : ∃ wb, cBox w v c.kind c.K = wb := ⟨_, rfl⟩
  have HR : Hid (RBox w.heap.size wb v c y a ∧ Below w.heap.size w wb) := Lib.hid (hwb ▸ ⟨RBox.start h hy, cBox_below _ _ _ _⟩)
  have HWB := Lib.hid hwb
  have HPA := Lib.hid r.pa
  have HPB := Lib.hid r.pb
  have HA : Hid (noneN (fun i => (valsE c.A a).getD i 0 == 1) v.a.n = !(valsE c.A a).any (· == 1)) := Lib.hid (by rw [h.a.len, ← vals_size c.A a]; exact none_ints (fun x => x == 1) _)
  have HB : Hid (noneN (fun i => (valsE c.B a).getD i 0 == 0) v.b.n = !(valsE c.B a).any (· == 0)) := Lib.hid (by rw [h.b.len, ← vals_size c.B a]; exact none_ints (fun x => x == 0) _)
  have t12 : (c.kind == 12) = true := by simp [hk]
  have d0 := HR.out.1.c0
  have hn64 : v.a.n ≤ 64 := by rw [h.a.len]; exact r.a64
  have hm64 : v.b.n ≤ 64 := by rw [h.b.len]; exact r.b64
  generalize (valsE c.A a).any (· == 1) = RA at *
  generalize (valsE c.B a).any (· == 0) = RB at *
  clear hwb h hy r hk
  go_enter Tryz.func78, Tryz.ntmps78
  go_upto_region 1 with fail
  change Code.wp _ _ _ _ (cBox w v c.kind c.K)
  rw [HWB.out]
  clear HWB
  go_wp2_with fail
  clear d0
  go_loopw [5] (fun i wr => ∃ k : Nat, i = .int .i64 (k : Nat) ∧ k ≤ v.a.n ∧ Hid (noTo (fun i => (valsE c.A a).getD i 0 == 1) k) ∧ Hid (RBox w.heap.size wr v c y a ∧ Below w.heap.size w wr)) (fun i _ => v.a.n - (intOf i).toNat)
  case atStart => exact ⟨0, rfl, by omega, Lib.hid (noTo_zero _), HR⟩
  case round =>
    clear HR
    obtain ⟨k, rfl, hk, H0, HR⟩ := hrel
    have h1 := HR.out.1.c1
    by_cases hlt : k < v.a.n
    · obtain ⟨adL, ad, p, eL, ea, q1, q2, q3, q4⟩ := HR.out.1.at_ HPA.out k hlt
      rw [eL] at h1
      rw [ea]
      cases hz : ((valsE c.A a).getD k 0 == 1)
      · have H1 := Lib.hid (noTo_step H0.out hz)
        generalize (valsE c.A a).getD k 0 = z at q4 hz
        go_wp2_with fail
        go_roundw
        case rel => exact ⟨k + 1, by go_num, by omega, H1, HR⟩
        case measure => simp [intOf]; omega
      · have HV : Hid ((RA || RB) = true) := Lib.hid (by have := HA.out; rw [none_no (k := k) hlt hz] at this; have : RA = true := by simpa using this.symm
                                                         rw [this]; rfl)
        generalize (valsE c.A a).getD k 0 = z at q4 hz
        go_wp2_with fail
        go_ret
        exact ⟨ret_bool HV.out.symm, HR.out.2⟩
    · have HV : Hid (RA = false) := Lib.hid (by have := HA.out; obtain rfl : k = v.a.n := by omega
                                                rw [none_yes H0.out] at this; simpa using this.symm)
      clear HA H0
      have h2 := HR.out.1.c2
      go_wp2_with fail
      clear h1 h2
      go_loopw [6] (fun i wr => ∃ k : Nat, i = .int .i64 (k : Nat) ∧ k ≤ v.b.n ∧ Hid (noTo (fun i => (valsE c.B a).getD i 0 == 0) k) ∧ Hid (RBox w.heap.size wr v c y a ∧ Below w.heap.size w wr)) (fun i _ => v.b.n - (intOf i).toNat)
      case atStart => exact ⟨0, rfl, by omega, Lib.hid (noTo_zero _), HR⟩
      case round =>
        clear HR
        obtain ⟨j, rfl, hj, H0, HR⟩ := hrel
        have h2 := HR.out.1.c2
        by_cases hlt : j < v.b.n
        · obtain ⟨adL, ad, p, eL, ea, q1, q2, q3, q4⟩ := HR.out.1.bt_ HPB.out j hlt
          rw [eL] at h2
          rw [ea]
          cases hz : ((valsE c.B a).getD j 0 == 0)
          · have H1 := Lib.hid (noTo_step H0.out hz)
            generalize (valsE c.B a).getD j 0 = z at q4 hz
            go_wp2_with fail
            go_roundw
            case rel => exact ⟨j + 1, by go_num, by omega, H1, HR⟩
            case measure => simp [intOf]; omega
          · have HV : Hid ((RA || RB) = true) := Lib.hid (by have := HB.out; rw [none_no (k := j) hlt hz] at this; have : RB = true := by simpa using this.symm
                                                             rw [this]; simp)
            generalize (valsE c.B a).getD j 0 = z at q4 hz
            go_wp2_with fail
            go_ret
            exact ⟨ret_bool HV.out.symm, HR.out.2⟩
        · have HW : Hid ((RA || RB) = false) := Lib.hid (by have := HB.out; obtain rfl : j = v.b.n := by omega
                                                            rw [none_yes H0.out] at this; have : RB = false := by simpa using this.symm
                                                            rw [HV.out, this]; rfl)
          clear HB H0
          go_wp2_with fail
          go_ret
          exact ⟨ret_bool HW.out.symm, HR.out.2⟩

set_option maxHeartbeats 4000000 in
set_option maxRecDepth 100000 in
theorem rlogic13 (v : ConV) (c : ConL) (y : Sl) (a : List Int) (w : World) (h : ConIn w v c) (hy : IsInts w y a) (r : ConR a.length c) (hk : c.kind = 13) :
    Calls Tryz.prog 78 #[v.val c.kind c.K, .slice y.A y.n y.c] w fun e w' => e = .returned (.bool (justB ((valsE c.B a).getD 0 0) ((valsE c.A a).getD 0 0 == c.K))) ∧ Below w.heap.size w w' := by
  obtain ⟨wb, hwb⟩ : ∃ wb, cBox w v c.kind c.K = wb := ⟨_, rfl⟩
  have HR : Hid (RBox w.heap.size wb v c y a ∧ Below w.heap.size w wb) := Lib.hid (hwb ▸ ⟨RBox.start h hy, cBox_below _ _ _ _⟩)
  have HWB := Lib.hid hwb
  have hn1 : v.a.n = 1 := by rw [h.a.len]; exact (r.told (by omega) (by omega)).1
  have hn2 : v.b.n = 1 := by rw [h.b.len]; exact (r.told (by omega) (by omega)).2
  obtain ⟨adL, ad, p0, eL, ea, q1, q2, q3, q4⟩ := HR.out.1.at_ r.pa 0 (by omega)
  obtain ⟨adM, ad', p1, eM, ea', r1, r2, r3, r4⟩ := HR.out.1.bt_ r.pb 0 (by omega)
  obtain rfl : ad = ad' := by rw [ea] at ea'; exact Option.some.inj ea'
  rw [gadd0] at q1 r1
  have t12 : (c.kind == 12) = false := by simp [hk]
  have t14 : (c.kind == 14) = false := by simp [hk]
  have t16 : (c.kind == 16) = false := by simp [hk]
  have t15 : decide (15 ≤ c.kind) = false := by simp [hk]
  have d0 := HR.out.1.c0
  have d1 := HR.out.1.c1
  have d2 := HR.out.1.c2
  have d6 := HR.out.1.c6
  rw [eL] at d1
  rw [eM] at d2
  have EA := Lib.hid ea
  clear hwb h hy r hk ea ea' eL eM hn1 hn2
  generalize (valsE c.A a).getD 0 0 = x at *
  generalize (valsE c.B a).getD 0 0 = b at *
  obtain ⟨R, hR⟩ : ∃ R, R = (justB (b) (x == c.K)) := ⟨_, rfl⟩
  rw [← hR]
  have HB1 : Hid ((b == 1) = true → (b == 0) = false) := Lib.hid (fun h => by simp at h; simp [h])
  cases e1 : (b == 1) <;> cases e0 : (b == 0) <;> cases sE : (x == c.K)
  · have HV : Hid (R = false) := Lib.hid (by rw [hR]; unfold justB; simp only [sE, e1, e0]; rfl)
    clear hR HB1
    go_enter Tryz.func78, Tryz.ntmps78
    go_upto_region 1 with fail
    change Code.wp _ _ _ _ (cBox w v c.kind c.K)
    rw [HWB.out]
    clear HWB
    rw [EA.out]
    clear EA
    go_upto_region 14 with fail
    go_quiet (fail)
    have HR2 := Lib.hid (show RBox w.heap.size (wb.drewN nq) v c y a ∧ Below w.heap.size w (wb.drewN nq) from ⟨HR.out.1.below (below_drewN (Below.refl _ _) nq), below_drewN HR.out.2 nq⟩)
    have c0 := HR2.out.1.c0
    generalize wb.drewN nq = w3 at *
    clear HR d0 d1 d2 d6 q1 q4 r1 r4
    go_wp2_with fail
    go_ret
    exact ⟨ret_bool HV.out.symm, HR2.out.2⟩
  · have HV : Hid (R = false) := Lib.hid (by rw [hR]; unfold justB; simp only [sE, e1, e0]; rfl)
    clear hR HB1
    go_enter Tryz.func78, Tryz.ntmps78
    go_upto_region 1 with fail
    change Code.wp _ _ _ _ (cBox w v c.kind c.K)
    rw [HWB.out]
    clear HWB
    rw [EA.out]
    clear EA
    go_upto_region 14 with fail
    go_quiet (fail)
    have HR2 := Lib.hid (show RBox w.heap.size (wb.drewN nq) v c y a ∧ Below w.heap.size w (wb.drewN nq) from ⟨HR.out.1.below (below_drewN (Below.refl _ _) nq), below_drewN HR.out.2 nq⟩)
    have c0 := HR2.out.1.c0
    generalize wb.drewN nq = w3 at *
    clear HR d0 d1 d2 d6 q1 q4 r1 r4
    go_wp2_with fail
    go_ret
    exact ⟨ret_bool HV.out.symm, HR2.out.2⟩
  · have HV : Hid (R = true) := Lib.hid (by rw [hR]; unfold justB; simp only [sE, e1, e0]; rfl)
    clear hR HB1
    go_enter Tryz.func78, Tryz.ntmps78
    go_upto_region 1 with fail
    change Code.wp _ _ _ _ (cBox w v c.kind c.K)
    rw [HWB.out]
    clear HWB
    rw [EA.out]
    clear EA
    go_upto_region 14 with fail
    go_quiet (fail)
    have HR2 := Lib.hid (show RBox w.heap.size (wb.drewN nq) v c y a ∧ Below w.heap.size w (wb.drewN nq) from ⟨HR.out.1.below (below_drewN (Below.refl _ _) nq), below_drewN HR.out.2 nq⟩)
    have c0 := HR2.out.1.c0
    generalize wb.drewN nq = w3 at *
    clear HR d0 d1 d2 d6 q1 q4 r1 r4
    go_wp2_with fail
    go_ret
    exact ⟨ret_bool HV.out.symm, HR2.out.2⟩
  · have HV : Hid (R = false) := Lib.hid (by rw [hR]; unfold justB; simp only [sE, e1, e0]; rfl)
    clear hR HB1
    go_enter Tryz.func78, Tryz.ntmps78
    go_upto_region 1 with fail
    change Code.wp _ _ _ _ (cBox w v c.kind c.K)
    rw [HWB.out]
    clear HWB
    rw [EA.out]
    clear EA
    go_upto_region 14 with fail
    go_quiet (fail)
    have HR2 := Lib.hid (show RBox w.heap.size (wb.drewN nq) v c y a ∧ Below w.heap.size w (wb.drewN nq) from ⟨HR.out.1.below (below_drewN (Below.refl _ _) nq), below_drewN HR.out.2 nq⟩)
    have c0 := HR2.out.1.c0
    generalize wb.drewN nq = w3 at *
    clear HR d0 d1 d2 d6 q1 q4 r1 r4
    go_wp2_with fail
    go_ret
    exact ⟨ret_bool HV.out.symm, HR2.out.2⟩
  · have HV : Hid (R = false) := Lib.hid (by rw [hR]; unfold justB; simp only [sE, e1, e0]; rfl)
    clear hR HB1
    go_enter Tryz.func78, Tryz.ntmps78
    go_upto_region 1 with fail
    change Code.wp _ _ _ _ (cBox w v c.kind c.K)
    rw [HWB.out]
    clear HWB
    rw [EA.out]
    clear EA
    go_upto_region 14 with fail
    go_quiet (fail)
    have HR2 := Lib.hid (show RBox w.heap.size (wb.drewN nq) v c y a ∧ Below w.heap.size w (wb.drewN nq) from ⟨HR.out.1.below (below_drewN (Below.refl _ _) nq), below_drewN HR.out.2 nq⟩)
    have c0 := HR2.out.1.c0
    generalize wb.drewN nq = w3 at *
    clear HR d0 d1 d2 d6 q1 q4 r1 r4
    go_wp2_with fail
    go_ret
    exact ⟨ret_bool HV.out.symm, HR2.out.2⟩
  · have HV : Hid (R = true) := Lib.hid (by rw [hR]; unfold justB; simp only [sE, e1, e0]; rfl)
    clear hR HB1
    go_enter Tryz.func78, Tryz.ntmps78
    go_upto_region 1 with fail
    change Code.wp _ _ _ _ (cBox w v c.kind c.K)
    rw [HWB.out]
    clear HWB
    rw [EA.out]
    clear EA
    go_upto_region 14 with fail
    go_quiet (fail)
    have HR2 := Lib.hid (show RBox w.heap.size (wb.drewN nq) v c y a ∧ Below w.heap.size w (wb.drewN nq) from ⟨HR.out.1.below (below_drewN (Below.refl _ _) nq), below_drewN HR.out.2 nq⟩)
    have c0 := HR2.out.1.c0
    generalize wb.drewN nq = w3 at *
    clear HR d0 d1 d2 d6 q1 q4 r1 r4
    go_wp2_with fail
    go_ret
    exact ⟨ret_bool HV.out.symm, HR2.out.2⟩
  · have := HB1.out e1; rw [e0] at this; cases this
  · have := HB1.out e1; rw [e0] at this; cases this

set_option maxHeartbeats 4000000 in
set_option maxRecDepth 100000 in
theorem rlogic14 (v : ConV) (c : ConL) (y : Sl) (a : List Int) (w : World) (h : ConIn w v c) (hy : IsInts w y a) (r : ConR a.length c) (hk : c.kind = 14) :
    Calls Tryz.prog 78 #[v.val c.kind c.K, .slice y.A y.n y.c] w fun e w' => e = .returned (.bool (justB ((valsE c.B a).getD 0 0) (decide ((valsE c.A a).getD 0 0 ≤ c.K)))) ∧ Below w.heap.size w w' := by
  obtain ⟨wb, hwb⟩ : ∃ wb, cBox w v c.kind c.K = wb := ⟨_, rfl⟩
  have HR : Hid (RBox w.heap.size wb v c y a ∧ Below w.heap.size w wb) := Lib.hid (hwb ▸ ⟨RBox.start h hy, cBox_below _ _ _ _⟩)
  have HWB := Lib.hid hwb
  have hn1 : v.a.n = 1 := by rw [h.a.len]; exact (r.told (by omega) (by omega)).1
  have hn2 : v.b.n = 1 := by rw [h.b.len]; exact (r.told (by omega) (by omega)).2
  obtain ⟨adL, ad, p0, eL, ea, q1, q2, q3, q4⟩ := HR.out.1.at_ r.pa 0 (by omega)
  obtain ⟨adM, ad', p1, eM, ea', r1, r2, r3, r4⟩ := HR.out.1.bt_ r.pb 0 (by omega)
  obtain rfl : ad = ad' := by rw [ea] at ea'; exact Option.some.inj ea'
  rw [gadd0] at q1 r1
  have t12 : (c.kind == 12) = false := by simp [hk]
  have t14 : (c.kind == 14) = true := by simp [hk]
  have t16 : (c.kind == 16) = false := by simp [hk]
  have t15 : decide (15 ≤ c.kind) = false := by simp [hk]
  have d0 := HR.out.1.c0
  have d1 := HR.out.1.c1
  have d2 := HR.out.1.c2
  have d6 := HR.out.1.c6
  rw [eL] at d1
  rw [eM] at d2
  have EA := Lib.hid ea
  clear hwb h hy r hk ea ea' eL eM hn1 hn2
  generalize (valsE c.A a).getD 0 0 = x at *
  generalize (valsE c.B a).getD 0 0 = b at *
  obtain ⟨R, hR⟩ : ∃ R, R = (justB (b) (decide (x ≤ c.K))) := ⟨_, rfl⟩
  rw [← hR]
  have HB1 : Hid ((b == 1) = true → (b == 0) = false) := Lib.hid (fun h => by simp at h; simp [h])
  cases e1 : (b == 1) <;> cases e0 : (b == 0) <;> cases sE : (decide (x ≤ c.K))
  · have HV : Hid (R = false) := Lib.hid (by rw [hR]; unfold justB; simp only [sE, e1, e0]; rfl)
    clear hR HB1
    go_enter Tryz.func78, Tryz.ntmps78
    go_upto_region 1 with fail
    change Code.wp _ _ _ _ (cBox w v c.kind c.K)
    rw [HWB.out]
    clear HWB
    rw [EA.out]
    clear EA
    go_upto_region 14 with fail
    go_quiet (fail)
    have HR2 := Lib.hid (show RBox w.heap.size (wb.drewN nq) v c y a ∧ Below w.heap.size w (wb.drewN nq) from ⟨HR.out.1.below (below_drewN (Below.refl _ _) nq), below_drewN HR.out.2 nq⟩)
    have c0 := HR2.out.1.c0
    have g1 : (wb.drewN nq).cell? ⟨w.heap.size, 1, none⟩ = some (.slice (some adL) v.a.n v.a.c) := d1
    have g6 : (wb.drewN nq).cell? ⟨w.heap.size, 6, none⟩ = some (.int .i64 c.K) := d6
    have g2 : (wb.drewN nq).cell? adL = some (.int .i64 (p0 : Nat)) := q1
    have g4 : (wb.drewN nq).cell? (ad.add p0) = some (.int .i64 x) := q4
    generalize wb.drewN nq = w3 at *
    clear HR d0 d1 d2 d6 q1 q4 r1 r4
    go_upto_region 16 with fail
    go_quiet (fail)
    have HR3 := Lib.hid (show RBox w.heap.size (w3.drewN nq) v c y a ∧ Below w.heap.size w (w3.drewN nq) from ⟨HR2.out.1.below (below_drewN (Below.refl _ _) nq), below_drewN HR2.out.2 nq⟩)
    have c00 := HR3.out.1.c0
    generalize w3.drewN nq = w4 at *
    clear HR2 c0 g1 g2 g4 g6
    go_wp2_with fail
    go_ret
    exact ⟨ret_bool HV.out.symm, HR3.out.2⟩
  · have HV : Hid (R = false) := Lib.hid (by rw [hR]; unfold justB; simp only [sE, e1, e0]; rfl)
    clear hR HB1
    go_enter Tryz.func78, Tryz.ntmps78
    go_upto_region 1 with fail
    change Code.wp _ _ _ _ (cBox w v c.kind c.K)
    rw [HWB.out]
    clear HWB
    rw [EA.out]
    clear EA
    go_upto_region 14 with fail
    go_quiet (fail)
    have HR2 := Lib.hid (show RBox w.heap.size (wb.drewN nq) v c y a ∧ Below w.heap.size w (wb.drewN nq) from ⟨HR.out.1.below (below_drewN (Below.refl _ _) nq), below_drewN HR.out.2 nq⟩)
    have c0 := HR2.out.1.c0
    have g1 : (wb.drewN nq).cell? ⟨w.heap.size, 1, none⟩ = some (.slice (some adL) v.a.n v.a.c) := d1
    have g6 : (wb.drewN nq).cell? ⟨w.heap.size, 6, none⟩ = some (.int .i64 c.K) := d6
    have g2 : (wb.drewN nq).cell? adL = some (.int .i64 (p0 : Nat)) := q1
    have g4 : (wb.drewN nq).cell? (ad.add p0) = some (.int .i64 x) := q4
    generalize wb.drewN nq = w3 at *
    clear HR d0 d1 d2 d6 q1 q4 r1 r4
    go_upto_region 16 with fail
    go_quiet (fail)
    have HR3 := Lib.hid (show RBox w.heap.size (w3.drewN nq) v c y a ∧ Below w.heap.size w (w3.drewN nq) from ⟨HR2.out.1.below (below_drewN (Below.refl _ _) nq), below_drewN HR2.out.2 nq⟩)
    have c00 := HR3.out.1.c0
    generalize w3.drewN nq = w4 at *
    clear HR2 c0 g1 g2 g4 g6
    go_wp2_with fail
    go_ret
    exact ⟨ret_bool HV.out.symm, HR3.out.2⟩
  · have HV : Hid (R = true) := Lib.hid (by rw [hR]; unfold justB; simp only [sE, e1, e0]; rfl)
    clear hR HB1
    go_enter Tryz.func78, Tryz.ntmps78
    go_upto_region 1 with fail
    change Code.wp _ _ _ _ (cBox w v c.kind c.K)
    rw [HWB.out]
    clear HWB
    rw [EA.out]
    clear EA
    go_upto_region 14 with fail
    go_quiet (fail)
    have HR2 := Lib.hid (show RBox w.heap.size (wb.drewN nq) v c y a ∧ Below w.heap.size w (wb.drewN nq) from ⟨HR.out.1.below (below_drewN (Below.refl _ _) nq), below_drewN HR.out.2 nq⟩)
    have c0 := HR2.out.1.c0
    have g1 : (wb.drewN nq).cell? ⟨w.heap.size, 1, none⟩ = some (.slice (some adL) v.a.n v.a.c) := d1
    have g6 : (wb.drewN nq).cell? ⟨w.heap.size, 6, none⟩ = some (.int .i64 c.K) := d6
    have g2 : (wb.drewN nq).cell? adL = some (.int .i64 (p0 : Nat)) := q1
    have g4 : (wb.drewN nq).cell? (ad.add p0) = some (.int .i64 x) := q4
    generalize wb.drewN nq = w3 at *
    clear HR d0 d1 d2 d6 q1 q4 r1 r4
    go_upto_region 16 with fail
    go_quiet (fail)
    have HR3 := Lib.hid (show RBox w.heap.size (w3.drewN nq) v c y a ∧ Below w.heap.size w (w3.drewN nq) from ⟨HR2.out.1.below (below_drewN (Below.refl _ _) nq), below_drewN HR2.out.2 nq⟩)
    have c00 := HR3.out.1.c0
    generalize w3.drewN nq = w4 at *
    clear HR2 c0 g1 g2 g4 g6
    go_wp2_with fail
    go_ret
    exact ⟨ret_bool HV.out.symm, HR3.out.2⟩
  · have HV : Hid (R = false) := Lib.hid (by rw [hR]; unfold justB; simp only [sE, e1, e0]; rfl)
    clear hR HB1
    go_enter Tryz.func78, Tryz.ntmps78
    go_upto_region 1 with fail
    change Code.wp _ _ _ _ (cBox w v c.kind c.K)
    rw [HWB.out]
    clear HWB
    rw [EA.out]
    clear EA
    go_upto_region 14 with fail
    go_quiet (fail)
    have HR2 := Lib.hid (show RBox w.heap.size (wb.drewN nq) v c y a ∧ Below w.heap.size w (wb.drewN nq) from ⟨HR.out.1.below (below_drewN (Below.refl _ _) nq), below_drewN HR.out.2 nq⟩)
    have c0 := HR2.out.1.c0
    have g1 : (wb.drewN nq).cell? ⟨w.heap.size, 1, none⟩ = some (.slice (some adL) v.a.n v.a.c) := d1
    have g6 : (wb.drewN nq).cell? ⟨w.heap.size, 6, none⟩ = some (.int .i64 c.K) := d6
    have g2 : (wb.drewN nq).cell? adL = some (.int .i64 (p0 : Nat)) := q1
    have g4 : (wb.drewN nq).cell? (ad.add p0) = some (.int .i64 x) := q4
    generalize wb.drewN nq = w3 at *
    clear HR d0 d1 d2 d6 q1 q4 r1 r4
    go_upto_region 16 with fail
    go_quiet (fail)
    have HR3 := Lib.hid (show RBox w.heap.size (w3.drewN nq) v c y a ∧ Below w.heap.size w (w3.drewN nq) from ⟨HR2.out.1.below (below_drewN (Below.refl _ _) nq), below_drewN HR2.out.2 nq⟩)
    have c00 := HR3.out.1.c0
    generalize w3.drewN nq = w4 at *
    clear HR2 c0 g1 g2 g4 g6
    go_wp2_with fail
    go_ret
    exact ⟨ret_bool HV.out.symm, HR3.out.2⟩
  · have HV : Hid (R = false) := Lib.hid (by rw [hR]; unfold justB; simp only [sE, e1, e0]; rfl)
    clear hR HB1
    go_enter Tryz.func78, Tryz.ntmps78
    go_upto_region 1 with fail
    change Code.wp _ _ _ _ (cBox w v c.kind c.K)
    rw [HWB.out]
    clear HWB
    rw [EA.out]
    clear EA
    go_upto_region 14 with fail
    go_quiet (fail)
    have HR2 := Lib.hid (show RBox w.heap.size (wb.drewN nq) v c y a ∧ Below w.heap.size w (wb.drewN nq) from ⟨HR.out.1.below (below_drewN (Below.refl _ _) nq), below_drewN HR.out.2 nq⟩)
    have c0 := HR2.out.1.c0
    have g1 : (wb.drewN nq).cell? ⟨w.heap.size, 1, none⟩ = some (.slice (some adL) v.a.n v.a.c) := d1
    have g6 : (wb.drewN nq).cell? ⟨w.heap.size, 6, none⟩ = some (.int .i64 c.K) := d6
    have g2 : (wb.drewN nq).cell? adL = some (.int .i64 (p0 : Nat)) := q1
    have g4 : (wb.drewN nq).cell? (ad.add p0) = some (.int .i64 x) := q4
    generalize wb.drewN nq = w3 at *
    clear HR d0 d1 d2 d6 q1 q4 r1 r4
    go_upto_region 16 with fail
    go_quiet (fail)
    have HR3 := Lib.hid (show RBox w.heap.size (w3.drewN nq) v c y a ∧ Below w.heap.size w (w3.drewN nq) from ⟨HR2.out.1.below (below_drewN (Below.refl _ _) nq), below_drewN HR2.out.2 nq⟩)
    have c00 := HR3.out.1.c0
    generalize w3.drewN nq = w4 at *
    clear HR2 c0 g1 g2 g4 g6
    go_wp2_with fail
    go_ret
    exact ⟨ret_bool HV.out.symm, HR3.out.2⟩
  · have HV : Hid (R = true) := Lib.hid (by rw [hR]; unfold justB; simp only [sE, e1, e0]; rfl)
    clear hR HB1
    go_enter Tryz.func78, Tryz.ntmps78
    go_upto_region 1 with fail
    change Code.wp _ _ _ _ (cBox w v c.kind c.K)
    rw [HWB.out]
    clear HWB
    rw [EA.out]
    clear EA
    go_upto_region 14 with fail
    go_quiet (fail)
    have HR2 := Lib.hid (show RBox w.heap.size (wb.drewN nq) v c y a ∧ Below w.heap.size w (wb.drewN nq) from ⟨HR.out.1.below (below_drewN (Below.refl _ _) nq), below_drewN HR.out.2 nq⟩)
    have c0 := HR2.out.1.c0
    have g1 : (wb.drewN nq).cell? ⟨w.heap.size, 1, none⟩ = some (.slice (some adL) v.a.n v.a.c) := d1
    have g6 : (wb.drewN nq).cell? ⟨w.heap.size, 6, none⟩ = some (.int .i64 c.K) := d6
    have g2 : (wb.drewN nq).cell? adL = some (.int .i64 (p0 : Nat)) := q1
    have g4 : (wb.drewN nq).cell? (ad.add p0) = some (.int .i64 x) := q4
    generalize wb.drewN nq = w3 at *
    clear HR d0 d1 d2 d6 q1 q4 r1 r4
    go_upto_region 16 with fail
    go_quiet (fail)
    have HR3 := Lib.hid (show RBox w.heap.size (w3.drewN nq) v c y a ∧ Below w.heap.size w (w3.drewN nq) from ⟨HR2.out.1.below (below_drewN (Below.refl _ _) nq), below_drewN HR2.out.2 nq⟩)
    have c00 := HR3.out.1.c0
    generalize w3.drewN nq = w4 at *
    clear HR2 c0 g1 g2 g4 g6
    go_wp2_with fail
    go_ret
    exact ⟨ret_bool HV.out.symm, HR3.out.2⟩
  · have := HB1.out e1; rw [e0] at this; cases this
  · have := HB1.out e1; rw [e0] at this; cases this

set_option maxHeartbeats 4000000 in
set_option maxRecDepth 100000 in
theorem rlogic15 (v : ConV) (c : ConL) (y : Sl) (a : List Int) (w : World) (h : ConIn w v c) (hy : IsInts w y a) (r : ConR a.length c) (hk : c.kind = 15) :
    Calls Tryz.prog 78 #[v.val c.kind c.K, .slice y.A y.n y.c] w fun e w' => e = .returned (.bool ((valsE c.B a).getD 0 0 == 0 || (valsE c.B a).getD 0 0 == 1 && ((valsE c.A a).getD 0 0 == c.K))) ∧ Below w.heap.size w w' := by
  obtain ⟨wb, hwb⟩ : ∃ wb, cBox w v c.kind c.K = wb := ⟨_, rfl⟩
  have HR : Hid (RBox w.heap.size wb v c y a ∧ Below w.heap.size w wb) := Lib.hid (hwb ▸ ⟨RBox.start h hy, cBox_below _ _ _ _⟩)
  have HWB := Lib.hid hwb
  have hn1 : v.a.n = 1 := by rw [h.a.len]; exact (r.told (by omega) (by omega)).1
  have hn2 : v.b.n = 1 := by rw [h.b.len]; exact (r.told (by omega) (by omega)).2
  obtain ⟨adL, ad, p0, eL, ea, q1, q2, q3, q4⟩ := HR.out.1.at_ r.pa 0 (by omega)
  obtain ⟨adM, ad', p1, eM, ea', r1, r2, r3, r4⟩ := HR.out.1.bt_ r.pb 0 (by omega)
  obtain rfl : ad = ad' := by rw [ea] at ea'; exact Option.some.inj ea'
  rw [gadd0] at q1 r1
  have t12 : (c.kind == 12) = false := by simp [hk]
  have t14 : (c.kind == 14) = false := by simp [hk]
  have t16 : (c.kind == 16) = false := by simp [hk]
  have t15 : decide (15 ≤ c.kind) = true := by simp [hk]
  have d0 := HR.out.1.c0
  have d1 := HR.out.1.c1
  have d2 := HR.out.1.c2
  have d6 := HR.out.1.c6
  rw [eL] at d1
  rw [eM] at d2
  have EA := Lib.hid ea
  clear hwb h hy r hk ea ea' eL eM hn1 hn2
  generalize (valsE c.A a).getD 0 0 = x at *
  generalize (valsE c.B a).getD 0 0 = b at *
  obtain ⟨R, hR⟩ : ∃ R, R = (b == 0 || b == 1 && (x == c.K)) := ⟨_, rfl⟩
  rw [← hR]
  have HB1 : Hid ((b == 1) = true → (b == 0) = false) := Lib.hid (fun h => by simp at h; simp [h])
  cases e1 : (b == 1) <;> cases e0 : (b == 0) <;> cases sE : (x == c.K)
  · have HV : Hid (R = false) := Lib.hid (by rw [hR]; simp only [sE, e1, e0]; rfl)
    clear hR HB1
    go_enter Tryz.func78, Tryz.ntmps78
    go_upto_region 1 with fail
    change Code.wp _ _ _ _ (cBox w v c.kind c.K)
    rw [HWB.out]
    clear HWB
    rw [EA.out]
    clear EA
    go_upto_region 14 with fail
    go_quiet (fail)
    have HR2 := Lib.hid (show RBox w.heap.size (wb.drewN nq) v c y a ∧ Below w.heap.size w (wb.drewN nq) from ⟨HR.out.1.below (below_drewN (Below.refl _ _) nq), below_drewN HR.out.2 nq⟩)
    have c0 := HR2.out.1.c0
    generalize wb.drewN nq = w3 at *
    clear HR d0 d1 d2 d6 q1 q4 r1 r4
    go_wp2_with fail
    go_ret
    exact ⟨ret_bool HV.out.symm, HR2.out.2⟩
  · have HV : Hid (R = false) := Lib.hid (by rw [hR]; simp only [sE, e1, e0]; rfl)
    clear hR HB1
    go_enter Tryz.func78, Tryz.ntmps78
    go_upto_region 1 with fail
    change Code.wp _ _ _ _ (cBox w v c.kind c.K)
    rw [HWB.out]
    clear HWB
    rw [EA.out]
    clear EA
    go_upto_region 14 with fail
    go_quiet (fail)
    have HR2 := Lib.hid (show RBox w.heap.size (wb.drewN nq) v c y a ∧ Below w.heap.size w (wb.drewN nq) from ⟨HR.out.1.below (below_drewN (Below.refl _ _) nq), below_drewN HR.out.2 nq⟩)
    have c0 := HR2.out.1.c0
    generalize wb.drewN nq = w3 at *
    clear HR d0 d1 d2 d6 q1 q4 r1 r4
    go_wp2_with fail
    go_ret
    exact ⟨ret_bool HV.out.symm, HR2.out.2⟩
  · have HV : Hid (R = true) := Lib.hid (by rw [hR]; simp only [sE, e1, e0]; rfl)
    clear hR HB1
    go_enter Tryz.func78, Tryz.ntmps78
    go_upto_region 1 with fail
    change Code.wp _ _ _ _ (cBox w v c.kind c.K)
    rw [HWB.out]
    clear HWB
    rw [EA.out]
    clear EA
    go_upto_region 14 with fail
    go_quiet (fail)
    have HR2 := Lib.hid (show RBox w.heap.size (wb.drewN nq) v c y a ∧ Below w.heap.size w (wb.drewN nq) from ⟨HR.out.1.below (below_drewN (Below.refl _ _) nq), below_drewN HR.out.2 nq⟩)
    have c0 := HR2.out.1.c0
    generalize wb.drewN nq = w3 at *
    clear HR d0 d1 d2 d6 q1 q4 r1 r4
    go_wp2_with fail
    go_ret
    exact ⟨ret_bool HV.out.symm, HR2.out.2⟩
  · have HV : Hid (R = true) := Lib.hid (by rw [hR]; simp only [sE, e1, e0]; rfl)
    clear hR HB1
    go_enter Tryz.func78, Tryz.ntmps78
    go_upto_region 1 with fail
    change Code.wp _ _ _ _ (cBox w v c.kind c.K)
    rw [HWB.out]
    clear HWB
    rw [EA.out]
    clear EA
    go_upto_region 14 with fail
    go_quiet (fail)
    have HR2 := Lib.hid (show RBox w.heap.size (wb.drewN nq) v c y a ∧ Below w.heap.size w (wb.drewN nq) from ⟨HR.out.1.below (below_drewN (Below.refl _ _) nq), below_drewN HR.out.2 nq⟩)
    have c0 := HR2.out.1.c0
    generalize wb.drewN nq = w3 at *
    clear HR d0 d1 d2 d6 q1 q4 r1 r4
    go_wp2_with fail
    go_ret
    exact ⟨ret_bool HV.out.symm, HR2.out.2⟩
  · have HV : Hid (R = false) := Lib.hid (by rw [hR]; simp only [sE, e1, e0]; rfl)
    clear hR HB1
    go_enter Tryz.func78, Tryz.ntmps78
    go_upto_region 1 with fail
    change Code.wp _ _ _ _ (cBox w v c.kind c.K)
    rw [HWB.out]
    clear HWB
    rw [EA.out]
    clear EA
    go_upto_region 14 with fail
    go_quiet (fail)
    have HR2 := Lib.hid (show RBox w.heap.size (wb.drewN nq) v c y a ∧ Below w.heap.size w (wb.drewN nq) from ⟨HR.out.1.below (below_drewN (Below.refl _ _) nq), below_drewN HR.out.2 nq⟩)
    have c0 := HR2.out.1.c0
    generalize wb.drewN nq = w3 at *
    clear HR d0 d1 d2 d6 q1 q4 r1 r4
    go_wp2_with fail
    go_ret
    exact ⟨ret_bool HV.out.symm, HR2.out.2⟩
  · have HV : Hid (R = true) := Lib.hid (by rw [hR]; simp only [sE, e1, e0]; rfl)
    clear hR HB1
    go_enter Tryz.func78, Tryz.ntmps78
    go_upto_region 1 with fail
    change Code.wp _ _ _ _ (cBox w v c.kind c.K)
    rw [HWB.out]
    clear HWB
    rw [EA.out]
    clear EA
    go_upto_region 14 with fail
    go_quiet (fail)
    have HR2 := Lib.hid (show RBox w.heap.size (wb.drewN nq) v c y a ∧ Below w.heap.size w (wb.drewN nq) from ⟨HR.out.1.below (below_drewN (Below.refl _ _) nq), below_drewN HR.out.2 nq⟩)
    have c0 := HR2.out.1.c0
    generalize wb.drewN nq = w3 at *
    clear HR d0 d1 d2 d6 q1 q4 r1 r4
    go_wp2_with fail
    go_ret
    exact ⟨ret_bool HV.out.symm, HR2.out.2⟩
  · have := HB1.out e1; rw [e0] at this; cases this
  · have := HB1.out e1; rw [e0] at this; cases this

set_option maxHeartbeats 4000000 in
set_option maxRecDepth 100000 in
theorem rlogic16 (v : ConV) (c : ConL) (y : Sl) (a : List Int) (w : World) (h : ConIn w v c) (hy : IsInts w y a) (r : ConR a.length c) (hk : c.kind = 16) :
    Calls Tryz.prog 78 #[v.val c.kind c.K, .slice y.A y.n y.c] w fun e w' => e = .returned (.bool ((valsE c.B a).getD 0 0 == 0 || (valsE c.B a).getD 0 0 == 1 && (decide ((valsE c.A a).getD 0 0 ≤ c.K)))) ∧ Below w.heap.size w w' := by
  obtain ⟨wb, hwb⟩ : ∃ wb, cBox w v c.kind c.K = wb := ⟨_, rfl⟩
  have HR : Hid (RBox w.heap.size wb v c y a ∧ Below w.heap.size w wb) := Lib.hid (hwb ▸ ⟨RBox.start h hy, cBox_below _ _ _ _⟩)
  have HWB := Lib.hid hwb
  have hn1 : v.a.n = 1 := by rw [h.a.len]; exact (r.told (by omega) (by omega)).1
  have hn2 : v.b.n = 1 := by rw [h.b.len]; exact (r.told (by omega) (by omega)).2
  obtain ⟨adL, ad, p0, eL, ea, q1, q2, q3, q4⟩ := HR.out.1.at_ r.pa 0 (by omega)
  obtain ⟨adM, ad', p1, eM, ea', r1, r2, r3, r4⟩ := HR.out.1.bt_ r.pb 0 (by omega)
  obtain rfl : ad = ad' := by rw [ea] at ea'; exact Option.some.inj ea'
  rw [gadd0] at q1 r1
  have t12 : (c.kind == 12) = false := by simp [hk]
  have t14 : (c.kind == 14) = false := by simp [hk]
  have t16 : (c.kind == 16) = true := by simp [hk]
  have t15 : decide (15 ≤ c.kind) = true := by simp [hk]
  have d0 := HR.out.1.c0
  have d1 := HR.out.1.c1
  have d2 := HR.out.1.c2
  have d6 := HR.out.1.c6
  rw [eL] at d1
  rw [eM] at d2
  have EA := Lib.hid ea
  clear hwb h hy r hk ea ea' eL eM hn1 hn2
  generalize (valsE c.A a).getD 0 0 = x at *
  generalize (valsE c.B a).getD 0 0 = b at *
  obtain ⟨R, hR⟩ : ∃ R, R = (b == 0 || b == 1 && (decide (x ≤ c.K))) := ⟨_, rfl⟩
  rw [← hR]
  have HB1 : Hid ((b == 1) = true → (b == 0) = false) := Lib.hid (fun h => by simp at h; simp [h])
  cases e1 : (b == 1) <;> cases e0 : (b == 0) <;> cases sE : (decide (x ≤ c.K))
  · have HV : Hid (R = false) := Lib.hid (by rw [hR]; simp only [sE, e1, e0]; rfl)
    clear hR HB1
    go_enter Tryz.func78, Tryz.ntmps78
    go_upto_region 1 with fail
    change Code.wp _ _ _ _ (cBox w v c.kind c.K)
    rw [HWB.out]
    clear HWB
    rw [EA.out]
    clear EA
    go_upto_region 14 with fail
    go_quiet (fail)
    have HR2 := Lib.hid (show RBox w.heap.size (wb.drewN nq) v c y a ∧ Below w.heap.size w (wb.drewN nq) from ⟨HR.out.1.below (below_drewN (Below.refl _ _) nq), below_drewN HR.out.2 nq⟩)
    have c0 := HR2.out.1.c0
    have g1 : (wb.drewN nq).cell? ⟨w.heap.size, 1, none⟩ = some (.slice (some adL) v.a.n v.a.c) := d1
    have g6 : (wb.drewN nq).cell? ⟨w.heap.size, 6, none⟩ = some (.int .i64 c.K) := d6
    have g2 : (wb.drewN nq).cell? adL = some (.int .i64 (p0 : Nat)) := q1
    have g4 : (wb.drewN nq).cell? (ad.add p0) = some (.int .i64 x) := q4
    generalize wb.drewN nq = w3 at *
    clear HR d0 d1 d2 d6 q1 q4 r1 r4
    go_upto_region 16 with fail
    go_quiet (fail)
    have HR3 := Lib.hid (show RBox w.heap.size (w3.drewN nq) v c y a ∧ Below w.heap.size w (w3.drewN nq) from ⟨HR2.out.1.below (below_drewN (Below.refl _ _) nq), below_drewN HR2.out.2 nq⟩)
    have c00 := HR3.out.1.c0
    generalize w3.drewN nq = w4 at *
    clear HR2 c0 g1 g2 g4 g6
    go_wp2_with fail
    go_ret
    exact ⟨ret_bool HV.out.symm, HR3.out.2⟩
  · have HV : Hid (R = false) := Lib.hid (by rw [hR]; simp only [sE, e1, e0]; rfl)
    clear hR HB1
    go_enter Tryz.func78, Tryz.ntmps78
    go_upto_region 1 with fail
    change Code.wp _ _ _ _ (cBox w v c.kind c.K)
    rw [HWB.out]
    clear HWB
    rw [EA.out]
    clear EA
    go_upto_region 14 with fail
    go_quiet (fail)
    have HR2 := Lib.hid (show RBox w.heap.size (wb.drewN nq) v c y a ∧ Below w.heap.size w (wb.drewN nq) from ⟨HR.out.1.below (below_drewN (Below.refl _ _) nq), below_drewN HR.out.2 nq⟩)
    have c0 := HR2.out.1.c0
    have g1 : (wb.drewN nq).cell? ⟨w.heap.size, 1, none⟩ = some (.slice (some adL) v.a.n v.a.c) := d1
    have g6 : (wb.drewN nq).cell? ⟨w.heap.size, 6, none⟩ = some (.int .i64 c.K) := d6
    have g2 : (wb.drewN nq).cell? adL = some (.int .i64 (p0 : Nat)) := q1
    have g4 : (wb.drewN nq).cell? (ad.add p0) = some (.int .i64 x) := q4
    generalize wb.drewN nq = w3 at *
    clear HR d0 d1 d2 d6 q1 q4 r1 r4
    go_upto_region 16 with fail
    go_quiet (fail)
    have HR3 := Lib.hid (show RBox w.heap.size (w3.drewN nq) v c y a ∧ Below w.heap.size w (w3.drewN nq) from ⟨HR2.out.1.below (below_drewN (Below.refl _ _) nq), below_drewN HR2.out.2 nq⟩)
    have c00 := HR3.out.1.c0
    generalize w3.drewN nq = w4 at *
    clear HR2 c0 g1 g2 g4 g6
    go_wp2_with fail
    go_ret
    exact ⟨ret_bool HV.out.symm, HR3.out.2⟩
  · have HV : Hid (R = true) := Lib.hid (by rw [hR]; simp only [sE, e1, e0]; rfl)
    clear hR HB1
    go_enter Tryz.func78, Tryz.ntmps78
    go_upto_region 1 with fail
    change Code.wp _ _ _ _ (cBox w v c.kind c.K)
    rw [HWB.out]
    clear HWB
    rw [EA.out]
    clear EA
    go_upto_region 14 with fail
    go_quiet (fail)
    have HR2 := Lib.hid (show RBox w.heap.size (wb.drewN nq) v c y a ∧ Below w.heap.size w (wb.drewN nq) from ⟨HR.out.1.below (below_drewN (Below.refl _ _) nq), below_drewN HR.out.2 nq⟩)
    have c0 := HR2.out.1.c0
    have g1 : (wb.drewN nq).cell? ⟨w.heap.size, 1, none⟩ = some (.slice (some adL) v.a.n v.a.c) := d1
    have g6 : (wb.drewN nq).cell? ⟨w.heap.size, 6, none⟩ = some (.int .i64 c.K) := d6
    have g2 : (wb.drewN nq).cell? adL = some (.int .i64 (p0 : Nat)) := q1
    have g4 : (wb.drewN nq).cell? (ad.add p0) = some (.int .i64 x) := q4
    generalize wb.drewN nq = w3 at *
    clear HR d0 d1 d2 d6 q1 q4 r1 r4
    go_upto_region 16 with fail
    go_quiet (fail)
    have HR3 := Lib.hid (show RBox w.heap.size (w3.drewN nq) v c y a ∧ Below w.heap.size w (w3.drewN nq) from ⟨HR2.out.1.below (below_drewN (Below.refl _ _) nq), below_drewN HR2.out.2 nq⟩)
    have c00 := HR3.out.1.c0
    generalize w3.drewN nq = w4 at *
    clear HR2 c0 g1 g2 g4 g6
    go_wp2_with fail
    go_ret
    exact ⟨ret_bool HV.out.symm, HR3.out.2⟩
  · have HV : Hid (R = true) := Lib.hid (by rw [hR]; simp only [sE, e1, e0]; rfl)
    clear hR HB1
    go_enter Tryz.func78, Tryz.ntmps78
    go_upto_region 1 with fail
    change Code.wp _ _ _ _ (cBox w v c.kind c.K)
    rw [HWB.out]
    clear HWB
    rw [EA.out]
    clear EA
    go_upto_region 14 with fail
    go_quiet (fail)
    have HR2 := Lib.hid (show RBox w.heap.size (wb.drewN nq) v c y a ∧ Below w.heap.size w (wb.drewN nq) from ⟨HR.out.1.below (below_drewN (Below.refl _ _) nq), below_drewN HR.out.2 nq⟩)
    have c0 := HR2.out.1.c0
    have g1 : (wb.drewN nq).cell? ⟨w.heap.size, 1, none⟩ = some (.slice (some adL) v.a.n v.a.c) := d1
    have g6 : (wb.drewN nq).cell? ⟨w.heap.size, 6, none⟩ = some (.int .i64 c.K) := d6
    have g2 : (wb.drewN nq).cell? adL = some (.int .i64 (p0 : Nat)) := q1
    have g4 : (wb.drewN nq).cell? (ad.add p0) = some (.int .i64 x) := q4
    generalize wb.drewN nq = w3 at *
    clear HR d0 d1 d2 d6 q1 q4 r1 r4
    go_upto_region 16 with fail
    go_quiet (fail)
    have HR3 := Lib.hid (show RBox w.heap.size (w3.drewN nq) v c y a ∧ Below w.heap.size w (w3.drewN nq) from ⟨HR2.out.1.below (below_drewN (Below.refl _ _) nq), below_drewN HR2.out.2 nq⟩)
    have c00 := HR3.out.1.c0
    generalize w3.drewN nq = w4 at *
    clear HR2 c0 g1 g2 g4 g6
    go_wp2_with fail
    go_ret
    exact ⟨ret_bool HV.out.symm, HR3.out.2⟩
  · have HV : Hid (R = false) := Lib.hid (by rw [hR]; simp only [sE, e1, e0]; rfl)
    clear hR HB1
    go_enter Tryz.func78, Tryz.ntmps78
    go_upto_region 1 with fail
    change Code.wp _ _ _ _ (cBox w v c.kind c.K)
    rw [HWB.out]
    clear HWB
    rw [EA.out]
    clear EA
    go_upto_region 14 with fail
    go_quiet (fail)
    have HR2 := Lib.hid (show RBox w.heap.size (wb.drewN nq) v c y a ∧ Below w.heap.size w (wb.drewN nq) from ⟨HR.out.1.below (below_drewN (Below.refl _ _) nq), below_drewN HR.out.2 nq⟩)
    have c0 := HR2.out.1.c0
    have g1 : (wb.drewN nq).cell? ⟨w.heap.size, 1, none⟩ = some (.slice (some adL) v.a.n v.a.c) := d1
    have g6 : (wb.drewN nq).cell? ⟨w.heap.size, 6, none⟩ = some (.int .i64 c.K) := d6
    have g2 : (wb.drewN nq).cell? adL = some (.int .i64 (p0 : Nat)) := q1
    have g4 : (wb.drewN nq).cell? (ad.add p0) = some (.int .i64 x) := q4
    generalize wb.drewN nq = w3 at *
    clear HR d0 d1 d2 d6 q1 q4 r1 r4
    go_upto_region 16 with fail
    go_quiet (fail)
    have HR3 := Lib.hid (show RBox w.heap.size (w3.drewN nq) v c y a ∧ Below w.heap.size w (w3.drewN nq) from ⟨HR2.out.1.below (below_drewN (Below.refl _ _) nq), below_drewN HR2.out.2 nq⟩)
    have c00 := HR3.out.1.c0
    generalize w3.drewN nq = w4 at *
    clear HR2 c0 g1 g2 g4 g6
    go_wp2_with fail
    go_ret
    exact ⟨ret_bool HV.out.symm, HR3.out.2⟩
  · have HV : Hid (R = true) := Lib.hid (by rw [hR]; simp only [sE, e1, e0]; rfl)
    clear hR HB1
    go_enter Tryz.func78, Tryz.ntmps78
    go_upto_region 1 with fail
    change Code.wp _ _ _ _ (cBox w v c.kind c.K)
    rw [HWB.out]
    clear HWB
    rw [EA.out]
    clear EA
    go_upto_region 14 with fail
    go_quiet (fail)
    have HR2 := Lib.hid (show RBox w.heap.size (wb.drewN nq) v c y a ∧ Below w.heap.size w (wb.drewN nq) from ⟨HR.out.1.below (below_drewN (Below.refl _ _) nq), below_drewN HR.out.2 nq⟩)
    have c0 := HR2.out.1.c0
    have g1 : (wb.drewN nq).cell? ⟨w.heap.size, 1, none⟩ = some (.slice (some adL) v.a.n v.a.c) := d1
    have g6 : (wb.drewN nq).cell? ⟨w.heap.size, 6, none⟩ = some (.int .i64 c.K) := d6
    have g2 : (wb.drewN nq).cell? adL = some (.int .i64 (p0 : Nat)) := q1
    have g4 : (wb.drewN nq).cell? (ad.add p0) = some (.int .i64 x) := q4
    generalize wb.drewN nq = w3 at *
    clear HR d0 d1 d2 d6 q1 q4 r1 r4
    go_upto_region 16 with fail
    go_quiet (fail)
    have HR3 := Lib.hid (show RBox w.heap.size (w3.drewN nq) v c y a ∧ Below w.heap.size w (w3.drewN nq) from ⟨HR2.out.1.below (below_drewN (Below.refl _ _) nq), below_drewN HR2.out.2 nq⟩)
    have c00 := HR3.out.1.c0
    generalize w3.drewN nq = w4 at *
    clear HR2 c0 g1 g2 g4 g6
    go_wp2_with fail
    go_ret
    exact ⟨ret_bool HV.out.symm, HR3.out.2⟩
  · have := HB1.out e1; rw [e0] at this; cases this
  · have := HB1.out e1; rw [e0] at this; cases this

theorem rlogic_any (v : ConV) (c : ConL) (y : Sl) (a : List Int) (w : World) (h : ConIn w v c) (hy : IsInts w y a) (r : ConR a.length c) (hk : 12 ≤ c.kind ∧ c.kind ≤ 16) :
    Calls Tryz.prog 78 #[v.val c.kind c.K, .slice y.A y.n y.c] w fun e w' => e = .returned (.bool (meetsB c (valsE c.A a) (valsE c.B a))) ∧ Below w.heap.size w w' := by
  have : c.kind = 12 ∨ c.kind = 13 ∨ c.kind = 14 ∨ c.kind = 15 ∨ c.kind = 16 := by omega
  rcases this with e | e | e | e | e
  · have he : meetsB c (valsE c.A a) (valsE c.B a) = ((valsE c.A a).any (· == 1) || (valsE c.B a).any (· == 0)) := by unfold meetsB; simp only [e]; simp
    rw [he]; exact rlogic12 v c y a w h hy r e
  · have he : meetsB c (valsE c.A a) (valsE c.B a) = (justB ((valsE c.B a).getD 0 0) ((valsE c.A a).getD 0 0 == c.K)) := by unfold meetsB toldB; simp only [e]; simp
    rw [he]; exact rlogic13 v c y a w h hy r e
  · have he : meetsB c (valsE c.A a) (valsE c.B a) = (justB ((valsE c.B a).getD 0 0) (decide ((valsE c.A a).getD 0 0 ≤ c.K))) := by unfold meetsB toldB; simp only [e]; simp
    rw [he]; exact rlogic14 v c y a w h hy r e
  · have he : meetsB c (valsE c.A a) (valsE c.B a) = ((valsE c.B a).getD 0 0 == 0 || (valsE c.B a).getD 0 0 == 1 && ((valsE c.A a).getD 0 0 == c.K)) := by unfold meetsB toldB; simp only [e]; simp
    rw [he]; exact rlogic15 v c y a w h hy r e
  · have he : meetsB c (valsE c.A a) (valsE c.B a) = ((valsE c.B a).getD 0 0 == 0 || (valsE c.B a).getD 0 0 == 1 && (decide ((valsE c.A a).getD 0 0 ≤ c.K))) := by unfold meetsB toldB; simp only [e]; simp
    rw [he]; exact rlogic16 v c y a w h hy r e

end Go.Proofs.YtkhmocbfkpbpfaaGreatDoor
