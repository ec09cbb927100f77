/- Contracts: the document's Holds, Any. Made by tools/genrg8.py. -/
import Derived.Test.YtkhmocbfkpbpfaaGreatDoorMkst
namespace Go.Proofs.YtkhmocbfkpbpfaaGreatDoor
open Go.RowKit Go.Sort

theorem diffP_eq (X : List Int) (i : Nat) (hi : i < X.length) : diffP X i = !noneN (fun k => X.getD i 0 == X.getD k 0) i := by
  unfold diffP noneN
  rw [Bool.not_not, Bool.eq_iff_iff, List.any_eq_true, List.any_eq_true]
  constructor
  · rintro ⟨x, hx, e⟩
    obtain ⟨j, hj, rfl⟩ := List.getElem_of_mem hx
    have hj' : j < i := by rw [List.length_take] at hj; omega
    refine ⟨j, List.mem_range.2 hj', ?_⟩
    rw [beq_iff_eq] at e ⊢
    rw [← e, List.getElem_take, List.getD_eq_getElem?_getD, List.getElem?_eq_getElem (by omega)]
    rfl
  · rintro ⟨j, hj, e⟩
    have hj := List.mem_range.1 hj
    refine ⟨X.getD j 0, ?_, ?_⟩
    · rw [List.getD_eq_getElem?_getD, List.getElem?_eq_getElem (by omega), Option.getD_some]
      rw [List.mem_take_iff_getElem]
      exact ⟨j, by omega, rfl⟩
    · rw [beq_iff_eq] at e ⊢
      exact e.symm

set_option maxHeartbeats 4000000 in
set_option maxRecDepth 100000 in
theorem rholds_lin (v : ConV) (c : ConL) (y : Sl) (a : List Int) (w : World) (h : ConIn w v c) (hy : IsInts w y a) (r : ConR a.length c) (ba : ∀ v ∈ a, -1000000 ≤ v ∧ v ≤ 1000000) (hk : c.kind ≤ 4) :
    Calls Tryz.prog 31 #[v.val c.kind c.K, .slice y.A y.n y.c] w fun e w' => e = .returned (.bool (meetsB c (valsE c.A a) (valsE c.B a))) ∧ Below w.heap.size w w' := by
  obtain ⟨wb, hwb⟩ : ∃ wb, cBox w v c.kind c.K = wb := ⟨_, rfl⟩
  have HR : Hid (RBox w.heap.size wb v c y a ∧ Below w.heap.size w wb) := Lib.hid (hwb ▸ ⟨RBox.start h hy, cBox_below _ _ _ _⟩)
  have HWB := Lib.hid hwb
  have CF : Hid (Calls Tryz.prog 76 #[v.val c.kind c.K, .slice y.A y.n y.c] wb fun e w' => e = .returned (.bool (meetsB c (valsE c.A a) (valsE c.B a))) ∧ Below wb.heap.size wb w') := Lib.hid (rlinear_any v c y a wb HR.out.1.con HR.out.1.ints r ba hk)
  generalize (meetsB c (valsE c.A a) (valsE c.B a)) = RES at CF ⊢
  have k1 := r.k1
  have k23 := r.k23
  have l4 : decide (c.kind ≤ 4) = true := by simp; omega
  have l11 : decide (c.kind ≤ 11) = true := by simp; omega
  have l16 : decide (c.kind ≤ 16) = true := by simp; omega
  have e17 : (c.kind == 17) = false := by simp; omega
  have e18 : (c.kind == 18) = false := by simp; omega
  have e19 : (c.kind == 19) = false := by simp; omega
  have e20 : (c.kind == 20) = false := by simp; omega
  have e21 : (c.kind == 21) = false := by simp; omega
  have d0 := HR.out.1.c0
  have d1 := HR.out.1.c1
  have d2 := HR.out.1.c2
  have d3 := HR.out.1.c3
  have d4 := HR.out.1.c4
  have d5 := HR.out.1.c5
  have d6 := HR.out.1.c6
  have d7 := HR.out.1.c7
  clear hwb h hy r hk ba k1 k23
  go_enter Tryz.func31, Tryz.ntmps31
  go_upto_region 1 with fail
  change Code.wp _ _ _ _ (cBox w v c.kind c.K)
  rw [HWB.out]
  clear HWB
  go_wp2_with fail
  refine CF.out.mono ?_
  rintro e w1 ⟨rfl, b1⟩
  have B1 := Lib.hid (HR.out.2.trans (b1.mono HR.out.2.size))
  clear b1 CF d0 d1 d2 d3 d4 d5 d6 d7
  go_wp2_with fail
  go_ret
  exact ⟨rfl, B1.out⟩

set_option maxHeartbeats 4000000 in
set_option maxRecDepth 100000 in
theorem rholds_three (v : ConV) (c : ConL) (y : Sl) (a : List Int) (w : World) (h : ConIn w v c) (hy : IsInts w y a) (r : ConR a.length c) (ba : ∀ v ∈ a, -1000000 ≤ v ∧ v ≤ 1000000) (hk : 5 ≤ c.kind ∧ c.kind ≤ 11) :
    Calls Tryz.prog 31 #[v.val c.kind c.K, .slice y.A y.n y.c] w fun e w' => e = .returned (.bool (meetsB c (valsE c.A a) (valsE c.B a))) ∧ Below w.heap.size w w' := by
  obtain ⟨wb, hwb⟩ : ∃ wb, cBox w v c.kind c.K = wb := ⟨_, rfl⟩
  have HR : Hid (RBox w.heap.size wb v c y a ∧ Below w.heap.size w wb) := Lib.hid (hwb ▸ ⟨RBox.start h hy, cBox_below _ _ _ _⟩)
  have HWB := Lib.hid hwb
  have CF : Hid (Calls Tryz.prog 77 #[v.val c.kind c.K, .slice y.A y.n y.c] wb fun e w' => e = .returned (.bool (meetsB c (valsE c.A a) (valsE c.B a))) ∧ Below wb.heap.size wb w') := Lib.hid (rthree_any v c y a wb HR.out.1.con HR.out.1.ints r ba hk)
  generalize (meetsB c (valsE c.A a) (valsE c.B a)) = RES at CF ⊢
  have k1 := r.k1
  have k23 := r.k23
  have l4 : decide (c.kind ≤ 4) = false := by simp; omega
  have l11 : decide (c.kind ≤ 11) = true := by simp; omega
  have l16 : decide (c.kind ≤ 16) = true := by simp; omega
  have e17 : (c.kind == 17) = false := by simp; omega
  have e18 : (c.kind == 18) = false := by simp; omega
  have e19 : (c.kind == 19) = false := by simp; omega
  have e20 : (c.kind == 20) = false := by simp; omega
  have e21 : (c.kind == 21) = false := by simp; omega
  have d0 := HR.out.1.c0
  have d1 := HR.out.1.c1
  have d2 := HR.out.1.c2
  have d3 := HR.out.1.c3
  have d4 := HR.out.1.c4
  have d5 := HR.out.1.c5
  have d6 := HR.out.1.c6
  have d7 := HR.out.1.c7
  clear hwb h hy r hk ba k1 k23
  go_enter Tryz.func31, Tryz.ntmps31
  go_upto_region 1 with fail
  change Code.wp _ _ _ _ (cBox w v c.kind c.K)
  rw [HWB.out]
  clear HWB
  go_wp2_with fail
  refine CF.out.mono ?_
  rintro e w1 ⟨rfl, b1⟩
  have B1 := Lib.hid (HR.out.2.trans (b1.mono HR.out.2.size))
  clear b1 CF d0 d1 d2 d3 d4 d5 d6 d7
  go_wp2_with fail
  go_ret
  exact ⟨rfl, B1.out⟩

set_option maxHeartbeats 4000000 in
set_option maxRecDepth 100000 in
theorem rholds_logic (v : ConV) (c : ConL) (y : Sl) (a : List Int) (w : World) (h : ConIn w v c) (hy : IsInts w y a) (r : ConR a.length c) (hk : 12 ≤ c.kind ∧ c.kind ≤ 16) :
    Calls Tryz.prog 31 #[v.val c.kind c.K, .slice y.A y.n y.c] w fun e w' => e = .returned (.bool (meetsB c (valsE c.A a) (valsE c.B a))) ∧ Below w.heap.size w w' := by
  obtain ⟨wb, hwb⟩ : ∃ wb, cBox w v c.kind c.K = wb := ⟨_, rfl⟩
  have HR : Hid (RBox w.heap.size wb v c y a ∧ Below w.heap.size w wb) := Lib.hid (hwb ▸ ⟨RBox.start h hy, cBox_below _ _ _ _⟩)
  have HWB := Lib.hid hwb
  have CF : Hid (Calls Tryz.prog 78 #[v.val c.kind c.K, .slice y.A y.n y.c] wb fun e w' => e = .returned (.bool (meetsB c (valsE c.A a) (valsE c.B a))) ∧ Below wb.heap.size wb w') := Lib.hid (rlogic_any v c y a wb HR.out.1.con HR.out.1.ints r hk)
  generalize (meetsB c (valsE c.A a) (valsE c.B a)) = RES at CF ⊢
  have k1 := r.k1
  have k23 := r.k23
  have l4 : decide (c.kind ≤ 4) = false := by simp; omega
  have l11 : decide (c.kind ≤ 11) = false := by simp; omega
  have l16 : decide (c.kind ≤ 16) = true := by simp; omega
  have e17 : (c.kind == 17) = false := by simp; omega
  have e18 : (c.kind == 18) = false := by simp; omega
  have e19 : (c.kind == 19) = false := by simp; omega
  have e20 : (c.kind == 20) = false := by simp; omega
  have e21 : (c.kind == 21) = false := by simp; omega
  have d0 := HR.out.1.c0
  have d1 := HR.out.1.c1
  have d2 := HR.out.1.c2
  have d3 := HR.out.1.c3
  have d4 := HR.out.1.c4
  have d5 := HR.out.1.c5
  have d6 := HR.out.1.c6
  have d7 := HR.out.1.c7
  clear hwb h hy r hk k1 k23
  go_enter Tryz.func31, Tryz.ntmps31
  go_upto_region 1 with fail
  change Code.wp _ _ _ _ (cBox w v c.kind c.K)
  rw [HWB.out]
  clear HWB
  go_wp2_with fail
  refine CF.out.mono ?_
  rintro e w1 ⟨rfl, b1⟩
  have B1 := Lib.hid (HR.out.2.trans (b1.mono HR.out.2.size))
  clear b1 CF d0 d1 d2 d3 d4 d5 d6 d7
  go_wp2_with fail
  go_ret
  exact ⟨rfl, B1.out⟩

set_option maxHeartbeats 4000000 in
set_option maxRecDepth 100000 in
theorem rholds_row (v : ConV) (c : ConL) (y : Sl) (a : List Int) (w : World) (h : ConIn w v c) (hy : IsInts w y a) (r : ConR a.length c) (hk : c.kind = 18) :
    Calls Tryz.prog 31 #[v.val c.kind c.K, .slice y.A y.n y.c] w fun e w' => e = .returned (.bool (c.rows.any (· == valsE c.A a))) ∧ Below w.heap.size w w' := by
  obtain ⟨wb, hwb⟩ : ∃ wb, cBox w v c.kind c.K = wb := ⟨_, rfl⟩
  have HR : Hid (RBox w.heap.size wb v c y a ∧ Below w.heap.size w wb) := Lib.hid (hwb ▸ ⟨RBox.start h hy, cBox_below _ _ _ _⟩)
  have HWB := Lib.hid hwb
  have CF : Hid (Calls Tryz.prog 79 #[v.val c.kind c.K, .slice y.A y.n y.c] wb fun e w' => e = .returned (.bool (c.rows.any (· == valsE c.A a))) ∧ Below wb.heap.size wb w') := Lib.hid (rrow_any v c y a wb HR.out.1.con HR.out.1.ints r hk)
  generalize (c.rows.any (· == valsE c.A a)) = RES at CF ⊢
  have k1 := r.k1
  have k23 := r.k23
  have l4 : decide (c.kind ≤ 4) = false := by simp; omega
  have l11 : decide (c.kind ≤ 11) = false := by simp; omega
  have l16 : decide (c.kind ≤ 16) = false := by simp; omega
  have e17 : (c.kind == 17) = false := by simp; omega
  have e18 : (c.kind == 18) = true := by simp [hk]
  have e19 : (c.kind == 19) = false := by simp; omega
  have e20 : (c.kind == 20) = false := by simp; omega
  have e21 : (c.kind == 21) = false := by simp; omega
  have d0 := HR.out.1.c0
  have d1 := HR.out.1.c1
  have d2 := HR.out.1.c2
  have d3 := HR.out.1.c3
  have d4 := HR.out.1.c4
  have d5 := HR.out.1.c5
  have d6 := HR.out.1.c6
  have d7 := HR.out.1.c7
  clear hwb h hy r hk k1 k23
  go_enter Tryz.func31, Tryz.ntmps31
  go_upto_region 1 with fail
  change Code.wp _ _ _ _ (cBox w v c.kind c.K)
  rw [HWB.out]
  clear HWB
  go_wp2_with fail
  refine CF.out.mono ?_
  rintro e w1 ⟨rfl, b1⟩
  have B1 := Lib.hid (HR.out.2.trans (b1.mono HR.out.2.size))
  clear b1 CF d0 d1 d2 d3 d4 d5 d6 d7
  go_wp2_with fail
  go_ret
  exact ⟨rfl, B1.out⟩

set_option maxHeartbeats 4000000 in
set_option maxRecDepth 100000 in
theorem rholds_cum (v : ConV) (c : ConL) (y : Sl) (a : List Int) (w : World) (h : ConIn w v c) (hy : IsInts w y a) (r : ConR a.length c) (ba : ∀ v ∈ a, -1000000 ≤ v ∧ v ≤ 1000000) (hk : c.kind = 19) :
    Calls Tryz.prog 31 #[v.val c.kind c.K, .slice y.A y.n y.c] w fun e w' => e = .returned (.bool (noneN (cumP c (valsE c.A a)) (valsE c.A a).length)) ∧ Below w.heap.size w w' := by
  obtain ⟨wb, hwb⟩ : ∃ wb, cBox w v c.kind c.K = wb := ⟨_, rfl⟩
  have HR : Hid (RBox w.heap.size wb v c y a ∧ Below w.heap.size w wb) := Lib.hid (hwb ▸ ⟨RBox.start h hy, cBox_below _ _ _ _⟩)
  have HWB := Lib.hid hwb
  have CF : Hid (Calls Tryz.prog 80 #[v.val c.kind c.K, .slice y.A y.n y.c] wb fun e w' => e = .returned (.bool (noneN (cumP c (valsE c.A a)) (valsE c.A a).length)) ∧ Below wb.heap.size wb w') := Lib.hid (rcum_any v c y a wb HR.out.1.con HR.out.1.ints r hk ba)
  generalize (noneN (cumP c (valsE c.A a)) (valsE c.A a).length) = RES at CF ⊢
  have k1 := r.k1
  have k23 := r.k23
  have l4 : decide (c.kind ≤ 4) = false := by simp; omega
  have l11 : decide (c.kind ≤ 11) = false := by simp; omega
  have l16 : decide (c.kind ≤ 16) = false := by simp; omega
  have e17 : (c.kind == 17) = false := by simp; omega
  have e18 : (c.kind == 18) = false := by simp; omega
  have e19 : (c.kind == 19) = true := by simp [hk]
  have e20 : (c.kind == 20) = false := by simp; omega
  have e21 : (c.kind == 21) = false := by simp; omega
  have d0 := HR.out.1.c0
  have d1 := HR.out.1.c1
  have d2 := HR.out.1.c2
  have d3 := HR.out.1.c3
  have d4 := HR.out.1.c4
  have d5 := HR.out.1.c5
  have d6 := HR.out.1.c6
  have d7 := HR.out.1.c7
  clear hwb h hy r hk ba k1 k23
  go_enter Tryz.func31, Tryz.ntmps31
  go_upto_region 1 with fail
  change Code.wp _ _ _ _ (cBox w v c.kind c.K)
  rw [HWB.out]
  clear HWB
  go_wp2_with fail
  refine CF.out.mono ?_
  rintro e w1 ⟨rfl, b1⟩
  have B1 := Lib.hid (HR.out.2.trans (b1.mono HR.out.2.size))
  clear b1 CF d0 d1 d2 d3 d4 d5 d6 d7
  go_wp2_with fail
  go_ret
  exact ⟨rfl, B1.out⟩

set_option maxHeartbeats 4000000 in
set_option maxRecDepth 100000 in
theorem rholds_circ (v : ConV) (c : ConL) (y : Sl) (a : List Int) (w : World) (h : ConIn w v c) (hy : IsInts w y a) (r : ConR a.length c) (hk : c.kind = 20) :
    Calls Tryz.prog 31 #[v.val c.kind c.K, .slice y.A y.n y.c] w fun e w' => e = .returned (.bool (roundF (valsE c.A a) (valsE c.A a).length 0 1)) ∧ Below w.heap.size w w' := by
  obtain ⟨wb, hwb⟩ : ∃ wb, cBox w v c.kind c.K = wb := ⟨_, rfl⟩
  have HR : Hid (RBox w.heap.size wb v c y a ∧ Below w.heap.size w wb) := Lib.hid (hwb ▸ ⟨RBox.start h hy, cBox_below _ _ _ _⟩)
  have HWB := Lib.hid hwb
  have CF : Hid (Calls Tryz.prog 81 #[v.val c.kind c.K, .slice y.A y.n y.c] wb fun e w' => e = .returned (.bool (roundF (valsE c.A a) (valsE c.A a).length 0 1)) ∧ Below wb.heap.size wb w') := Lib.hid (rcirc_any v c y a wb HR.out.1.con HR.out.1.ints r hk)
  generalize (roundF (valsE c.A a) (valsE c.A a).length 0 1) = RES at CF ⊢
  have k1 := r.k1
  have k23 := r.k23
  have l4 : decide (c.kind ≤ 4) = false := by simp; omega
  have l11 : decide (c.kind ≤ 11) = false := by simp; omega
  have l16 : decide (c.kind ≤ 16) = false := by simp; omega
  have e17 : (c.kind == 17) = false := by simp; omega
  have e18 : (c.kind == 18) = false := by simp; omega
  have e19 : (c.kind == 19) = false := by simp; omega
  have e20 : (c.kind == 20) = true := by simp [hk]
  have e21 : (c.kind == 21) = false := by simp; omega
  have d0 := HR.out.1.c0
  have d1 := HR.out.1.c1
  have d2 := HR.out.1.c2
  have d3 := HR.out.1.c3
  have d4 := HR.out.1.c4
  have d5 := HR.out.1.c5
  have d6 := HR.out.1.c6
  have d7 := HR.out.1.c7
  clear hwb h hy r hk k1 k23
  go_enter Tryz.func31, Tryz.ntmps31
  go_upto_region 1 with fail
  change Code.wp _ _ _ _ (cBox w v c.kind c.K)
  rw [HWB.out]
  clear HWB
  go_wp2_with fail
  refine CF.out.mono ?_
  rintro e w1 ⟨rfl, b1⟩
  have B1 := Lib.hid (HR.out.2.trans (b1.mono HR.out.2.size))
  clear b1 CF d0 d1 d2 d3 d4 d5 d6 d7
  go_wp2_with fail
  go_ret
  exact ⟨rfl, B1.out⟩

set_option maxHeartbeats 4000000 in
set_option maxRecDepth 100000 in
theorem rholds_gcc (v : ConV) (c : ConL) (y : Sl) (a : List Int) (w : World) (h : ConIn w v c) (hy : IsInts w y a) (r : ConR a.length c) (hk : c.kind = 21) :
    Calls Tryz.prog 31 #[v.val c.kind c.K, .slice y.A y.n y.c] w fun e w' => e = .returned (.bool (noneN (gccP c (valsE c.A a)) c.C.length)) ∧ Below w.heap.size w w' := by
  obtain ⟨wb, hwb⟩ : ∃ wb, cBox w v c.kind c.K = wb := ⟨_, rfl⟩
  have HR : Hid (RBox w.heap.size wb v c y a ∧ Below w.heap.size w wb) := Lib.hid (hwb ▸ ⟨RBox.start h hy, cBox_below _ _ _ _⟩)
  have HWB := Lib.hid hwb
  have CF : Hid (Calls Tryz.prog 82 #[v.val c.kind c.K, .slice y.A y.n y.c] wb fun e w' => e = .returned (.bool (noneN (gccP c (valsE c.A a)) c.C.length)) ∧ Below wb.heap.size wb w') := Lib.hid (rgcc_any v c y a wb HR.out.1.con HR.out.1.ints r hk)
  generalize (noneN (gccP c (valsE c.A a)) c.C.length) = RES at CF ⊢
  have k1 := r.k1
  have k23 := r.k23
  have l4 : decide (c.kind ≤ 4) = false := by simp; omega
  have l11 : decide (c.kind ≤ 11) = false := by simp; omega
  have l16 : decide (c.kind ≤ 16) = false := by simp; omega
  have e17 : (c.kind == 17) = false := by simp; omega
  have e18 : (c.kind == 18) = false := by simp; omega
  have e19 : (c.kind == 19) = false := by simp; omega
  have e20 : (c.kind == 20) = false := by simp; omega
  have e21 : (c.kind == 21) = true := by simp [hk]
  have d0 := HR.out.1.c0
  have d1 := HR.out.1.c1
  have d2 := HR.out.1.c2
  have d3 := HR.out.1.c3
  have d4 := HR.out.1.c4
  have d5 := HR.out.1.c5
  have d6 := HR.out.1.c6
  have d7 := HR.out.1.c7
  clear hwb h hy r hk k1 k23
  go_enter Tryz.func31, Tryz.ntmps31
  go_upto_region 1 with fail
  change Code.wp _ _ _ _ (cBox w v c.kind c.K)
  rw [HWB.out]
  clear HWB
  go_wp2_with fail
  refine CF.out.mono ?_
  rintro e w1 ⟨rfl, b1⟩
  have B1 := Lib.hid (HR.out.2.trans (b1.mono HR.out.2.size))
  clear b1 CF d0 d1 d2 d3 d4 d5 d6 d7
  go_wp2_with fail
  go_ret
  exact ⟨rfl, B1.out⟩

set_option maxHeartbeats 4000000 in
set_option maxRecDepth 100000 in
theorem rholds_p22 (v : ConV) (c : ConL) (y : Sl) (a : List Int) (w : World) (h : ConIn w v c) (hy : IsInts w y a) (r : ConR a.length c) (hk : c.kind = 22) :
    Calls Tryz.prog 31 #[v.val c.kind c.K, .slice y.A y.n y.c] w fun e w' => e = .returned (.bool (lexB (valsE c.A a) (valsE c.B a))) ∧ Below w.heap.size w w' := by
  obtain ⟨wb, hwb⟩ : ∃ wb, cBox w v c.kind c.K = wb := ⟨_, rfl⟩
  have HR : Hid (RBox w.heap.size wb v c y a ∧ Below w.heap.size w wb) := Lib.hid (hwb ▸ ⟨RBox.start h hy, cBox_below _ _ _ _⟩)
  have HWB := Lib.hid hwb
  have CF : Hid (Calls Tryz.prog 83 #[v.val c.kind c.K, .slice y.A y.n y.c] wb fun e w' => e = .returned (.bool (lexB (valsE c.A a) (valsE c.B a))) ∧ Below wb.heap.size wb w') := Lib.hid (rpair22 v c y a wb HR.out.1.con HR.out.1.ints r hk)
  generalize (lexB (valsE c.A a) (valsE c.B a)) = RES at CF ⊢
  have k1 := r.k1
  have k23 := r.k23
  have l4 : decide (c.kind ≤ 4) = false := by simp; omega
  have l11 : decide (c.kind ≤ 11) = false := by simp; omega
  have l16 : decide (c.kind ≤ 16) = false := by simp; omega
  have e17 : (c.kind == 17) = false := by simp; omega
  have e18 : (c.kind == 18) = false := by simp; omega
  have e19 : (c.kind == 19) = false := by simp; omega
  have e20 : (c.kind == 20) = false := by simp; omega
  have e21 : (c.kind == 21) = false := by simp; omega
  have d0 := HR.out.1.c0
  have d1 := HR.out.1.c1
  have d2 := HR.out.1.c2
  have d3 := HR.out.1.c3
  have d4 := HR.out.1.c4
  have d5 := HR.out.1.c5
  have d6 := HR.out.1.c6
  have d7 := HR.out.1.c7
  clear hwb h hy r hk k1 k23
  go_enter Tryz.func31, Tryz.ntmps31
  go_upto_region 1 with fail
  change Code.wp _ _ _ _ (cBox w v c.kind c.K)
  rw [HWB.out]
  clear HWB
  go_wp2_with fail
  refine CF.out.mono ?_
  rintro e w1 ⟨rfl, b1⟩
  have B1 := Lib.hid (HR.out.2.trans (b1.mono HR.out.2.size))
  clear b1 CF d0 d1 d2 d3 d4 d5 d6 d7
  go_wp2_with fail
  go_ret
  exact ⟨rfl, B1.out⟩

set_option maxHeartbeats 4000000 in
set_option maxRecDepth 100000 in
theorem rholds_p23 (v : ConV) (c : ConL) (y : Sl) (a : List Int) (w : World) (h : ConIn w v c) (hy : IsInts w y a) (r : ConR a.length c) (hk : c.kind = 23) :
    Calls Tryz.prog 31 #[v.val c.kind c.K, .slice y.A y.n y.c] w fun e w' => e = .returned (.bool (noneN (invP (valsE c.A a) (valsE c.B a)) (valsE c.A a).length)) ∧ Below w.heap.size w w' := by
  obtain ⟨wb, hwb⟩ : ∃ wb, cBox w v c.kind c.K = wb := ⟨_, rfl⟩
  have HR : Hid (RBox w.heap.size wb v c y a ∧ Below w.heap.size w wb) := Lib.hid (hwb ▸ ⟨RBox.start h hy, cBox_below _ _ _ _⟩)
  have HWB := Lib.hid hwb
  have CF : Hid (Calls Tryz.prog 83 #[v.val c.kind c.K, .slice y.A y.n y.c] wb fun e w' => e = .returned (.bool (noneN (invP (valsE c.A a) (valsE c.B a)) (valsE c.A a).length)) ∧ Below wb.heap.size wb w') := Lib.hid (rpair23 v c y a wb HR.out.1.con HR.out.1.ints r hk)
  generalize (noneN (invP (valsE c.A a) (valsE c.B a)) (valsE c.A a).length) = RES at CF ⊢
  have k1 := r.k1
  have k23 := r.k23
  have l4 : decide (c.kind ≤ 4) = false := by simp; omega
  have l11 : decide (c.kind ≤ 11) = false := by simp; omega
  have l16 : decide (c.kind ≤ 16) = false := by simp; omega
  have e17 : (c.kind == 17) = false := by simp; omega
  have e18 : (c.kind == 18) = false := by simp; omega
  have e19 : (c.kind == 19) = false := by simp; omega
  have e20 : (c.kind == 20) = false := by simp; omega
  have e21 : (c.kind == 21) = false := by simp; omega
  have d0 := HR.out.1.c0
  have d1 := HR.out.1.c1
  have d2 := HR.out.1.c2
  have d3 := HR.out.1.c3
  have d4 := HR.out.1.c4
  have d5 := HR.out.1.c5
  have d6 := HR.out.1.c6
  have d7 := HR.out.1.c7
  clear hwb h hy r hk k1 k23
  go_enter Tryz.func31, Tryz.ntmps31
  go_upto_region 1 with fail
  change Code.wp _ _ _ _ (cBox w v c.kind c.K)
  rw [HWB.out]
  clear HWB
  go_wp2_with fail
  refine CF.out.mono ?_
  rintro e w1 ⟨rfl, b1⟩
  have B1 := Lib.hid (HR.out.2.trans (b1.mono HR.out.2.size))
  clear b1 CF d0 d1 d2 d3 d4 d5 d6 d7
  go_wp2_with fail
  go_ret
  exact ⟨rfl, B1.out⟩

set_option maxHeartbeats 4000000 in
set_option maxRecDepth 100000 in
theorem rholds_diff (v : ConV) (c : ConL) (y : Sl) (a : List Int) (w : World) (h : ConIn w v c) (hy : IsInts w y a) (r : ConR a.length c) (hk : c.kind = 17) :
    Calls Tryz.prog 31 #[v.val c.kind c.K, .slice y.A y.n y.c] w fun e w' => e = .returned (.bool (noneN (diffP (valsE c.A a)) (valsE c.A a).length)) ∧ Below w.heap.size w w' := by
  obtain ⟨wb, hwb⟩ : ∃ wb, cBox w v c.kind c.K = wb := ⟨_, rfl⟩
  have HR : Hid (RBox w.heap.size wb v c y a ∧ Below w.heap.size w wb) := Lib.hid (hwb ▸ ⟨RBox.start h hy, cBox_below _ _ _ _⟩)
  have HWB := Lib.hid hwb
  have HPA := Lib.hid r.pa
  have HAN := Lib.hid (show (valsE c.A a).length = v.a.n by rw [h.a.len, vals_size])
  have hn64 : v.a.n ≤ 64 := by rw [h.a.len]; exact r.a64
  rw [HAN.out]
  obtain ⟨RES, hRES⟩ : ∃ R, R = noneN (diffP (valsE c.A a)) v.a.n := ⟨_, rfl⟩
  rw [← hRES]
  have HE := Lib.hid hRES
  have l4 : decide (c.kind ≤ 4) = false := by simp; omega
  have l11 : decide (c.kind ≤ 11) = false := by simp; omega
  have l16 : decide (c.kind ≤ 16) = false := by simp; omega
  have e17 : (c.kind == 17) = true := by simp [hk]
  have e18 : (c.kind == 18) = false := by simp; omega
  have e19 : (c.kind == 19) = false := by simp; omega
  have e20 : (c.kind == 20) = false := by simp; omega
  have e21 : (c.kind == 21) = false := by simp; omega
  have d0 := HR.out.1.c0
  clear hwb h hy r hk hRES
  go_enter Tryz.func31, Tryz.ntmps31
  go_upto_region 1 with fail
  change Code.wp _ _ _ _ (cBox w v c.kind c.K)
  rw [HWB.out]
  clear HWB
  go_wp2_with fail
  clear d0
  go_loopw [5] (fun i wr => ∃ (k : Nat), i = .int .i64 (k : Nat) ∧ k ≤ v.a.n ∧ Hid (noTo (diffP (valsE c.A a)) k) ∧ Hid (RBox w.heap.size wr v c y a ∧ Below w.heap.size w wr)) (fun i _ => v.a.n - (intOf i).toNat)
  case atStart => exact ⟨0, rfl, by omega, Lib.hid (noTo_zero _), HR⟩
  case round =>
    clear HR
    obtain ⟨k, rfl, hk, H0, HR⟩ := hrel
    obtain ⟨wo, rfl⟩ : ∃ wo, wo = wr := ⟨_, rfl⟩
    have h1 := HR.out.1.c1
    by_cases hlt : k < v.a.n
    · have HD := Lib.hid (diffP_eq (valsE c.A a) k (by rw [HAN.out]; exact hlt))
      go_wp2_with fail
      clear h1
      go_loopw [6] (fun i wr => ∃ (j : Nat), i = .int .i64 (j : Nat) ∧ j ≤ k ∧ Hid (noTo (fun j => (valsE c.A a).getD k 0 == (valsE c.A a).getD j 0) j) ∧ Hid (RBox w.heap.size wr v c y a ∧ Below w.heap.size w wr)) (fun i _ => k - (intOf i).toNat)
      case atStart => exact ⟨0, rfl, by omega, Lib.hid (noTo_zero _), HR⟩
      case round =>
        clear HR
        obtain ⟨j, rfl, hj, H1, HR⟩ := hrel
        by_cases hlj : j < k
        · have h1 := HR.out.1.c1
          obtain ⟨adL, ad, p, eL, ea, q1, q2, q3, q4⟩ := HR.out.1.at_ HPA.out k hlt
          obtain ⟨adM, ad', p', eM, ea', r1, r2, r3, r4⟩ := HR.out.1.at_ HPA.out j (by omega)
          obtain rfl : ad = ad' := by rw [ea] at ea'; exact Option.some.inj ea'
          obtain rfl : adL = adM := by rw [eL] at eM; exact Option.some.inj eM
          rw [eL] at h1
          rw [ea]
          have HST : Hid (((valsE c.A a).getD k 0 == (valsE c.A a).getD j 0) = false → noTo (fun j => (valsE c.A a).getD k 0 == (valsE c.A a).getD j 0) (j + 1)) := Lib.hid (fun e => noTo_step H1.out e)
          have HBAD : Hid (((valsE c.A a).getD k 0 == (valsE c.A a).getD j 0) = true → RES = false) := Lib.hid (fun e => by
            rw [HE.out]
            exact none_no (k := k) hlt (by rw [HD.out, none_no (k := j) hlj e]; rfl))
          clear eL eM ea ea'
          cases hz : ((valsE c.A a).getD k 0 == (valsE c.A a).getD j 0)
          · have H2 := Lib.hid (HST.out hz)
            clear HST HBAD H1
            generalize (valsE c.A a).getD j 0 = z at r4 hz
            generalize (valsE c.A a).getD k 0 = x at q4 hz H2
            go_upto_region 15 with fail
            go_quiet (fail)
            have HR2 := Lib.hid (show RBox w.heap.size (wr.drewN nq) v c y a ∧ Below w.heap.size w (wr.drewN nq) from ⟨HR.out.1.below (below_drewN (Below.refl _ _) nq), below_drewN HR.out.2 nq⟩)
            generalize wr.drewN nq = w3 at *
            go_wp2_with fail
            go_roundw
            case rel => exact ⟨j + 1, by go_num, by omega, H2, HR2⟩
            case measure => simp [intOf]; omega
          · have HW := Lib.hid (HBAD.out hz)
            clear HST HBAD H1
            generalize (valsE c.A a).getD j 0 = z at r4 hz
            generalize (valsE c.A a).getD k 0 = x at q4 hz
            go_upto_region 15 with fail
            go_quiet (fail)
            have HR2 := Lib.hid (below_drewN HR.out.2 nq)
            generalize wr.drewN nq = w3 at *
            go_wp2_with fail
            go_ret
            exact ⟨ret_bool HW.out.symm, HR2.out⟩
        · have H2 : Hid (noTo (diffP (valsE c.A a)) (k + 1)) := Lib.hid (noTo_step H0.out (by
            obtain rfl : j = k := by omega
            rw [HD.out, none_yes H1.out]; rfl))
          clear H0 H1
          go_wp2_with fail
          go_roundw
          case rel => exact ⟨k + 1, by go_num, by omega, H2, HR⟩
          case measure => simp [intOf]; omega
    · have HW : Hid (RES = true) := Lib.hid (by rw [HE.out]; exact none_yes (by have := H0.out; rwa [show k = v.a.n by omega] at this))
      clear H0 HE
      go_wp2_with fail
      go_ret
      exact ⟨ret_bool HW.out.symm, HR.out.2⟩

/-- The document's Holds, of a constraint that may be. -/
theorem rHolds_any (v : ConV) (c : ConL) (y : Sl) (a : List Int) (w : World) (h : ConIn w v c) (hy : IsInts w y a) (r : ConR a.length c) (ba : ∀ v ∈ a, -1000000 ≤ v ∧ v ≤ 1000000) :
    Calls Tryz.prog 31 #[v.val c.kind c.K, .slice y.A y.n y.c] w fun e w' => e = .returned (.bool (meetsB c (valsE c.A a) (valsE c.B a))) ∧ Below w.heap.size w w' := by
  have k1 := r.k1
  have k23 := r.k23
  have : c.kind ≤ 4 ∨ (5 ≤ c.kind ∧ c.kind ≤ 11) ∨ (12 ≤ c.kind ∧ c.kind ≤ 16) ∨ c.kind = 17 ∨ c.kind = 18 ∨ c.kind = 19 ∨ c.kind = 20 ∨ c.kind = 21 ∨ c.kind = 22 ∨ c.kind = 23 := by omega
  rcases this with e | e | e | e | e | e | e | e | e | e
  · exact rholds_lin v c y a w h hy r ba e
  · exact rholds_three v c y a w h hy r ba e
  · exact rholds_logic v c y a w h hy r e
  · rw [show meetsB c (valsE c.A a) (valsE c.B a) = noneN (diffP (valsE c.A a)) (valsE c.A a).length from (by unfold meetsB; simp only [e]; simp)]; exact rholds_diff v c y a w h hy r e
  · rw [show meetsB c (valsE c.A a) (valsE c.B a) = c.rows.any (· == valsE c.A a) from (by unfold meetsB; simp only [e]; simp)]; exact rholds_row v c y a w h hy r e
  · rw [show meetsB c (valsE c.A a) (valsE c.B a) = noneN (cumP c (valsE c.A a)) (valsE c.A a).length from (by unfold meetsB; simp only [e]; simp)]; exact rholds_cum v c y a w h hy r ba e
  · rw [show meetsB c (valsE c.A a) (valsE c.B a) = roundF (valsE c.A a) (valsE c.A a).length 0 1 from (by unfold meetsB; simp only [e]; simp)]; exact rholds_circ v c y a w h hy r e
  · rw [show meetsB c (valsE c.A a) (valsE c.B a) = noneN (gccP c (valsE c.A a)) c.C.length from (by unfold meetsB; simp only [e]; simp)]; exact rholds_gcc v c y a w h hy r e
  · rw [show meetsB c (valsE c.A a) (valsE c.B a) = lexB (valsE c.A a) (valsE c.B a) from (by unfold meetsB; simp only [e]; simp)]; exact rholds_p22 v c y a w h hy r e
  · rw [show meetsB c (valsE c.A a) (valsE c.B a) = noneN (invP (valsE c.A a) (valsE c.B a)) (valsE c.A a).length from (by unfold meetsB; simp only [e]; simp)]; exact rholds_p23 v c y a w h hy r e

set_option maxHeartbeats 4000000 in
set_option maxRecDepth 100000 in
/-- The document's Any tells what Holds tells. -/
theorem rAny_any (v : ConV) (c : ConL) (y : Sl) (a : List Int) (w : World) (h : ConIn w v c) (hy : IsInts w y a) :
    Calls Tryz.prog 48 #[v.val c.kind c.K, .slice y.A y.n y.c] w fun e w' => e = .returned (.bool (holdsE c a)) ∧ Below w.heap.size w w' := by
  obtain ⟨wb, hwb⟩ : ∃ wb, cBox w v c.kind c.K = wb := ⟨_, rfl⟩
  have HR : Hid (RBox w.heap.size wb v c y a ∧ Below w.heap.size w wb) := Lib.hid (hwb ▸ ⟨RBox.start h hy, cBox_below _ _ _ _⟩)
  have HWB := Lib.hid hwb
  have hbig := hy.big
  have CR : Hid (Calls Tryz.prog 65 #[v.val c.kind c.K, .int .i64 (y.n : Nat)] wb fun e w' => e = .returned (.int .i64 (rightE c (a.length : Nat))) ∧ Below wb.heap.size wb w') := Lib.hid (by
    rw [right_same, ← hy.len]
    exact refright_any v c (y.n : Nat) wb HR.out.1.con (by omega))
  have CH : Hid (rightE c (a.length : Nat) = 0 → (∀ v ∈ a, -1000000 ≤ v ∧ v ≤ 1000000) → ∀ W, ConIn W v c → IsInts W y a → Calls Tryz.prog 31 #[v.val c.kind c.K, .slice y.A y.n y.c] W fun e w' => e = .returned (.bool (meetsB c (valsE c.A a) (valsE c.B a))) ∧ Below W.heap.size W w') := Lib.hid (fun q1 q2 W q3 q4 => rHolds_any v c y a W q3 q4 (con_r q1) q2)
  have HV : Hid (holdsE c a = (!a.any (outB (-1000000) 1000000) && (rightE c (a.length : Nat) == 0 && meetsB c (valsE c.A a) (valsE c.B a)))) := Lib.hid rfl
  have HO : Hid (noneN (fun i => outB (-1000000) 1000000 (a.getD i 0)) y.n = !a.any (outB (-1000000) 1000000)) := Lib.hid (by rw [hy.len]; exact none_ints (outB (-1000000) 1000000) a)
  have HYL := Lib.hid hy.len
  have d0 := HR.out.1.c0
  have d1 := HR.out.1.c1
  have d2 := HR.out.1.c2
  have d3 := HR.out.1.c3
  have d4 := HR.out.1.c4
  have d5 := HR.out.1.c5
  have d6 := HR.out.1.c6
  have d7 := HR.out.1.c7
  obtain ⟨rr, hrr⟩ : ∃ rr, rr = rightE c (a.length : Nat) := ⟨_, rfl⟩
  have HRR := Lib.hid hrr
  rw [← hrr] at CR HV
  generalize holdsE c a = RES at HV ⊢
  clear hwb h hy hrr
  go_enter Tryz.func48, Tryz.ntmps48
  go_upto_region 1 with fail
  change Code.wp _ _ _ _ (cBox w v c.kind c.K)
  rw [HWB.out]
  clear HWB
  go_wp2_with fail
  refine CR.out.mono ?_
  rintro e w1 ⟨rfl, b1⟩
  have HR1 := Lib.hid (show RBox w.heap.size w1 v c y a ∧ Below w.heap.size w w1 from ⟨HR.out.1.below b1, HR.out.2.trans (b1.mono HR.out.2.size)⟩)
  clear b1 CR HR d0 d1 d2 d3 d4 d5 d6 d7
  cases g : (rr == 0)
  · have gn : (rr != 0) = true := by unfold bne; rw [g]; rfl
    have HW : Hid (RES = false) := Lib.hid (by rw [HV.out, g]; simp)
    clear HV HO CH
    go_wp2_with fail
    go_ret
    exact ⟨ret_bool HW.out.symm, HR1.out.2⟩
  · have gn : (rr != 0) = false := by unfold bne; rw [g]; rfl
    have HQ : Hid (rightE c (a.length : Nat) = 0) := Lib.hid (by rw [← HRR.out]; simpa using g)
    have HW : Hid (RES = (!a.any (outB (-1000000) 1000000) && meetsB c (valsE c.A a) (valsE c.B a))) := Lib.hid (by rw [HV.out, g]; simp)
    clear HV
    go_wp2_with fail
    go_loopw [6] (fun i wr => ∃ (k : Nat), i = .int .i64 (k : Nat) ∧ k ≤ y.n ∧ Hid (noTo (fun i => outB (-1000000) 1000000 (a.getD i 0)) k) ∧ Hid (RBox w.heap.size wr v c y a ∧ Below w.heap.size w wr)) (fun i _ => y.n - (intOf i).toNat)
    case atStart => exact ⟨0, rfl, by omega, Lib.hid (noTo_zero _), HR1⟩
    case round =>
      clear HR1
      obtain ⟨k, rfl, hk, H0, HR⟩ := hrel
      by_cases hlt : k < y.n
      · obtain ⟨ad, ea, q⟩ := ints_at HR.out.1.ints k hlt
        rw [ea]
        have HP : Hid (outB (-1000000) 1000000 (a.getD k 0) = (decide (a.getD k 0 < -1000000) || decide (1000000 < a.getD k 0))) := Lib.hid rfl
        have HBAD : Hid (outB (-1000000) 1000000 (a.getD k 0) = true → RES = false) := Lib.hid (fun e => by
          have := HO.out
          rw [none_no (k := k) hlt e] at this
          rw [HW.out, ← this]; rfl)
        have HST : Hid (outB (-1000000) 1000000 (a.getD k 0) = false → noTo (fun i => outB (-1000000) 1000000 (a.getD i 0)) (k + 1)) := Lib.hid (fun e => noTo_step H0.out e)
        generalize outB (-1000000) 1000000 (a.getD k 0) = B at *
        generalize a.getD k 0 = z at *
        clear ea H0
        cases g1 : decide (z < -1000000)
        · cases g2 : decide (1000000 < z)
          · have H2 := Lib.hid (HST.out (by rw [HP.out, g1, g2]; rfl))
            clear HP HST HBAD
            go_wp2_with fail
            go_roundw
            case rel => exact ⟨k + 1, by go_num, by omega, H2, HR⟩
            case measure => simp [intOf]; omega
          · have HF := Lib.hid (HBAD.out (by rw [HP.out, g1, g2]; rfl))
            clear HP HST HBAD
            go_wp2_with fail
            go_ret
            exact ⟨ret_bool HF.out.symm, HR.out.2⟩
        · have HF := Lib.hid (HBAD.out (by rw [HP.out, g1]; rfl))
          clear HP HST HBAD
          go_wp2_with fail
          go_ret
          exact ⟨ret_bool HF.out.symm, HR.out.2⟩
      · have HN : Hid (a.any (outB (-1000000) 1000000) = false) := Lib.hid (by
          have := HO.out
          rw [none_yes (by have := H0.out; rwa [show k = y.n by omega] at this)] at this
          simpa using this.symm)
        have HF : Hid (RES = meetsB c (valsE c.A a) (valsE c.B a)) := Lib.hid (by rw [HW.out, HN.out]; simp)
        have CF := Lib.hid (CH.out HQ.out (fun v hv => by
          have := List.any_eq_false.1 HN.out v hv
          unfold outB at this
          simp at this
          omega) wr HR.out.1.con HR.out.1.ints)
        rw [← HF.out] at CF
        have d0 := HR.out.1.c0
        have d1 := HR.out.1.c1
        have d2 := HR.out.1.c2
        have d3 := HR.out.1.c3
        have d4 := HR.out.1.c4
        have d5 := HR.out.1.c5
        have d6 := HR.out.1.c6
        have d7 := HR.out.1.c7
        clear H0 HN HF CH HW HO
        go_wp2_with fail
        refine CF.out.mono ?_
        rintro e w2 ⟨rfl, b2⟩
        have B2 := Lib.hid (HR.out.2.trans (b2.mono HR.out.2.size))
        clear b2 CF d0 d1 d2 d3 d4 d5 d6 d7
        go_wp2_with fail
        go_ret
        exact ⟨rfl, B2.out⟩

end Go.Proofs.YtkhmocbfkpbpfaaGreatDoor
