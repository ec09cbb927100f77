/- Contracts: the document's linear, three, logic. Made by tools/genrg.py. -/
import Derived.Test.YtkhmocbfkpbpfaaGreatDoorRg1
namespace Go.Proofs.YtkhmocbfkpbpfaaGreatDoor
open Go.RowKit Go.Sort

set_option maxHeartbeats 2000000 in
theorem rlinear1 (v : ConV) (c : ConL) (y : Sl) (a : List Int) (w : World) (h : ConIn w v c) (hy : IsInts w y a) (r : ConR a.length c) (ba : ∀ v ∈ a, -1000000 ≤ v ∧ v ≤ 1000000) (hk : c.kind = 1) :
    Calls Tryz.prog 76 #[v.val c.kind c.K, .slice y.A y.n y.c] w fun e w' => e = .returned (.bool (dotE c.C (valsE c.A a) == c.K)) ∧ Below w.heap.size w w' := by
  obtain ⟨wb, hwb⟩ : ∃ wb, cBox w v c.kind c.K = wb := ⟨_, rfl⟩
  have HR : Hid (RBox w.heap.size wb v c y a ∧ Below w.heap.size w wb) := Lib.hid (hwb ▸ ⟨RBox.start h hy, cBox_below _ _ _ _⟩)
  have HWB := Lib.hid hwb
  have t1 : (c.kind == 1) = true := by simp [hk]
  have CS : Hid (Calls Tryz.prog 133 #[v.val c.kind c.K, .slice y.A y.n y.c] wb fun e w' => e = .returned (.int .i64 (dotE c.C (valsE c.A a))) ∧ Below wb.heap.size wb w') := Lib.hid (rsum_any v c y a wb HR.out.1.con HR.out.1.ints r (r.lin (by omega)) ba)
  generalize dotE c.C (valsE c.A a) = D at CS ⊢

  clear hwb h hy r ba hk
  go_enter Tryz.func76, Tryz.ntmps76
  go_upto_region 1 with fail
  change Code.wp _ _ _ _ (cBox w v c.kind c.K)
  rw [HWB.out]
  clear HWB

  have d0 := HR.out.1.c0
  have d1 := HR.out.1.c1
  have d2 := HR.out.1.c2
  have d3 := HR.out.1.c3
  have d4 := HR.out.1.c4
  have d5 := HR.out.1.c5
  have d6 := HR.out.1.c6
  have d7 := HR.out.1.c7
  go_wp2_with fail
  refine CS.out.mono ?_
  rintro e w1 ⟨rfl, b1⟩
  have HR1 := Lib.hid (show RBox w.heap.size w1 v c y a ∧ Below w.heap.size w w1 from ⟨HR.out.1.below b1, HR.out.2.trans (b1.mono HR.out.2.size)⟩)
  have e0 := HR1.out.1.c0
  have e2 := HR1.out.1.c2
  have e6 := HR1.out.1.c6

  clear d0 d1 d2 d3 d4 d5 d6 d7 b1 CS HR
  go_wp2_with fail
  go_ret
  exact ⟨ret_bool (by simp), HR1.out.2⟩

set_option maxHeartbeats 2000000 in
theorem rlinear2 (v : ConV) (c : ConL) (y : Sl) (a : List Int) (w : World) (h : ConIn w v c) (hy : IsInts w y a) (r : ConR a.length c) (ba : ∀ v ∈ a, -1000000 ≤ v ∧ v ≤ 1000000) (hk : c.kind = 2) :
    Calls Tryz.prog 76 #[v.val c.kind c.K, .slice y.A y.n y.c] w fun e w' => e = .returned (.bool (decide (dotE c.C (valsE c.A a) ≤ c.K))) ∧ Below w.heap.size w w' := by
  obtain ⟨wb, hwb⟩ : ∃ wb, cBox w v c.kind c.K = wb := ⟨_, rfl⟩
  have HR : Hid (RBox w.heap.size wb v c y a ∧ Below w.heap.size w wb) := Lib.hid (hwb ▸ ⟨RBox.start h hy, cBox_below _ _ _ _⟩)
  have HWB := Lib.hid hwb
  have t1 : (c.kind == 1) = false := by simp [hk]
  have t2 : (c.kind == 2) = true := by simp [hk]
  have CS : Hid (Calls Tryz.prog 133 #[v.val c.kind c.K, .slice y.A y.n y.c] wb fun e w' => e = .returned (.int .i64 (dotE c.C (valsE c.A a))) ∧ Below wb.heap.size wb w') := Lib.hid (rsum_any v c y a wb HR.out.1.con HR.out.1.ints r (r.lin (by omega)) ba)
  generalize dotE c.C (valsE c.A a) = D at CS ⊢

  clear hwb h hy r ba hk
  go_enter Tryz.func76, Tryz.ntmps76
  go_upto_region 1 with fail
  change Code.wp _ _ _ _ (cBox w v c.kind c.K)
  rw [HWB.out]
  clear HWB

  have d0 := HR.out.1.c0
  have d1 := HR.out.1.c1
  have d2 := HR.out.1.c2
  have d3 := HR.out.1.c3
  have d4 := HR.out.1.c4
  have d5 := HR.out.1.c5
  have d6 := HR.out.1.c6
  have d7 := HR.out.1.c7
  go_wp2_with fail
  refine CS.out.mono ?_
  rintro e w1 ⟨rfl, b1⟩
  have HR1 := Lib.hid (show RBox w.heap.size w1 v c y a ∧ Below w.heap.size w w1 from ⟨HR.out.1.below b1, HR.out.2.trans (b1.mono HR.out.2.size)⟩)
  have e0 := HR1.out.1.c0
  have e2 := HR1.out.1.c2
  have e6 := HR1.out.1.c6

  clear d0 d1 d2 d3 d4 d5 d6 d7 b1 CS HR
  go_wp2_with fail
  go_ret
  exact ⟨ret_bool (by simp), HR1.out.2⟩

set_option maxHeartbeats 2000000 in
theorem rlinear3 (v : ConV) (c : ConL) (y : Sl) (a : List Int) (w : World) (h : ConIn w v c) (hy : IsInts w y a) (r : ConR a.length c) (ba : ∀ v ∈ a, -1000000 ≤ v ∧ v ≤ 1000000) (hk : c.kind = 3) :
    Calls Tryz.prog 76 #[v.val c.kind c.K, .slice y.A y.n y.c] w fun e w' => e = .returned (.bool (dotE c.C (valsE c.A a) != c.K)) ∧ Below w.heap.size w w' := by
  obtain ⟨wb, hwb⟩ : ∃ wb, cBox w v c.kind c.K = wb := ⟨_, rfl⟩
  have HR : Hid (RBox w.heap.size wb v c y a ∧ Below w.heap.size w wb) := Lib.hid (hwb ▸ ⟨RBox.start h hy, cBox_below _ _ _ _⟩)
  have HWB := Lib.hid hwb
  have t1 : (c.kind == 1) = false := by simp [hk]
  have t2 : (c.kind == 2) = false := by simp [hk]
  have t3 : (c.kind == 3) = true := by simp [hk]
  have CS : Hid (Calls Tryz.prog 133 #[v.val c.kind c.K, .slice y.A y.n y.c] wb fun e w' => e = .returned (.int .i64 (dotE c.C (valsE c.A a))) ∧ Below wb.heap.size wb w') := Lib.hid (rsum_any v c y a wb HR.out.1.con HR.out.1.ints r (r.lin (by omega)) ba)
  generalize dotE c.C (valsE c.A a) = D at CS ⊢

  clear hwb h hy r ba hk
  go_enter Tryz.func76, Tryz.ntmps76
  go_upto_region 1 with fail
  change Code.wp _ _ _ _ (cBox w v c.kind c.K)
  rw [HWB.out]
  clear HWB

  have d0 := HR.out.1.c0
  have d1 := HR.out.1.c1
  have d2 := HR.out.1.c2
  have d3 := HR.out.1.c3
  have d4 := HR.out.1.c4
  have d5 := HR.out.1.c5
  have d6 := HR.out.1.c6
  have d7 := HR.out.1.c7
  go_wp2_with fail
  refine CS.out.mono ?_
  rintro e w1 ⟨rfl, b1⟩
  have HR1 := Lib.hid (show RBox w.heap.size w1 v c y a ∧ Below w.heap.size w w1 from ⟨HR.out.1.below b1, HR.out.2.trans (b1.mono HR.out.2.size)⟩)
  have e0 := HR1.out.1.c0
  have e2 := HR1.out.1.c2
  have e6 := HR1.out.1.c6

  clear d0 d1 d2 d3 d4 d5 d6 d7 b1 CS HR
  go_wp2_with fail
  go_ret
  exact ⟨ret_bool (by simp), HR1.out.2⟩

set_option maxHeartbeats 2000000 in
theorem rlinear4 (v : ConV) (c : ConL) (y : Sl) (a : List Int) (w : World) (h : ConIn w v c) (hy : IsInts w y a) (r : ConR a.length c) (ba : ∀ v ∈ a, -1000000 ≤ v ∧ v ≤ 1000000) (hk : c.kind = 4) :
    Calls Tryz.prog 76 #[v.val c.kind c.K, .slice y.A y.n y.c] w fun e w' => e = .returned (.bool (justB ((valsE c.B a).getD 0 0) (decide (dotE c.C (valsE c.A a) ≤ c.K)))) ∧ Below w.heap.size w w' := by
  obtain ⟨wb, hwb⟩ : ∃ wb, cBox w v c.kind c.K = wb := ⟨_, rfl⟩
  have HR : Hid (RBox w.heap.size wb v c y a ∧ Below w.heap.size w wb) := Lib.hid (hwb ▸ ⟨RBox.start h hy, cBox_below _ _ _ _⟩)
  have HWB := Lib.hid hwb
  have hb1 : v.b.n = 1 := by rw [h.b.len, r.reif hk]
  obtain ⟨adB, ad, p, eB, ea, q1, q2, q3, q4⟩ := HR.out.1.bt_ r.pb 0 (by omega)
  rw [gadd0] at q1
  have EB := Lib.hid (And.intro eB ea)
  clear eB ea hb1
  have t1 : (c.kind == 1) = false := by simp [hk]
  have t2 : (c.kind == 2) = false := by simp [hk]
  have t3 : (c.kind == 3) = false := by simp [hk]
  have CS : Hid (Calls Tryz.prog 133 #[v.val c.kind c.K, .slice y.A y.n y.c] wb fun e w' => e = .returned (.int .i64 (dotE c.C (valsE c.A a))) ∧ Below wb.heap.size wb w') := Lib.hid (rsum_any v c y a wb HR.out.1.con HR.out.1.ints r (r.lin (by omega)) ba)
  generalize dotE c.C (valsE c.A a) = D at CS ⊢

  generalize (valsE c.B a).getD 0 0 = b at q4 ⊢
  obtain ⟨R, hR⟩ : ∃ R, R = justB b (decide (D ≤ c.K)) := ⟨_, rfl⟩
  rw [← hR]
  have HV := Lib.hid hR
  clear hR

  clear hwb h hy r ba hk
  go_enter Tryz.func76, Tryz.ntmps76
  go_upto_region 1 with fail
  change Code.wp _ _ _ _ (cBox w v c.kind c.K)
  rw [HWB.out]
  clear HWB

  have d0 := HR.out.1.c0
  have d1 := HR.out.1.c1
  have d2 := HR.out.1.c2
  have d3 := HR.out.1.c3
  have d4 := HR.out.1.c4
  have d5 := HR.out.1.c5
  have d6 := HR.out.1.c6
  have d7 := HR.out.1.c7
  go_wp2_with fail
  refine CS.out.mono ?_
  rintro e w1 ⟨rfl, b1⟩
  have HR1 := Lib.hid (show RBox w.heap.size w1 v c y a ∧ Below w.heap.size w w1 from ⟨HR.out.1.below b1, HR.out.2.trans (b1.mono HR.out.2.size)⟩)
  have e0 := HR1.out.1.c0
  have e2 := HR1.out.1.c2
  have e6 := HR1.out.1.c6

  have q1' := (b1.cell (lt_of_cell q1)).trans q1
  have q4' := (b1.cell (lt_of_cell q4)).trans q4
  clear d0 d1 d2 d3 d4 d5 d6 d7 b1 CS HR q1 q4
  obtain ⟨eB, ea⟩ := EB.out
  rw [eB] at e2
  rw [ea]
  clear eB ea EB
  by_cases g1 : D ≤ c.K
  · have x1 : decide (D ≤ c.K) = true := by simpa using g1
    have x2 : decide (c.K < D) = false := by simpa using g1
    clear g1
    by_cases u1 : b = 1
    · have y1 : (b == 1) = true := by simpa using u1
      have hv : Hid (true = R) := Lib.hid (by rw [HV.out, x1]; unfold justB; simp [u1])
      clear u1
      go_wp2_with fail
      go_ret
      exact ⟨ret_bool hv.out, HR1.out.2⟩
    · have y1 : (b == 1) = false := by simpa using u1
      have hv : Hid (false = R) := Lib.hid (by rw [HV.out, x1]; unfold justB; simp [u1])
      by_cases u0 : b = 0
      · have y0 : (b == 0) = true := by simpa using u0
        clear u1 u0
        go_wp2_with fail
        go_ret
        exact ⟨ret_bool hv.out, HR1.out.2⟩
      · have y0 : (b == 0) = false := by simpa using u0
        clear u1 u0
        go_wp2_with fail
        go_ret
        exact ⟨ret_bool hv.out, HR1.out.2⟩
  · have x1 : decide (D ≤ c.K) = false := by simpa using g1
    have x2 : decide (c.K < D) = true := by simp; omega
    clear g1
    by_cases u0 : b = 0
    · have y0 : (b == 0) = true := by simpa using u0
      have y1 : (b == 1) = false := by simp [u0]
      have hv : Hid (true = R) := Lib.hid (by rw [HV.out, x1]; unfold justB; simp [u0])
      clear u0
      go_wp2_with fail
      go_ret
      exact ⟨ret_bool hv.out, HR1.out.2⟩
    · have y0 : (b == 0) = false := by simpa using u0
      have hv : Hid (false = R) := Lib.hid (by rw [HV.out, x1]; unfold justB; simp [u0])
      by_cases u1 : b = 1
      · have y1 : (b == 1) = true := by simpa using u1
        clear u1 u0
        go_wp2_with fail
        go_ret
        exact ⟨ret_bool hv.out, HR1.out.2⟩
      · have y1 : (b == 1) = false := by simpa using u1
        clear u1 u0
        go_wp2_with fail
        go_ret
        exact ⟨ret_bool hv.out, HR1.out.2⟩

theorem rlinear_any (v : ConV) (c : ConL) (y : Sl) (a : List Int) (w : World) (h : ConIn w v c) (hy : IsInts w y a) (r : ConR a.length c) (ba : ∀ v ∈ a, -1000000 ≤ v ∧ v ≤ 1000000) (hk : c.kind ≤ 4) :
    Calls Tryz.prog 76 #[v.val c.kind c.K, .slice y.A y.n y.c] w fun e w' => e = .returned (.bool (meetsB c (valsE c.A a) (valsE c.B a))) ∧ Below w.heap.size w w' := by
  have h1 := r.k1
  have he : meetsB c (valsE c.A a) (valsE c.B a) = linB c (dotE c.C (valsE c.A a)) (valsE c.B a) := by unfold meetsB; rw [if_pos ⟨h1, hk⟩]
  rw [he]
  unfold linB
  have : c.kind = 1 ∨ c.kind = 2 ∨ c.kind = 3 ∨ c.kind = 4 := by omega
  rcases this with e | e | e | e
  · rw [if_pos e]; exact rlinear1 v c y a w h hy r ba e
  · rw [if_neg (by omega), if_pos e]; exact rlinear2 v c y a w h hy r ba e
  · rw [if_neg (by omega), if_neg (by omega), if_pos e]; exact rlinear3 v c y a w h hy r ba e
  · rw [if_neg (by omega), if_neg (by omega), if_neg (by omega)]; exact rlinear4 v c y a w h hy r ba e

def szI (a : Int) : Int := a.natAbs
theorem rsize_any (a : Int) (w : World) (ha : -1000000 ≤ a ∧ a ≤ 1000000) :
    Calls Tryz.prog 180 #[.int .i64 a] w fun e w' => e = .returned (.int .u64 (szI a)) ∧ w = w' := by
  by_cases hn : a < 0
  · have w1 : IntKind.i64.wrap (a + 1) = a + 1 := IntWalk.i64_in _ (by omega)
    have w2 : IntKind.i64.wrap (-(a + 1)) = -(a + 1) := IntWalk.i64_in _ (by omega)
    have hd : decide (a < 0) = true := by simpa using hn
    have w3 : IntKind.u64.wrap (-(a + 1)) = -(a + 1) := by unfold IntKind.wrap; simp [IntKind.bits, IntKind.signed] <;> omega
    have w4 : IntKind.u64.wrap (-(a + 1) + 1) = szI a := by rw [show -(a + 1) + 1 = szI a by unfold szI; omega]; unfold szI IntKind.wrap; simp [IntKind.bits, IntKind.signed] <;> omega
    generalize szI a = s at w4 ⊢
    clear hn ha
    go_enter Tryz.func180, Tryz.ntmps180
    go_wp2_with fail
    go_ret
    exact ⟨by first | rfl | simp [w1, w2, w3, w4], rfl⟩
  · have hd : decide (a < 0) = false := by simpa using hn
    have w4 : IntKind.u64.wrap a = szI a := by rw [show szI a = a by unfold szI; omega]; unfold IntKind.wrap; simp [IntKind.bits, IntKind.signed] <;> omega
    generalize szI a = s at w4 ⊢
    clear hn ha
    go_enter Tryz.func180, Tryz.ntmps180
    go_wp2_with fail
    go_ret
    exact ⟨by first | rfl | simp [w4], rfl⟩

theorem szI_like (a b : Int) (s : (a < 0) = (b < 0)) : a.tdiv b = szI a / szI b := by
  by_cases q : b < 0
  · have p : a < 0 := by rw [s]; exact q
    have e1 : szI a = -a := by unfold szI; omega
    have e2 : szI b = -b := by unfold szI; omega
    rw [e1, e2, ← Int.tdiv_eq_ediv_of_nonneg (by omega), Int.neg_tdiv, Int.tdiv_neg, Int.neg_neg]
  · have p : ¬ a < 0 := by rw [s]; exact q
    have e1 : szI a = a := by unfold szI; omega
    have e2 : szI b = b := by unfold szI; omega
    rw [e1, e2, ← Int.tdiv_eq_ediv_of_nonneg (by omega)]
theorem szI_unlike (a b : Int) (s : (a < 0) ≠ (b < 0)) : a.tdiv b = -(szI a / szI b) := by
  by_cases q : b < 0
  · have p : ¬ a < 0 := fun p => s (by simp [p, q])
    have e1 : szI a = a := by unfold szI; omega
    have e2 : szI b = -b := by unfold szI; omega
    rw [e1, e2, ← Int.tdiv_eq_ediv_of_nonneg (by omega), Int.tdiv_neg, Int.neg_neg]
  · have p : a < 0 := by
      apply Decidable.byContradiction
      intro p
      exact s (by simp [p, q])
    have e1 : szI a = -a := by unfold szI; omega
    have e2 : szI b = b := by unfold szI; omega
    rw [e1, e2, ← Int.tdiv_eq_ediv_of_nonneg (by omega), Int.neg_tdiv, Int.neg_neg]
theorem rquo_no (a b : Int) (w : World) (h : b = 0) :
    Calls Tryz.prog 134 #[.int .i64 a, .int .i64 b] w fun e w' => e = .returned (.tuple #[.int .i64 0, .bool false]) ∧ w = w' := by
  subst h
  go_enter Tryz.func134, Tryz.ntmps134
  go_wp2_with fail
  exact bodyPost_ret (v := .tuple #[.int .i64 0, .bool false]) (by simp [results, Tryz.results134, go_sem]) rfl ⟨rfl, rfl⟩
set_option maxHeartbeats 2000000 in
theorem rquo_yes (a b : Int) (w : World) (ha : -1000000 ≤ a ∧ a ≤ 1000000) (hb : -1000000 ≤ b ∧ b ≤ 1000000) (h0 : b ≠ 0) :
    Calls Tryz.prog 134 #[.int .i64 a, .int .i64 b] w fun e w' => e = .returned (.tuple #[.int .i64 (a.tdiv b), .bool true]) ∧ w = w' := by
  have r1 : 0 ≤ szI a ∧ szI a ≤ 1000000 := by unfold szI; omega
  have r2 : 0 < szI b := by unfold szI; omega
  have hq0 : 0 ≤ szI a / szI b := Int.ediv_nonneg r1.1 (by omega)
  have hq1 : szI a / szI b ≤ 1000000 := Int.le_trans (Int.ediv_le_self _ r1.1) r1.2
  have hz : (b == 0) = false := by simpa using h0
  have hl : (a == -9223372036854775808) = false := by simp; omega
  have SA := Lib.hid (fun w => rsize_any a w ha)
  have SB := Lib.hid (fun w => rsize_any b w hb)
  have e1 : (szI a).tdiv (szI b) = szI a / szI b := Int.tdiv_eq_ediv_of_nonneg r1.1
  have u1 : IntKind.u64.wrap (szI a / szI b) = szI a / szI b := by unfold IntKind.wrap; simp [IntKind.bits, IntKind.signed]; omega
  have u2 : IntKind.i64.wrap (szI a / szI b) = szI a / szI b := IntWalk.i64_in _ (by omega)
  have u3 : IntKind.i64.wrap (-(szI a / szI b)) = -(szI a / szI b) := IntWalk.i64_in _ (by omega)
  have z2 : (szI b == 0) = false := by simp; omega
  have z3 : ¬ szI b = 0 := by omega
  have LK := Lib.hid (szI_like a b)
  have UL := Lib.hid (szI_unlike a b)
  generalize szI a / szI b = q at *
  generalize szI a = sa at *
  generalize szI b = sb at *
  clear hq0 hq1 r1 r2 ha hb
  by_cases p : a < 0
  · have pd : decide (a < 0) = true := by simpa using p
    by_cases qq : b < 0
    · have qd : decide (b < 0) = true := by simpa using qq
      have E := Lib.hid (LK.out (by simp [p, qq]))
      clear p qq h0 LK UL
      cases hm : (b == -1)
      all_goals
        go_enter Tryz.func134, Tryz.ntmps134
        go_wp2_with (first | (go_at_call 180; with_reducible refine (SA.out _).mono ?_; rintro e w' ⟨rfl, rfl⟩) | (go_at_call 180; with_reducible refine (SB.out _).mono ?_; rintro e w' ⟨rfl, rfl⟩))
        exact bodyPost_ret (v := .tuple #[.int .i64 (q), .bool true]) (by simp [results, Tryz.results134, go_sem]) rfl ⟨by rw [E.out], rfl⟩
    · have qd : decide (b < 0) = false := by simpa using qq
      have E := Lib.hid (UL.out (by simp [p, qq]))
      clear p qq h0 LK UL
      cases hm : (b == -1)
      all_goals
        go_enter Tryz.func134, Tryz.ntmps134
        go_wp2_with (first | (go_at_call 180; with_reducible refine (SA.out _).mono ?_; rintro e w' ⟨rfl, rfl⟩) | (go_at_call 180; with_reducible refine (SB.out _).mono ?_; rintro e w' ⟨rfl, rfl⟩))
        exact bodyPost_ret (v := .tuple #[.int .i64 (-q), .bool true]) (by simp [results, Tryz.results134, go_sem]) rfl ⟨by rw [E.out], rfl⟩
  · have pd : decide (a < 0) = false := by simpa using p
    by_cases qq : b < 0
    · have qd : decide (b < 0) = true := by simpa using qq
      have E := Lib.hid (UL.out (by simp [p, qq]))
      clear p qq h0 LK UL
      cases hm : (b == -1)
      all_goals
        go_enter Tryz.func134, Tryz.ntmps134
        go_wp2_with (first | (go_at_call 180; with_reducible refine (SA.out _).mono ?_; rintro e w' ⟨rfl, rfl⟩) | (go_at_call 180; with_reducible refine (SB.out _).mono ?_; rintro e w' ⟨rfl, rfl⟩))
        exact bodyPost_ret (v := .tuple #[.int .i64 (-q), .bool true]) (by simp [results, Tryz.results134, go_sem]) rfl ⟨by rw [E.out], rfl⟩
    · have qd : decide (b < 0) = false := by simpa using qq
      have E := Lib.hid (LK.out (by simp [p, qq]))
      clear p qq h0 LK UL
      cases hm : (b == -1)
      all_goals
        go_enter Tryz.func134, Tryz.ntmps134
        go_wp2_with (first | (go_at_call 180; with_reducible refine (SA.out _).mono ?_; rintro e w' ⟨rfl, rfl⟩) | (go_at_call 180; with_reducible refine (SB.out _).mono ?_; rintro e w' ⟨rfl, rfl⟩))
        exact bodyPost_ret (v := .tuple #[.int .i64 (q), .bool true]) (by simp [results, Tryz.results134, go_sem]) rfl ⟨by rw [E.out], rfl⟩

end Go.Proofs.YtkhmocbfkpbpfaaGreatDoor
