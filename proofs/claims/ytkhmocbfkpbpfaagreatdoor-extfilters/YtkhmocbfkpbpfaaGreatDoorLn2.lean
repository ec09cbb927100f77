/- Contracts: the document's row, runs, cumulative, gcc. -/
import Derived.Test.YtkhmocbfkpbpfaaGreatDoorRg4
import Derived.Test.YtkhmocbfkpbpfaaGreatDoorMarity
import Derived.Test.YtkhmocbfkpbpfaaGreatDoorMcoefs
import Derived.Test.YtkhmocbfkpbpfaaGreatDoorRg2
import Derived.Test.YtkhmocbfkpbpfaaGreatDoorGfn3
import Derived.Test.YtkhmocbfkpbpfaaGreatDoorMkp
import Derived.Lib.QuietBelow
namespace Go.Proofs.YtkhmocbfkpbpfaaGreatDoor
open Go.RowKit Go.Sort

/-- Are the first so many alike? -/
def eqN (s X : List Int) : Nat → Bool
  | 0 => true
  | k + 1 => eqN s X k && s.getD k 0 == X.getD k 0
theorem eqN_iff (s X : List Int) (k : Nat) : eqN s X k = true ↔ ∀ j, j < k → s.getD j 0 = X.getD j 0 := by
  induction k with
  | zero => simp [eqN]
  | succ k ih =>
    rw [eqN, Bool.and_eq_true, ih, beq_iff_eq]
    constructor
    · rintro ⟨h1, h2⟩ j hj
      by_cases h : j < k
      · exact h1 j h
      · obtain rfl : j = k := by omega
        exact h2
    · exact fun h => ⟨fun j hj => h j (by omega), h k (by omega)⟩
theorem eqN_eq {s X : List Int} (h : s.length = X.length) : eqN s X X.length = (s == X) := by
  rw [Bool.eq_iff_iff, eqN_iff, beq_iff_eq]
  constructor
  · intro hj
    apply List.ext_getElem h
    intro i h1 h2
    have := hj i h2
    rw [List.getD_eq_getElem?_getD, List.getD_eq_getElem?_getD, List.getElem?_eq_getElem h1, List.getElem?_eq_getElem h2] at this
    exact this
  · rintro rfl j _
    rfl
theorem none_rows (q : List Int → Bool) (R : List (List Int)) : noneN (fun i => q (R.getD i [])) R.length = !R.any q := by
  unfold noneN
  congr 1
  rw [Bool.eq_iff_iff, List.any_eq_true, List.any_eq_true]
  constructor
  · rintro ⟨i, hi, e⟩
    have hi := List.mem_range.1 hi
    rw [List.getD_eq_getElem?_getD, List.getElem?_eq_getElem hi] at e
    exact ⟨_, List.getElem_mem hi, e⟩
  · rintro ⟨x, hx, e⟩
    obtain ⟨j, hj, rfl⟩ := List.getElem_of_mem hx
    exact ⟨j, List.mem_range.2 hj, by rw [List.getD_eq_getElem?_getD, List.getElem?_eq_getElem hj]; exact e⟩
theorem rows_at {W : World} {x : Sl} {R : List (List Int)} (h : IsRows W x R) (i : Nat) (hi : i < x.n) : ∃ (ad : Addr) (u : Sl), x.A = some ad ∧ W.cell? (ad.add i) = some (.slice u.A u.n u.c) ∧ IsInts W u (R.getD i []) := by
  obtain ⟨ad, e, hb, hc⟩ := h.lies (by omega)
  obtain ⟨u, h1, h2⟩ := hc i hi
  exact ⟨ad, u, e, h1, h2⟩

set_option maxHeartbeats 4000000 in
set_option maxRecDepth 100000 in
theorem rrow_any (v : ConV) (c : ConL) (y : Sl) (a : List Int) (w : World) (h : ConIn w v c) (hy : IsInts w y a) (r : ConR a.length c) (hk : c.kind = 18) :
    Calls Tryz.prog 79 #[v.val c.kind c.K, .slice y.A y.n y.c] w fun e w' => e = .returned (.bool (c.rows.any (· == valsE c.A a))) ∧ Below w.heap.size w w' := by
  obtain ⟨wb, hwb⟩ : ∃ wb, cBox w v c.kind c.K = wb := ⟨_, rfl⟩
  have HR : Hid (RBox w.heap.size wb v c y a ∧ Below w.heap.size w wb) := Lib.hid (hwb ▸ ⟨RBox.start h hy, cBox_below _ _ _ _⟩)
  have HWB := Lib.hid hwb
  have HPA := Lib.hid r.pa
  have HAN := Lib.hid (show v.a.n = (valsE c.A a).length by rw [h.a.len, vals_size])
  have hn64 : v.a.n ≤ 64 := by rw [h.a.len]; exact r.a64
  have hr62 := h.r.big
  have HRL : Hid (∀ i, i < v.r.n → (c.rows.getD i []).length = v.a.n) := Lib.hid (fun i hi => by
    have hi' : i < c.rows.length := by rw [← h.r.len]; exact hi
    rw [h.a.len, List.getD_eq_getElem?_getD, List.getElem?_eq_getElem hi']
    exact r.rows hk _ (List.getElem_mem hi'))
  have HN : Hid (noneN (fun i => c.rows.getD i [] == valsE c.A a) v.r.n = !c.rows.any (· == valsE c.A a)) := Lib.hid (by rw [h.r.len]; exact none_rows (fun x => x == valsE c.A a) _)
  generalize c.rows.any (· == valsE c.A a) = RES at *
  clear hwb h hy r hk
  go_enter Tryz.func79, Tryz.ntmps79
  go_upto_region 1 with fail
  change Code.wp _ _ _ _ (cBox w v c.kind c.K)
  rw [HWB.out]
  clear HWB
  go_wp2_with fail
  go_loopw [5] (fun i wr => ∃ k : Nat, i = .int .i64 (k : Nat) ∧ k ≤ v.r.n ∧ Hid (noTo (fun i => c.rows.getD i [] == valsE c.A a) k) ∧ Hid (RBox w.heap.size wr v c y a ∧ Below w.heap.size w wr)) (fun i _ => v.r.n - (intOf i).toNat)
  case atStart => exact ⟨0, rfl, by omega, Lib.hid (noTo_zero _), HR⟩
  case round =>
    clear HR
    obtain ⟨k, rfl, hk, H0, HR⟩ := hrel
    obtain ⟨wo, rfl⟩ : ∃ wo, wo = wr := ⟨_, rfl⟩
    have h7 := HR.out.1.c7
    by_cases hlt : k < v.r.n
    · have h1 := HR.out.1.c1
      go_wp2_with fail
      go_loopw [6, 7] (fun o i wr => ∃ j : Nat, o = .bool (eqN (c.rows.getD k []) (valsE c.A a) j) ∧ i = .int .i64 (j : Nat) ∧ j ≤ v.a.n ∧ Hid (RBox w.heap.size wr v c y a ∧ Below w.heap.size w wr)) (fun _ i _ => v.a.n - (intOf i).toNat)
      case atStart => exact ⟨0, rfl, rfl, by omega, HR⟩
      case round =>
        clear HR h7 h1
        obtain ⟨j, rfl, rfl, hj, HR⟩ := hrel
        have h1 := HR.out.1.c1
        by_cases hlj : j < v.a.n
        · have h7 := HR.out.1.c7
          obtain ⟨adL, ad, p, eL, ea, q1, q2, q3, q4⟩ := HR.out.1.at_ HPA.out j hlj
          obtain ⟨adR, u, eR, q5, q6⟩ := rows_at HR.out.1.con.r k hlt
          have q7 : j < u.n := by rw [q6.len, HRL.out k hlt]; exact hlj
          obtain ⟨adU, eU, q8⟩ := ints_at q6 j q7
          rw [eL] at h1
          rw [eR] at h7
          rw [eU] at q5
          rw [ea]
          have HE : Hid (eqN (c.rows.getD k []) (valsE c.A a) (j + 1) = (eqN (c.rows.getD k []) (valsE c.A a) j && (c.rows.getD k []).getD j 0 == (valsE c.A a).getD j 0)) := Lib.hid rfl
          generalize (c.rows.getD k []).getD j 0 = s at q8 HE
          generalize (valsE c.A a).getD j 0 = t at q4 HE
          clear q6 eL eR eU ea
          cases hz : eqN (c.rows.getD k []) (valsE c.A a) j
          · rw [hz] at HE
            simp only [Bool.false_and] at HE
            go_upto_region 8 with fail
            go_quiet (fail)
            have HR2 := Lib.hid (show RBox w.heap.size (wr.drewN nq) v c y a ∧ Below w.heap.size w (wr.drewN nq) from ⟨HR.out.1.below (below_drewN (Below.refl _ _) nq), below_drewN HR.out.2 nq⟩)
            generalize wr.drewN nq = w3 at *
            go_wp2_with fail
            go_roundw
            case rel => exact ⟨j + 1, by rw [HE.out], by go_num, by omega, HR2⟩
            case measure => simp [intOf]; omega
          · rw [hz] at HE
            simp only [Bool.true_and] at HE
            go_upto_region 8 with fail
            go_quiet (fail)
            have HR2 := Lib.hid (show RBox w.heap.size (wr.drewN nq) v c y a ∧ Below w.heap.size w (wr.drewN nq) from ⟨HR.out.1.below (below_drewN (Below.refl _ _) nq), below_drewN HR.out.2 nq⟩)
            generalize wr.drewN nq = w3 at *
            go_wp2_with fail
            go_roundw
            case rel => exact ⟨j + 1, by rw [HE.out], by go_num, by omega, HR2⟩
            case measure => simp [intOf]; omega
        · have HE : Hid (eqN (c.rows.getD k []) (valsE c.A a) j = (c.rows.getD k [] == valsE c.A a)) := Lib.hid (by
            rw [show j = (valsE c.A a).length by rw [← HAN.out]; omega]
            exact eqN_eq (by rw [HRL.out k hlt, HAN.out]))
          cases hz : eqN (c.rows.getD k []) (valsE c.A a) j
          · rw [hz] at HE
            have H1 := Lib.hid (noTo_step H0.out HE.out.symm)
            clear HE H0
            go_wp2_with fail
            go_roundw
            case rel => exact ⟨k + 1, by go_num, by omega, H1, HR⟩
            case measure => simp [intOf]; omega
          · rw [hz] at HE
            have HV : Hid (RES = true) := Lib.hid (by have := HN.out; rw [none_no (k := k) hlt HE.out.symm] at this; simpa using this.symm)
            clear HE H0 HN
            go_wp2_with fail
            go_ret
            exact ⟨ret_bool HV.out.symm, HR.out.2⟩
    · have HV : Hid (RES = false) := Lib.hid (by have := HN.out; obtain rfl : k = v.r.n := by omega
                                                 rw [none_yes H0.out] at this; simpa using this.symm)
      clear HN H0
      go_wp2_with fail
      go_ret
      exact ⟨ret_bool HV.out.symm, HR.out.2⟩

set_option maxHeartbeats 4000000 in
set_option maxRecDepth 100000 in
theorem rruns_any (v : ConV) (c : ConL) (y : Sl) (a : List Int) (t : Int) (w : World) (h : ConIn w v c) (hy : IsInts w y a) (r : ConR a.length c) (hk : c.kind = 19) (ba : ∀ v ∈ a, -1000000 ≤ v ∧ v ≤ 1000000) (ht : -1000000 ≤ t ∧ t ≤ 1000000) :
    Calls Tryz.prog 135 #[v.val c.kind c.K, .slice y.A y.n y.c, .int .i64 t] w fun e w' => e = .returned (.int .i64 (needE c (valsE c.A a) t)) ∧ Below w.heap.size w w' := by
  obtain ⟨wb, hwb⟩ : ∃ wb, cBox w v c.kind c.K = wb := ⟨_, rfl⟩
  have HR : Hid (RBox w.heap.size wb v c y a ∧ Below w.heap.size w wb) := Lib.hid (hwb ▸ ⟨RBox.start h hy, cBox_below _ _ _ _⟩)
  have HWB := Lib.hid hwb
  have HPA := Lib.hid r.pa
  have HX := Lib.hid (vals_le r.pa ba)
  have hn64 : v.a.n ≤ 64 := by rw [h.a.len]; exact r.a64
  have HCN := Lib.hid (show v.c.n = v.a.n by rw [h.c.len, h.a.len]; exact (r.cum hk).1)
  have HDN := Lib.hid (show v.d.n = v.a.n by rw [h.d.len, h.a.len]; exact (r.cum hk).2)
  have HPC := Lib.hid r.pc
  have HPD := Lib.hid r.pd
  have HE : Hid (needE c (valsE c.A a) t = sumN (needF c (valsE c.A a) t) v.a.n) := Lib.hid (by unfold needE; rw [vals_size, h.a.len])
  generalize needE c (valsE c.A a) t = RES at *
  clear hwb h hy r hk
  go_enter Tryz.func135, Tryz.ntmps135
  go_upto_region 1 with fail
  change Code.wp _ _ _ _ (cBox w v c.kind c.K)
  rw [HWB.out]
  clear HWB
  go_wp2_with fail
  go_loopw [7, 8] (fun s i wr => ∃ (k : Nat) (u : Int), s = .int .i64 u ∧ i = .int .i64 (k : Nat) ∧ k ≤ v.a.n ∧ Hid (u = sumN (needF c (valsE c.A a) t) k) ∧ Hid (RBox w.heap.size wr v c y a ∧ Below w.heap.size w wr)) (fun _ i _ => v.a.n - (intOf i).toNat)
  case atStart => exact ⟨0, 0, rfl, rfl, by omega, Lib.hid rfl, HR⟩
  case round =>
    clear HR
    obtain ⟨k, u, rfl, rfl, hk, HT, HR⟩ := hrel
    have h1 := HR.out.1.c1
    by_cases hlt : k < v.a.n
    · have h3 := HR.out.1.c3
      have h4 := HR.out.1.c4
      obtain ⟨adL, ad, p, eL, ea, q1, q2, q3, q4⟩ := HR.out.1.at_ HPA.out k hlt
      have q5 : k < v.c.n := by rw [HCN.out]; exact hlt
      have q6 : k < v.d.n := by rw [HDN.out]; exact hlt
      obtain ⟨adC, eC, q7⟩ := ints_at HR.out.1.con.c k q5
      obtain ⟨adD, eD, q8⟩ := ints_at HR.out.1.con.d k q6
      have hx := getD_in HX.out (by omega) k
      have hD := getD_in HPD.out (by omega) k
      have hC := getD_in HPC.out (by omega) k
      have HS : Hid (sumN (needF c (valsE c.A a) t) (k + 1) = u + needF c (valsE c.A a) t k) := Lib.hid (by rw [HT.out]; rfl)
      have hs : -(k * 1000000 : Int) ≤ u ∧ u ≤ k * 1000000 := by
        rw [HT.out]
        refine sumN_abs (b := 1000000) fun i hi => ?_
        have := getD_in HPD.out (by omega) i
        unfold needF
        split <;> omega
      have HF : Hid (needF c (valsE c.A a) t k = if decide ((valsE c.A a).getD k 0 ≤ t) && decide (t < (valsE c.A a).getD k 0 + c.C.getD k 0) then c.D.getD k 0 else 0) := Lib.hid rfl
      have w1 : IntKind.i64.wrap (t - (valsE c.A a).getD k 0) = t - (valsE c.A a).getD k 0 := IntWalk.i64_in _ (by omega)
      have w2 : IntKind.i64.wrap (u + c.D.getD k 0) = u + c.D.getD k 0 := IntWalk.i64_in _ (by omega)
      rw [eL] at h1
      rw [eC] at h3
      rw [eD] at h4
      rw [ea]
      generalize needF c (valsE c.A a) t k = f at HS HF
      generalize (valsE c.A a).getD k 0 = x at *
      generalize c.C.getD k 0 = cc at *
      generalize c.D.getD k 0 = dd at *
      clear eL eC eD ea HT
      have HD2 : Hid ((decide (t < x + cc)) = decide (t - x < cc)) := Lib.hid (by rw [Bool.eq_iff_iff]; simp; omega)
      rw [HD2.out] at HF
      clear HD2 hx hD hC hs
      cases g1 : decide (x ≤ t)
      · have HV : Hid (u = sumN (needF c (valsE c.A a) t) (k + 1)) := Lib.hid (by rw [HS.out, HF.out, g1]; simp)
        clear HS HF
        go_wp2_with fail
        go_roundw
        case rel => exact ⟨k + 1, _, rfl, by go_num, by omega, HV, HR⟩
        case measure => simp [intOf]; omega
      · cases g2 : decide (t - x < cc)
        · have HV : Hid (u = sumN (needF c (valsE c.A a) t) (k + 1)) := Lib.hid (by rw [HS.out, HF.out, g1, g2]; simp)
          clear HS HF
          go_wp2_with fail
          go_roundw
          case rel => exact ⟨k + 1, _, rfl, by go_num, by omega, HV, HR⟩
          case measure => simp [intOf]; omega
        · have HV : Hid (u + dd = sumN (needF c (valsE c.A a) t) (k + 1)) := Lib.hid (by rw [HS.out, HF.out, g1, g2]; simp)
          clear HS HF
          go_wp2_with fail
          go_roundw
          case rel => exact ⟨k + 1, _, rfl, by go_num, by omega, HV, HR⟩
          case measure => simp [intOf]; omega
    · have HV : Hid (u = RES) := Lib.hid (by rw [HE.out, HT.out, show k = v.a.n by omega])
      clear HT HE
      go_wp2_with fail
      go_ret
      exact ⟨by rw [← HV.out]; rfl, HR.out.2⟩

set_option maxHeartbeats 4000000 in
set_option maxRecDepth 100000 in
theorem rcum_any (v : ConV) (c : ConL) (y : Sl) (a : List Int) (w : World) (h : ConIn w v c) (hy : IsInts w y a) (r : ConR a.length c) (hk : c.kind = 19) (ba : ∀ v ∈ a, -1000000 ≤ v ∧ v ≤ 1000000) :
    Calls Tryz.prog 80 #[v.val c.kind c.K, .slice y.A y.n y.c] w fun e w' => e = .returned (.bool (noneN (cumP c (valsE c.A a)) (valsE c.A a).length)) ∧ Below w.heap.size w w' := by
  obtain ⟨wb, hwb⟩ : ∃ wb, cBox w v c.kind c.K = wb := ⟨_, rfl⟩
  have HR : Hid (RBox w.heap.size wb v c y a ∧ Below w.heap.size w wb) := Lib.hid (hwb ▸ ⟨RBox.start h hy, cBox_below _ _ _ _⟩)
  have HWB := Lib.hid hwb
  have HPA := Lib.hid r.pa
  have HX := Lib.hid (vals_le r.pa ba)
  have hn64 : v.a.n ≤ 64 := by rw [h.a.len]; exact r.a64
  have CR : Hid (∀ t W, ConIn W v c → IsInts W y a → -1000000 ≤ t ∧ t ≤ 1000000 → Calls Tryz.prog 135 #[v.val c.kind c.K, .slice y.A y.n y.c, .int .i64 t] W fun e w' => e = .returned (.int .i64 (needE c (valsE c.A a) t)) ∧ Below W.heap.size W w') := Lib.hid (fun t W h1 h2 h3 => rruns_any v c y a t W h1 h2 r hk ba h3)
  have HAN := Lib.hid (show (valsE c.A a).length = v.a.n by rw [h.a.len, vals_size])
  rw [HAN.out]
  obtain ⟨RES, hRES⟩ : ∃ R, R = noneN (cumP c (valsE c.A a)) v.a.n := ⟨_, rfl⟩
  rw [← hRES]
  have HE := Lib.hid hRES
  clear hwb h hy r hk hRES
  go_enter Tryz.func80, Tryz.ntmps80
  go_upto_region 1 with fail
  change Code.wp _ _ _ _ (cBox w v c.kind c.K)
  rw [HWB.out]
  clear HWB
  go_wp2_with fail
  go_loopw [5] (fun i wr => ∃ (k : Nat), i = .int .i64 (k : Nat) ∧ k ≤ v.a.n ∧ Hid (noTo (cumP c (valsE c.A a)) k) ∧ Hid (RBox w.heap.size wr v c y a ∧ Below w.heap.size w wr)) (fun i _ => v.a.n - (intOf i).toNat)
  case atStart => exact ⟨0, rfl, by omega, Lib.hid (noTo_zero _), HR⟩
  case round =>
    clear HR
    obtain ⟨k, rfl, hk, H0, HR⟩ := hrel
    have h1 := HR.out.1.c1
    by_cases hlt : k < v.a.n
    · obtain ⟨adL, ad, p, eL, ea, q1, q2, q3, q4⟩ := HR.out.1.at_ HPA.out k hlt
      have hx := getD_in HX.out (by omega) k
      have CC := Lib.hid (in_regrown' (w := wr) (fun W hW => CR.out ((valsE c.A a).getD k 0) W (HR.out.1.con.below hW) (HR.out.1.ints.below hW) hx))
      have HP : Hid (cumP c (valsE c.A a) k = decide (c.K < needE c (valsE c.A a) ((valsE c.A a).getD k 0))) := Lib.hid rfl
      have z0 := cell_regrown HR.out.1.c0
      have z1 := cell_regrown HR.out.1.c1
      have z2 := cell_regrown HR.out.1.c2
      have z3 := cell_regrown HR.out.1.c3
      have z4 := cell_regrown HR.out.1.c4
      have z5 := cell_regrown HR.out.1.c5
      have z6 := cell_regrown HR.out.1.c6
      have z7 := cell_regrown HR.out.1.c7
      have zq := cell_regrown q1
      have zr := cell_regrown q4
      generalize needE c (valsE c.A a) ((valsE c.A a).getD k 0) = nd at CC HP
      generalize (valsE c.A a).getD k 0 = x at *
      rw [eL] at z1 h1
      have CD := CC.out
      unfold ConV.val at CD
      rw [eL, ea] at CD
      have CC := Lib.hid CD
      rw [ea]
      clear eL ea CD
      go_upto_region 4 with fail
      refine wp_region_quiet_below (by kernel_rfl) (by kernel_rfl) ?_
      repeat (first | go_big_quiet_step (first | (go_at_call 135; with_reducible exact CC.out _ _)) | quiet_step (fail))
      refine wpQuiet_nil ?_
      intro _ hw'
      obtain ⟨⟨dq, osq⟩, hw''⟩ := hw'
      subst hw''
      have HR2 := Lib.hid (show RBox w.heap.size (grow (redrawn wr dq) osq) v c y a ∧ Below w.heap.size w (grow (redrawn wr dq) osq) from ⟨HR.out.1.below (below_regrown wr dq osq), HR.out.2.trans ((below_regrown wr dq osq).mono HR.out.2.size)⟩)
      generalize grow (redrawn wr dq) osq = w3 at *
      clear z0 z1 z2 z3 z4 z5 z6 z7 zq zr CC q1 q4 h1 hx
      have h6 := HR2.out.1.c6
      cases hz : decide (c.K < nd)
      · rw [hz] at HP
        have H1 := Lib.hid (noTo_step H0.out HP.out)
        clear H0 HP
        go_wp2_with fail
        go_roundw
        case rel => exact ⟨k + 1, by go_num, by omega, H1, HR2⟩
        case measure => simp [intOf]; omega
      · rw [hz] at HP
        have HV : Hid (RES = false) := Lib.hid (by rw [HE.out, none_no (k := k) hlt HP.out])
        clear H0 HP HE
        go_wp2_with fail
        go_ret
        exact ⟨ret_bool HV.out.symm, HR2.out.2⟩
    · have HV : Hid (RES = true) := Lib.hid (by rw [HE.out]; obtain rfl : k = v.a.n := by omega
                                                exact none_yes H0.out)
      clear H0 HE
      go_wp2_with fail
      go_ret
      exact ⟨ret_bool HV.out.symm, HR.out.2⟩
end Go.Proofs.YtkhmocbfkpbpfaaGreatDoor

/- Contract: the document's Right. -/
namespace Go.Proofs.YtkhmocbfkpbpfaaGreatDoor
open Go.RowKit Go.Sort

theorem shape_size (k : Nat) : (⟨(shapesL.getD k []).toArray⟩ : ByteArray).size ≤ 4611686018427387904 := by
  have h : shapesL.all (fun l => decide (l.length ≤ 10)) = true := by kernel_rfl
  show (shapesL.getD k []).toArray.size ≤ _
  rw [List.size_toArray]
  by_cases hk : k < shapesL.length
  · have := List.all_eq_true.1 h (shapesL.getD k []) (by rw [List.getD_eq_getElem?_getD, List.getElem?_eq_getElem hk]; exact List.getElem_mem hk)
    simp only [decide_eq_true_eq] at this
    omega
  · rw [List.getD_eq_getElem?_getD, List.getElem?_eq_none (by omega)]
    decide

set_option maxHeartbeats 8000000 in
set_option maxRecDepth 100000 in
theorem refright_any (v : ConV) (c : ConL) (vars : Int) (w : World) (h : ConIn w v c) (hvars : vars ≤ 9223372036854775807) : Calls Tryz.prog 65 #[v.val c.kind c.K, .int .i64 vars] w fun e w' => e = .returned (.int .i64 (refRightE c vars)) ∧ Below w.heap.size w w' := by
  have CS := Lib.hid shapes_any
  have CA : Hid (∀ W, Below w.heap.size w W → Calls Tryz.prog 129 #[v.val c.kind c.K, .string ⟨(shapesL.getD c.kind.toNat []).toArray⟩] W fun e w' => e = .returned (.bool (arityB c ⟨(shapesL.getD c.kind.toNat []).toArray⟩)) ∧ Below W.heap.size W w') := Lib.hid (fun W hW => arity_any v c _ W (h.below hW) (shape_size _))
  have CC : Hid (arityB c ⟨(shapesL.getD c.kind.toNat []).toArray⟩ = true → 1 ≤ c.kind → c.kind ≤ 23 → ∀ W, Below w.heap.size w W → Calls Tryz.prog 131 #[v.val c.kind c.K] W fun e w' => e = .returned (.bool (coefsB c)) ∧ Below W.heap.size W w') := Lib.hid (fun q q1 q2 W hW => coefs_any v c W (h.below hW) (fun e => by
    have hA := alike_all c 20 (by omega) e
    rw [e] at q
    exact hA.2.2 (hA.1.trans q) e))
  have C1 : Hid (∀ W, Below w.heap.size w W → Calls Tryz.prog 130 #[.slice v.a.A v.a.n v.a.c, .int .i64 0, .int .i64 (highV vars)] W fun e w' => e = .returned (.bool (!c.A.any (outB 0 (highV vars)))) ∧ W = w') := Lib.hid (fun W hW => refIn_any v.a c.A 0 (highV vars) W (h.a.below hW))
  have C2 : Hid (∀ W, Below w.heap.size w W → Calls Tryz.prog 130 #[.slice v.b.A v.b.n v.b.c, .int .i64 0, .int .i64 (highV vars)] W fun e w' => e = .returned (.bool (!c.B.any (outB 0 (highV vars)))) ∧ W = w') := Lib.hid (fun W hW => refIn_any v.b c.B 0 (highV vars) W (h.b.below hW))
  have hhi : Hid (highV vars = if 0 < vars then vars - 1 else -1) := Lib.hid rfl
  have HRES : Hid (refRightE c vars = if c.kind < 1 ∨ 23 < c.kind then 9 else if arityB c ⟨(shapesL.getD c.kind.toNat []).toArray⟩ = false then 10 else if (c.A.any (outB 0 (highV vars)) || c.B.any (outB 0 (highV vars))) = true then 7 else if coefsB c = false then 11 else 0) := Lib.hid rfl
  generalize refRightE c vars = RES at HRES ⊢
  generalize highV vars = HV at hhi C1 C2 HRES
  generalize c.A.any (outB 0 HV) = t2 at C1 HRES
  generalize c.B.any (outB 0 HV) = t3 at C2 HRES
  generalize coefsB c = t4 at CC HRES
  generalize hT1 : arityB c ⟨(shapesL.getD c.kind.toNat []).toArray⟩ = t1 at CA CC HRES
  clear hT1 h
  generalize c.kind = kd at *
  generalize c.K = kk at *
  obtain ⟨wb, hwb⟩ : ∃ wb, (w.alloc (.cells (v.cells kd kk) 32)) = wb := ⟨_, rfl⟩
  have Bb : Hid (Below (w.heap.size + 1) (w.alloc (.cells (v.cells kd kk) 32)) wb) := Lib.hid (by rw [← hwb, show w.heap.size + 1 = (w.alloc (.cells (v.cells kd kk) 32)).heap.size by simp]; exact Below.refl _ _)
  have HWB := Lib.hid hwb
  clear hwb
  go_enter Tryz.func65, Tryz.ntmps65
  go_upto_region 1 with fail
  change Code.wp _ _ _ _ (w.alloc (.cells (v.cells kd kk) 32))
  rw [HWB.out]
  clear HWB
  obtain ⟨c0, c1, c2, c3, c4, c5, c6, c7⟩ := box8 Bb.out
  by_cases h1 : kd < 1
  · have HR2 := Lib.hid (HRES.out.trans (if_pos (.inl h1)))
    have h1b : decide (kd < 1) = true := by simpa using h1
    clear h1
    go_wp2_with fail
    go_ret
    exact ⟨int_eq HR2.out.symm, of_boxed Bb.out⟩
  · have h1b : decide (kd < 1) = false := by simpa using h1
    by_cases h2 : 23 < kd
    · have HR2 := Lib.hid (HRES.out.trans (if_pos (.inr h2)))
      have h2b : decide (23 < kd) = true := by simpa using h2
      clear h1 h2
      go_wp2_with fail
      go_ret
      exact ⟨int_eq HR2.out.symm, of_boxed Bb.out⟩
    · have HR2 := Lib.hid (HRES.out.trans (if_neg (by omega)))
      have h2b : decide (23 < kd) = false := by simpa using h2
      obtain ⟨k, hk⟩ : ∃ k : Nat, kd = ((k : Nat) : Int) := ⟨kd.toNat, by omega⟩
      have HKR : Hid (1 ≤ k ∧ k ≤ 23) := Lib.hid (by omega)
      subst hk
      have CC2 : Hid (t1 = true → ∀ W, Below w.heap.size w W → Calls Tryz.prog 131 #[v.val ((k : Nat) : Int) kk] W fun e w' => e = .returned (.bool t4) ∧ Below W.heap.size W w') := Lib.hid (fun q => CC.out q (by omega) (by omega))
      clear h1 h2 CC
      go_wp2_with fail
      refine (CS.out _).mono ?_
      rintro e w1 ⟨⟨x, rfl, hx⟩, b1⟩
      have B1 : Hid (Below (w.heap.size + 1) (w.alloc (.cells (v.cells ((k : Nat) : Int) kk) 32)) w1) := Lib.hid (Bb.out.trans (b1.mono (by have := Bb.out.size; simpa using this)))
      obtain ⟨ad, ead, had, hcl⟩ := hx.lies (by rw [hx.len]; decide)
      have hxn : x.n = 24 := hx.len
      have hkn : k < x.n := by have := HKR.out; omega
      have hck : ∀ d os, (grow (redrawn w1 d) os).cell? (ad.add k) = some (.string ⟨(shapesL.getD k []).toArray⟩) := cell_regrown (hcl k hkn)
      have hkn2 : ((k : Nat) : Int) < ((x.n : Nat) : Int) := by omega
      rw [ead]
      clear b1 hx hcl had ead hxn c0 c1 c2 c3 c4 c5 c6 c7 CS
      have HCA := Lib.hid (bo_regrown (w := w1) (fun W hW => CA.out W ((of_boxed B1.out).trans (hW.mono (of_boxed B1.out).size))))
      have ek : (((k : Nat) : Int)).toNat = k := by omega
      rw [ek] at HCA
      clear ek CA
      generalize shapesL.getD k [] = SH at hck HCA
      obtain ⟨b0, b1, b2, b3, b4, b5, b6, b7⟩ := ConBox.of B1.out
      go_upto_region 4 with fail
      go_cut [6] (fun a wx => a = .bool t1 ∧ Hid (Below (w.heap.size + 1) (w.alloc (.cells (v.cells ((k : Nat) : Int) kk) 32)) wx))
      case first =>
        refine wp_region_quiet_below (by kernel_rfl) (by kernel_rfl) ?_
        repeat (first | go_big_quiet_step (first | (go_at_call 129; with_reducible exact HCA.out _ _)) | quiet_step (first | (go_at_call 129; with_reducible exact HCA.out _ _)))
        refine wpQuiet_nil ?_
        intro _ hw'
        obtain ⟨⟨dq, osq⟩, hw''⟩ := hw'
        subst hw''
        have B6 : Hid (Below (w.heap.size + 1) (w.alloc (.cells (v.cells ((k : Nat) : Int) kk) 32)) (grow (redrawn w1 dq) osq)) := Lib.hid (B1.out.trans ((below_regrown w1 dq osq).mono (by have := B1.out.size; simpa using this)))
        generalize grow (redrawn w1 dq) osq = W6 at *
        go_wp2_with fail
        go_meet
        case rel => exact ⟨rfl, B6⟩
      case rest =>
        obtain ⟨rfl, B6⟩ := hcut
        clear b0 b1 b2 b3 b4 b5 b6 b7 hck HCA
        obtain ⟨wc, rfl⟩ : ∃ wy, wy = wc := ⟨_, rfl⟩
        obtain ⟨c0, c1, c2, c3, c4, c5, c6, c7⟩ := box8 B6.out
        cases t1
        · have HR3 : Hid (RES = 10) := Lib.hid (by rw [HR2.out]; rfl)
          clear HR2
          go_wp2_with fail
          go_ret
          exact ⟨int_eq HR3.out.symm, of_boxed B6.out⟩
        · have CC3 := Lib.hid (CC2.out rfl)
          have HR3 : Hid (RES = if (t2 || t3) = true then 7 else if t4 = false then 11 else 0) := Lib.hid (by rw [HR2.out]; rfl)
          clear HR2 CC2
          go_upto_if 29 with fail
          go_cut [7] (fun a7 wz => a7 = .int .i64 HV ∧ wc = wz)
          case first =>
            by_cases h0 : 0 < vars
            · have hb : decide (0 < vars) = true := by simpa using h0
              have h1 := hhi.out
              rw [if_pos h0] at h1
              have H1 := Lib.hid h1
              clear h1
              go_wp2_with fail
              go_meet
              case rel => exact ⟨by rw [H1.out], by first | rfl | trivial⟩
            · have hb : decide (0 < vars) = false := by simpa using h0
              have h1 := hhi.out
              rw [if_neg h0] at h1
              have H1 := Lib.hid h1
              clear h1
              go_wp2_with fail
              go_meet
              case rel => exact ⟨by rw [H1.out], by first | rfl | trivial⟩
          case rest =>
            obtain ⟨rfl, rfl⟩ := hcut
            go_wp2_with fail
            refine (C1.out _ (of_boxed B6.out)).mono ?_
            rintro e w' ⟨rfl, rfl⟩
            go_wp2_with fail
            refine (C2.out _ (of_boxed B6.out)).mono ?_
            rintro e w' ⟨rfl, rfl⟩
            cases t2
            · cases t3
              · have HR4 : Hid (RES = if t4 = false then 11 else 0) := Lib.hid (by rw [HR3.out]; rfl)
                clear HR3
                go_wp2_with fail
                refine (CC3.out _ (of_boxed B6.out)).mono ?_
                rintro e w7 ⟨rfl, b7⟩
                have B7 := Lib.hid ((of_boxed B6.out).trans (b7.mono (of_boxed B6.out).size))
                clear b7
                cases t4
                · go_wp2_with fail
                  go_ret
                  exact ⟨int_eq (by rw [HR4.out]; rfl), B7.out⟩
                · go_wp2_with fail
                  go_ret
                  exact ⟨int_eq (by rw [HR4.out]; rfl), B7.out⟩
              · go_wp2_with fail
                go_ret
                exact ⟨int_eq (by rw [HR3.out]; rfl), of_boxed B6.out⟩
            · go_wp2_with fail
              go_ret
              exact ⟨int_eq (by rw [HR3.out]; rfl), of_boxed B6.out⟩
end Go.Proofs.YtkhmocbfkpbpfaaGreatDoor

/- Contracts of package num for divisors that aren't 0: Quo, Floor, Ceil, by what they tell. -/
namespace Go.Proofs.YtkhmocbfkpbpfaaGreatDoor
open Go.RowKit Go.Sort

theorem hasQ_any (a b : Int) (w : World) (ha : -1000000000000000 ≤ a) (hb : b ≠ 0) : Calls Tryz.prog 233 #[.int .i64 a, .int .i64 b] w fun e w' => e = .returned (.bool true) ∧ w = w' := by
  have e1 : (b != 0) = true := by simpa using hb
  have e2 : (a != -9223372036854775808) = true := by simp; omega
  clear ha hb
  go_enter Tryz.func233, Tryz.ntmps233
  go_wp2_with fail
  go_ret
  exact ⟨rfl, rfl⟩
theorem tdiv_lim {a b : Int} (ha : -1000000000000000 ≤ a ∧ a ≤ 1000000000000000) : -1000000000000000 ≤ a.tdiv b ∧ a.tdiv b ≤ 1000000000000000 := by
  have : (a.tdiv b).natAbs ≤ a.natAbs := by
    rw [Int.natAbs_tdiv]
    exact Nat.div_le_self _ _
  omega
theorem tmod_lim {a b : Int} (ha : -1000000000000000 ≤ a ∧ a ≤ 1000000000000000) : -1000000000000000 ≤ a.tmod b ∧ a.tmod b ≤ 1000000000000000 := by
  have : (a.tmod b).natAbs ≤ a.natAbs := by
    rw [Int.natAbs_tmod]
    exact Nat.mod_le _ _
  omega
/-- The sum that a cut quotient and its remainder make. -/
theorem cut_sum (a b : Int) : a = b * a.tdiv b + a.tmod b := (Int.mul_tdiv_add_tmod a b).symm
theorem rem_sign (a b : Int) : (0 ≤ a → 0 ≤ a.tmod b) ∧ (a ≤ 0 → a.tmod b ≤ 0) := by
  refine ⟨fun h => Int.tmod_nonneg b h, fun h => ?_⟩
  have h4 : (-a).tmod b = -(a.tmod b) := Int.neg_tmod a b
  have h5 := Int.tmod_nonneg b (show 0 ≤ -a by omega)
  omega
theorem mul_le_iff_pos {b q r v : Int} (hb : 0 < b) (hr : 0 ≤ r ∧ r < b) : b * v ≤ b * q + r ↔ v ≤ q := by
  constructor
  · intro h
    apply Decidable.byContradiction
    intro hn
    have h1 : b * (q + 1) ≤ b * v := Int.mul_le_mul_of_nonneg_left (by omega) (by omega)
    rw [Int.mul_add, Int.mul_one] at h1
    omega
  · intro h
    have h1 : b * v ≤ b * q := Int.mul_le_mul_of_nonneg_left h (by omega)
    omega

set_option maxHeartbeats 2000000 in
/-- Floor by a divisor above 0: the greatest number that, so often, is no more. -/
theorem floor_tells (a b : Int) (w : World) (ha : -1000000000000000 ≤ a ∧ a ≤ 1000000000000000) (hb : 0 < b ∧ b ≤ 1000000) :
    Calls Tryz.prog 236 #[.int .i64 a, .int .i64 b] w fun e w' => (∃ q : Int, e = .returned (.tuple #[.int .i64 q, .bool true]) ∧ (∀ v, b * v ≤ a ↔ v ≤ q) ∧ -1000000000000001 ≤ q ∧ q ≤ 1000000000000000) ∧ w = w' := by
  have CQ := Lib.hid (hasQ_any a b w ha.1 (by omega))
  have h1 := tdiv_lim (b := b) ha
  have h2 := rem_sign a b
  have h3 := tmod_in a b (by omega)
  have hs := cut_sum a b
  have b0 : (b == 0) = false := by simp; omega
  have b1 : ¬ b = 0 := by omega
  have b2 : decide (b < 0) = false := by simp; omega
  have HQ : Hid (∀ v, b * v ≤ a ↔ v ≤ if a < 0 ∧ a.tmod b ≠ 0 then a.tdiv b - 1 else a.tdiv b) := Lib.hid (fun v => by
    split
    · next g =>
      have e : a = b * (a.tdiv b - 1) + (a.tmod b + b) := by rw [Int.mul_sub, Int.mul_one]; omega
      have := mul_le_iff_pos (b := b) (q := a.tdiv b - 1) (r := a.tmod b + b) (v := v) hb.1 (by omega)
      rw [← e] at this
      exact this
    · next g =>
      have := mul_le_iff_pos (b := b) (q := a.tdiv b) (r := a.tmod b) (v := v) hb.1 (by omega)
      rw [← hs] at this
      exact this)
  have w1 : IntKind.i64.wrap (a.tdiv b) = a.tdiv b := IntWalk.i64_in _ (by omega)
  have w2 : IntKind.i64.wrap (a.tdiv b - 1) = a.tdiv b - 1 := IntWalk.i64_in _ (by omega)
  have w3 : IntKind.i64.wrap (a.tmod b) = a.tmod b := IntWalk.i64_in _ (by have := tmod_lim (b := b) ha; omega)
  have HB := Lib.hid h1
  by_cases g2 : a.tmod b = 0
  · have e2 : (a.tmod b != 0) = false := by simp [g2]
    have HF : Hid (∀ v, b * v ≤ a ↔ v ≤ a.tdiv b) := Lib.hid (by have := HQ.out; rwa [if_neg (fun q => q.2 g2)] at this)
    clear HQ h1 h2 h3 hs ha hb g2
    cases e1 : decide (a < 0)
    all_goals
      go_enter Tryz.func236, Tryz.ntmps236
      go_wp2_with fail
      refine CQ.out.mono ?_
      rintro e w9 ⟨rfl, rfl⟩
      go_wp2_with fail
      exact bodyPost_ret (v := .tuple #[.int .i64 (a.tdiv b), .bool true]) (by simp [results, Tryz.results236, go_sem]) rfl ⟨⟨_, rfl, HF.out, by have := HB.out; omega⟩, rfl⟩
  · have e2 : (a.tmod b != 0) = true := by simp [g2]
    by_cases g1 : a < 0
    · have e1 : decide (a < 0) = true := by simpa using g1
      have HF : Hid (∀ v, b * v ≤ a ↔ v ≤ a.tdiv b - 1) := Lib.hid (by have := HQ.out; rwa [if_pos ⟨g1, g2⟩] at this)
      clear HQ h1 h2 h3 hs ha hb g1 g2
      go_enter Tryz.func236, Tryz.ntmps236
      go_wp2_with fail
      refine CQ.out.mono ?_
      rintro e w9 ⟨rfl, rfl⟩
      go_wp2_with fail
      exact bodyPost_ret (v := .tuple #[.int .i64 (a.tdiv b - 1), .bool true]) (by simp [results, Tryz.results236, go_sem]) rfl ⟨⟨_, rfl, HF.out, by have := HB.out; omega⟩, rfl⟩
    · have e1 : decide (a < 0) = false := by simpa using g1
      have HF : Hid (∀ v, b * v ≤ a ↔ v ≤ a.tdiv b) := Lib.hid (by have := HQ.out; rwa [if_neg (fun q => g1 q.1)] at this)
      clear HQ h1 h2 h3 hs ha hb g1 g2
      go_enter Tryz.func236, Tryz.ntmps236
      go_wp2_with fail
      refine CQ.out.mono ?_
      rintro e w9 ⟨rfl, rfl⟩
      go_wp2_with fail
      exact bodyPost_ret (v := .tuple #[.int .i64 (a.tdiv b), .bool true]) (by simp [results, Tryz.results236, go_sem]) rfl ⟨⟨_, rfl, HF.out, by have := HB.out; omega⟩, rfl⟩
theorem mul_le_iff_neg {b q r v : Int} (hb : b < 0) (hr : 0 ≤ r ∧ r < -b) : b * v ≤ b * q + r ↔ q ≤ v := by
  have h := mul_le_iff_pos (b := -b) (q := -q) (r := r) (v := -v) (by omega) hr
  rw [Int.neg_mul_neg, Int.neg_mul_neg] at h
  rw [h]
  omega

set_option maxHeartbeats 2000000 in
/-- Ceil by a divisor below 0: the least number that, so often, is no more. -/
theorem ceil_tells (a b : Int) (w : World) (ha : -1000000000000000 ≤ a ∧ a ≤ 1000000000000000) (hb : b < 0 ∧ -1000000 ≤ b) :
    Calls Tryz.prog 238 #[.int .i64 a, .int .i64 b] w fun e w' => (∃ q : Int, e = .returned (.tuple #[.int .i64 q, .bool true]) ∧ (∀ v, b * v ≤ a ↔ q ≤ v) ∧ -1000000000000000 ≤ q ∧ q ≤ 1000000000000001) ∧ w = w' := by
  have CQ := Lib.hid (hasQ_any a b w ha.1 (by omega))
  have h1 := tdiv_lim (b := b) ha
  have h2 := rem_sign a b
  have h3 : b < a.tmod b ∧ a.tmod b < -b := by
    have h := Int.natAbs_tmod a b
    have h2 : a.natAbs % b.natAbs < b.natAbs := Nat.mod_lt _ (by omega)
    omega
  have hs := cut_sum a b
  have b0 : (b == 0) = false := by simp; omega
  have b1 : ¬ b = 0 := by omega
  have b2 : decide (b < 0) = true := by simp; omega
  have HQ : Hid (∀ v, b * v ≤ a ↔ (if a < 0 ∧ a.tmod b ≠ 0 then a.tdiv b + 1 else a.tdiv b) ≤ v) := Lib.hid (fun v => by
    split
    · next g =>
      have e : a = b * (a.tdiv b + 1) + (a.tmod b - b) := by rw [Int.mul_add, Int.mul_one]; omega
      have := mul_le_iff_neg (b := b) (q := a.tdiv b + 1) (r := a.tmod b - b) (v := v) hb.1 (by omega)
      rw [← e] at this
      exact this
    · next g =>
      have := mul_le_iff_neg (b := b) (q := a.tdiv b) (r := a.tmod b) (v := v) hb.1 (by omega)
      rw [← hs] at this
      exact this)
  have w1 : IntKind.i64.wrap (a.tdiv b) = a.tdiv b := IntWalk.i64_in _ (by omega)
  have w2 : IntKind.i64.wrap (a.tdiv b + 1) = a.tdiv b + 1 := IntWalk.i64_in _ (by omega)
  have w3 : IntKind.i64.wrap (a.tmod b) = a.tmod b := IntWalk.i64_in _ (by have := tmod_lim (b := b) ha; omega)
  have HB := Lib.hid h1
  by_cases g2 : a.tmod b = 0
  · have e2 : (a.tmod b != 0) = false := by simp [g2]
    have HF : Hid (∀ v, b * v ≤ a ↔ a.tdiv b ≤ v) := Lib.hid (by have := HQ.out; rwa [if_neg (fun q => q.2 g2)] at this)
    clear HQ h1 h2 h3 hs ha hb g2
    cases e1 : decide (a < 0)
    all_goals
      go_enter Tryz.func238, Tryz.ntmps238
      go_wp2_with fail
      refine CQ.out.mono ?_
      rintro e w9 ⟨rfl, rfl⟩
      go_wp2_with fail
      exact bodyPost_ret (v := .tuple #[.int .i64 (a.tdiv b), .bool true]) (by simp [results, Tryz.results238, go_sem]) rfl ⟨⟨_, rfl, HF.out, by have := HB.out; omega⟩, rfl⟩
  · have e2 : (a.tmod b != 0) = true := by simp [g2]
    by_cases g1 : a < 0
    · have e1 : decide (a < 0) = true := by simpa using g1
      have HF : Hid (∀ v, b * v ≤ a ↔ a.tdiv b + 1 ≤ v) := Lib.hid (by have := HQ.out; rwa [if_pos ⟨g1, g2⟩] at this)
      clear HQ h1 h2 h3 hs ha hb g1 g2
      go_enter Tryz.func238, Tryz.ntmps238
      go_wp2_with fail
      refine CQ.out.mono ?_
      rintro e w9 ⟨rfl, rfl⟩
      go_wp2_with fail
      exact bodyPost_ret (v := .tuple #[.int .i64 (a.tdiv b + 1), .bool true]) (by simp [results, Tryz.results238, go_sem]) rfl ⟨⟨_, rfl, HF.out, by have := HB.out; omega⟩, rfl⟩
    · have e1 : decide (a < 0) = false := by simpa using g1
      have HF : Hid (∀ v, b * v ≤ a ↔ a.tdiv b ≤ v) := Lib.hid (by have := HQ.out; rwa [if_neg (fun q => g1 q.1)] at this)
      clear HQ h1 h2 h3 hs ha hb g1 g2
      go_enter Tryz.func238, Tryz.ntmps238
      go_wp2_with fail
      refine CQ.out.mono ?_
      rintro e w9 ⟨rfl, rfl⟩
      go_wp2_with fail
      exact bodyPost_ret (v := .tuple #[.int .i64 (a.tdiv b), .bool true]) (by simp [results, Tryz.results238, go_sem]) rfl ⟨⟨_, rfl, HF.out, by have := HB.out; omega⟩, rfl⟩
end Go.Proofs.YtkhmocbfkpbpfaaGreatDoor
