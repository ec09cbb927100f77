/- Contracts: the document's row, runs, cumulative, gcc. -/
import Derived.Test.YtkhmocbfkpbpfaaGreatDoorRg4
import Derived.Lib.QuietBelow
namespace Go.Proofs.YtkhmocbfkpbpfaaGreatDoor
open Go.RowKit Go.Sort

/-- Are the first so many alike? -/
def eqN (s X : List Int) : Nat → Bool
  | 0 => true
  | k + 1 => eqN s X k && s.getD k 0 == X.getD k 0
theorem eqN_iff (s X : List Int) (k : Nat) : eqN s X k = true ↔ ∀ j, j < k → s.getD j 0 = X.getD j 0 := by
  induction k with
  | zero => simp [eqN]
  | succ k ih =>
    rw [eqN, Bool.and_eq_true, ih, beq_iff_eq]
    constructor
    · rintro ⟨h1, h2⟩ j hj
      by_cases h : j < k
      · exact h1 j h
      · obtain rfl : j = k := by omega
        exact h2
    · exact fun h => ⟨fun j hj => h j (by omega), h k (by omega)⟩
theorem eqN_eq {s X : List Int} (h : s.length = X.length) : eqN s X X.length = (s == X) := by
  rw [Bool.eq_iff_iff, eqN_iff, beq_iff_eq]
  constructor
  · intro hj
    apply List.ext_getElem h
    intro i h1 h2
    have := hj i h2
    rw [List.getD_eq_getElem?_getD, List.getD_eq_getElem?_getD, List.getElem?_eq_getElem h1, List.getElem?_eq_getElem h2] at this
    exact this
  · rintro rfl j _
    rfl
theorem none_rows (q : List Int → Bool) (R : List (List Int)) : noneN (fun i => q (R.getD i [])) R.length = !R.any q := by
  unfold noneN
  congr 1
  rw [Bool.eq_iff_iff, List.any_eq_true, List.any_eq_true]
  constructor
  · rintro ⟨i, hi, e⟩
    have hi := List.mem_range.1 hi
    rw [List.getD_eq_getElem?_getD, List.getElem?_eq_getElem hi] at e
    exact ⟨_, List.getElem_mem hi, e⟩
  · rintro ⟨x, hx, e⟩
    obtain ⟨j, hj, rfl⟩ := List.getElem_of_mem hx
    exact ⟨j, List.mem_range.2 hj, by rw [List.getD_eq_getElem?_getD, List.getElem?_eq_getElem hj]; exact e⟩
theorem rows_at {W : World} {x : Sl} {R : List (List Int)} (h : IsRows W x R) (i : Nat) (hi : i < x.n) : ∃ (ad : Addr) (u : Sl), x.A = some ad ∧ W.cell? (ad.add i) = some (.slice u.A u.n u.c) ∧ IsInts W u (R.getD i []) := by
  obtain ⟨ad, e, hb, hc⟩ := h.lies (by omega)
  obtain ⟨u, h1, h2⟩ := hc i hi
  exact ⟨ad, u, e, h1, h2⟩

set_option maxHeartbeats 4000000 in
set_option maxRecDepth 100000 in
theorem rrow_any (v : ConV) (c : ConL) (y : Sl) (a : List Int) (w : World) (h : ConIn w v c) (hy : IsInts w y a) (r : ConR a.length c) (hk : c.kind = 18) :
    Calls Tryz.prog 79 #[v.val c.kind c.K, .slice y.A y.n y.c] w fun e w' => e = .returned (.bool (c.rows.any (· == valsE c.A a))) ∧ Below w.heap.size w w' := by
  obtain ⟨wb, hwb⟩ : ∃ wb, cBox w v c.kind c.K = wb := ⟨_, rfl⟩
  have HR : Hid (RBox w.heap.size wb v c y a ∧ Below w.heap.size w wb) := Lib.hid (hwb ▸ ⟨RBox.start h hy, cBox_below _ _ _ _⟩)
  have HWB := Lib.hid hwb
  have HPA := Lib.hid r.pa
  have HAN := Lib.hid (show v.a.n = (valsE c.A a).length by rw [h.a.len, vals_size])
  have hn64 : v.a.n ≤ 64 := by rw [h.a.len]; exact r.a64
  have hr62 := h.r.big
  have HRL : Hid (∀ i, i < v.r.n → (c.rows.getD i []).length = v.a.n) := Lib.hid (fun i hi => by
    have hi' : i < c.rows.length := by rw [← h.r.len]; exact hi
    rw [h.a.len, List.getD_eq_getElem?_getD, List.getElem?_eq_getElem hi']
    exact r.rows hk _ (List.getElem_mem hi'))
  have HN : Hid (noneN (fun i => c.rows.getD i [] == valsE c.A a) v.r.n = !c.rows.any (· == valsE c.A a)) := Lib.hid (by rw [h.r.len]; exact none_rows (fun x => x == valsE c.A a) _)
  generalize c.rows.any (· == valsE c.A a) = RES at *
  clear hwb h hy r hk
  go_enter Tryz.func79, Tryz.ntmps79
  go_upto_region 1 with fail
  change Code.wp _ _ _ _ (cBox w v c.kind c.K)
  rw [HWB.out]
  clear HWB
  go_wp2_with fail
  go_loopw [5] (fun i wr => ∃ k : Nat, i = .int .i64 (k : Nat) ∧ k ≤ v.r.n ∧ Hid (noTo (fun i => c.rows.getD i [] == valsE c.A a) k) ∧ Hid (RBox w.heap.size wr v c y a ∧ Below w.heap.size w wr)) (fun i _ => v.r.n - (intOf i).toNat)
  case atStart => exact ⟨0, rfl, by omega, Lib.hid (noTo_zero _), HR⟩
  case round =>
    clear HR
    obtain ⟨k, rfl, hk, H0, HR⟩ := hrel
    obtain ⟨wo, rfl⟩ : ∃ wo, wo = wr := ⟨_, rfl⟩
    have h7 := HR.out.1.c7
    by_cases hlt : k < v.r.n
    · have h1 := HR.out.1.c1
      go_wp2_with fail
      go_loopw [6, 7] (fun o i wr => ∃ j : Nat, o = .bool (eqN (c.rows.getD k []) (valsE c.A a) j) ∧ i = .int .i64 (j : Nat) ∧ j ≤ v.a.n ∧ Hid (RBox w.heap.size wr v c y a ∧ Below w.heap.size w wr)) (fun _ i _ => v.a.n - (intOf i).toNat)
      case atStart => exact ⟨0, rfl, rfl, by omega, HR⟩
      case round =>
        clear HR h7 h1
        obtain ⟨j, rfl, rfl, hj, HR⟩ := hrel
        have h1 := HR.out.1.c1
        by_cases hlj : j < v.a.n
        · have h7 := HR.out.1.c7
          obtain ⟨adL, ad, p, eL, ea, q1, q2, q3, q4⟩ := HR.out.1.at_ HPA.out j hlj
          obtain ⟨adR, u, eR, q5, q6⟩ := rows_at HR.out.1.con.r k hlt
          have q7 : j < u.n := by rw [q6.len, HRL.out k hlt]; exact hlj
          obtain ⟨adU, eU, q8⟩ := ints_at q6 j q7
          rw [eL] at h1
          rw [eR] at h7
          rw [eU] at q5
          rw [ea]
          have HE : Hid (eqN (c.rows.getD k []) (valsE c.A a) (j + 1) = (eqN (c.rows.getD k []) (valsE c.A a) j && (c.rows.getD k []).getD j 0 == (valsE c.A a).getD j 0)) := Lib.hid rfl
          generalize (c.rows.getD k []).getD j 0 = s at q8 HE
          generalize (valsE c.A a).getD j 0 = t at q4 HE
          clear q6 eL eR eU ea
          cases hz : eqN (c.rows.getD k []) (valsE c.A a) j
          · rw [hz] at HE
            simp only [Bool.false_and] at HE
            go_upto_region 8 with fail
            go_quiet (fail)
            have HR2 := Lib.hid (show RBox w.heap.size (wr.drewN nq) v c y a ∧ Below w.heap.size w (wr.drewN nq) from ⟨HR.out.1.below (below_drewN (Below.refl _ _) nq), below_drewN HR.out.2 nq⟩)
            generalize wr.drewN nq = w3 at *
            go_wp2_with fail
            go_roundw
            case rel => exact ⟨j + 1, by rw [HE.out], by go_num, by omega, HR2⟩
            case measure => simp [intOf]; omega
          · rw [hz] at HE
            simp only [Bool.true_and] at HE
            go_upto_region 8 with fail
            go_quiet (fail)
            have HR2 := Lib.hid (show RBox w.heap.size (wr.drewN nq) v c y a ∧ Below w.heap.size w (wr.drewN nq) from ⟨HR.out.1.below (below_drewN (Below.refl _ _) nq), below_drewN HR.out.2 nq⟩)
            generalize wr.drewN nq = w3 at *
            go_wp2_with fail
            go_roundw
            case rel => exact ⟨j + 1, by rw [HE.out], by go_num, by omega, HR2⟩
            case measure => simp [intOf]; omega
        · have HE : Hid (eqN (c.rows.getD k []) (valsE c.A a) j = (c.rows.getD k [] == valsE c.A a)) := Lib.hid (by
            rw [show j = (valsE c.A a).length by rw [← HAN.out]; omega]
            exact eqN_eq (by rw [HRL.out k hlt, HAN.out]))
          cases hz : eqN (c.rows.getD k []) (valsE c.A a) j
          · rw [hz] at HE
            have H1 := Lib.hid (noTo_step H0.out HE.out.symm)
            clear HE H0
            go_wp2_with fail
            go_roundw
            case rel => exact ⟨k + 1, by go_num, by omega, H1, HR⟩
            case measure => simp [intOf]; omega
          · rw [hz] at HE
            have HV : Hid (RES = true) := Lib.hid (by have := HN.out; rw [none_no (k := k) hlt HE.out.symm] at this; simpa using this.symm)
            clear HE H0 HN
            go_wp2_with fail
            go_ret
            exact ⟨ret_bool HV.out.symm, HR.out.2⟩
    · have HV : Hid (RES = false) := Lib.hid (by have := HN.out; obtain rfl : k = v.r.n := by omega
                                                 rw [none_yes H0.out] at this; simpa using this.symm)
      clear HN H0
      go_wp2_with fail
      go_ret
      exact ⟨ret_bool HV.out.symm, HR.out.2⟩

set_option maxHeartbeats 4000000 in
set_option maxRecDepth 100000 in
theorem rruns_any (v : ConV) (c : ConL) (y : Sl) (a : List Int) (t : Int) (w : World) (h : ConIn w v c) (hy : IsInts w y a) (r : ConR a.length c) (hk : c.kind = 19) (ba : ∀ v ∈ a, -1000000 ≤ v ∧ v ≤ 1000000) (ht : -1000000 ≤ t ∧ t ≤ 1000000) :
    Calls Tryz.prog 135 #[v.val c.kind c.K, .slice y.A y.n y.c, .int .i64 t] w fun e w' => e = .returned (.int .i64 (needE c (valsE c.A a) t)) ∧ Below w.heap.size w w' := by
  obtain ⟨wb, hwb⟩ : ∃ wb, cBox w v c.kind c.K = wb := ⟨_, rfl⟩
  have HR : Hid (RBox w.heap.size wb v c y a ∧ Below w.heap.size w wb) := Lib.hid (hwb ▸ ⟨RBox.start h hy, cBox_below _ _ _ _⟩)
  have HWB := Lib.hid hwb
  have HPA := Lib.hid r.pa
  have HX := Lib.hid (vals_le r.pa ba)
  have hn64 : v.a.n ≤ 64 := by rw [h.a.len]; exact r.a64
  have HCN := Lib.hid (show v.c.n = v.a.n by rw [h.c.len, h.a.len]; exact (r.cum hk).1)
  have HDN := Lib.hid (show v.d.n = v.a.n by rw [h.d.len, h.a.len]; exact (r.cum hk).2)
  have HPC := Lib.hid r.pc
  have HPD := Lib.hid r.pd
  have HE : Hid (needE c (valsE c.A a) t = sumN (needF c (valsE c.A a) t) v.a.n) := Lib.hid (by unfold needE; rw [vals_size, h.a.len])
  generalize needE c (valsE c.A a) t = RES at *
  clear hwb h hy r hk
  go_enter Tryz.func135, Tryz.ntmps135
  go_upto_region 1 with fail
  change Code.wp _ _ _ _ (cBox w v c.kind c.K)
  rw [HWB.out]
  clear HWB
  go_wp2_with fail
  go_loopw [7, 8] (fun s i wr => ∃ (k : Nat) (u : Int), s = .int .i64 u ∧ i = .int .i64 (k : Nat) ∧ k ≤ v.a.n ∧ Hid (u = sumN (needF c (valsE c.A a) t) k) ∧ Hid (RBox w.heap.size wr v c y a ∧ Below w.heap.size w wr)) (fun _ i _ => v.a.n - (intOf i).toNat)
  case atStart => exact ⟨0, 0, rfl, rfl, by omega, Lib.hid rfl, HR⟩
  case round =>
    clear HR
    obtain ⟨k, u, rfl, rfl, hk, HT, HR⟩ := hrel
    have h1 := HR.out.1.c1
    by_cases hlt : k < v.a.n
    · have h3 := HR.out.1.c3
      have h4 := HR.out.1.c4
      obtain ⟨adL, ad, p, eL, ea, q1, q2, q3, q4⟩ := HR.out.1.at_ HPA.out k hlt
      have q5 : k < v.c.n := by rw [HCN.out]; exact hlt
      have q6 : k < v.d.n := by rw [HDN.out]; exact hlt
      obtain ⟨adC, eC, q7⟩ := ints_at HR.out.1.con.c k q5
      obtain ⟨adD, eD, q8⟩ := ints_at HR.out.1.con.d k q6
      have hx := getD_in HX.out (by omega) k
      have hD := getD_in HPD.out (by omega) k
      have hC := getD_in HPC.out (by omega) k
      have HS : Hid (sumN (needF c (valsE c.A a) t) (k + 1) = u + needF c (valsE c.A a) t k) := Lib.hid (by rw [HT.out]; rfl)
      have hs : -(k * 1000000 : Int) ≤ u ∧ u ≤ k * 1000000 := by
        rw [HT.out]
        refine sumN_abs (b := 1000000) fun i hi => ?_
        have := getD_in HPD.out (by omega) i
        unfold needF
        split <;> omega
      have HF : Hid (needF c (valsE c.A a) t k = if decide ((valsE c.A a).getD k 0 ≤ t) && decide (t < (valsE c.A a).getD k 0 + c.C.getD k 0) then c.D.getD k 0 else 0) := Lib.hid rfl
      have w1 : IntKind.i64.wrap (t - (valsE c.A a).getD k 0) = t - (valsE c.A a).getD k 0 := IntWalk.i64_in _ (by omega)
      have w2 : IntKind.i64.wrap (u + c.D.getD k 0) = u + c.D.getD k 0 := IntWalk.i64_in _ (by omega)
      rw [eL] at h1
      rw [eC] at h3
      rw [eD] at h4
      rw [ea]
      generalize needF c (valsE c.A a) t k = f at HS HF
      generalize (valsE c.A a).getD k 0 = x at *
      generalize c.C.getD k 0 = cc at *
      generalize c.D.getD k 0 = dd at *
      clear eL eC eD ea HT
      have HD2 : Hid ((decide (t < x + cc)) = decide (t - x < cc)) := Lib.hid (by rw [Bool.eq_iff_iff]; simp; omega)
      rw [HD2.out] at HF
      clear HD2 hx hD hC hs
      cases g1 : decide (x ≤ t)
      · have HV : Hid (u = sumN (needF c (valsE c.A a) t) (k + 1)) := Lib.hid (by rw [HS.out, HF.out, g1]; simp)
        clear HS HF
        go_wp2_with fail
        go_roundw
        case rel => exact ⟨k + 1, _, rfl, by go_num, by omega, HV, HR⟩
        case measure => simp [intOf]; omega
      · cases g2 : decide (t - x < cc)
        · have HV : Hid (u = sumN (needF c (valsE c.A a) t) (k + 1)) := Lib.hid (by rw [HS.out, HF.out, g1, g2]; simp)
          clear HS HF
          go_wp2_with fail
          go_roundw
          case rel => exact ⟨k + 1, _, rfl, by go_num, by omega, HV, HR⟩
          case measure => simp [intOf]; omega
        · have HV : Hid (u + dd = sumN (needF c (valsE c.A a) t) (k + 1)) := Lib.hid (by rw [HS.out, HF.out, g1, g2]; simp)
          clear HS HF
          go_wp2_with fail
          go_roundw
          case rel => exact ⟨k + 1, _, rfl, by go_num, by omega, HV, HR⟩
          case measure => simp [intOf]; omega
    · have HV : Hid (u = RES) := Lib.hid (by rw [HE.out, HT.out, show k = v.a.n by omega])
      clear HT HE
      go_wp2_with fail
      go_ret
      exact ⟨by rw [← HV.out]; rfl, HR.out.2⟩

set_option maxHeartbeats 4000000 in
set_option maxRecDepth 100000 in
theorem rcum_any (v : ConV) (c : ConL) (y : Sl) (a : List Int) (w : World) (h : ConIn w v c) (hy : IsInts w y a) (r : ConR a.length c) (hk : c.kind = 19) (ba : ∀ v ∈ a, -1000000 ≤ v ∧ v ≤ 1000000) :
    Calls Tryz.prog 80 #[v.val c.kind c.K, .slice y.A y.n y.c] w fun e w' => e = .returned (.bool (noneN (cumP c (valsE c.A a)) (valsE c.A a).length)) ∧ Below w.heap.size w w' := by
  obtain ⟨wb, hwb⟩ : ∃ wb, cBox w v c.kind c.K = wb := ⟨_, rfl⟩
  have HR : Hid (RBox w.heap.size wb v c y a ∧ Below w.heap.size w wb) := Lib.hid (hwb ▸ ⟨RBox.start h hy, cBox_below _ _ _ _⟩)
  have HWB := Lib.hid hwb
  have HPA := Lib.hid r.pa
  have HX := Lib.hid (vals_le r.pa ba)
  have hn64 : v.a.n ≤ 64 := by rw [h.a.len]; exact r.a64
  have CR : Hid (∀ t W, ConIn W v c → IsInts W y a → -1000000 ≤ t ∧ t ≤ 1000000 → Calls Tryz.prog 135 #[v.val c.kind c.K, .slice y.A y.n y.c, .int .i64 t] W fun e w' => e = .returned (.int .i64 (needE c (valsE c.A a) t)) ∧ Below W.heap.size W w') := Lib.hid (fun t W h1 h2 h3 => rruns_any v c y a t W h1 h2 r hk ba h3)
  have HAN := Lib.hid (show (valsE c.A a).length = v.a.n by rw [h.a.len, vals_size])
  rw [HAN.out]
  obtain ⟨RES, hRES⟩ : ∃ R, R = noneN (cumP c (valsE c.A a)) v.a.n := ⟨_, rfl⟩
  rw [← hRES]
  have HE := Lib.hid hRES
  clear hwb h hy r hk hRES
  go_enter Tryz.func80, Tryz.ntmps80
  go_upto_region 1 with fail
  change Code.wp _ _ _ _ (cBox w v c.kind c.K)
  rw [HWB.out]
  clear HWB
  go_wp2_with fail
  go_loopw [5] (fun i wr => ∃ (k : Nat), i = .int .i64 (k : Nat) ∧ k ≤ v.a.n ∧ Hid (noTo (cumP c (valsE c.A a)) k) ∧ Hid (RBox w.heap.size wr v c y a ∧ Below w.heap.size w wr)) (fun i _ => v.a.n - (intOf i).toNat)
  case atStart => exact ⟨0, rfl, by omega, Lib.hid (noTo_zero _), HR⟩
  case round =>
    clear HR
    obtain ⟨k, rfl, hk, H0, HR⟩ := hrel
    have h1 := HR.out.1.c1
    by_cases hlt : k < v.a.n
    · obtain ⟨adL, ad, p, eL, ea, q1, q2, q3, q4⟩ := HR.out.1.at_ HPA.out k hlt
      have hx := getD_in HX.out (by omega) k
      have CC := Lib.hid (in_regrown' (w := wr) (fun W hW => CR.out ((valsE c.A a).getD k 0) W (HR.out.1.con.below hW) (HR.out.1.ints.below hW) hx))
      have HP : Hid (cumP c (valsE c.A a) k = decide (c.K < needE c (valsE c.A a) ((valsE c.A a).getD k 0))) := Lib.hid rfl
      have z0 := cell_regrown HR.out.1.c0
      have z1 := cell_regrown HR.out.1.c1
      have z2 := cell_regrown HR.out.1.c2
      have z3 := cell_regrown HR.out.1.c3
      have z4 := cell_regrown HR.out.1.c4
      have z5 := cell_regrown HR.out.1.c5
      have z6 := cell_regrown HR.out.1.c6
      have z7 := cell_regrown HR.out.1.c7
      have zq := cell_regrown q1
      have zr := cell_regrown q4
      generalize needE c (valsE c.A a) ((valsE c.A a).getD k 0) = nd at CC HP
      generalize (valsE c.A a).getD k 0 = x at *
      rw [eL] at z1 h1
      have CD := CC.out
      unfold ConV.val at CD
      rw [eL, ea] at CD
      have CC := Lib.hid CD
      rw [ea]
      clear eL ea CD
      go_upto_region 4 with fail
      refine wp_region_quiet_below (by kernel_rfl) (by kernel_rfl) ?_
      repeat (first | go_big_quiet_step (first | (go_at_call 135; with_reducible exact CC.out _ _)) | quiet_step (fail))
      refine wpQuiet_nil ?_
      intro _ hw'
      obtain ⟨⟨dq, osq⟩, hw''⟩ := hw'
      subst hw''
      have HR2 := Lib.hid (show RBox w.heap.size (grow (redrawn wr dq) osq) v c y a ∧ Below w.heap.size w (grow (redrawn wr dq) osq) from ⟨HR.out.1.below (below_regrown wr dq osq), HR.out.2.trans ((below_regrown wr dq osq).mono HR.out.2.size)⟩)
      generalize grow (redrawn wr dq) osq = w3 at *
      clear z0 z1 z2 z3 z4 z5 z6 z7 zq zr CC q1 q4 h1 hx
      have h6 := HR2.out.1.c6
      cases hz : decide (c.K < nd)
      · rw [hz] at HP
        have H1 := Lib.hid (noTo_step H0.out HP.out)
        clear H0 HP
        go_wp2_with fail
        go_roundw
        case rel => exact ⟨k + 1, by go_num, by omega, H1, HR2⟩
        case measure => simp [intOf]; omega
      · rw [hz] at HP
        have HV : Hid (RES = false) := Lib.hid (by rw [HE.out, none_no (k := k) hlt HP.out])
        clear H0 HP HE
        go_wp2_with fail
        go_ret
        exact ⟨ret_bool HV.out.symm, HR2.out.2⟩
    · have HV : Hid (RES = true) := Lib.hid (by rw [HE.out]; obtain rfl : k = v.a.n := by omega
                                                exact none_yes H0.out)
      clear H0 HE
      go_wp2_with fail
      go_ret
      exact ⟨ret_bool HV.out.symm, HR.out.2⟩
end Go.Proofs.YtkhmocbfkpbpfaaGreatDoor
