/- Contracts: the document's row, runs, cumulative, gcc. -/
import Derived.Test.YtkhmocbfkpbpfaaGreatDoorRg4
import Derived.Test.YtkhmocbfkpbpfaaGreatDoorDRefOf
import Derived.Lib.QuietBelow
namespace Go.Proofs.YtkhmocbfkpbpfaaGreatDoor
open Go.RowKit Go.Sort

/-- Are the first so many alike? -/
def eqN (s X : List Int) : Nat → Bool
  | 0 => true
  | k + 1 => eqN s X k && s.getD k 0 == X.getD k 0
theorem eqN_iff (s X : List Int) (k : Nat) : eqN s X k = true ↔ ∀ j, j < k → s.getD j 0 = X.getD j 0 := by
  induction k with
  | zero => simp [eqN]
  | succ k ih =>
    rw [eqN, Bool.and_eq_true, ih, beq_iff_eq]
    constructor
    · rintro ⟨h1, h2⟩ j hj
      by_cases h : j < k
      · exact h1 j h
      · obtain rfl : j = k := by omega
        exact h2
    · exact fun h => ⟨fun j hj => h j (by omega), h k (by omega)⟩
theorem eqN_eq {s X : List Int} (h : s.length = X.length) : eqN s X X.length = (s == X) := by
  rw [Bool.eq_iff_iff, eqN_iff, beq_iff_eq]
  constructor
  · intro hj
    apply List.ext_getElem h
    intro i h1 h2
    have := hj i h2
    rw [List.getD_eq_getElem?_getD, List.getD_eq_getElem?_getD, List.getElem?_eq_getElem h1, List.getElem?_eq_getElem h2] at this
    exact this
  · rintro rfl j _
    rfl
theorem none_rows (q : List Int → Bool) (R : List (List Int)) : noneN (fun i => q (R.getD i [])) R.length = !R.any q := by
  unfold noneN
  congr 1
  rw [Bool.eq_iff_iff, List.any_eq_true, List.any_eq_true]
  constructor
  · rintro ⟨i, hi, e⟩
    have hi := List.mem_range.1 hi
    rw [List.getD_eq_getElem?_getD, List.getElem?_eq_getElem hi] at e
    exact ⟨_, List.getElem_mem hi, e⟩
  · rintro ⟨x, hx, e⟩
    obtain ⟨j, hj, rfl⟩ := List.getElem_of_mem hx
    exact ⟨j, List.mem_range.2 hj, by rw [List.getD_eq_getElem?_getD, List.getElem?_eq_getElem hj]; exact e⟩
theorem rows_at {W : World} {x : Sl} {R : List (List Int)} (h : IsRows W x R) (i : Nat) (hi : i < x.n) : ∃ (ad : Addr) (u : Sl), x.A = some ad ∧ W.cell? (ad.add i) = some (.slice u.A u.n u.c) ∧ IsInts W u (R.getD i []) := by
  obtain ⟨ad, e, hb, hc⟩ := h.lies (by omega)
  obtain ⟨u, h1, h2⟩ := hc i hi
  exact ⟨ad, u, e, h1, h2⟩

set_option maxHeartbeats 4000000 in
set_option maxRecDepth 100000 in
theorem rrow_any (v : ConV) (c : ConL) (y : Sl) (a : List Int) (w : World) (h : ConIn w v c) (hy : IsInts w y a) (r : ConR a.length c) (hk : c.kind = 18) :
    Calls Tryz.prog 79 #[v.val c.kind c.K, .slice y.A y.n y.c] w fun e w' => e = .returned (.bool (c.rows.any (· == valsE c.A a))) ∧ Below w.heap.size w w' := by
  obtain ⟨wb, hwb⟩ : ∃ wb, cBox w v c.kind c.K = wb := ⟨_, rfl⟩
  have HR : Hid (RBox w.heap.size wb v c y a ∧ Below w.heap.size w wb) := Lib.hid (hwb ▸ ⟨RBox.start h hy, cBox_below _ _ _ _⟩)
  have HWB := Lib.hid hwb
  have HPA := Lib.hid r.pa
  have HAN := Lib.hid (show v.a.n = (valsE c.A a).length by rw [h.a.len, vals_size])
  have hn64 : v.a.n ≤ 64 := by rw [h.a.len]; exact r.a64
  have hr62 := h.r.big
  have HRL : Hid (∀ i, i < v.r.n → (c.rows.getD i []).length = v.a.n) := Lib.hid (fun i hi => by
    have hi' : i < c.rows.length := by rw [← h.r.len]; exact hi
    rw [h.a.len, List.getD_eq_getElem?_getD, List.getElem?_eq_getElem hi']
    exact r.rows hk _ (List.getElem_mem hi'))
  have HN : Hid (noneN (fun i => c.rows.getD i [] == valsE c.A a) v.r.n = !c.rows.any (· == valsE c.A a)) := Lib.hid (by rw [h.r.len]; exact none_rows (fun x => x == valsE c.A a) _)
  generalize c.rows.any (· == valsE c.A a) = RES at *
  clear hwb h hy r hk
  go_enter Tryz.func79, Tryz.ntmps79
  go_upto_region 1 with fail
  change Code.wp _ _ _ _ (cBox w v c.kind c.K)
  rw [HWB.out]
  clear HWB
  go_wp2_with fail
  go_loopw [5] (fun i wr => ∃ k : Nat, i = .int .i64 (k : Nat) ∧ k ≤ v.r.n ∧ Hid (noTo (fun i => c.rows.getD i [] == valsE c.A a) k) ∧ Hid (RBox w.heap.size wr v c y a ∧ Below w.heap.size w wr)) (fun i _ => v.r.n - (intOf i).toNat)
  case atStart => exact ⟨0, rfl, by omega, Lib.hid (noTo_zero _), HR⟩
  case round =>
    clear HR
    obtain ⟨k, rfl, hk, H0, HR⟩ := hrel
    obtain ⟨wo, rfl⟩ : ∃ wo, wo = wr := ⟨_, rfl⟩
    have h7 := HR.out.1.c7
    by_cases hlt : k < v.r.n
    · have h1 := HR.out.1.c1
      go_wp2_with fail
      go_loopw [6, 7] (fun o i wr => ∃ j : Nat, o = .bool (eqN (c.rows.getD k []) (valsE c.A a) j) ∧ i = .int .i64 (j : Nat) ∧ j ≤ v.a.n ∧ Hid (RBox w.heap.size wr v c y a ∧ Below w.heap.size w wr)) (fun _ i _ => v.a.n - (intOf i).toNat)
      case atStart => exact ⟨0, rfl, rfl, by omega, HR⟩
      case round =>
        clear HR h7 h1
        obtain ⟨j, rfl, rfl, hj, HR⟩ := hrel
        have h1 := HR.out.1.c1
        by_cases hlj : j < v.a.n
        · have h7 := HR.out.1.c7
          obtain ⟨adL, ad, p, eL, ea, q1, q2, q3, q4⟩ := HR.out.1.at_ HPA.out j hlj
          obtain ⟨adR, u, eR, q5, q6⟩ := rows_at HR.out.1.con.r k hlt
          have q7 : j < u.n := by rw [q6.len, HRL.out k hlt]; exact hlj
          obtain ⟨adU, eU, q8⟩ := ints_at q6 j q7
          rw [eL] at h1
          rw [eR] at h7
          rw [eU] at q5
          rw [ea]
          have HE : Hid (eqN (c.rows.getD k []) (valsE c.A a) (j + 1) = (eqN (c.rows.getD k []) (valsE c.A a) j && (c.rows.getD k []).getD j 0 == (valsE c.A a).getD j 0)) := Lib.hid rfl
          generalize (c.rows.getD k []).getD j 0 = s at q8 HE
          generalize (valsE c.A a).getD j 0 = t at q4 HE
          clear q6 eL eR eU ea
          cases hz : eqN (c.rows.getD k []) (valsE c.A a) j
          · rw [hz] at HE
            simp only [Bool.false_and] at HE
            go_upto_region 8 with fail
            go_quiet (fail)
            have HR2 := Lib.hid (show RBox w.heap.size (wr.drewN nq) v c y a ∧ Below w.heap.size w (wr.drewN nq) from ⟨HR.out.1.below (below_drewN (Below.refl _ _) nq), below_drewN HR.out.2 nq⟩)
            generalize wr.drewN nq = w3 at *
            go_wp2_with fail
            go_roundw
            case rel => exact ⟨j + 1, by rw [HE.out], by go_num, by omega, HR2⟩
            case measure => simp [intOf]; omega
          · rw [hz] at HE
            simp only [Bool.true_and] at HE
            go_upto_region 8 with fail
            go_quiet (fail)
            have HR2 := Lib.hid (show RBox w.heap.size (wr.drewN nq) v c y a ∧ Below w.heap.size w (wr.drewN nq) from ⟨HR.out.1.below (below_drewN (Below.refl _ _) nq), below_drewN HR.out.2 nq⟩)
            generalize wr.drewN nq = w3 at *
            go_wp2_with fail
            go_roundw
            case rel => exact ⟨j + 1, by rw [HE.out], by go_num, by omega, HR2⟩
            case measure => simp [intOf]; omega
        · have HE : Hid (eqN (c.rows.getD k []) (valsE c.A a) j = (c.rows.getD k [] == valsE c.A a)) := Lib.hid (by
            rw [show j = (valsE c.A a).length by rw [← HAN.out]; omega]
            exact eqN_eq (by rw [HRL.out k hlt, HAN.out]))
          cases hz : eqN (c.rows.getD k []) (valsE c.A a) j
          · rw [hz] at HE
            have H1 := Lib.hid (noTo_step H0.out HE.out.symm)
            clear HE H0
            go_wp2_with fail
            go_roundw
            case rel => exact ⟨k + 1, by go_num, by omega, H1, HR⟩
            case measure => simp [intOf]; omega
          · rw [hz] at HE
            have HV : Hid (RES = true) := Lib.hid (by have := HN.out; rw [none_no (k := k) hlt HE.out.symm] at this; simpa using this.symm)
            clear HE H0 HN
            go_wp2_with fail
            go_ret
            exact ⟨ret_bool HV.out.symm, HR.out.2⟩
    · have HV : Hid (RES = false) := Lib.hid (by have := HN.out; obtain rfl : k = v.r.n := by omega
                                                 rw [none_yes H0.out] at this; simpa using this.symm)
      clear HN H0
      go_wp2_with fail
      go_ret
      exact ⟨ret_bool HV.out.symm, HR.out.2⟩

set_option maxHeartbeats 4000000 in
set_option maxRecDepth 100000 in
theorem rruns_any (v : ConV) (c : ConL) (y : Sl) (a : List Int) (t : Int) (w : World) (h : ConIn w v c) (hy : IsInts w y a) (r : ConR a.length c) (hk : c.kind = 19) (ba : ∀ v ∈ a, -1000000 ≤ v ∧ v ≤ 1000000) (ht : -1000000 ≤ t ∧ t ≤ 1000000) :
    Calls Tryz.prog 135 #[v.val c.kind c.K, .slice y.A y.n y.c, .int .i64 t] w fun e w' => e = .returned (.int .i64 (needE c (valsE c.A a) t)) ∧ Below w.heap.size w w' := by
  obtain ⟨wb, hwb⟩ : ∃ wb, cBox w v c.kind c.K = wb := ⟨_, rfl⟩
  have HR : Hid (RBox w.heap.size wb v c y a ∧ Below w.heap.size w wb) := Lib.hid (hwb ▸ ⟨RBox.start h hy, cBox_below _ _ _ _⟩)
  have HWB := Lib.hid hwb
  have HPA := Lib.hid r.pa
  have HX := Lib.hid (vals_le r.pa ba)
  have hn64 : v.a.n ≤ 64 := by rw [h.a.len]; exact r.a64
  have HCN := Lib.hid (show v.c.n = v.a.n by rw [h.c.len, h.a.len]; exact (r.cum hk).1)
  have HDN := Lib.hid (show v.d.n = v.a.n by rw [h.d.len, h.a.len]; exact (r.cum hk).2)
  have HPC := Lib.hid r.pc
  have HPD := Lib.hid r.pd
  have HE : Hid (needE c (valsE c.A a) t = sumN (needF c (valsE c.A a) t) v.a.n) := Lib.hid (by unfold needE; rw [vals_size, h.a.len])
  generalize needE c (valsE c.A a) t = RES at *
  clear hwb h hy r hk
  go_enter Tryz.func135, Tryz.ntmps135
  go_upto_region 1 with fail
  change Code.wp _ _ _ _ (cBox w v c.kind c.K)
  rw [HWB.out]
  clear HWB
  go_wp2_with fail
  go_loopw [7, 8] (fun s i wr => ∃ (k : Nat) (u : Int), s = .int .i64 u ∧ i = .int .i64 (k : Nat) ∧ k ≤ v.a.n ∧ Hid (u = sumN (needF c (valsE c.A a) t) k) ∧ Hid (RBox w.heap.size wr v c y a ∧ Below w.heap.size w wr)) (fun _ i _ => v.a.n - (intOf i).toNat)
  case atStart => exact ⟨0, 0, rfl, rfl, by omega, Lib.hid rfl, HR⟩
  case round =>
    clear HR
    obtain ⟨k, u, rfl, rfl, hk, HT, HR⟩ := hrel
    have h1 := HR.out.1.c1
    by_cases hlt : k < v.a.n
    · have h3 := HR.out.1.c3
      have h4 := HR.out.1.c4
      obtain ⟨adL, ad, p, eL, ea, q1, q2, q3, q4⟩ := HR.out.1.at_ HPA.out k hlt
      have q5 : k < v.c.n := by rw [HCN.out]; exact hlt
      have q6 : k < v.d.n := by rw [HDN.out]; exact hlt
      obtain ⟨adC, eC, q7⟩ := ints_at HR.out.1.con.c k q5
      obtain ⟨adD, eD, q8⟩ := ints_at HR.out.1.con.d k q6
      have hx := getD_in HX.out (by omega) k
      have hD := getD_in HPD.out (by omega) k
      have hC := getD_in HPC.out (by omega) k
      have HS : Hid (sumN (needF c (valsE c.A a) t) (k + 1) = u + needF c (valsE c.A a) t k) := Lib.hid (by rw [HT.out]; rfl)
      have hs : -(k * 1000000 : Int) ≤ u ∧ u ≤ k * 1000000 := by
        rw [HT.out]
        refine sumN_abs (b := 1000000) fun i hi => ?_
        have := getD_in HPD.out (by omega) i
        unfold needF
        split <;> omega
      have HF : Hid (needF c (valsE c.A a) t k = if decide ((valsE c.A a).getD k 0 ≤ t) && decide (t < (valsE c.A a).getD k 0 + c.C.getD k 0) then c.D.getD k 0 else 0) := Lib.hid rfl
      have w1 : IntKind.i64.wrap (t - (valsE c.A a).getD k 0) = t - (valsE c.A a).getD k 0 := IntWalk.i64_in _ (by omega)
      have w2 : IntKind.i64.wrap (u + c.D.getD k 0) = u + c.D.getD k 0 := IntWalk.i64_in _ (by omega)
      rw [eL] at h1
      rw [eC] at h3
      rw [eD] at h4
      rw [ea]
      generalize needF c (valsE c.A a) t k = f at HS HF
      generalize (valsE c.A a).getD k 0 = x at *
      generalize c.C.getD k 0 = cc at *
      generalize c.D.getD k 0 = dd at *
      clear eL eC eD ea HT
      have HD2 : Hid ((decide (t < x + cc)) = decide (t - x < cc)) := Lib.hid (by rw [Bool.eq_iff_iff]; simp; omega)
      rw [HD2.out] at HF
      clear HD2 hx hD hC hs
      cases g1 : decide (x ≤ t)
      · have HV : Hid (u = sumN (needF c (valsE c.A a) t) (k + 1)) := Lib.hid (by rw [HS.out, HF.out, g1]; simp)
        clear HS HF
        go_wp2_with fail
        go_roundw
        case rel => exact ⟨k + 1, _, rfl, by go_num, by omega, HV, HR⟩
        case measure => simp [intOf]; omega
      · cases g2 : decide (t - x < cc)
        · have HV : Hid (u = sumN (needF c (valsE c.A a) t) (k + 1)) := Lib.hid (by rw [HS.out, HF.out, g1, g2]; simp)
          clear HS HF
          go_wp2_with fail
          go_roundw
          case rel => exact ⟨k + 1, _, rfl, by go_num, by omega, HV, HR⟩
          case measure => simp [intOf]; omega
        · have HV : Hid (u + dd = sumN (needF c (valsE c.A a) t) (k + 1)) := Lib.hid (by rw [HS.out, HF.out, g1, g2]; simp)
          clear HS HF
          go_wp2_with fail
          go_roundw
          case rel => exact ⟨k + 1, _, rfl, by go_num, by omega, HV, HR⟩
          case measure => simp [intOf]; omega
    · have HV : Hid (u = RES) := Lib.hid (by rw [HE.out, HT.out, show k = v.a.n by omega])
      clear HT HE
      go_wp2_with fail
      go_ret
      exact ⟨by rw [← HV.out]; rfl, HR.out.2⟩

set_option maxHeartbeats 4000000 in
set_option maxRecDepth 100000 in
theorem rcum_any (v : ConV) (c : ConL) (y : Sl) (a : List Int) (w : World) (h : ConIn w v c) (hy : IsInts w y a) (r : ConR a.length c) (hk : c.kind = 19) (ba : ∀ v ∈ a, -1000000 ≤ v ∧ v ≤ 1000000) :
    Calls Tryz.prog 80 #[v.val c.kind c.K, .slice y.A y.n y.c] w fun e w' => e = .returned (.bool (noneN (cumP c (valsE c.A a)) (valsE c.A a).length)) ∧ Below w.heap.size w w' := by
  obtain ⟨wb, hwb⟩ : ∃ wb, cBox w v c.kind c.K = wb := ⟨_, rfl⟩
  have HR : Hid (RBox w.heap.size wb v c y a ∧ Below w.heap.size w wb) := Lib.hid (hwb ▸ ⟨RBox.start h hy, cBox_below _ _ _ _⟩)
  have HWB := Lib.hid hwb
  have HPA := Lib.hid r.pa
  have HX := Lib.hid (vals_le r.pa ba)
  have hn64 : v.a.n ≤ 64 := by rw [h.a.len]; exact r.a64
  have CR : Hid (∀ t W, ConIn W v c → IsInts W y a → -1000000 ≤ t ∧ t ≤ 1000000 → Calls Tryz.prog 135 #[v.val c.kind c.K, .slice y.A y.n y.c, .int .i64 t] W fun e w' => e = .returned (.int .i64 (needE c (valsE c.A a) t)) ∧ Below W.heap.size W w') := Lib.hid (fun t W h1 h2 h3 => rruns_any v c y a t W h1 h2 r hk ba h3)
  have HAN := Lib.hid (show (valsE c.A a).length = v.a.n by rw [h.a.len, vals_size])
  rw [HAN.out]
  obtain ⟨RES, hRES⟩ : ∃ R, R = noneN (cumP c (valsE c.A a)) v.a.n := ⟨_, rfl⟩
  rw [← hRES]
  have HE := Lib.hid hRES
  clear hwb h hy r hk hRES
  go_enter Tryz.func80, Tryz.ntmps80
  go_upto_region 1 with fail
  change Code.wp _ _ _ _ (cBox w v c.kind c.K)
  rw [HWB.out]
  clear HWB
  go_wp2_with fail
  go_loopw [5] (fun i wr => ∃ (k : Nat), i = .int .i64 (k : Nat) ∧ k ≤ v.a.n ∧ Hid (noTo (cumP c (valsE c.A a)) k) ∧ Hid (RBox w.heap.size wr v c y a ∧ Below w.heap.size w wr)) (fun i _ => v.a.n - (intOf i).toNat)
  case atStart => exact ⟨0, rfl, by omega, Lib.hid (noTo_zero _), HR⟩
  case round =>
    clear HR
    obtain ⟨k, rfl, hk, H0, HR⟩ := hrel
    have h1 := HR.out.1.c1
    by_cases hlt : k < v.a.n
    · obtain ⟨adL, ad, p, eL, ea, q1, q2, q3, q4⟩ := HR.out.1.at_ HPA.out k hlt
      have hx := getD_in HX.out (by omega) k
      have CC := Lib.hid (in_regrown' (w := wr) (fun W hW => CR.out ((valsE c.A a).getD k 0) W (HR.out.1.con.below hW) (HR.out.1.ints.below hW) hx))
      have HP : Hid (cumP c (valsE c.A a) k = decide (c.K < needE c (valsE c.A a) ((valsE c.A a).getD k 0))) := Lib.hid rfl
      have z0 := cell_regrown HR.out.1.c0
      have z1 := cell_regrown HR.out.1.c1
      have z2 := cell_regrown HR.out.1.c2
      have z3 := cell_regrown HR.out.1.c3
      have z4 := cell_regrown HR.out.1.c4
      have z5 := cell_regrown HR.out.1.c5
      have z6 := cell_regrown HR.out.1.c6
      have z7 := cell_regrown HR.out.1.c7
      have zq := cell_regrown q1
      have zr := cell_regrown q4
      generalize needE c (valsE c.A a) ((valsE c.A a).getD k 0) = nd at CC HP
      generalize (valsE c.A a).getD k 0 = x at *
      rw [eL] at z1 h1
      have CD := CC.out
      unfold ConV.val at CD
      rw [eL, ea] at CD
      have CC := Lib.hid CD
      rw [ea]
      clear eL ea CD
      go_upto_region 4 with fail
      refine wp_region_quiet_below (by kernel_rfl) (by kernel_rfl) ?_
      repeat (first | go_big_quiet_step (first | (go_at_call 135; with_reducible exact CC.out _ _)) | quiet_step (fail))
      refine wpQuiet_nil ?_
      intro _ hw'
      obtain ⟨⟨dq, osq⟩, hw''⟩ := hw'
      subst hw''
      have HR2 := Lib.hid (show RBox w.heap.size (grow (redrawn wr dq) osq) v c y a ∧ Below w.heap.size w (grow (redrawn wr dq) osq) from ⟨HR.out.1.below (below_regrown wr dq osq), HR.out.2.trans ((below_regrown wr dq osq).mono HR.out.2.size)⟩)
      generalize grow (redrawn wr dq) osq = w3 at *
      clear z0 z1 z2 z3 z4 z5 z6 z7 zq zr CC q1 q4 h1 hx
      have h6 := HR2.out.1.c6
      cases hz : decide (c.K < nd)
      · rw [hz] at HP
        have H1 := Lib.hid (noTo_step H0.out HP.out)
        clear H0 HP
        go_wp2_with fail
        go_roundw
        case rel => exact ⟨k + 1, by go_num, by omega, H1, HR2⟩
        case measure => simp [intOf]; omega
      · rw [hz] at HP
        have HV : Hid (RES = false) := Lib.hid (by rw [HE.out, none_no (k := k) hlt HP.out])
        clear H0 HP HE
        go_wp2_with fail
        go_ret
        exact ⟨ret_bool HV.out.symm, HR2.out.2⟩
    · have HV : Hid (RES = true) := Lib.hid (by rw [HE.out]; obtain rfl : k = v.a.n := by omega
                                                exact none_yes H0.out)
      clear H0 HE
      go_wp2_with fail
      go_ret
      exact ⟨ret_bool HV.out.symm, HR.out.2⟩
end Go.Proofs.YtkhmocbfkpbpfaaGreatDoor

/- Contracts of the document's Small (layer 2) and Same (layer 10): shared by layers 10 to 22. -/
namespace Go.Proofs.YtkhmocbfkpbpfaaGreatDoor
open Go.RowKit Go.Sort

/-- Numbers by a width. -/
def modW (wd : Int) (zs : List Int) (k : Nat) : List Int := (zs.take k).map fun z => z.tmod wd
/-- Small numbers, rising. -/
def smallW (zs : List Int) (most : Nat) (wd : Int) : List Int := ofL (modW wd zs most)
theorem modW_step (wd : Int) (zs : List Int) (k : Nat) (h : k < zs.length) : modW wd zs (k + 1) = modW wd zs k ++ [(zs.getD k 0).tmod wd] := by
  unfold modW
  rw [List.take_succ_eq_append_getElem h, List.map_append, List.getD_eq_getElem?_getD, List.getElem?_eq_getElem h]
  rfl
theorem modW_len (wd : Int) (zs : List Int) (k : Nat) : (modW wd zs k).length ≤ k := by simp [modW]; omega
theorem modW_mem {wd : Int} {zs : List Int} {k : Nat} {v : Int} (hw : 0 < wd) (h : v ∈ modW wd zs k) : -wd < v ∧ v < wd := by
  unfold modW at h
  obtain ⟨z, -, rfl⟩ := List.mem_map.1 h
  exact tmod_in z wd hw

set_option maxHeartbeats 2000000 in
set_option maxRecDepth 100000 in
theorem smallW_any (x : Sl) (zs : List Int) (most : Nat) (wd : Int) (w : World) (h : IsInts w x zs) (hm : most ≤ 1000) (hw : 1 ≤ wd ∧ wd ≤ 1000000) : Calls Tryz.prog 53 #[.slice x.A x.n x.c, .int .i64 (most : Nat), .int .i64 wd] w fun e w' => (∃ y : Sl, e = .returned (.slice y.A y.n y.c) ∧ Row3 w' w.heap.size y (smallW zs most wd)) ∧ Below w.heap.size w w' := by
  obtain ⟨i0, hi, hz0, hz1, hz2⟩ := info_parts Tryz.info3
  obtain ⟨A, n, c⟩ := x
  have Hn := Lib.hid h.len
  have H := Lib.hid h.lies
  have hbig := h.big
  simp only at Hn H hbig ⊢
  have hw0 : (wd == 0) = false := by simp; omega
  have hw1 : ¬ wd = 0 := by omega
  have HW := Lib.hid hw
  clear h hw
  go_enter Tryz.func53, Tryz.ntmps53
  go_wp2_with fail
  go_loopw [7, 8] (fun v i wr => ∃ k : Nat, k ≤ n ∧ k ≤ most ∧ i = .int .i64 (k : Nat) ∧ Hid (wr.ownsRow w.heap.size 3 1 v (modW wd zs k).length (I (modW wd zs k))) ∧ Hid (Below w.heap.size w wr)) (fun _ i _ => n - (intOf i).toNat)
  case atStart => exact ⟨0, Nat.zero_le _, Nat.zero_le _, rfl, Lib.hid (World.ownsRow_nil _ _ _ _), Lib.hid (Below.refl _ _)⟩
  case round =>
    obtain ⟨wo, rfl⟩ : ∃ wo, wo = wr := ⟨_, rfl⟩
    obtain ⟨k, hk, hk8, rfl, hown, hbr⟩ := hrel
    by_cases hlt : k < n ∧ k < most
    · obtain ⟨hl1, hl2⟩ := hlt
      obtain ⟨ad, rfl, hb, hcl⟩ := H.out (by omega)
      have ck : wo.cell? (ad.add k) = some (.int .i64 (zs.getD k 0)) := (hbr.out.cell (by rw [add_block]; exact hb)).trans (hcl k hl1)
      have hlen := modW_len wd zs k
      have Hstep := Lib.hid (modW_step wd zs k (by rw [← Hn.out]; exact hl1))
      have d1 : decide (k < n) = true := by simpa using hl1
      have d2 : decide (k < most) = true := by simpa using hl2
      have hki : (k : Int) < (n : Nat) := by omega
      generalize zs.getD k 0 = z at *
      have ht := tmod_in z wd (by have := HW.out; omega)
      have hwb : wd ≤ 1000000 := HW.out.2
      have w2 : IntKind.i64.wrap (z.tmod wd) = z.tmod wd := IntWalk.i64_in _ (by omega)
      have Z5 := Lib.hid hbr.out.size
      clear hcl hb ht hwb
      go_wp2_with (at_builtin; refine wpList_append_own _ rfl _ _ 30 rfl w.heap.size 3 i0 (.int .i64 0) 1 8 Tryz.underlying30 hi hz0 hz1 hz2 rfl (by decide) _ _ _ rfl (hown.out.alloc _) ⟨_, 0, none⟩ 1 1 [.int .i64 (z.tmod wd)] rfl rfl ?c1 ?c2 ?c3 ?c4 ?c5 ?_)
      case c1 => intro j u hj; match j, hj with | 0, hj => simp at hj; subst hj; simp [Addr.add]
      case c2 => intro u hu; simp at hu; subst hu; rfl
      case c3 => unfold maxLen; omega
      case c4 => omega
      case c5 => have := Z5.out; simp; omega
      intro v' w2 hown' hgrow _
      have hb2 := Lib.hid (show Below w.heap.size w w2 from by
        have hs := hbr.out.size
        exact (hbr.out.alloc (by omega) _).grown hgrow (by simp; omega) (fun k hk => own_ge hown.out k hk))
      rw [← I_one, ← I_append, show (modW wd zs k).length + 1 = (modW wd zs k ++ [z.tmod wd]).length by simp, ← Hstep.out] at hown'
      have HO2 := Lib.hid hown'
      clear hown hgrow hbr hown' hlen
      go_wp2_with fail
      go_roundw
      case rel => exact ⟨k + 1, by omega, by omega, by go_num, HO2, hb2⟩
      case measure => simp [intOf]; omega
    · have hfin : modW wd zs k = modW wd zs most := by
        unfold modW
        by_cases h8 : k = most
        · rw [h8]
        · rw [List.take_of_length_le (by rw [← Hn.out]; omega), List.take_of_length_le (by rw [← Hn.out]; omega)]
      rw [hfin] at hown
      obtain ⟨A', c', e, hl, -⟩ := own_lies hown.out
      subst e
      have HO := Lib.hid (refof_any A' (modW wd zs most) _ c' wo rfl hl (by have := modW_len wd zs most; omega))
      have HB := hbr
      by_cases hl1 : k < n
      · have d1 : decide (k < n) = true := by simpa using hl1
        have d2 : decide (k < most) = false := by simp; omega
        clear hfin hown hl hbr hlt hl1
        go_wp2_with fail
        refine HO.out.mono ?_
        rintro e w2 ⟨v, rfl, ho, hb2⟩
        obtain ⟨Y, cY, rfl⟩ := slice_row ho
        have HF := Lib.hid (own_base ho HB.out.size)
        have BF := Lib.hid (HB.out.trans (hb2.mono HB.out.size))
        clear ho hb2
        go_wp2_with fail
        go_ret
        exact ⟨⟨⟨Y, _, cY⟩, rfl, HF.out⟩, BF.out⟩
      · have d1 : decide (k < n) = false := by simpa using hl1
        clear hfin hown hl hbr hlt hl1
        go_wp2_with fail
        refine HO.out.mono ?_
        rintro e w2 ⟨v, rfl, ho, hb2⟩
        obtain ⟨Y, cY, rfl⟩ := slice_row ho
        have HF := Lib.hid (own_base ho HB.out.size)
        have BF := Lib.hid (HB.out.trans (hb2.mono HB.out.size))
        clear ho hb2
        go_wp2_with fail
        go_ret
        exact ⟨⟨⟨Y, _, cY⟩, rfl, HF.out⟩, BF.out⟩

/-! Same -/
theorem eqN_all {s X : List Int} : eqN s X X.length = true → s.length = X.length → s = X := fun h hl => by
  have := eqN_eq hl
  rw [this] at h
  simpa using h
/-- Are the first so many rows alike? -/
def rowsN (R S : List (List Int)) : Nat → Bool
  | 0 => true
  | k + 1 => rowsN R S k && R.getD k [] == S.getD k []
theorem rowsN_iff (R S : List (List Int)) (k : Nat) : rowsN R S k = true ↔ ∀ j, j < k → R.getD j [] = S.getD j [] := by
  induction k with
  | zero => simp [rowsN]
  | succ k ih =>
    rw [rowsN, Bool.and_eq_true, ih, beq_iff_eq]
    constructor
    · rintro ⟨h1, h2⟩ j hj
      by_cases h : j < k
      · exact h1 j h
      · obtain rfl : j = k := by omega
        exact h2
    · exact fun h => ⟨fun j hj => h j (by omega), h k (by omega)⟩
theorem rows_ext {R S : List (List Int)} (h : R.length = S.length) (hj : ∀ j, j < R.length → R.getD j [] = S.getD j []) : R = S := by
  apply List.ext_getElem h
  intro i h1 h2
  have := hj i h1
  rw [List.getD_eq_getElem?_getD, List.getD_eq_getElem?_getD, List.getElem?_eq_getElem h1, List.getElem?_eq_getElem h2] at this
  exact this

set_option maxHeartbeats 4000000 in
set_option maxRecDepth 100000 in
theorem same2_any (x y : Sl) (R S : List (List Int)) (w : World) (hx : IsRows w x R) (hy : IsRows w y S) :
    Calls Tryz.prog 21 #[.slice x.A x.n x.c, .slice y.A y.n y.c] w fun e w' => e = .returned (.bool (R == S)) ∧ Below w.heap.size w w' := by
  have HX := Lib.hid hx
  have HY := Lib.hid hy
  have hbx := hx.big
  have hby := hy.big
  obtain ⟨RES, hRES⟩ : ∃ B, B = (R == S) := ⟨_, rfl⟩
  rw [← hRES]
  have HE := Lib.hid hRES
  clear hx hy hRES
  by_cases hl : x.n = y.n
  · have HLN := Lib.hid hl
    have hn : (((x.n : Nat) : Int) != ((y.n : Nat) : Int)) = false := by simp [hl]
    have HBAD : Hid (∀ k, k < x.n → ∀ j, j < (R.getD k []).length → (R.getD k []).getD j 0 ≠ (S.getD k []).getD j 0 → RES = false) := Lib.hid (fun k hk j hj hne => by
      rw [HE.out]
      simp only [beq_eq_false_iff_ne]
      rintro rfl
      exact hne rfl)
    have HBADL : Hid (∀ k, k < x.n → (R.getD k []).length ≠ (S.getD k []).length → RES = false) := Lib.hid (fun k hk hne => by
      rw [HE.out]
      simp only [beq_eq_false_iff_ne]
      rintro rfl
      exact hne rfl)
    have HFIN : Hid (rowsN R S x.n = true → RES = true) := Lib.hid (fun h => by
      rw [HE.out, beq_iff_eq]
      exact rows_ext (by rw [← HX.out.len, ← HY.out.len, HLN.out]) (fun j hj => (rowsN_iff R S x.n).1 h j (by rw [HX.out.len]; exact hj)))
    clear hl
    go_enter Tryz.func21, Tryz.ntmps21
    go_wp2_with fail
    go_loopw [5] (fun i wr => ∃ k : Nat, i = .int .i64 (k : Nat) ∧ k ≤ x.n ∧ Hid (rowsN R S k = true) ∧ Hid (Below w.heap.size w wr)) (fun i _ => x.n - (intOf i).toNat)
    case atStart => exact ⟨0, rfl, by omega, Lib.hid rfl, Lib.hid (Below.refl _ _)⟩
    case round =>
      obtain ⟨k, rfl, hk, H0, HB⟩ := hrel
      obtain ⟨wo, rfl⟩ : ∃ wo, wo = wr := ⟨_, rfl⟩
      by_cases hlt : k < x.n
      · obtain ⟨ad, u, ex, qx, ux⟩ := rows_at (HX.out.below HB.out) k hlt
        obtain ⟨bd, v, ey, qy, vy⟩ := rows_at (HY.out.below HB.out) k (by rw [← HLN.out]; exact hlt)
        have hky : k < y.n := by have := HLN.out; omega
        have EX := Lib.hid ex
        have EY := Lib.hid ey
        rw [ex, ey]
        have UX := Lib.hid ux
        have VY := Lib.hid vy
        have hbu := ux.big
        have hbv := vy.big
        clear ex ey ux vy
        go_upto_region 6 with fail
        go_quiet (fail)
        have HB2 := Lib.hid (below_drewN HB.out nq)
        have QX := Lib.hid (show (wo.drewN nq).cell? (ad.add k) = some (.slice u.A u.n u.c) from qx)
        have QY := Lib.hid (show (wo.drewN nq).cell? (bd.add k) = some (.slice v.A v.n v.c) from qy)
        have UX2 := Lib.hid (UX.out.below (below_drewN (Below.refl _ _) nq))
        have VY2 := Lib.hid (VY.out.below (below_drewN (Below.refl _ _) nq))
        generalize wo.drewN nq = w3 at *
        clear qx qy UX VY HB
        by_cases hul : u.n = v.n
        · have hn2 : (((u.n : Nat) : Int) != ((v.n : Nat) : Int)) = false := by simp [hul]
          have HUV := Lib.hid hul
          clear hul
          go_wp2_with fail
          go_loopw [6] (fun i wr => ∃ j : Nat, i = .int .i64 (j : Nat) ∧ j ≤ u.n ∧ Hid (eqN (R.getD k []) (S.getD k []) j = true) ∧ Hid (Below w3.heap.size w3 wr)) (fun i _ => u.n - (intOf i).toNat)
          case atStart => exact ⟨0, rfl, by omega, Lib.hid rfl, Lib.hid (Below.refl _ _)⟩
          case round =>
            obtain ⟨j, rfl, hj, H1, HB3⟩ := hrel
            have q1 : wr.cell? (ad.add k) = some (.slice u.A u.n u.c) := (HB3.out.cell (lt_of_cell QX.out)).trans QX.out
            by_cases hlj : j < u.n
            · have q2 : wr.cell? (bd.add k) = some (.slice v.A v.n v.c) := (HB3.out.cell (lt_of_cell QY.out)).trans QY.out
              have hjv : j < v.n := by have := HUV.out; omega
              obtain ⟨a1, ea1, q3⟩ := ints_at (UX2.out.below HB3.out) j hlj
              obtain ⟨b1, eb1, q4⟩ := ints_at (VY2.out.below HB3.out) j hjv
              rw [ea1] at q1
              rw [eb1] at q2
              have HST : Hid (eqN (R.getD k []) (S.getD k []) (j + 1) = ((R.getD k []).getD j 0 == (S.getD k []).getD j 0)) := Lib.hid (by rw [eqN, H1.out, Bool.true_and])
              have HNO : Hid ((R.getD k []).getD j 0 ≠ (S.getD k []).getD j 0 → RES = false) := Lib.hid (HBAD.out k hlt j (by rw [← UX2.out.len]; exact hlj))
              generalize (R.getD k []).getD j 0 = z1 at q3 HST HNO
              generalize (S.getD k []).getD j 0 = z2 at q4 HST HNO
              clear ea1 eb1 H1
              by_cases hz : z1 = z2
              · have e1 : (z1 != z2) = false := by simp [hz]
                have H2 : Hid (eqN (R.getD k []) (S.getD k []) (j + 1) = true) := Lib.hid (by rw [HST.out]; simp [hz])
                clear hz HST HNO
                go_upto_region 11 with fail
                go_quiet (fail)
                have HB4 := Lib.hid (below_drewN HB3.out nq)
                generalize wr.drewN nq = w4 at *
                go_wp2_with fail
                go_roundw
                case rel => exact ⟨j + 1, by go_num, by omega, H2, HB4⟩
                case measure => simp [intOf]; omega
              · have e1 : (z1 != z2) = true := by simp [hz]
                have HF := Lib.hid (HNO.out hz)
                clear hz HST HNO
                go_upto_region 11 with fail
                go_quiet (fail)
                have HB4 := Lib.hid (HB2.out.trans ((below_drewN HB3.out nq).mono HB2.out.size))
                generalize wr.drewN nq = w4 at *
                go_wp2_with fail
                go_ret
                exact ⟨ret_bool HF.out.symm, HB4.out⟩
            · have H2 : Hid (rowsN R S (k + 1) = true) := Lib.hid (by
                rw [rowsN, H0.out, Bool.true_and, beq_iff_eq]
                have hlen : (R.getD k []).length = (S.getD k []).length := by rw [← UX2.out.len, ← VY2.out.len, HUV.out]
                refine eqN_all ?_ hlen
                rw [← hlen, ← UX2.out.len, show u.n = j by omega]
                exact H1.out)
              have HB4 := Lib.hid (HB2.out.trans (HB3.out.mono HB2.out.size))
              clear H1 HB3
              go_wp2_with fail
              go_roundw
              case rel => exact ⟨k + 1, by go_num, by omega, H2, HB4⟩
              case measure => simp [intOf]; omega
        · have hn2 : (((u.n : Nat) : Int) != ((v.n : Nat) : Int)) = true := by simp; omega
          have HF := Lib.hid (HBADL.out k hlt (by rw [← UX2.out.len, ← VY2.out.len]; exact hul))
          clear hul
          go_wp2_with fail
          go_ret
          exact ⟨ret_bool HF.out.symm, HB2.out⟩
      · have HF := Lib.hid (HFIN.out (by have := H0.out; rwa [show k = x.n by omega] at this))
        clear H0
        go_wp2_with fail
        go_ret
        exact ⟨ret_bool HF.out.symm, HB.out⟩
  · have hn : (((x.n : Nat) : Int) != ((y.n : Nat) : Int)) = true := by simp; omega
    have HF : Hid (RES = false) := Lib.hid (by
      rw [HE.out]
      simp only [beq_eq_false_iff_ne]
      rintro rfl
      exact hl (by rw [HX.out.len, HY.out.len]))
    clear hl
    go_enter Tryz.func21, Tryz.ntmps21
    go_wp2_with fail
    go_ret
    exact ⟨ret_bool HF.out.symm, Below.refl _ _⟩
end Go.Proofs.YtkhmocbfkpbpfaaGreatDoor
