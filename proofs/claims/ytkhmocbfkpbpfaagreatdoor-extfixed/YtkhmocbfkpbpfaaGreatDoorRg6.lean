/- Contracts: the document's gcc, circuit. -/
import Derived.Test.YtkhmocbfkpbpfaaGreatDoorSh1
namespace Go.Proofs.YtkhmocbfkpbpfaaGreatDoor
open Go.RowKit Go.Sort

set_option maxHeartbeats 4000000 in
set_option maxRecDepth 100000 in
theorem rgcc_any (v : ConV) (c : ConL) (y : Sl) (a : List Int) (w : World) (h : ConIn w v c) (hy : IsInts w y a) (r : ConR a.length c) (hk : c.kind = 21) :
    Calls Tryz.prog 82 #[v.val c.kind c.K, .slice y.A y.n y.c] w fun e w' => e = .returned (.bool (noneN (gccP c (valsE c.A a)) c.C.length)) ∧ Below w.heap.size w w' := by
  obtain ⟨wb, hwb⟩ : ∃ wb, cBox w v c.kind c.K = wb := ⟨_, rfl⟩
  have HR : Hid (RBox w.heap.size wb v c y a ∧ Below w.heap.size w wb) := Lib.hid (hwb ▸ ⟨RBox.start h hy, cBox_below _ _ _ _⟩)
  have HWB := Lib.hid hwb
  have HPA := Lib.hid r.pa
  have hn64 : v.a.n ≤ 64 := by rw [h.a.len]; exact r.a64
  have hc64 : v.c.n ≤ 64 := by rw [h.c.len]; exact r.c64
  have HDN := Lib.hid (show v.d.n = v.c.n by rw [h.d.len, h.c.len]; exact (r.gcc hk).1)
  have HEN := Lib.hid (show v.e.n = v.c.n by rw [h.e.len, h.c.len]; exact (r.gcc hk).2)
  have HAN := Lib.hid (show (valsE c.A a).length = v.a.n by rw [h.a.len, vals_size])
  have HCN := Lib.hid (show c.C.length = v.c.n by rw [h.c.len])
  rw [HCN.out]
  obtain ⟨RES, hRES⟩ : ∃ R, R = noneN (gccP c (valsE c.A a)) v.c.n := ⟨_, rfl⟩
  rw [← hRES]
  have HE := Lib.hid hRES
  clear hwb h hy r hk hRES
  go_enter Tryz.func82, Tryz.ntmps82
  go_upto_region 1 with fail
  change Code.wp _ _ _ _ (cBox w v c.kind c.K)
  rw [HWB.out]
  clear HWB
  go_wp2_with fail
  go_loopw [5] (fun i wr => ∃ (k : Nat), i = .int .i64 (k : Nat) ∧ k ≤ v.c.n ∧ Hid (noTo (gccP c (valsE c.A a)) k) ∧ Hid (RBox w.heap.size wr v c y a ∧ Below w.heap.size w wr)) (fun i _ => v.c.n - (intOf i).toNat)
  case atStart => exact ⟨0, rfl, by omega, Lib.hid (noTo_zero _), HR⟩
  case round =>
    clear HR
    obtain ⟨k, rfl, hk, H0, HR⟩ := hrel
    obtain ⟨wo, rfl⟩ : ∃ wo, wo = wr := ⟨_, rfl⟩
    have h3 := HR.out.1.c3
    by_cases hlt : k < v.c.n
    · have h1 := HR.out.1.c1
      obtain ⟨z, hz⟩ : ∃ z, z = c.C.getD k 0 := ⟨_, rfl⟩
      have HZ := Lib.hid hz
      clear hz
      go_wp2_with fail
      go_loopw [6, 7] (fun s i wr => ∃ (j : Nat) (t : Int), s = .int .i64 t ∧ i = .int .i64 (j : Nat) ∧ j ≤ v.a.n ∧ Hid (t = sumN (fun i => oneIf ((valsE c.A a).getD i 0 == z)) j) ∧ Hid (RBox w.heap.size wr v c y a ∧ Below w.heap.size w wr)) (fun _ i _ => v.a.n - (intOf i).toNat)
      case atStart => exact ⟨0, 0, rfl, rfl, by omega, Lib.hid rfl, HR⟩
      case round =>
        clear HR h3 h1
        obtain ⟨j, t, rfl, rfl, hj, HT, HR⟩ := hrel
        have h1 := HR.out.1.c1
        by_cases hlj : j < v.a.n
        · have h3 := HR.out.1.c3
          obtain ⟨adL, ad, p, eL, ea, q1, q2, q3, q4⟩ := HR.out.1.at_ HPA.out j hlj
          obtain ⟨adC, eC, q5⟩ := ints_at HR.out.1.con.c k hlt
          rw [← HZ.out] at q5
          rw [eL] at h1
          rw [eC] at h3
          rw [ea]
          have hs := sumN_one (f := fun i => oneIf ((valsE c.A a).getD i 0 == z)) (n := j) (fun i _ => oneIf_in _)
          rw [← HT.out] at hs
          have HT2 : Hid (t + oneIf ((valsE c.A a).getD j 0 == z) = sumN (fun i => oneIf ((valsE c.A a).getD i 0 == z)) (j + 1)) := Lib.hid (by rw [HT.out]; rfl)
          have w1 : IntKind.i64.wrap (t + 1) = t + 1 := IntWalk.i64_in _ (by omega)
          clear hs HT eL eC ea
          generalize (valsE c.A a).getD j 0 = x at *
          cases hz : (x == z)
          · rw [hz] at HT2
            have HT3 : Hid (t = sumN (fun i => oneIf ((valsE c.A a).getD i 0 == z)) (j + 1)) := Lib.hid (by have := HT2.out; unfold oneIf at this ⊢; simpa using this)
            clear HT2
            go_upto_region 8 with fail
            go_quiet (fail)
            have HR2 := Lib.hid (show RBox w.heap.size (wr.drewN nq) v c y a ∧ Below w.heap.size w (wr.drewN nq) from ⟨HR.out.1.below (below_drewN (Below.refl _ _) nq), below_drewN HR.out.2 nq⟩)
            generalize wr.drewN nq = w3 at *
            go_wp2_with fail
            go_roundw
            case rel => exact ⟨j + 1, _, rfl, by go_num, by omega, HT3, HR2⟩
            case measure => simp [intOf]; omega
          · rw [hz] at HT2
            have HT3 : Hid (t + 1 = sumN (fun i => oneIf ((valsE c.A a).getD i 0 == z)) (j + 1)) := Lib.hid (by have := HT2.out; unfold oneIf at this ⊢; simpa using this)
            clear HT2
            go_upto_region 8 with fail
            go_quiet (fail)
            have HR2 := Lib.hid (show RBox w.heap.size (wr.drewN nq) v c y a ∧ Below w.heap.size w (wr.drewN nq) from ⟨HR.out.1.below (below_drewN (Below.refl _ _) nq), below_drewN HR.out.2 nq⟩)
            generalize wr.drewN nq = w3 at *
            go_wp2_with fail
            go_roundw
            case rel => exact ⟨j + 1, _, rfl, by go_num, by omega, HT3, HR2⟩
            case measure => simp [intOf]; omega
        · have h4 := HR.out.1.c4
          have h5 := HR.out.1.c5
          have q5 : k < v.d.n := by rw [HDN.out]; exact hlt
          have q6 : k < v.e.n := by rw [HEN.out]; exact hlt
          obtain ⟨adD, eD, q7⟩ := ints_at HR.out.1.con.d k q5
          obtain ⟨adE, eE, q8⟩ := ints_at HR.out.1.con.e k q6
          rw [eD] at h4
          rw [eE] at h5
          have HP : Hid (gccP c (valsE c.A a) k = (decide (t < c.D.getD k 0) || decide (c.E.getD k 0 < t))) := Lib.hid (by
            unfold gccP
            rw [count_eq, ← HZ.out, HAN.out, HT.out, show j = v.a.n by omega])
          generalize c.D.getD k 0 = dd at *
          generalize c.E.getD k 0 = ee at *
          clear eD eE HT
          cases g1 : decide (t < dd)
          · cases g2 : decide (ee < t)
            · have H1 := Lib.hid (noTo_step H0.out (by rw [HP.out, g1, g2]; rfl))
              clear H0 HP
              go_wp2_with fail
              go_roundw
              case rel => exact ⟨k + 1, by go_num, by omega, H1, HR⟩
              case measure => simp [intOf]; omega
            · have HV : Hid (RES = false) := Lib.hid (by rw [HE.out, none_no (k := k) hlt (by rw [HP.out, g1, g2]; rfl)])
              clear H0 HP HE
              go_wp2_with fail
              go_ret
              exact ⟨ret_bool HV.out.symm, HR.out.2⟩
          · have HV : Hid (RES = false) := Lib.hid (by rw [HE.out, none_no (k := k) hlt (by rw [HP.out, g1]; rfl)])
            clear H0 HP HE
            go_wp2_with fail
            go_ret
            exact ⟨ret_bool HV.out.symm, HR.out.2⟩
    · have HV : Hid (RES = true) := Lib.hid (by rw [HE.out]; obtain rfl : k = v.c.n := by omega
                                                exact none_yes H0.out)
      clear H0 HE
      go_wp2_with fail
      go_ret
      exact ⟨ret_bool HV.out.symm, HR.out.2⟩

/-! circuit -/
/-- The places gone through, as the document says. -/
def circF (x : List Int) (n : Nat) : Nat → Nat → List Bool → Bool
  | 0, q, _ => q == 0
  | k + 1, q, ms => if placeB (x.getD q 0) n = false then false else if ms.getD ((x.getD q 0).toNat - 1) false = true then false else circF x n k ((x.getD q 0).toNat - 1) (ms.set ((x.getD q 0).toNat - 1) true)
def nxP (x : List Int) (q : Nat) : Nat := (x.getD q 0).toNat - 1
def pathP (x : List Int) : Nat → Nat
  | 0 => 0
  | k + 1 => nxP x (pathP x k)
theorem path_shift (x : List Int) {i j : Nat} (h : pathP x i = pathP x j) (d : Nat) : pathP x (i + d) = pathP x (j + d) := by
  induction d with
  | zero => exact h
  | succ d ih => show nxP x (pathP x (i + d)) = nxP x (pathP x (j + d)); rw [ih]
theorem placeB_iff (v n : Int) : placeB v n = true ↔ 1 ≤ v ∧ v ≤ n := by unfold placeB; simp
theorem round_iff (x : List Int) (n : Nat) (hx : x.length = n) (k s : Nat) (hs : s + k = n) :
    roundF x k s ((pathP x s : Nat) + 1 : Int) = true ↔ (∀ j, s ≤ j → j < n → placeB (x.getD (pathP x j) 0) n = true) ∧ (∀ j, s < j → j < n → pathP x j ≠ 0) ∧ s < n ∧ pathP x n = 0 := by
  induction k generalizing s with
  | zero =>
    rw [roundF]
    constructor
    · intro h; cases h
    · rintro ⟨-, -, h, -⟩; omega
  | succ k ih =>
    rw [roundF]
    have ea : atE x ((pathP x s : Nat) + 1 - 1 : Int) = x.getD (pathP x s) 0 := by unfold atE; simp
    rw [ea, hx]
    by_cases h0 : placeB (x.getD (pathP x s) 0) n = true
    · rw [if_neg (by rw [h0]; simp)]
      have hb := (placeB_iff _ _).1 h0
      have hn : pathP x (s + 1) = (x.getD (pathP x s) 0).toNat - 1 := rfl
      by_cases h1 : x.getD (pathP x s) 0 = 1
      · rw [if_pos h1]
        have hp : pathP x (s + 1) = 0 := by rw [hn, h1]; rfl
        rw [beq_iff_eq]
        constructor
        · intro e
          refine ⟨fun j a b => ?_, fun j a b => by omega, by omega, by rw [← e]; exact hp⟩
          obtain rfl : j = s := by omega
          exact h0
        · rintro ⟨-, h2, h3, -⟩
          apply Decidable.byContradiction
          intro h4
          exact h2 (s + 1) (by omega) (by omega) hp
      · rw [if_neg h1]
        have e2 : x.getD (pathP x s) 0 = ((pathP x (s + 1) : Nat) + 1 : Int) := by rw [hn]; omega
        rw [e2, ih (s + 1) (by omega)]
        constructor
        · rintro ⟨a1, a2, a3, a4⟩
          refine ⟨fun j u v => ?_, fun j u v => ?_, by omega, a4⟩
          · by_cases e : j = s
            · subst e; exact h0
            · exact a1 j (by omega) v
          · by_cases e : j = s + 1
            · subst e; rw [hn]; omega
            · exact a2 j (by omega) v
        · rintro ⟨a1, a2, a3, a4⟩
          have : s + 1 ≠ n := by
            intro e
            rw [← e, hn] at a4
            omega
          exact ⟨fun j u v => a1 j (by omega) v, fun j u v => a2 j (by omega) v, by omega, a4⟩
    · have h0' : placeB (x.getD (pathP x s) 0) n = false := by simpa using h0
      rw [if_pos h0']
      constructor
      · intro h; cases h
      · rintro ⟨a1, -⟩
        exact absurd (a1 s (by omega) (by omega)) h0
theorem getD_set_true (ms : List Bool) (q i : Nat) (hq : q < ms.length) : (ms.set q true).getD i false = true ↔ i = q ∨ ms.getD i false = true := by
  rw [List.getD_eq_getElem?_getD, List.getElem?_set]
  by_cases h : q = i
  · subst h
    rw [if_pos rfl, if_pos hq]
    simp
  · rw [if_neg h, ← List.getD_eq_getElem?_getD]
    constructor
    · exact .inr
    · rintro (e | e)
      · exact absurd e.symm h
      · exact e
theorem circ_iff (x : List Int) (n : Nat) (k s : Nat) (hs : s + k = n) (ms : List Bool) (hl : ms.length = n) (hm : ∀ q, ms.getD q false = true ↔ ∃ j, 1 ≤ j ∧ j ≤ s ∧ pathP x j = q) :
    circF x n k (pathP x s) ms = true ↔ (∀ j, s ≤ j → j < n → placeB (x.getD (pathP x j) 0) n = true) ∧ (∀ j, s < j → j ≤ n → ∀ i, 1 ≤ i → i < j → pathP x i ≠ pathP x j) ∧ pathP x n = 0 := by
  induction k generalizing s ms with
  | zero =>
    obtain rfl : s = n := by omega
    rw [circF, beq_iff_eq]
    constructor
    · exact fun h => ⟨fun j a b => by omega, fun j a b => by omega, h⟩
    · exact fun h => h.2.2
  | succ k ih =>
    rw [circF]
    by_cases h0 : placeB (x.getD (pathP x s) 0) n = true
    · rw [if_neg (by rw [h0]; simp)]
      have hb := (placeB_iff _ _).1 h0
      have hn : (x.getD (pathP x s) 0).toNat - 1 = pathP x (s + 1) := rfl
      rw [hn]
      have hlt : pathP x (s + 1) < n := by rw [← hn]; omega
      by_cases h1 : ms.getD (pathP x (s + 1)) false = true
      · rw [if_pos h1]
        obtain ⟨j, j1, j2, j3⟩ := (hm _).1 h1
        constructor
        · intro h; cases h
        · rintro ⟨-, a2, -⟩
          exact absurd j3 (a2 (s + 1) (by omega) (by omega) j j1 (by omega))
      · rw [if_neg h1, ih (s + 1) (by omega) _ (by rw [List.length_set]; exact hl) (fun q => by
          rw [getD_set_true _ _ _ (by omega), hm q]
          constructor
          · rintro (e | ⟨j, j1, j2, j3⟩)
            · exact ⟨s + 1, by omega, by omega, e.symm⟩
            · exact ⟨j, j1, by omega, j3⟩
          · rintro ⟨j, j1, j2, j3⟩
            by_cases e : j = s + 1
            · subst e; exact .inl j3.symm
            · exact .inr ⟨j, j1, by omega, j3⟩)]
        constructor
        · rintro ⟨a1, a2, a3⟩
          refine ⟨fun j u v => ?_, fun j u v => ?_, a3⟩
          · by_cases e : j = s
            · subst e; exact h0
            · exact a1 j (by omega) v
          · by_cases e : j = s + 1
            · subst e
              intro i i1 i2 i3
              exact h1 ((hm _).2 ⟨i, i1, by omega, i3⟩)
            · exact a2 j (by omega) v
        · rintro ⟨a1, a2, a3⟩
          exact ⟨fun j u v => a1 j (by omega) v, fun j u v => a2 j (by omega) v, a3⟩
    · have h0' : placeB (x.getD (pathP x s) 0) n = false := by simpa using h0
      rw [if_pos h0']
      constructor
      · intro h; cases h
      · rintro ⟨a1, -⟩
        exact absurd (a1 s (by omega) (by omega)) h0
theorem circ_round (x : List Int) (n : Nat) (hx : x.length = n) (h1 : 1 ≤ n) : circF x n n 0 (List.replicate n false) = roundF x n 0 1 := by
  have e1 := round_iff x n hx n 0 (by omega)
  have e2 := circ_iff x n n 0 (by omega) (List.replicate n false) (by simp) (fun q => by
    constructor
    · intro h
      rw [List.getD_eq_getElem?_getD, List.getElem?_replicate] at h
      split at h <;> simp at h
    · rintro ⟨j, j1, j2, -⟩; omega)
  have e3 : ((pathP x 0 : Nat) + 1 : Int) = 1 := rfl
  rw [e3] at e1
  show circF x n n (pathP x 0) _ = _
  rw [Bool.eq_iff_iff, e1, e2]
  constructor
  · rintro ⟨a1, a2, a3⟩
    exact ⟨a1, fun j u v e => a2 n (by omega) (by omega) j (by omega) v (by rw [e, a3]), by omega, a3⟩
  · rintro ⟨a1, a2, a3, a4⟩
    refine ⟨a1, fun j u v i i1 i2 i3 => ?_, a4⟩
    have := path_shift x i3 (n - j)
    rw [show j + (n - j) = n by omega, a4] at this
    exact a2 (i + (n - j)) (by omega) (by omega) this

abbrev BV (ms : List Bool) : List Value := ms.map Value.bool
theorem infoBool4 : (Tryz.prog.info? 4).map (fun i => (i.zero, i.size, i.bytes)) = some (some (.bool false), 1, 1) := by kernel_rfl

set_option maxHeartbeats 4000000 in
set_option maxRecDepth 100000 in
theorem rcirc_any (v : ConV) (c : ConL) (y : Sl) (a : List Int) (w : World) (h : ConIn w v c) (hy : IsInts w y a) (r : ConR a.length c) (hk : c.kind = 20) :
    Calls Tryz.prog 81 #[v.val c.kind c.K, .slice y.A y.n y.c] w fun e w' => e = .returned (.bool (roundF (valsE c.A a) (valsE c.A a).length 0 1)) ∧ Below w.heap.size w w' := by
  obtain ⟨wb, hwb⟩ : ∃ wb, cBox w v c.kind c.K = wb := ⟨_, rfl⟩
  have HR : Hid (RBox w.heap.size wb v c y a ∧ Below w.heap.size w wb) := Lib.hid (hwb ▸ ⟨RBox.start h hy, cBox_below _ _ _ _⟩)
  have HWB := Lib.hid hwb
  have HPA := Lib.hid r.pa
  have HAN := Lib.hid (show (valsE c.A a).length = v.a.n by rw [h.a.len, vals_size])
  have hn1 : 1 ≤ v.a.n := by rw [h.a.len]; exact r.a1 (by omega)
  have hn64 : v.a.n ≤ 64 := by rw [h.a.len]; exact r.a64
  rw [HAN.out, ← circ_round _ _ HAN.out hn1]
  obtain ⟨RES, hRES⟩ : ∃ R, R = circF (valsE c.A a) v.a.n v.a.n 0 (List.replicate v.a.n false) := ⟨_, rfl⟩
  rw [← hRES]
  have HE := Lib.hid hRES
  obtain ⟨n, hn⟩ : ∃ n, v.a.n = n := ⟨_, rfl⟩
  rw [hn] at HE HAN hn1 hn64
  have HNN := Lib.hid hn
  obtain ⟨i0, hi, hz0, hz1, hz2⟩ := info_parts infoBool4
  have hmk : (Instr.makeSlice 115 (.int .i64 (n : Nat)) (.int .i64 (n : Nat))).run Tryz.prog wb = .ok (.slice (some ⟨wb.heap.size, 0, none⟩) n n) (wb.alloc (.cells (madeCells #[.bool false] n) 4)) := by
    have := run_make (P := Tryz.prog) wb 115 4 i0 (.bool false) Tryz.underlying115 hi hz0 .i64 .i64 (n : Nat) (n : Nat) (by omega) (by omega) (by rw [hz2]; omega) (by omega)
    rw [this, hz1]
    simp [Value.cells]
  have hrow : (wb.alloc (.cells (madeCells #[.bool false] n) 4)).ownsRow wb.heap.size 4 1 (.slice (some ⟨wb.heap.size, 0, none⟩) n n) n (BV (List.replicate n false)) := by
    have := World.ownsRow_lit (base := wb.heap.size) (e := 4) (size := 1) wb (madeCells #[Value.bool false] n) n (Nat.le_refl _) (by unfold maxLen; omega) (by simp [madeCells])
    rw [toList_madeCells_one] at this
    simpa [BV] using this
  have HROW := Lib.hid hrow
  have d1 := HR.out.1.c1
  rw [hn] at d1
  clear hwb h hy r hk hRES hi hz0 hz1 hz2 hrow hn
  go_enter Tryz.func81, Tryz.ntmps81
  go_upto_region 1 with fail
  change Code.wp _ _ _ _ (cBox w v c.kind c.K)
  rw [HWB.out]
  clear HWB
  go_wp2_with fail
  clear d1 hmk
  go_loopw [7, 8] (fun s i wr => ∃ (k q : Nat) (ms : List Bool), s = .int .i64 (q : Nat) ∧ i = .int .i64 (k : Nat) ∧ k ≤ n ∧ q < n ∧ Hid (ms.length = n) ∧ Hid (RES = circF (valsE c.A a) n (n - k) q ms) ∧ Hid (wr.ownsRow wb.heap.size 4 1 (.slice (some ⟨wb.heap.size, 0, none⟩) n n) n (BV ms)) ∧ Hid (Below wb.heap.size wb wr)) (fun _ i _ => n - (intOf i).toNat)
  case atStart => exact ⟨0, 0, _, rfl, rfl, by omega, by omega, Lib.hid (by simp), HE, HROW, Lib.hid (below1 _ _)⟩
  case round =>
    clear HROW
    obtain ⟨k, q, ms, rfl, rfl, hk, hq, HL, HV, HO, HB⟩ := hrel
    have HF : Hid (RBox w.heap.size wr v c y a ∧ Below w.heap.size w wr) := Lib.hid ⟨HR.out.1.below HB.out, HR.out.2.trans (HB.out.mono HR.out.2.size)⟩
    by_cases hlt : k < n
    · have h1 := HF.out.1.c1
      obtain ⟨adL, ad, p, eL, ea, q1, q2, q3, q4⟩ := HF.out.1.at_ HPA.out q (by rw [HNN.out]; exact hq)
      rw [eL] at h1
      rw [ea]
      have HS : Hid (RES = if placeB ((valsE c.A a).getD q 0) n = false then false else if ms.getD (((valsE c.A a).getD q 0).toNat - 1) false = true then false else circF (valsE c.A a) n (n - (k + 1)) (((valsE c.A a).getD q 0).toNat - 1) (ms.set (((valsE c.A a).getD q 0).toNat - 1) true)) := Lib.hid (by
        rw [HV.out, show n - k = (n - (k + 1)) + 1 by omega, circF])
      generalize (valsE c.A a).getD q 0 = z at q4 HS
      clear eL ea HV
      by_cases g1 : z < 1
      · have e1 : decide (z < 1) = true := by simpa using g1
        have HW : Hid (RES = false) := Lib.hid (by rw [HS.out, if_pos (by unfold placeB; simp; omega)])
        clear HS g1
        go_wp2_with fail
        go_ret
        exact ⟨ret_bool HW.out.symm, HF.out.2⟩
      · have e1 : decide (z < 1) = false := by simpa using g1
        by_cases g2 : (n : Int) < z
        · have e2 : decide ((n : Int) < z) = true := by simpa using g2
          have HW : Hid (RES = false) := Lib.hid (by rw [HS.out, if_pos (by unfold placeB; simp; omega)])
          clear HS g1 g2
          go_wp2_with fail
          go_ret
          exact ⟨ret_bool HW.out.symm, HF.out.2⟩
        · have e2 : decide ((n : Int) < z) = false := by simpa using g2
          obtain ⟨m, hm⟩ : ∃ m : Nat, z = (m : Int) + 1 := ⟨(z - 1).toNat, by omega⟩
          have hmn : m < n := by omega
          have w1 : IntKind.i64.wrap (z - 1) = (m : Nat) := by rw [show z - 1 = (m : Int) by omega]; exact IntWalk.i64_in _ (by omega)
          have hzm : z.toNat - 1 = m := by omega
          have HS2 : Hid (RES = if ms.getD m false = true then false else circF (valsE c.A a) n (n - (k + 1)) m (ms.set m true)) := Lib.hid (by
            have := HS.out
            rw [if_neg (by unfold placeB; simp; omega), hzm] at this
            exact this)
          have hc : wr.cell? ⟨wb.heap.size, m, none⟩ = some (.bool (ms.getD m false)) := by
            have := HO.out.cellAt m (by omega)
            have hmm : m < ms.length := by rw [HL.out]; exact hmn
            rw [this]
            simp [BV, List.getD_eq_getElem?_getD, List.getElem?_eq_getElem hmm]
          have fw := HO.out.frozenAt m
          have hst := (HO.out.stored m (.bool true)).1
          have hst2 : (BV ms).set m (.bool true) = BV (ms.set m true) := by simp [BV, List.map_set]
          rw [hst2] at hst
          have HO2 := Lib.hid hst
          clear HS hm hzm g1 g2 hst hst2
          cases hb : ms.getD m false
          · rw [hb] at hc HS2
            have HV2 : Hid (RES = circF (valsE c.A a) n (n - (k + 1)) m (ms.set m true)) := Lib.hid (by rw [HS2.out]; simp)
            have HB2 := Lib.hid (HB.out.setCell (p := ⟨wb.heap.size, m, none⟩) (Nat.le_refl _) (.bool true))
            clear HS2 HO
            go_wp2_with fail
            go_roundw
            case rel => exact ⟨k + 1, m, ms.set m true, rfl, by go_num, by omega, by omega, Lib.hid (by rw [List.length_set]; exact HL.out), HV2, HO2, HB2⟩
            case measure => simp [intOf]; omega
          · rw [hb] at hc HS2
            have HW : Hid (RES = false) := Lib.hid (by rw [HS2.out]; simp)
            clear HS2 HO HO2
            go_wp2_with fail
            go_ret
            exact ⟨ret_bool HW.out.symm, HF.out.2⟩
    · have HW : Hid (RES = (q == 0)) := Lib.hid (by rw [HV.out, show n - k = 0 by omega]; rfl)
      clear HV HE
      go_wp2_with fail
      go_ret
      exact ⟨ret_bool (by rw [HW.out, Bool.eq_iff_iff]; simp), HF.out.2⟩
end Go.Proofs.YtkhmocbfkpbpfaaGreatDoor
