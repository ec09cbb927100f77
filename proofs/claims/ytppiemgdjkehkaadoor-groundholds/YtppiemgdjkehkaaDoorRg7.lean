/- Contracts: the document's pairs, Holds, Any. -/
import Derived.Test.YtppiemgdjkehkaaDoorRg6
import Derived.Test.YtppiemgdjkehkaaDoorMrefright
import Derived.Test.YtppiemgdjkehkaaDoorGholds
namespace Go.Proofs.YtppiemgdjkehkaaDoor
open Go.RowKit Go.Sort

theorem lexB_step {X Y : List Int} {k : Nat} (hx : k < X.length) (hy : k < Y.length) : lexB (X.drop k) (Y.drop k) = if X.getD k 0 < Y.getD k 0 then true else if Y.getD k 0 < X.getD k 0 then false else lexB (X.drop (k + 1)) (Y.drop (k + 1)) := by
  rw [List.drop_eq_getElem_cons hx, List.drop_eq_getElem_cons hy, lexB]
  rw [List.getD_eq_getElem?_getD, List.getD_eq_getElem?_getD, List.getElem?_eq_getElem hx, List.getElem?_eq_getElem hy]
  rfl
theorem lexB_end (X Y : List Int) : lexB (X.drop X.length) Y = true := by rw [List.drop_length, lexB]
/-- What is wrong of a pair of an inverse's places. -/
def badP (X Y : List Int) (n : Nat) (i k : Nat) : Bool :=
  decide (X.getD i 0 < 1) || decide ((n : Int) < X.getD i 0) || decide (Y.getD k 0 < 1) || decide ((n : Int) < Y.getD k 0) || ((X.getD i 0 == (k : Int) + 1) != (Y.getD k 0 == (i : Int) + 1))
theorem bad_core (x z k i n : Int) : (decide (x < 1) || decide (n < x) || decide (z < 1) || decide (n < z) || ((x == k + 1) != (z == i + 1))) = false ↔ (1 ≤ x ∧ x ≤ n) ∧ (1 ≤ z ∧ z ≤ n) ∧ (x = k + 1 ↔ z = i + 1) := by
  rw [Bool.or_eq_false_iff, Bool.or_eq_false_iff, Bool.or_eq_false_iff, Bool.or_eq_false_iff]
  simp only [decide_eq_false_iff_not, Int.not_lt]
  have h5 : ((x == k + 1) != (z == i + 1)) = false ↔ (x = k + 1 ↔ z = i + 1) := by
    show (decide (x = k + 1) != decide (z = i + 1)) = false ↔ _
    by_cases e1 : x = k + 1 <;> by_cases e2 : z = i + 1 <;> simp [e1, e2]
  rw [h5]
  constructor
  · rintro ⟨⟨⟨⟨h1, h2⟩, h3⟩, h4⟩, h5⟩
    exact ⟨⟨h1, h2⟩, ⟨h3, h4⟩, h5⟩
  · rintro ⟨⟨h1, h2⟩, ⟨h3, h4⟩, h5⟩
    exact ⟨⟨⟨⟨h1, h2⟩, h3⟩, h4⟩, h5⟩
theorem badP_no {X Y : List Int} {n i k : Nat} : badP X Y n i k = false ↔ (1 ≤ X.getD i 0 ∧ X.getD i 0 ≤ n) ∧ (1 ≤ Y.getD k 0 ∧ Y.getD k 0 ≤ n) ∧ (X.getD i 0 = (k : Int) + 1 ↔ Y.getD k 0 = (i : Int) + 1) := bad_core _ _ _ _ _
theorem noneN_iff (p : Nat → Bool) (n : Nat) : noneN p n = true ↔ ∀ i, i < n → p i = false := by
  constructor
  · intro h i hi
    cases hp : p i
    · rfl
    · rw [none_no hi hp] at h; cases h
  · exact fun h => none_yes h
theorem inv_eq (X Y : List Int) (n : Nat) (hx : X.length = n) (hy : Y.length = n) : noneN (invP X Y) n = noneN (fun i => !noneN (badP X Y n i) n) n := by
  rw [Bool.eq_iff_iff, noneN_iff, noneN_iff]
  have hB : ∀ U V : List Int, V.length = n → ∀ i, backB U V i = true ↔ (1 ≤ U.getD i 0 ∧ U.getD i 0 ≤ n) ∧ V.getD (U.getD i 0 - 1).toNat 0 = (i : Int) + 1 := by
    intro U V hV i
    unfold backB
    rw [Bool.and_eq_true, placeB_iff, beq_iff_eq, hV]
    rfl
  constructor
  · intro h i hi
    have hg : ∀ j, j < n → backB X Y j = true ∧ backB Y X j = true := fun j hj => by
      have := h j hj
      unfold invP at this
      rw [Bool.or_eq_false_iff] at this
      simpa using this
    rw [Bool.not_eq_false', noneN_iff]
    intro k hk
    have h1 := (hB X Y hy i).1 (hg i hi).1
    have h2 := (hB Y X hx k).1 (hg k hk).2
    refine badP_no.2 ⟨h1.1, h2.1, fun e => ?_, fun e => ?_⟩
    · have := h1.2
      rw [e] at this
      rw [show ((k : Int) + 1 - 1).toNat = k by omega] at this
      exact this
    · have := h2.2
      rw [e] at this
      rw [show ((i : Int) + 1 - 1).toNat = i by omega] at this
      exact this
  · intro h i hi
    have hg : ∀ i k, i < n → k < n → badP X Y n i k = false := fun i k hi hk => by
      have := h i hi
      rw [Bool.not_eq_false', noneN_iff] at this
      exact this k hk
    unfold invP
    rw [Bool.or_eq_false_iff, Bool.not_eq_false', Bool.not_eq_false', hB X Y hy, hB Y X hx]
    have h0 := badP_no.1 (hg i i hi hi)
    refine ⟨⟨h0.1, ?_⟩, h0.2.1, ?_⟩
    · have := badP_no.1 (hg i (X.getD i 0 - 1).toNat hi (by omega))
      exact this.2.2.1 (by omega)
    · have := badP_no.1 (hg (Y.getD i 0 - 1).toNat i (by omega) hi)
      exact this.2.2.2 (by omega)

set_option maxHeartbeats 4000000 in
set_option maxRecDepth 100000 in
theorem rpair22 (v : ConV) (c : ConL) (y : Sl) (a : List Int) (w : World) (h : ConIn w v c) (hy : IsInts w y a) (r : ConR a.length c) (hk : c.kind = 22) :
    Calls Tryd.prog 39 #[v.val c.kind c.K, .slice y.A y.n y.c] w fun e w' => e = .returned (.bool (lexB (valsE c.A a) (valsE c.B a))) ∧ Below w.heap.size w w' := by
  obtain ⟨wb, hwb⟩ : ∃ wb, cBox w v c.kind c.K = wb := ⟨_, rfl⟩
  have HR : Hid (RBox w.heap.size wb v c y a ∧ Below w.heap.size w wb) := Lib.hid (hwb ▸ ⟨RBox.start h hy, cBox_below _ _ _ _⟩)
  have HWB := Lib.hid hwb
  have HPA := Lib.hid r.pa
  have HPB := Lib.hid r.pb
  have HAN := Lib.hid (show (valsE c.A a).length = v.a.n by rw [h.a.len, vals_size])
  have HBN := Lib.hid (show (valsE c.B a).length = v.a.n by rw [h.a.len, vals_size]; exact r.pair (by omega))
  have HBM := Lib.hid (show v.b.n = v.a.n by rw [h.a.len, h.b.len]; exact r.pair (by omega))
  have hn64 : v.a.n ≤ 64 := by rw [h.a.len]; exact r.a64
  have t22 : (c.kind == 22) = true := by simp [hk]
  have d0 := HR.out.1.c0
  have d1 := HR.out.1.c1
  have HE : Hid (lexB (valsE c.A a) (valsE c.B a) = lexB ((valsE c.A a).drop 0) ((valsE c.B a).drop 0)) := Lib.hid rfl
  generalize lexB (valsE c.A a) (valsE c.B a) = RES at HE ⊢
  clear hwb h hy r hk
  go_enter Tryd.func39, Tryd.ntmps39
  go_upto_region 1 with fail
  change Code.wp _ _ _ _ (cBox w v c.kind c.K)
  rw [HWB.out]
  clear HWB
  go_wp2_with fail
  clear d0 d1
  go_loopw [6] (fun i wr => ∃ (k : Nat), i = .int .i64 (k : Nat) ∧ k ≤ v.a.n ∧ Hid (RES = lexB ((valsE c.A a).drop k) ((valsE c.B a).drop k)) ∧ Hid (RBox w.heap.size wr v c y a ∧ Below w.heap.size w wr)) (fun i _ => v.a.n - (intOf i).toNat)
  case atStart => exact ⟨0, rfl, by omega, HE, HR⟩
  case round =>
    clear HR
    obtain ⟨k, rfl, hk, HV, HR⟩ := hrel
    by_cases hlt : k < v.a.n
    · have h1 := HR.out.1.c1
      have h2 := HR.out.1.c2
      obtain ⟨adL, ad, p, eL, ea, q1, q2, q3, q4⟩ := HR.out.1.at_ HPA.out k hlt
      obtain ⟨adM, ad', p', eM, ea', r1, r2, r3, r4⟩ := HR.out.1.bt_ HPB.out k (by rw [HBM.out]; exact hlt)
      obtain rfl : ad = ad' := by rw [ea] at ea'; exact Option.some.inj ea'
      rw [eL] at h1
      rw [eM] at h2
      rw [ea]
      have HS := Lib.hid (HV.out.trans (lexB_step (X := valsE c.A a) (Y := valsE c.B a) (k := k) (by rw [HAN.out]; exact hlt) (by rw [HBN.out]; exact hlt)))
      generalize (valsE c.A a).getD k 0 = x at q4 HS
      generalize (valsE c.B a).getD k 0 = z at r4 HS
      clear eL eM ea ea' HV
      by_cases g : x = z
      · have e1 : (x != z) = false := by simp [g]
        have HV2 : Hid (RES = lexB ((valsE c.A a).drop (k + 1)) ((valsE c.B a).drop (k + 1))) := Lib.hid (by rw [HS.out, if_neg (by omega), if_neg (by omega)])
        clear g HS
        go_wp2_with fail
        go_roundw
        case rel => exact ⟨k + 1, by go_num, by omega, HV2, HR⟩
        case measure => simp [intOf]; omega
      · have e1 : (x != z) = true := by simp [g]
        have HW : Hid (RES = decide (x < z)) := Lib.hid (by
          rw [HS.out]
          by_cases g2 : x < z
          · rw [if_pos g2]; simp [g2]
          · rw [if_neg g2, if_pos (by omega)]; simp [g2])
        clear g HS
        go_wp2_with fail
        go_ret
        exact ⟨ret_bool HW.out.symm, HR.out.2⟩
    · have HW : Hid (RES = true) := Lib.hid (by
        rw [HV.out, show k = (valsE c.A a).length by rw [HAN.out]; omega]
        exact lexB_end _ _)
      clear HV HE
      go_wp2_with fail
      go_ret
      exact ⟨ret_bool HW.out.symm, HR.out.2⟩

set_option maxHeartbeats 4000000 in
set_option maxRecDepth 100000 in
theorem rpair23 (v : ConV) (c : ConL) (y : Sl) (a : List Int) (w : World) (h : ConIn w v c) (hy : IsInts w y a) (r : ConR a.length c) (hk : c.kind = 23) :
    Calls Tryd.prog 39 #[v.val c.kind c.K, .slice y.A y.n y.c] w fun e w' => e = .returned (.bool (noneN (invP (valsE c.A a) (valsE c.B a)) (valsE c.A a).length)) ∧ Below w.heap.size w w' := by
  obtain ⟨wb, hwb⟩ : ∃ wb, cBox w v c.kind c.K = wb := ⟨_, rfl⟩
  have HR : Hid (RBox w.heap.size wb v c y a ∧ Below w.heap.size w wb) := Lib.hid (hwb ▸ ⟨RBox.start h hy, cBox_below _ _ _ _⟩)
  have HWB := Lib.hid hwb
  have HPA := Lib.hid r.pa
  have HPB := Lib.hid r.pb
  have HAN := Lib.hid (show (valsE c.A a).length = v.a.n by rw [h.a.len, vals_size])
  have HBN := Lib.hid (show (valsE c.B a).length = v.a.n by rw [h.a.len, vals_size]; exact r.pair (by omega))
  have HBM := Lib.hid (show v.b.n = v.a.n by rw [h.a.len, h.b.len]; exact r.pair (by omega))
  have hn64 : v.a.n ≤ 64 := by rw [h.a.len]; exact r.a64
  have t22 : (c.kind == 22) = false := by simp [hk]
  have d0 := HR.out.1.c0
  have d1 := HR.out.1.c1
  rw [HAN.out, inv_eq _ _ _ HAN.out HBN.out]
  obtain ⟨RES, hRES⟩ : ∃ R, R = noneN (fun i => !noneN (badP (valsE c.A a) (valsE c.B a) v.a.n i) v.a.n) v.a.n := ⟨_, rfl⟩
  rw [← hRES]
  have HE := Lib.hid hRES
  clear hwb h hy r hk hRES
  go_enter Tryd.func39, Tryd.ntmps39
  go_upto_region 1 with fail
  change Code.wp _ _ _ _ (cBox w v c.kind c.K)
  rw [HWB.out]
  clear HWB
  go_wp2_with fail
  clear d0 d1
  go_loopw [9] (fun i wr => ∃ (k : Nat), i = .int .i64 (k : Nat) ∧ k ≤ v.a.n ∧ Hid (noTo (fun i => !noneN (badP (valsE c.A a) (valsE c.B a) v.a.n i) v.a.n) k) ∧ Hid (RBox w.heap.size wr v c y a ∧ Below w.heap.size w wr)) (fun i _ => v.a.n - (intOf i).toNat)
  case atStart => exact ⟨0, rfl, by omega, Lib.hid (noTo_zero _), HR⟩
  case round =>
    clear HR
    obtain ⟨k, rfl, hk, H0, HR⟩ := hrel
    obtain ⟨wo, rfl⟩ : ∃ wo, wo = wr := ⟨_, rfl⟩
    by_cases hlt : k < v.a.n
    · go_wp2_with fail
      go_loopw [10] (fun i wr => ∃ (j : Nat), i = .int .i64 (j : Nat) ∧ j ≤ v.a.n ∧ Hid (noTo (badP (valsE c.A a) (valsE c.B a) v.a.n k) j) ∧ Hid (RBox w.heap.size wr v c y a ∧ Below w.heap.size w wr)) (fun i _ => v.a.n - (intOf i).toNat)
      case atStart => exact ⟨0, rfl, by omega, Lib.hid (noTo_zero _), HR⟩
      case round =>
        clear HR
        obtain ⟨j, rfl, hj, H1, HR⟩ := hrel
        by_cases hlj : j < v.a.n
        · have h1 := HR.out.1.c1
          have h2 := HR.out.1.c2
          obtain ⟨adL, ad, p, eL, ea, q1, q2, q3, q4⟩ := HR.out.1.at_ HPA.out k hlt
          obtain ⟨adM, ad', p', eM, ea', r1, r2, r3, r4⟩ := HR.out.1.bt_ HPB.out j (by rw [HBM.out]; exact hlj)
          obtain rfl : ad = ad' := by rw [ea] at ea'; exact Option.some.inj ea'
          rw [eL] at h1
          rw [eM] at h2
          rw [ea]
          have HP : Hid (badP (valsE c.A a) (valsE c.B a) v.a.n k j = (decide ((valsE c.A a).getD k 0 < 1) || decide ((v.a.n : Int) < (valsE c.A a).getD k 0) || decide ((valsE c.B a).getD j 0 < 1) || decide ((v.a.n : Int) < (valsE c.B a).getD j 0) || (((valsE c.A a).getD k 0 == (j : Int) + 1) != ((valsE c.B a).getD j 0 == (k : Int) + 1)))) := Lib.hid rfl
          have HBAD : Hid (badP (valsE c.A a) (valsE c.B a) v.a.n k j = true → RES = false) := Lib.hid (fun e => by
            rw [HE.out]
            exact none_no (k := k) hlt (by rw [none_no (k := j) hlj e]; rfl))
          have HST : Hid (badP (valsE c.A a) (valsE c.B a) v.a.n k j = false → noTo (badP (valsE c.A a) (valsE c.B a) v.a.n k) (j + 1)) := Lib.hid (fun e => noTo_step H1.out e)
          generalize badP (valsE c.A a) (valsE c.B a) v.a.n k j = B at *
          generalize (valsE c.A a).getD k 0 = x at *
          generalize (valsE c.B a).getD j 0 = z at *
          clear eL eM ea ea' H1
          cases g1 : decide (x < 1)
          case' true => have HW : Hid (RES = false) := Lib.hid (HBAD.out (by rw [HP.out, g1]; rfl))
          case' false => cases g2 : decide ((v.a.n : Int) < x)
          case' false.true => have HW : Hid (RES = false) := Lib.hid (HBAD.out (by rw [HP.out, g1, g2]; rfl))
          case' false.false => cases g3 : decide (z < 1)
          case' false.false.true => have HW : Hid (RES = false) := Lib.hid (HBAD.out (by rw [HP.out, g1, g2, g3]; rfl))
          case' false.false.false => cases g4 : decide ((v.a.n : Int) < z)
          case' false.false.false.true => have HW : Hid (RES = false) := Lib.hid (HBAD.out (by rw [HP.out, g1, g2, g3, g4]; rfl))
          case' false.false.false.false => cases g5 : (x == (j : Int) + 1) <;> cases g6 : (z == (k : Int) + 1)
          case' false.false.false.false.true.false => have HW : Hid (RES = false) := Lib.hid (HBAD.out (by rw [HP.out, g1, g2, g3, g4, g5, g6]; rfl))
          case' false.false.false.false.false.true => have HW : Hid (RES = false) := Lib.hid (HBAD.out (by rw [HP.out, g1, g2, g3, g4, g5, g6]; rfl))
          case' false.false.false.false.false.false => have H2 := Lib.hid (HST.out (by rw [HP.out, g1, g2, g3, g4, g5, g6]; rfl))
          case' false.false.false.false.true.true => have H2 := Lib.hid (HST.out (by rw [HP.out, g1, g2, g3, g4, g5, g6]; rfl))
          all_goals
            clear HP HBAD HST
            go_wp2_with fail
            first
              | (go_ret
                 exact ⟨ret_bool HW.out.symm, HR.out.2⟩)
              | (go_roundw
                 case rel => exact ⟨j + 1, by go_num, by omega, H2, HR⟩
                 case measure => simp [intOf]; omega)
        · have H2 : Hid (noTo (fun i => !noneN (badP (valsE c.A a) (valsE c.B a) v.a.n i) v.a.n) (k + 1)) := Lib.hid (noTo_step H0.out (by
            have : noneN (badP (valsE c.A a) (valsE c.B a) v.a.n k) v.a.n = true := none_yes (by have := H1.out; rwa [show j = v.a.n by omega] at this)
            rw [this]; rfl))
          clear H0 H1
          go_wp2_with fail
          go_roundw
          case rel => exact ⟨k + 1, by go_num, by omega, H2, HR⟩
          case measure => simp [intOf]; omega
    · have HW : Hid (RES = true) := Lib.hid (by rw [HE.out]; exact none_yes (by have := H0.out; rwa [show k = v.a.n by omega] at this))
      clear H0 HE
      go_wp2_with fail
      go_ret
      exact ⟨ret_bool HW.out.symm, HR.out.2⟩
end Go.Proofs.YtppiemgdjkehkaaDoor
