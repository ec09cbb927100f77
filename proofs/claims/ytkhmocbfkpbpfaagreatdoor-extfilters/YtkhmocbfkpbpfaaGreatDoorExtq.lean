/- Contract of ext's filter. -/
import Derived.Test.YtkhmocbfkpbpfaaGreatDoorExt3
import Derived.Test.YtkhmocbfkpbpfaaGreatDoorExt6c
import Derived.Test.YtkhmocbfkpbpfaaGreatDoorLay1
import Derived.Test.YtkhmocbfkpbpfaaGreatDoorMshapes
import Derived.Test.YtkhmocbfkpbpfaaGreatDoorExtd
import Derived.Test.YtkhmocbfkpbpfaaGreatDoorExth0
namespace Go.Proofs.YtkhmocbfkpbpfaaGreatDoor
open Go.RowKit Go.Sort

set_option maxHeartbeats 4000000 in
set_option maxRecDepth 100000 in
theorem extFilter_two (kind : Int) (x : Sl) (A Bs : List Int) (w : World) (hk : kind = 8) (h : DomsIn w x [A, Bs]) (hT : TabZ w) (hl : A.length ≤ 100000) :
    Calls Tryz.prog 55 #[.int .i64 kind, .slice x.A x.n x.c] w fun e w' => (∃ y : Sl, e = .returned (.slice y.A y.n y.c) ∧ DomsIn w' y [ofL (absA A Bs), ofL (absB A Bs)]) ∧ Below w.heap.size w w' := by
  have hxn : x.n = 2 := h.len
  have HT := Lib.hid hT
  obtain ⟨g, o, d0, ex, p0, p1, p2, hD0⟩ := h.at_ 0 (by omega)
  obtain ⟨g', o', d1, ex', q0, q1, q2, hD1⟩ := h.at_ 1 (by omega)
  have eg1 : g = g' ∧ o = o' := by rw [ex] at ex'; injection ex' with ex'; injection ex' with e1 e2 _; exact ⟨e1, e2⟩
  obtain ⟨rfl, rfl⟩ := eg1
  have hD0' : IsDom w d0.val A := hD0
  have hD1' : IsDom w d1.val Bs := hD1
  have HD0 := Lib.hid hD0'
  have HD1 := Lib.hid hD1'
  have CU : Hid (∀ W, Below w.heap.size w W → Calls Tryz.prog 113 #[.agg #[.int .i64 d0.s, .slice d0.A d0.n d0.c, .int .i64 d0.z], .agg #[.int .i64 d1.s, .slice d1.A d1.n d1.c, .int .i64 d1.z]] W fun e w' => (∃ y : Sl, e = .returned (.slice y.A y.n y.c) ∧ DomsIn w' y [ofL (absA A Bs), ofL (absB A Bs)]) ∧ Below W.heap.size W w') := Lib.hid (fun W hW => unsigned_any d0 d1 A Bs W (HD0.out.below hW) (HD1.out.below hW) (HT.out.below hW) hl)
  rw [ex, hxn]
  rw [Nat.zero_mul, Nat.add_zero] at p0 p1 p2
  rw [Nat.one_mul] at q0 q1 q2
  have e0 := cell_regrown p0
  have e1 := cell_regrown p1
  have e2 := cell_regrown p2
  have f0 := cell_regrown q0
  have f1 := cell_regrown q1
  have f2 := cell_regrown q2
  have k8 : (kind == 8) = true := by simp [hk]
  generalize [ofL (absA A Bs), ofL (absB A Bs)] = R at CU ⊢
  clear hD0 hD1 hD0' hD1' h hT ex' ex hxn p0 p1 p2 q0 q1 q2 hk HD0 HD1
  go_enter Tryz.func55, Tryz.ntmps55
  go_upto_region 3 with fail
  refine wp_region_below_any 6 #[true, true, true, true, true, true, false, false] (by kernel_rfl) (by kernel_rfl) ?_
  simp only [List.take_succ_cons, List.take_zero, List.length_cons, List.length_nil]
  repeat (first | go_big_quiet_step (fail) | quiet_step (fail))
  refine wpQuiet_nil ?_
  intro _ hw'
  obtain ⟨⟨dq, osq⟩, hw''⟩ := hw'
  subst hw''
  have b5 := below_regrown w dq osq
  generalize grow (redrawn w dq) osq = w5 at *
  have B5 := Lib.hid b5
  clear e0 e1 e2 f0 f1 f2 b5
  refine wpAny_ready (rs := [6]) (by kernel_rfl) (by simp) (AllReady.cons rfl (fun K hK => ?_) AllReady.nil)
  go_simp
  go_wp2_with (go_at_call 113; refine (CU.out w5 B5.out).mono ?_; rintro e w7 ⟨⟨y, rfl, hy⟩, b7⟩; have HY := Lib.hid hy; have B7 := Lib.hid (B5.out.trans (b7.mono B5.out.size)); clear CU hy b7)
  refine wpAny_take (i := 7) (v := ?_) rfl (by kernel_rfl) (by kernel_rfl) (by kernel_rfl) (fun _ _ _ h => h) (Or.inl ⟨by rfl, ?_⟩) ?_
  rotate_left
  · intro w; go_simp; first | done | with_reducible rfl
  refine wpAny_done (by kernel_rfl) ?_ _
  go_wp2_with fail
  go_ret
  exact ⟨⟨y, rfl, HY.out⟩, B7.out⟩

set_option maxHeartbeats 4000000 in
set_option maxRecDepth 100000 in
theorem extFilter_thr (kind : Int) (x : Sl) (A Bs C : List Int) (w : World) (hk : kind = 9 ∨ kind = 10) (h : DomsIn w x [A, Bs, C]) (hT : TabZ w) (ha : A ≠ []) (hb : Bs ≠ []) :
    Calls Tryz.prog 55 #[.int .i64 kind, .slice x.A x.n x.c] w fun e w' => (∃ y : Sl, e = .returned (.slice y.A y.n y.c) ∧ DomsIn w' y (extL kind A Bs C)) ∧ Below w.heap.size w w' := by
  have HD := Lib.hid h
  have HT := Lib.hid hT
  have hxn : x.n = 3 := h.len
  obtain ⟨g, o, d0, ex, p0, p1, p2, hD0⟩ := h.at_ 0 (by omega)
  obtain ⟨g', o', d1, ex', q0, q1, q2, hD1⟩ := h.at_ 1 (by omega)
  have eg1 : g = g' ∧ o = o' := by rw [ex] at ex'; injection ex' with ex'; injection ex' with e1 e2 _; exact ⟨e1, e2⟩
  obtain ⟨rfl, rfl⟩ := eg1
  have hD0' : IsDom w d0.val A := hD0
  have hD1' : IsDom w d1.val Bs := hD1
  have HD0 := Lib.hid hD0'
  have HD1 := Lib.hid hD1'
  rw [Nat.zero_mul, Nat.add_zero] at p0 p1 p2
  rw [Nat.one_mul] at q0 q1 q2
  have la := hD0'.len_lim
  have lb := hD1'.len_lim
  have S0 := Lib.hid (in_regrown' (w := w) (fun W hW => D.size_dom d0.val A W (HD0.out.below hW)))
  have S1 := Lib.hid (in_regrown' (w := w) (fun W hW => D.size_dom d1.val Bs W (HD1.out.below hW)))
  have hpl : A.length * Bs.length ≤ 2000064 * 2000064 := Nat.mul_le_mul la lb
  have hwr : IntKind.i64.wrap (((A.length : Nat) : Int) * ((Bs.length : Nat) : Int)) = ((A.length : Nat) : Int) * ((Bs.length : Nat) : Int) := IntWalk.i64_in _ (by
    have : (((A.length : Nat) : Int) * ((Bs.length : Nat) : Int)) = ((A.length * Bs.length : Nat) : Int) := by simp
    omega)
  have e0 := cell_regrown p0
  have e1 := cell_regrown p1
  have e2 := cell_regrown p2
  have f0 := cell_regrown q0
  have f1 := cell_regrown q1
  have f2 := cell_regrown q2
  have CS0 := Lib.hid (fun W (hW : Below w.heap.size w W) (hle : A.length * Bs.length ≤ 4096) => solvedX_any (fnX kind) (eFnX kind) (selV kind) x A Bs C W (HD.out.below hW) (HT.out.below hW) hle (Nat.le_trans (Nat.le_mul_of_pos_right _ (List.length_pos_iff.2 hb)) hle) (Nat.le_trans (Nat.le_mul_of_pos_left _ (List.length_pos_iff.2 ha)) hle) (fun a b W => fnX_tells kind a b W hk) (fun a b ha hb => selV_lim ha hb))
  have CNB := Lib.hid (fun W (hW : Below w.heap.size w W) => notBelow_any x A Bs C W (HD.out.below hW) (HT.out.below hW))
  have CNA := Lib.hid (fun W (hW : Below w.heap.size w W) => notAbove_any x A Bs C W (HD.out.below hW) (HT.out.below hW))
  have CR := Lib.hid (fun W => chooser_any kind W hk)
  have k8 : (kind == 8) = false := by rw [beq_eq_false_iff_ne]; omega
  have HF : Hid ((fun a b => some (selV kind a b)) = kindV kind) := Lib.hid (funext fun a => funext fun b => (kindV_sel hk a b).symm)
  rw [ex, hxn] at CS0 CNB CNA ⊢
  clear hD0 hD1 hD0' hD1' h hT ex' ex hxn p0 p1 p2 q0 q1 q2 HD0 HD1 ha hb la lb HD
  by_cases hle : A.length * Bs.length ≤ 4096
  · have t1 : decide (((A.length : Nat) : Int) * ((Bs.length : Nat) : Int) ≤ 4096) = true := by
      have : (((A.length : Nat) : Int) * ((Bs.length : Nat) : Int)) = ((A.length * Bs.length : Nat) : Int) := by simp
      simp only [this, decide_eq_true_eq]; omega
    have HM : Hid (extL kind A Bs C = [ofL (h1 (hitsE (kindV kind) C A Bs)), ofL (h2 (hitsE (kindV kind) C A Bs)), ofL (h3 (hitsE (kindV kind) C A Bs))]) := Lib.hid (by unfold extL; rw [if_pos hle])
    obtain ⟨R, hR⟩ : ∃ R, R = extL kind A Bs C := ⟨_, rfl⟩
    rw [← hR] at HM ⊢
    have CS : Hid (∀ W, Below w.heap.size w W → Calls Tryz.prog 114 #[.func (.func (fnX kind)) #[] #[], .slice (some ⟨g, o, none⟩) 3 x.c] W fun e w' => (∃ y : Sl, e = .returned (.slice y.A y.n y.c) ∧ DomsIn w' y R) ∧ Below W.heap.size W w') := Lib.hid (fun W hW => by
      have := CS0.out W hW hle
      rw [HF.out, ← HM.out] at this
      exact this)
    clear hle hpl hR hk HM CS0 CNB CNA
    generalize A.length = na at *
    generalize Bs.length = nb at *
    go_enter Tryz.func55, Tryz.ntmps55
    go_upto_region 4 with fail
    refine wp_region_quiet_below (by kernel_rfl) (by kernel_rfl) ?_
    repeat (first | go_big_quiet_step (first | (go_at_call 90; with_reducible exact S0.out _ _) | (go_at_call 90; with_reducible exact S1.out _ _)) | quiet_step (fail))
    refine wpQuiet_nil ?_
    intro _ hw'
    obtain ⟨⟨dq, osq⟩, hw''⟩ := hw'
    subst hw''
    have b5 := below_regrown w dq osq
    generalize grow (redrawn w dq) osq = w5 at *
    have B5 := Lib.hid b5
    clear e0 e1 e2 f0 f1 f2 S0 S1 b5
    go_wp2_with fail
    refine (CR.out w5).mono ?_
    rintro e w6 ⟨rfl, rfl⟩
    clear CR
    go_wp2_with fail
    refine (CS.out w5 B5.out).mono ?_
    rintro e w7 ⟨⟨y, rfl, hy⟩, b7⟩
    have HY := Lib.hid hy
    have B7 := Lib.hid (B5.out.trans (b7.mono B5.out.size))
    clear CS hy b7
    go_wp2_with fail
    go_ret
    exact ⟨⟨y, rfl, HY.out⟩, B7.out⟩
  · have t1 : decide (((A.length : Nat) : Int) * ((Bs.length : Nat) : Int) ≤ 4096) = false := by
      have : (((A.length : Nat) : Int) * ((Bs.length : Nat) : Int)) = ((A.length * Bs.length : Nat) : Int) := by simp
      simp only [this, decide_eq_false_iff_not]; omega
    rcases hk with hk | hk
    · have HM : Hid (extL kind A Bs C = [A.filter fun u => decide ((thirdX 9 A Bs C).head?.getD 0 ≤ u), Bs.filter fun u => decide ((thirdX 9 A Bs C).head?.getD 0 ≤ u), thirdX 9 A Bs C]) := Lib.hid (by unfold extL; rw [if_neg hle, hk]; rfl)
      have k9 : (kind == 9) = true := by rw [hk]; rfl
      obtain ⟨R, hR⟩ : ∃ R, R = extL kind A Bs C := ⟨_, rfl⟩
      rw [← hR] at HM ⊢
      rw [← HM.out] at CNB
      clear hle hpl hR hk HM CS0 CR CNA HF
      generalize A.length = na at *
      generalize Bs.length = nb at *
      go_enter Tryz.func55, Tryz.ntmps55
      go_upto_region 4 with fail
      refine wp_region_quiet_below (by kernel_rfl) (by kernel_rfl) ?_
      repeat (first | go_big_quiet_step (first | (go_at_call 90; with_reducible exact S0.out _ _) | (go_at_call 90; with_reducible exact S1.out _ _)) | quiet_step (fail))
      refine wpQuiet_nil ?_
      intro _ hw'
      obtain ⟨⟨dq, osq⟩, hw''⟩ := hw'
      subst hw''
      have b5 := below_regrown w dq osq
      generalize grow (redrawn w dq) osq = w5 at *
      have B5 := Lib.hid b5
      clear e0 e1 e2 f0 f1 f2 S0 S1 b5
      go_wp2_with fail
      refine (CNB.out w5 B5.out).mono ?_
      rintro e w7 ⟨⟨y, rfl, hy⟩, b7⟩
      have HY := Lib.hid hy
      have B7 := Lib.hid (B5.out.trans (b7.mono B5.out.size))
      clear CNB hy b7
      go_wp2_with fail
      go_ret
      exact ⟨⟨y, rfl, HY.out⟩, B7.out⟩
    · have HM : Hid (extL kind A Bs C = [A.filter fun u => decide (u ≤ (thirdX 10 A Bs C).getLast?.getD 0), Bs.filter fun u => decide (u ≤ (thirdX 10 A Bs C).getLast?.getD 0), thirdX 10 A Bs C]) := Lib.hid (by unfold extL; rw [if_neg hle, hk]; rfl)
      have k9 : (kind == 9) = false := by rw [hk]; rfl
      obtain ⟨R, hR⟩ : ∃ R, R = extL kind A Bs C := ⟨_, rfl⟩
      rw [← hR] at HM ⊢
      rw [← HM.out] at CNA
      clear hle hpl hR hk HM CS0 CR CNB HF
      generalize A.length = na at *
      generalize Bs.length = nb at *
      go_enter Tryz.func55, Tryz.ntmps55
      go_upto_region 4 with fail
      refine wp_region_quiet_below (by kernel_rfl) (by kernel_rfl) ?_
      repeat (first | go_big_quiet_step (first | (go_at_call 90; with_reducible exact S0.out _ _) | (go_at_call 90; with_reducible exact S1.out _ _)) | quiet_step (fail))
      refine wpQuiet_nil ?_
      intro _ hw'
      obtain ⟨⟨dq, osq⟩, hw''⟩ := hw'
      subst hw''
      have b5 := below_regrown w dq osq
      generalize grow (redrawn w dq) osq = w5 at *
      have B5 := Lib.hid b5
      clear e0 e1 e2 f0 f1 f2 S0 S1 b5
      go_wp2_with fail
      refine (CNA.out w5 B5.out).mono ?_
      rintro e w7 ⟨⟨y, rfl, hy⟩, b7⟩
      have HY := Lib.hid hy
      have B7 := Lib.hid (B5.out.trans (b7.mono B5.out.size))
      clear CNA hy b7
      go_wp2_with fail
      go_ret
      exact ⟨⟨y, rfl, HY.out⟩, B7.out⟩

theorem extFilter_any (c : ConL) (x : Sl) (D : List (List Int)) (w : World) (hf : fitsE c D 8 10 = true) (h : DomsIn w x D) (hT : TabZ w) (hl : ∀ l ∈ D, l.length ≤ 100000) :
    Calls Tryz.prog 55 #[.int .i64 c.kind, .slice x.A x.n x.c] w fun e w' => (∃ y : Sl, e = .returned (.slice y.A y.n y.c) ∧ DomsIn w' y (extR c.kind D)) ∧ Below w.heap.size w w' := by
  rcases fits_ext hf with ⟨hk, A, B, rfl, ha, hb⟩ | ⟨hk, A, B, C, rfl, ha, hb, hc⟩
  · rw [extR_two hk]
    exact extFilter_two c.kind x A B w hk h hT (hl A (by simp))
  · rw [extR_thr hk]
    exact extFilter_thr c.kind x A B C w hk h hT ha hb
end Go.Proofs.YtkhmocbfkpbpfaaGreatDoor

/- Contract of ext's Filter: what is left, or nothing. -/
namespace Go.Proofs.YtkhmocbfkpbpfaaGreatDoor
open Go.RowKit Go.Sort

set_option maxHeartbeats 4000000 in
set_option maxRecDepth 100000 in
theorem ext_any (v : ConV) (c : ConL) (x : Sl) (D : List (List Int)) (w : World) (hE : EntIn w) (hT : TabZ w) (h : ConIn w v c) (hx : DomsIn w x D) (hl : ∀ l ∈ D, l.length ≤ 100000) :
    Calls Tryz.prog 17 #[v.val c.kind c.K, .slice x.A x.n x.c] w fun e w' => (∃ y : Sl, e = .returned (.tuple #[.slice y.A y.n y.c, .bool (extE c D).isSome]) ∧ DomsIn w' y ((extE c D).getD [])) ∧ Below w.heap.size w w' := by
  obtain ⟨wb, hwb⟩ : ∃ wb, cBox w v c.kind c.K = wb := ⟨_, rfl⟩
  have HR : Hid (RBox w.heap.size wb v c ⟨none, 0, 0⟩ [] ∧ Below w.heap.size w wb) := Lib.hid (hwb ▸ ⟨RBox.start h (IsInts.nil _), cBox_below _ _ _ _⟩)
  have HD := Lib.hid (hx.below HR.out.2)
  have HT := Lib.hid (hT.below HR.out.2)
  have CM := Lib.hid (mayExt_any v c x D wb (hE.below HR.out.2) HR.out.1.con HD.out)
  obtain ⟨R, hR⟩ : ∃ R, R = extE c D := ⟨_, rfl⟩
  rw [← hR]
  have HWB := Lib.hid hwb
  have HB := Lib.hid HR.out.2
  have d0 := HR.out.1.c0
  have d1 := HR.out.1.c1
  have d2 := HR.out.1.c2
  have d3 := HR.out.1.c3
  have d4 := HR.out.1.c4
  have d5 := HR.out.1.c5
  have d6 := HR.out.1.c6
  have d7 := HR.out.1.c7
  have HRR := Lib.hid hR
  clear hwb h hx hE hT hR
  cases hf : fitsE c D 8 10 with
  | false =>
    rw [hf] at CM
    have HF : Hid (R = none) := Lib.hid (by rw [HRR.out]; unfold extE; rw [if_neg (by rw [hf]; decide)])
    clear hf HRR hl
    go_enter Tryz.func17, Tryz.ntmps17
    go_upto_region 1 with fail
    change Code.wp _ _ _ _ (cBox w v c.kind c.K)
    rw [HWB.out]
    clear HWB
    go_wp2_with fail
    refine CM.out.mono ?_
    rintro e w1 ⟨rfl, b1⟩
    have B1 := Lib.hid (HB.out.trans (b1.mono HB.out.size))
    clear b1 CM d0 d1 d2 d3 d4 d5 d6 d7
    go_wp2_with fail
    go_ret2
    rw [HF.out]
    exact ⟨⟨⟨none, 0, 0⟩, rfl, DomsIn.nil _⟩, B1.out⟩
  | true =>
    rw [hf] at CM
    have HV : Hid (R = if (extR c.kind D).any (fun l => l.length == 0) = true then none else some (extR c.kind D)) := Lib.hid (by rw [HRR.out]; exact extE_is hf)
    have CF := Lib.hid (fun W (hW : Below wb.heap.size wb W) => extFilter_any c x D W hf (HD.out.below hW) (HT.out.below hW) hl)
    obtain ⟨L, hL⟩ : ∃ L, L = extR c.kind D := ⟨_, rfl⟩
    rw [← hL] at HV CF
    clear hf HRR hL HD HT hl
    go_enter Tryz.func17, Tryz.ntmps17
    go_upto_region 1 with fail
    change Code.wp _ _ _ _ (cBox w v c.kind c.K)
    rw [HWB.out]
    clear HWB
    go_wp2_with fail
    refine CM.out.mono ?_
    rintro e w1 ⟨rfl, b1⟩
    have B1 := Lib.hid b1
    have d0' := (b1.cell (World.block_lt_of_cell? _ _ d0)).trans d0
    clear b1 CM d0 d1 d2 d3 d4 d5 d6 d7
    go_wp2_with fail
    refine (CF.out w1 B1.out).mono ?_
    rintro e w2 ⟨⟨y, rfl, hy⟩, b2⟩
    have HY := Lib.hid hy
    have B2 := Lib.hid (HB.out.trans ((B1.out.trans (b2.mono B1.out.size)).mono HB.out.size))
    have CE := Lib.hid (anyEmptyX_any y L w2 hy)
    clear hy b2 CF d0'
    cases ho : L.any (fun l => l.length == 0) with
    | false =>
      rw [ho] at CE
      have HF : Hid (R = some L) := Lib.hid (by rw [HV.out, ho]; rfl)
      clear ho HV
      go_wp2_with fail
      refine CE.out.mono ?_
      rintro e w3 ⟨rfl, b3⟩
      have B3 := Lib.hid (B2.out.trans (b3.mono B2.out.size))
      have HY3 := Lib.hid (HY.out.below b3)
      clear b3 CE
      go_wp2_with fail
      go_ret2
      rw [HF.out]
      exact ⟨⟨y, rfl, HY3.out⟩, B3.out⟩
    | true =>
      rw [ho] at CE
      have HF : Hid (R = none) := Lib.hid (by rw [HV.out, ho]; rfl)
      clear ho HV
      go_wp2_with fail
      refine CE.out.mono ?_
      rintro e w3 ⟨rfl, b3⟩
      have B3 := Lib.hid (B2.out.trans (b3.mono B2.out.size))
      clear b3 CE
      go_wp2_with fail
      go_ret2
      rw [HF.out]
      exact ⟨⟨⟨none, 0, 0⟩, rfl, DomsIn.nil _⟩, B3.out⟩
end Go.Proofs.YtkhmocbfkpbpfaaGreatDoor

/- Contracts of the law's kind and wakes (layer 12). -/
namespace Go.Proofs.YtkhmocbfkpbpfaaGreatDoor
open Go.RowKit Go.Sort

/-- The kind of a number. -/
def extK (n : Int) : Int := 8 + n.tmod 3
theorem extK_in (n : Int) (hn : 0 ≤ n ∧ n ≤ 255) : 8 ≤ extK n ∧ extK n ≤ 10 := by
  have h := tmod_in n 3 (by omega)
  have h0 := Int.tmod_nonneg 3 hn.1
  unfold extK
  omega
theorem extKind_any (n : Int) (w : World) (hn : 0 ≤ n ∧ n ≤ 255) : Calls Tryz.prog 16 #[.int .u8 n] w fun e w' => e = .returned (.int .i64 (extK n)) ∧ w = w' := by
  have h := tmod_in n 3 (by omega)
  have h0 := Int.tmod_nonneg 3 hn.1
  have w1 : IntKind.i64.wrap (n.tmod 3) = n.tmod 3 := IntWalk.i64_in _ (by omega)
  have w2 : IntKind.i64.wrap (8 + n.tmod 3) = 8 + n.tmod 3 := IntWalk.i64_in _ (by omega)
  clear hn h h0
  go_enter Tryz.func16, Tryz.ntmps16
  go_wp2_with fail
  go_ret
  exact ⟨rfl, rfl⟩
theorem extE_wake : extE (cOf 8 [0, 1]) [[-3, -2, -1, 0, 1, 2], [0, 2, 3, 5]] = some [[-3, -2, 0, 2], [0, 2, 3]] := by kernel_rfl
theorem extE_sleep (D : List (List Int)) : extE (cOf 5 [0, 1, 0]) D = none := by
  unfold extE
  rw [if_neg]
  unfold fitsE cOf
  simp

set_option maxHeartbeats 4000000 in
set_option maxRecDepth 100000 in
theorem extWakes_any (w : World) (hE : EntIn w) (hT : TabZ w) : Calls Tryz.prog 20 #[] w fun e w' => e = .returned (.bool true) ∧ Below w.heap.size w w' := by
  have HE := Lib.hid hE
  have HT := Lib.hid hT
  have C1 := Lib.hid (range_at (-3) 2 [-3, -2, -1, 0, 1, 2] w (by decide))
  clear hE hT
  go_enter Tryz.func20, Tryz.ntmps20
  go_wp2_with fail
  refine C1.out.mono ?_
  rintro e w1 ⟨⟨d1, rfl, k1⟩, b1⟩
  have b2 := below1 w1 (.cells #[.int .i64 d1.s, .slice d1.A d1.n d1.c, .int .i64 d1.z] 53)
  have V1 := VarD.new k1
  have B2 := Lib.hid (b1.trans (b2.mono b1.size))
  obtain ⟨w2, hw2⟩ : ∃ w2, w1.alloc (.cells #[.int .i64 d1.s, .slice d1.A d1.n d1.c, .int .i64 d1.z] 53) = w2 := ⟨_, rfl⟩
  rw [hw2] at V1 B2
  obtain ⟨g1, hg1⟩ : ∃ g1, g1 = w1.heap.size := ⟨_, rfl⟩
  rw [← hg1] at V1
  have HV1 := Lib.hid V1
  clear C1 k1 b1 b2 V1
  go_upto_region 2 with fail
  clear hw2
  rw [← hg1]
  clear hg1
  obtain ⟨w3, hw3⟩ : ∃ w3, w2.alloc (.cells #[.int .i64 0, .int .i64 2, .int .i64 3, .int .i64 5] 3) = w3 := ⟨_, rfl⟩
  have I3 : IsInts w3 ⟨some ⟨w2.heap.size, 0, none⟩, 4, 4⟩ [0, 2, 3, 5] := hw3 ▸ ints_made w2 [0, 2, 3, 5] 4 rfl (by omega)
  have b23 : Below w2.heap.size w2 w3 := hw3 ▸ below1 w2 _
  have HV13 := Lib.hid (HV1.out.below b23)
  have B3 := Lib.hid (B2.out.trans (b23.mono B2.out.size))
  have hof : ofL [0, 2, 3, 5] = [0, 2, 3, 5] := by decide +kernel
  have C2 := of_dom (some ⟨w2.heap.size, 0, none⟩) [0, 2, 3, 5] 4 w3 I3.lies (by decide)
  rw [hof] at C2
  have C2 := Lib.hid C2
  clear I3 b23 HV1 B2 hof
  go_wp2_with fail
  refine C2.out.mono ?_
  rintro e w4 ⟨dd, rfl, k4, b4⟩
  obtain ⟨d2, rfl, -⟩ := Dv.of k4
  have b5 := below1 w4 (.cells #[.int .i64 d2.s, .slice d2.A d2.n d2.c, .int .i64 d2.z] 53)
  have V2 := VarD.new k4
  have b45 := b4.trans (b5.mono b4.size)
  have B5 := Lib.hid (B3.out.trans (b45.mono B3.out.size))
  have V1 := HV13.out.below b45
  obtain ⟨w5, hw5⟩ : ∃ w5, w4.alloc (.cells #[.int .i64 d2.s, .slice d2.A d2.n d2.c, .int .i64 d2.z] 53) = w5 := ⟨_, rfl⟩
  rw [hw5] at V2 B5 V1
  obtain ⟨g2, hg2⟩ : ∃ g2, g2 = w4.heap.size := ⟨_, rfl⟩
  rw [← hg2] at V2
  clear C2 k4 b4 b5 b45 HV13 B3 hw3
  go_upto_region 3 with fail
  clear hw5
  try rw [← hg2]
  clear hg2
  obtain ⟨w7, hw7⟩ : ∃ w7, w5.alloc (.cells #[.int .i64 0, .int .i64 1] 3) = w7 := ⟨_, rfl⟩
  have I7 : IsInts w7 ⟨some ⟨w5.heap.size, 0, none⟩, 2, 2⟩ [0, 1] := hw7 ▸ ints_made w5 [0, 1] 2 rfl (by omega)
  have b67 : Below w5.heap.size w5 w7 := hw7 ▸ below1 w5 _
  have W1 := V1.below b67
  have W2 := V2.below b67
  have B7 := Lib.hid (B5.out.trans (b67.mono B5.out.size))
  have p0 := W1.c0
  have p1 := W1.c1
  have p2 := W1.c2
  have q0 := W2.c0
  have q1 := W2.c1
  have q2 := W2.c2
  have HD8 := Lib.hid (doms_build2 W1.2 W2.2)
  obtain ⟨w8, hw8⟩ : ∃ w8, w7.alloc (.cells (d1.cells ++ d2.cells).toArray 53) = w8 := ⟨_, rfl⟩
  rw [hw8] at HD8
  have b78 : Below w7.heap.size w7 w8 := hw8 ▸ below1 w7 _
  have HW1 := Lib.hid (W1.below b78)
  have HW2 := Lib.hid (W2.below b78)
  have B8 := Lib.hid (B7.out.trans (b78.mono B7.out.size))
  have CF := ext_any (vOf ⟨some ⟨w5.heap.size, 0, none⟩, 2, 2⟩) (cOf 8 [0, 1]) _ _ w8 (HE.out.below B8.out) (HT.out.below B8.out) (con_of 8 (I7.below b78)) HD8.out (by intro l hl; simp at hl; rcases hl with rfl | rfl <;> decide)
  rw [extE_wake] at CF
  have CF : Hid (Calls Tryz.prog 17 #[.agg #[.int .i64 8, .slice (some ⟨w5.heap.size, 0, none⟩) 2 2, .slice none 0 0, .slice none 0 0, .slice none 0 0, .slice none 0 0, .int .i64 0, .slice none 0 0], .slice (some ⟨w7.heap.size, 0, none⟩) 2 2] w8 fun e w' => (∃ y : Sl, e = .returned (.tuple #[.slice y.A y.n y.c, .bool true]) ∧ DomsIn w' y [[-3, -2, 0, 2], [0, 2, 3]]) ∧ Below w8.heap.size w8 w') := Lib.hid CF
  have hw8' : w7.alloc (.cells #[.int .i64 d1.s, .slice d1.A d1.n d1.c, .int .i64 d1.z, .int .i64 d2.s, .slice d2.A d2.n d2.c, .int .i64 d2.z] 53) = w8 := hw8
  clear V1 V2 W1 W2 I7 b67 b78 B5 B7 HD8 hw8
  go_wp2_with fail
  refine CF.out.mono ?_
  rintro e w9 ⟨⟨y, rfl, hy⟩, b9⟩
  have HY := Lib.hid hy
  have W1 := HW1.out.below b9
  have W2 := HW2.out.below b9
  have B9 := Lib.hid (B8.out.trans (b9.mono B8.out.size))
  clear CF hw7 hw8' hy b9 HW1 HW2 B8 p0 p1 p2 q0 q1 q2
  obtain ⟨wa, hwa⟩ : ∃ wa, w9.alloc (.cells #[.int .i64 0, .int .i64 1, .int .i64 0] 3) = wa := ⟨_, rfl⟩
  have Ia : IsInts wa ⟨some ⟨w9.heap.size, 0, none⟩, 3, 3⟩ [0, 1, 0] := hwa ▸ ints_made w9 [0, 1, 0] 3 rfl (by omega)
  have b9a : Below w9.heap.size w9 wa := hwa ▸ below1 w9 _
  have X1 := W1.below b9a
  have X2 := W2.below b9a
  have p0 := X1.c0
  have p1 := X1.c1
  have p2 := X1.c2
  have q0 := X2.c0
  have q1 := X2.c1
  have q2 := X2.c2
  have HDb := Lib.hid (doms_build3 X1.2 X1.2 X2.2)
  obtain ⟨wb, hwb⟩ : ∃ wb, wa.alloc (.cells (d1.cells ++ d1.cells ++ d2.cells).toArray 53) = wb := ⟨_, rfl⟩
  rw [hwb] at HDb
  have bab : Below wa.heap.size wa wb := hwb ▸ below1 wa _
  have b9b := b9a.trans (bab.mono b9a.size)
  have HYb := Lib.hid (HY.out.below b9b)
  have Bb := Lib.hid (B9.out.trans (b9b.mono B9.out.size))
  have CF := ext_any (vOf ⟨some ⟨w9.heap.size, 0, none⟩, 3, 3⟩) (cOf 5 [0, 1, 0]) _ _ wb (HE.out.below Bb.out) (HT.out.below Bb.out) (con_of 5 (Ia.below bab)) HDb.out (by intro l hl; simp at hl; rcases hl with rfl | rfl | rfl <;> decide)
  rw [extE_sleep] at CF
  have CF : Hid (Calls Tryz.prog 17 #[.agg #[.int .i64 5, .slice (some ⟨w9.heap.size, 0, none⟩) 3 3, .slice none 0 0, .slice none 0 0, .slice none 0 0, .slice none 0 0, .int .i64 0, .slice none 0 0], .slice (some ⟨wa.heap.size, 0, none⟩) 3 3] wb fun e w' => (∃ y : Sl, e = .returned (.tuple #[.slice y.A y.n y.c, .bool false]) ∧ DomsIn w' y []) ∧ Below wb.heap.size wb w') := Lib.hid CF
  have hwb' : wa.alloc (.cells #[.int .i64 d1.s, .slice d1.A d1.n d1.c, .int .i64 d1.z, .int .i64 d1.s, .slice d1.A d1.n d1.c, .int .i64 d1.z, .int .i64 d2.s, .slice d2.A d2.n d2.c, .int .i64 d2.z] 53) = wb := hwb
  clear W1 W2 X1 X2 Ia b9a bab b9b HY HDb hwb
  go_wp2_with fail
  refine CF.out.mono ?_
  rintro e wc ⟨⟨y2, rfl, -⟩, bc⟩
  have HYc := Lib.hid (HYb.out.below bc)
  have Bc := Lib.hid (Bb.out.trans (bc.mono Bb.out.size))
  clear CF hwa hwb' bc HYb B9 Bb p0 p1 p2 q0 q1 q2
  have hyn : y.n = 2 := HYc.out.len
  obtain ⟨g, o, e0, ex, p0, p1, p2, h0⟩ := HYc.out.at_ 0 (by omega)
  have E0 : Hid (IsDom wc e0.val [-3, -2, 0, 2]) := Lib.hid h0
  rw [Nat.zero_mul, Nat.add_zero] at p0 p1 p2
  have CL := Lib.hid (list_dom e0.val [-3, -2, 0, 2] wc E0.out (HT.out.below Bc.out))
  rw [ex]
  clear h0
  go_wp2_with fail
  refine CL.out.mono ?_
  rintro e wd ⟨v, rfl, hv, bd⟩
  obtain ⟨YA, kA, rfl⟩ := slice_row hv
  have Bd := Lib.hid (Bc.out.trans (bd.mono Bc.out.size))
  have If : IsInts wd ⟨YA, 4, kA⟩ [-3, -2, 0, 2] := ints_own (y := ⟨YA, 4, kA⟩) hv (by simp)
  have bg := below1 wd (.cells #[.int .i64 (-3), .int .i64 (-2), .int .i64 0, .int .i64 2] 3)
  have Jg : IsInts (wd.alloc (.cells #[.int .i64 (-3), .int .i64 (-2), .int .i64 0, .int .i64 2] 3)) ⟨some ⟨wd.heap.size, 0, none⟩, 4, 4⟩ [-3, -2, 0, 2] := ints_made wd [-3, -2, 0, 2] 4 rfl (by omega)
  have HYg := Lib.hid ((HYc.out.below bd).below bg)
  have Bg := Lib.hid (Bd.out.trans (bg.mono Bd.out.size))
  have CQ := gequal_ints ⟨YA, 4, kA⟩ ⟨some ⟨wd.heap.size, 0, none⟩, 4, 4⟩ [-3, -2, 0, 2] [-3, -2, 0, 2] _ (If.below bg) Jg
  have CQ : Hid (Calls Tryz.prog 64 #[.slice YA 4 kA, .slice (some ⟨wd.heap.size, 0, none⟩) 4 4] (wd.alloc (.cells #[.int .i64 (-3), .int .i64 (-2), .int .i64 0, .int .i64 2] 3)) fun e w' => e = .returned (.bool true) ∧ Below (wd.alloc (.cells #[.int .i64 (-3), .int .i64 (-2), .int .i64 0, .int .i64 2] 3)).heap.size (wd.alloc (.cells #[.int .i64 (-3), .int .i64 (-2), .int .i64 0, .int .i64 2] 3)) w') := Lib.hid CQ
  clear CL hv bd p0 p1 p2 E0 If Jg bg HYc
  go_wp2_with fail
  refine CQ.out.mono ?_
  rintro e we ⟨rfl, be⟩
  have HYe := Lib.hid (HYg.out.below be)
  have Be := Lib.hid (Bg.out.trans (be.mono Bg.out.size))
  clear CQ be HYg
  obtain ⟨e1, q0, q1, q2, h1⟩ := same_base (Below.refl _ _) HYe.out ex 1 (by omega)
  have E1 : Hid (IsDom we e1.val [0, 2, 3]) := Lib.hid h1
  rw [Nat.one_mul] at q0 q1 q2
  have CL := Lib.hid (list_dom e1.val [0, 2, 3] we E1.out (HT.out.below Be.out))
  clear h1
  go_wp2_with fail
  refine CL.out.mono ?_
  rintro e wf ⟨v, rfl, hv, bf⟩
  obtain ⟨YB, kB, rfl⟩ := slice_row hv
  have Bf := Lib.hid (Be.out.trans (bf.mono Be.out.size))
  have If : IsInts wf ⟨YB, 3, kB⟩ [0, 2, 3] := ints_own (y := ⟨YB, 3, kB⟩) hv (by simp)
  have bg := below1 wf (.cells #[.int .i64 0, .int .i64 2, .int .i64 3] 3)
  have Jg : IsInts (wf.alloc (.cells #[.int .i64 0, .int .i64 2, .int .i64 3] 3)) ⟨some ⟨wf.heap.size, 0, none⟩, 3, 3⟩ [0, 2, 3] := ints_made wf [0, 2, 3] 3 rfl (by omega)
  have Bg := Lib.hid (Bf.out.trans (bg.mono Bf.out.size))
  have CQ := gequal_ints ⟨YB, 3, kB⟩ ⟨some ⟨wf.heap.size, 0, none⟩, 3, 3⟩ [0, 2, 3] [0, 2, 3] _ (If.below bg) Jg
  have CQ : Hid (Calls Tryz.prog 64 #[.slice YB 3 kB, .slice (some ⟨wf.heap.size, 0, none⟩) 3 3] (wf.alloc (.cells #[.int .i64 0, .int .i64 2, .int .i64 3] 3)) fun e w' => e = .returned (.bool true) ∧ Below (wf.alloc (.cells #[.int .i64 0, .int .i64 2, .int .i64 3] 3)).heap.size (wf.alloc (.cells #[.int .i64 0, .int .i64 2, .int .i64 3] 3)) w') := Lib.hid CQ
  clear CL hv bf q0 q1 q2 E1 If Jg bg HYe
  go_wp2_with fail
  refine CQ.out.mono ?_
  rintro e wh ⟨rfl, bh⟩
  have Bh := Lib.hid (Bg.out.trans (bh.mono Bg.out.size))
  clear CQ bh
  go_wp2_with fail
  go_ret
  exact ⟨rfl, Bh.out⟩
end Go.Proofs.YtkhmocbfkpbpfaaGreatDoor

/- The law ExtFilters walked. Made by tools/genlay.py. -/
namespace Go.Proofs.YtkhmocbfkpbpfaaGreatDoor
open Go.RowKit Go.Sort

set_option maxHeartbeats 4000000 in
set_option maxRecDepth 100000 in
theorem extFilters_walk (zA zB zC x : Sl) (la lb lc : List Int) (DD : List (List Int)) (k0 n K ch : Int) (w : World) (ha : IsNs .u8 w zA la) (hb : IsNs .u8 w zB lb) (hc : IsNs .i8 w zC lc) (ba : ∀ v ∈ la, 0 ≤ v ∧ v ≤ 255) (bb : ∀ v ∈ lb, 0 ≤ v ∧ v ≤ 255) (bc : ∀ v ∈ lc, -128 ≤ v ∧ v ≤ 127) (hn : 0 ≤ n ∧ n ≤ 255) (hK : -32768 ≤ K ∧ K ≤ 32767) (hch : 0 ≤ ch ∧ ch ≤ 255)
    (hx : IsRowsN w x DD) (hE : EntIn w) (hT : TabZ w) :
    Calls Tryz.prog 3 #[caV zA zB zC k0 K ch x, .int .u8 n] w fun e w' => e = .returned (.bool true) ∧ Below w.heap.size w w' := by
  obtain ⟨kd, hkd⟩ : ∃ kd, kd = extK n := ⟨_, rfl⟩
  have CK := Lib.hid (fun W => extKind_any n W hn)
  rw [← hkd] at CK
  have hk3 : 8 ≤ kd ∧ kd ≤ 10 := hkd ▸ extK_in n hn
  obtain ⟨wa, hwa⟩ : ∃ wa, w.alloc (.cells (caC zA zB zC k0 K ch x) 29) = wa := ⟨_, rfl⟩
  have hna : wa.heap[w.heap.size]? = some (.cells (caC zA zB zC k0 K ch x) 29 (0, 0)) := hwa ▸ heap_new w _
  have ba' : Below w.heap.size w wa := hwa ▸ below1 w _
  have hr4 := make_right la lb lc (kd - 1) K ch 5 ba bb (by omega) hch.1 (by omega)
  obtain ⟨c, hcE⟩ : ∃ c, c = makeE la lb lc (kd - 1) K ch 5 := ⟨_, rfl⟩
  have hck : c.kind = kd := by
    have : (makeE la lb lc (kd - 1) K ch 5).kind = 1 + (kd - 1).tmod 23 := makeE_kind la lb lc (kd - 1) K ch 5 (by omega)
    rw [hcE, this, Int.tmod_eq_of_lt (by omega) (by omega)]
    omega
  have HSL := Lib.hid (makeE_slim la lb lc (kd - 1) K ch 5)
  rw [← hcE] at hr4 HSL
  have hr256 := right_more hr4 (show (5 : Int) ≤ 256 by omega)
  have hN0 := some_of (n := 5) hr4
  obtain ⟨N, hN⟩ : ∃ N, N = c.A.length + c.B.length := ⟨_, rfl⟩
  rw [← hN] at hN0
  have CM : Hid (∀ W, Below wa.heap.size wa W → Calls Tryz.prog 15 #[.agg #[.int .u8 k0, .slice zA.A zA.n zA.c, .slice zB.A zB.n zB.c, .slice zC.A zC.n zC.c, .int .i16 K, .int .u8 ch, .slice x.A x.n x.c], .int .i64 kd, .int .i64 6] W fun e w' => (∃ (v : ConV) (y : Sl) (xs : List Sl), e = .returned (.tuple #[v.val c.kind c.K, .slice y.A y.n y.c]) ∧ ConIn w' v c ∧ MkR (W.heap.size + 1 + 1 + 1 + 1 + 1) w' v c ∧ RowsO W.heap.size w' y xs (caseD DD 6 N)) ∧ Below W.heap.size W w') := Lib.hid (fun W hW => by
    have b := ba'.trans (hW.mono ba'.size)
    have h := make10_full zA zB zC x la lb lc DD k0 K ch kd 6 W (ha.below b) (hb.below b) (hc.below b) ba bb bc (by omega) hK hch (hx.below b) (by omega)
    rw [← hcE, ← hN] at h
    exact h)
  have HN0 := Lib.hid hN0
  have HB0 := Lib.hid ba'
  have HE := Lib.hid hE
  have HT := Lib.hid hT
  have HNA := Lib.hid hna
  have HLT : Hid (w.heap.size < wa.heap.size) := Lib.hid (Array.getElem?_eq_some_iff.1 hna).1
  have HS : Hid (∀ W, Below wa.heap.size wa W → Below wa.heap.size wa W ∧ W.cell? ⟨w.heap.size, 0, none⟩ = some (.int .u8 k0) ∧ W.cell? ⟨w.heap.size, 1, none⟩ = some (.slice zA.A zA.n zA.c) ∧ W.cell? ⟨w.heap.size, 2, none⟩ = some (.slice zB.A zB.n zB.c) ∧ W.cell? ⟨w.heap.size, 3, none⟩ = some (.slice zC.A zC.n zC.c) ∧ W.cell? ⟨w.heap.size, 4, none⟩ = some (.int .i16 K) ∧ W.cell? ⟨w.heap.size, 5, none⟩ = some (.int .u8 ch) ∧ W.cell? ⟨w.heap.size, 6, none⟩ = some (.slice x.A x.n x.c)) := Lib.hid (fun W hW => by
    have h := (hW.block _ (Array.getElem?_eq_some_iff.1 HNA.out).1).trans HNA.out
    exact ⟨hW, box_cell h rfl, box_cell h rfl, box_cell h rfl, box_cell h rfl, box_cell h rfl, box_cell h rfl, box_cell h rfl⟩)
  clear hkd hk3 hna ba' ha hb hc ba bb bc hn hK hch hx hE hT hcE hck hr4 hr256 hN hN0
  go_enter Tryz.func3, Tryz.ntmps3
  go_upto_region 1 with fail
  clear hwa
  have hS := HS.out wa.drew (Below.refl _ _).drew
  go_region_held3 (fun W => Below wa.heap.size wa W ∧ W.cell? ⟨w.heap.size, 0, none⟩ = some (.int .u8 k0) ∧ W.cell? ⟨w.heap.size, 1, none⟩ = some (.slice zA.A zA.n zA.c) ∧ W.cell? ⟨w.heap.size, 2, none⟩ = some (.slice zB.A zB.n zB.c) ∧ W.cell? ⟨w.heap.size, 3, none⟩ = some (.slice zC.A zC.n zC.c) ∧ W.cell? ⟨w.heap.size, 4, none⟩ = some (.int .i16 K) ∧ W.cell? ⟨w.heap.size, 5, none⟩ = some (.int .u8 ch) ∧ W.cell? ⟨w.heap.size, 6, none⟩ = some (.slice x.A x.n x.c)) (first | with_reducible assumption | with_reducible exact hS9 | with_reducible exact HS.out _ (hS.1.alloc hS.1.size _) | with_reducible exact HS.out _ (((Below.refl wa.heap.size wa).alloc (Nat.le_refl _) _).drew))
    (first
      | (go_at_call 16; refine (CK.out _).mono ?_; rintro e w' ⟨rfl, rfl⟩)
      | (go_at_call 15; have hS := HS.out _ (((Below.refl wa.heap.size wa).alloc (Nat.le_refl _) (.cells #[.int .i64 0, .slice none 0 0, .slice none 0 0, .slice none 0 0, .slice none 0 0, .slice none 0 0, .int .i64 0, .slice none 0 0] 32)).drew); with_reducible refine (CM.out _ hS.1).mono ?_; rintro e w2 ⟨⟨v, y, xs, rfl, hv, hm, hy⟩, b2⟩; have HM := Lib.hid hm; have HY := Lib.hid hy; have B2 := Lib.hid (hS.1.trans (b2.mono hS.1.size)); have hz : w2.heap[wa.heap.size]? = some (.cells zeroC 32 (0, 0)) := (b2.block wa.heap.size (by simp)).trans (zero_drew wa); have e0 := box_cell hz (j := 0) rfl; have e1 := box_cell hz (j := 1) rfl; have e2 := box_cell hz (j := 2) rfl; have e3 := box_cell hz (j := 3) rfl; have e4 := box_cell hz (j := 4) rfl; have e5 := box_cell hz (j := 5) rfl; have e6 := box_cell hz (j := 6) rfl; have e7 := box_cell hz (j := 7) rfl; have f0 := box_free hz 0; have f1 := box_free hz 1; have f2 := box_free hz 2; have f3 := box_free hz 3; have f4 := box_free hz 4; have f5 := box_free hz 5; have f6 := box_free hz 6; have f7 := box_free hz 7; obtain ⟨hQ, kQ⟩ := out8 hz (.int .i64 c.kind) (.slice v.a.A v.a.n v.a.c) (.slice v.b.A v.b.n v.b.c) (.slice v.c.A v.c.n v.c.c) (.slice v.d.A v.d.n v.d.c) (.slice v.e.A v.e.n v.e.c) (.int .i64 c.K) (.slice v.r.A v.r.n v.r.c); have HQ := Lib.hid hQ; have HKQ := Lib.hid kQ; have hS := HS.out _ B2.out; have hS9 := HS.out _ (B2.out.trans (kQ.below B2.out.size (Nat.le_refl _))))
      | (go_at_call 15; with_reducible refine (CM.out _ hS.1).mono ?_; rintro e w2 ⟨⟨v, y, xs, rfl, hv, hm, hy⟩, b2⟩; have HM := Lib.hid hm; have HY := Lib.hid hy; have B2 := Lib.hid (hS.1.trans (b2.mono hS.1.size)); have hS := HS.out _ B2.out))
  focus
      (obtain ⟨w3, hw3⟩ : ∃ w3, w2.alloc (.cells #[.int .i64 c.kind, .slice v.a.A v.a.n v.a.c, .slice v.b.A v.b.n v.b.c, .slice v.c.A v.c.n v.c.c, .slice v.d.A v.d.n v.d.c, .slice v.e.A v.e.n v.e.c, .int .i64 c.K, .slice v.r.A v.r.n v.r.c] 32) = w3 := ⟨_, rfl⟩
       rw [hw3]
       have b23 : Below w2.heap.size w2 w3 := hw3 ▸ below1 w2 _
       have HC3 : Hid (w3.heap[w2.heap.size]? = some (.cells (v.cells c.kind c.K) 32 (0, 0))) := Lib.hid (hw3 ▸ heap_new w2 _)
       have HCN := Lib.hid ((HM.out.kp (Kp.of_below (G := w.heap.size) b23) (by have h := HLT.out; show w.heap.size < wa.heap.size + 1 + 1 + 1 + 1 + 1; omega)).con HSL.out.1 HSL.out.2.1 HSL.out.2.2.1 HSL.out.2.2.2.1 HSL.out.2.2.2.2.1 HSL.out.2.2.2.2.2.1 HSL.out.2.2.2.2.2.2)
       have HRW := Lib.hid ((HY.out.below b23).rows (by rw [caseD_len]; have := HN0.out; omega) (fun r hr => by have := (caseD_dom DD 6 N r hr).2; omega))
       have B3 := Lib.hid (B2.out.trans (b23.mono B2.out.size))
       obtain ⟨g, hg⟩ : ∃ g, g = w2.heap.size := ⟨_, rfl⟩
       rw [← hg] at HC3
       rw [← hg]
       clear hg hw3 b23 HM HY B2 HSL hS)
  rotate_left
  all_goals first
    | (obtain ⟨w3, hw3⟩ : ∃ w3, ((((((((w2.setCell ⟨wa.heap.size, 0, none⟩ (.int .i64 c.kind)).setCell ⟨wa.heap.size, 1, none⟩ (.slice v.a.A v.a.n v.a.c)).setCell ⟨wa.heap.size, 2, none⟩ (.slice v.b.A v.b.n v.b.c)).setCell ⟨wa.heap.size, 3, none⟩ (.slice v.c.A v.c.n v.c.c)).setCell ⟨wa.heap.size, 4, none⟩ (.slice v.d.A v.d.n v.d.c)).setCell ⟨wa.heap.size, 5, none⟩ (.slice v.e.A v.e.n v.e.c)).setCell ⟨wa.heap.size, 6, none⟩ (.int .i64 c.K)).setCell ⟨wa.heap.size, 7, none⟩ (.slice v.r.A v.r.n v.r.c)) = w3 := ⟨_, rfl⟩
       rw [hw3]
       have hQ3 := HQ.out
       have kQ3 := HKQ.out
       rw [hw3] at hQ3 kQ3
       have HC3 : Hid (w3.heap[wa.heap.size]? = some (.cells (v.cells c.kind c.K) 32 (0, 0))) := Lib.hid hQ3
       have HCN := Lib.hid ((HM.out.kp kQ3 (by simp; omega)).con HSL.out.1 HSL.out.2.1 HSL.out.2.2.1 HSL.out.2.2.2.1 HSL.out.2.2.2.2.1 HSL.out.2.2.2.2.2.1 HSL.out.2.2.2.2.2.2)
       have HRW := Lib.hid ((RowsO.kp HY.out kQ3 (by simp)).rows (by rw [caseD_len]; have := HN0.out; omega) (fun r hr => by have := (caseD_dom DD 6 N r hr).2; omega))
       have B3 := Lib.hid (B2.out.trans (kQ3.below B2.out.size (Nat.le_refl _)))
       obtain ⟨g, hg⟩ : ∃ g, g = wa.heap.size := ⟨_, rfl⟩
       rw [← hg] at HC3
       rw [← hg]
       clear hg hw3 hQ3 kQ3 HQ HKQ HM HY B2 HSL hS hS9 e0 e1 e2 e3 e4 e5 e6 e7 f0 f1 f2 f3 f4 f5 f6 f7)
    | skip
  all_goals
    clear CM CK HS HNA HLT
    have HD := Lib.hid (caseD_dom DD 6 N)
    have HDL := Lib.hid (caseD_ofL DD 6 N)
    have HDN := Lib.hid (caseD_len DD 6 N)
    obtain ⟨D, hDD⟩ : ∃ D, D = caseD DD 6 N := ⟨_, rfl⟩
    rw [← hDD] at HRW HD HDL HDN
    clear hDD
    have HD60 : Hid (∀ l ∈ D, DomL l ∧ l.length ≤ 60) := Lib.hid (fun l hl => ⟨(HD.out l hl).1, by have := (HD.out l hl).2; omega⟩)
    have BW := Lib.hid (HB0.out.trans (B3.out.mono HB0.out.size))
    have HS : Hid (∀ W, Below w3.heap.size w3 W → Below w3.heap.size w3 W ∧ W.cell? ⟨g, 0, none⟩ = some (.int .i64 c.kind) ∧ W.cell? ⟨g, 1, none⟩ = some (.slice v.a.A v.a.n v.a.c) ∧ W.cell? ⟨g, 2, none⟩ = some (.slice v.b.A v.b.n v.b.c) ∧ W.cell? ⟨g, 3, none⟩ = some (.slice v.c.A v.c.n v.c.c) ∧ W.cell? ⟨g, 4, none⟩ = some (.slice v.d.A v.d.n v.d.c) ∧ W.cell? ⟨g, 5, none⟩ = some (.slice v.e.A v.e.n v.e.c) ∧ W.cell? ⟨g, 6, none⟩ = some (.int .i64 c.K) ∧ W.cell? ⟨g, 7, none⟩ = some (.slice v.r.A v.r.n v.r.c)) := Lib.hid (fun W hW => by
      have h := (hW.block _ (Array.getElem?_eq_some_iff.1 HC3.out).1).trans HC3.out
      exact ⟨hW, box_cell h rfl, box_cell h rfl, box_cell h rfl, box_cell h rfl, box_cell h rfl, box_cell h rfl, box_cell h rfl, box_cell h rfl⟩)
    have CD : Hid (∀ W, Below w3.heap.size w3 W → Calls Tryz.prog 18 #[.slice y.A y.n y.c] W fun e w' => (∃ (y' : Sl), e = .returned (.slice y'.A y'.n y'.c) ∧ DomsIn w' y' D) ∧ Below W.heap.size W w') := Lib.hid (fun W hW => by
      refine (doms_any y D W (HRW.out.below hW) (by rw [HDN.out]; have := HN0.out; omega) (fun r hr => by have := (HD.out r hr).2; omega)).mono ?_
      rintro e w' ⟨⟨y', ds, rfl, h⟩, b⟩
      rw [HDL.out] at h
      exact ⟨⟨y', rfl, h.within (by rw [HDN.out]; have := HN0.out; omega)⟩, b⟩)
    have CF0 := Lib.hid (fun W y' (hW : Below w3.heap.size w3 W) (hd : DomsIn W y' D) => ext_any v c y' D W (HE.out.below (BW.out.trans (hW.mono BW.out.size))) (HT.out.below (BW.out.trans (hW.mono BW.out.size))) (HCN.out.below hW) hd (fun l hl => by have := (HD.out l hl).2; omega))
    have CR0 := Lib.hid (fun W (hW : Below w3.heap.size w3 W) => refext_few v c y D W (HCN.out.below hW) (HRW.out.below hW) HD60.out)
    have CW := Lib.hid (fun W (hW : Below w3.heap.size w3 W) => extWakes_any W (HE.out.below (BW.out.trans (hW.mono BW.out.size))) (HT.out.below (BW.out.trans (hW.mono BW.out.size))))
    have HSM := Lib.hid (extE_small (c := c) HD60.out)
    obtain ⟨bo, hbo⟩ : ∃ bo, bo = (extE c D).isSome := ⟨_, rfl⟩
    obtain ⟨R, hR⟩ : ∃ R, R = (extE c D).getD [] := ⟨_, rfl⟩
    rw [← hbo, ← hR] at CF0 CR0
    rw [← hR] at HSM
    clear hbo hR HC3
    go_upto_region 2 with fail
    have hS := HS.out w3.drew (Below.refl _ _).drew
    go_region_held3 (fun W => Below w3.heap.size w3 W ∧ W.cell? ⟨g, 0, none⟩ = some (.int .i64 c.kind) ∧ W.cell? ⟨g, 1, none⟩ = some (.slice v.a.A v.a.n v.a.c) ∧ W.cell? ⟨g, 2, none⟩ = some (.slice v.b.A v.b.n v.b.c) ∧ W.cell? ⟨g, 3, none⟩ = some (.slice v.c.A v.c.n v.c.c) ∧ W.cell? ⟨g, 4, none⟩ = some (.slice v.d.A v.d.n v.d.c) ∧ W.cell? ⟨g, 5, none⟩ = some (.slice v.e.A v.e.n v.e.c) ∧ W.cell? ⟨g, 6, none⟩ = some (.int .i64 c.K) ∧ W.cell? ⟨g, 7, none⟩ = some (.slice v.r.A v.r.n v.r.c)) (first | with_reducible assumption)
      (first
        | (go_at_call 18; with_reducible refine (CD.out _ hS.1).mono ?_; rintro e w6 ⟨⟨y6, rfl, h6⟩, b6⟩; have HD6 := Lib.hid h6; have hS := HS.out _ (hS.1.trans (b6.mono hS.1.size)))
        | (go_at_call 17; with_reducible refine (CF0.out _ y6 hS.1 HD6.out).mono ?_; rintro e w7 ⟨⟨y7, rfl, h7⟩, b7⟩; have HD7 := Lib.hid h7; have B7 := Lib.hid (hS.1.trans (b7.mono hS.1.size)); have hS := HS.out _ B7.out))
    clear CD CF0 HD HDL HDN hS
    obtain ⟨-, c0, c1, c2, c3, c4, c5, c6, c7⟩ := HS.out w7 B7.out
    have CRR := Lib.hid (CR0.out w7 B7.out)
    clear CR0 HS
    go_wp2_with fail
    refine CRR.out.mono ?_
    rintro e w8 ⟨⟨y8, rfl, h8⟩, b8⟩
    have HR8 := Lib.hid h8
    have HD8 := Lib.hid (HD7.out.below b8)
    have B8 := Lib.hid (B7.out.trans (b8.mono B7.out.size))
    clear CRR h8 b8 c0 c1 c2 c3 c4 c5 c6 c7 HD7 B7
    go_wp2_with fail
    refine (CW.out w8 B8.out).mono ?_
    rintro e w9 ⟨rfl, b9⟩
    have HR9 := Lib.hid (HR8.out.below b9)
    have HD9 := Lib.hid (HD8.out.below b9)
    have B9 := Lib.hid (B8.out.trans (b9.mono B8.out.size))
    have BE := Lib.hid (BW.out.trans (B9.out.mono BW.out.size))
    have CLs := Lib.hid (lists_any y7 R w9 HD9.out (HT.out.below BE.out) (by have := HSM.out.1; omega))
    have hbb : (bo == bo) = true := by simp
    clear b9 CW HR8 HD8 B8
    go_wp2_with fail
    refine CLs.out.mono ?_
    rintro e w10 ⟨⟨y10, xs10, rfl, h10⟩, b10⟩
    have B10 := Lib.hid (BE.out.trans (b10.mono BE.out.size))
    have HRa := Lib.hid (h10.rows (by have := HSM.out.1; omega) (fun r hr => by have := HSM.out.2 r hr; omega))
    have CQ := same2_any y10 y8 _ _ w10 HRa.out (HR9.out.below b10)
    rw [beq_self_eq_true] at CQ
    have CQ := Lib.hid CQ
    clear CLs h10 b10
    go_wp2_with fail
    refine CQ.out.mono ?_
    rintro e w11 ⟨rfl, b11⟩
    have BF := Lib.hid (B10.out.trans (b11.mono B10.out.size))
    clear b11 CQ
    go_wp2_with fail
    go_ret
    exact ⟨rfl, BF.out⟩
end Go.Proofs.YtkhmocbfkpbpfaaGreatDoor
