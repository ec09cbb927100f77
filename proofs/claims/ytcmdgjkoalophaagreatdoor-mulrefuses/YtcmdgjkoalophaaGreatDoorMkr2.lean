/- Contracts of mul's filter and Filter. -/
import Derived.Test.YtcmdgjkoalophaaGreatDoorSh3
import Derived.Test.YtcmdgjkoalophaaGreatDoorMkr
import Derived.Test.YtcmdgjkoalophaaGreatDoorMnum
namespace Go.Proofs.YtcmdgjkoalophaaGreatDoor
open Go.RowKit Go.Sort

theorem IsDom.len_lim {W : World} {d : Value} {L : List Int} (h : IsDom W d L) : L.length ≤ 2000064 := by
  obtain ⟨s, A, ws, c, -, -, hF, rfl⟩ := h
  have h1 := len_le_listOf ws s
  have h2 := hF.len
  omega

set_option maxHeartbeats 4000000 in
set_option maxRecDepth 100000 in
theorem mulFilter_any (kind : Int) (x : Sl) (A Bs C : List Int) (w : World) (hk : kind = 5 ∨ kind = 6 ∨ kind = 7) (h : DomsIn w x [A, Bs, C]) (hT : TabZ w) (ha : A ≠ []) (hb : Bs ≠ []) :
    Calls Tryz.prog 95 #[.int .i64 kind, .slice x.A x.n x.c] w fun e w' => (∃ y : Sl, e = .returned (.slice y.A y.n y.c) ∧ DomsIn w' y (mulL kind A Bs C)) ∧ Below w.heap.size w w' := by
  have HD := Lib.hid h
  have HT := Lib.hid hT
  have hxn : x.n = 3 := h.len
  obtain ⟨g, o, d0, ex, p0, p1, p2, hD0⟩ := h.at_ 0 (by omega)
  obtain ⟨g', o', d1, ex', q0, q1, q2, hD1⟩ := h.at_ 1 (by omega)
  obtain ⟨g'', o'', d2, ex'', r0, r1, r2, hD2⟩ := h.at_ 2 (by omega)
  have eg1 : g = g' ∧ o = o' := by rw [ex] at ex'; injection ex' with ex'; injection ex' with e1 e2 _; exact ⟨e1, e2⟩
  have eg2 : g = g'' ∧ o = o'' := by rw [ex] at ex''; injection ex'' with ex''; injection ex'' with e1 e2 _; exact ⟨e1, e2⟩
  obtain ⟨rfl, rfl⟩ := eg1
  obtain ⟨rfl, rfl⟩ := eg2
  have hD0' : IsDom w d0.val A := hD0
  have hD1' : IsDom w d1.val Bs := hD1
  have hD2' : IsDom w d2.val C := hD2
  have HD0 := Lib.hid hD0'
  have HD1 := Lib.hid hD1'
  have HD2 := Lib.hid hD2'
  rw [ex]
  rw [Nat.zero_mul, Nat.add_zero] at p0 p1 p2
  rw [Nat.one_mul] at q0 q1 q2
  have r0 : w.cell? ⟨g, o + 6, none⟩ = some (.int .i64 d2.s) := r0
  have r1 : w.cell? ⟨g, o + 6 + 1, none⟩ = some (.slice d2.A d2.n d2.c) := r1
  have r2 : w.cell? ⟨g, o + 6 + 2, none⟩ = some (.int .i64 d2.z) := r2
  have HP := Lib.hid (And.intro p0 (And.intro p1 (And.intro p2 (And.intro q0 (And.intro q1 (And.intro q2 (And.intro r0 (And.intro r1 r2))))))))
  have la := hD0'.len_lim
  have lb := hD1'.len_lim
  have S0 := Lib.hid (in_regrown' (w := w) (fun W hW => D.size_dom d0.val A W (HD0.out.below hW)))
  have S1 := Lib.hid (in_regrown' (w := w) (fun W hW => D.size_dom d1.val Bs W (HD1.out.below hW)))
  have hpl : A.length * Bs.length ≤ 2000064 * 2000064 := Nat.mul_le_mul la lb
  have hwr : IntKind.i64.wrap (((A.length : Nat) : Int) * ((Bs.length : Nat) : Int)) = ((A.length : Nat) : Int) * ((Bs.length : Nat) : Int) := IntWalk.i64_in _ (by
    have : (((A.length : Nat) : Int) * ((Bs.length : Nat) : Int)) = ((A.length * Bs.length : Nat) : Int) := by simp
    omega)
  have e0 := cell_regrown p0
  have e1 := cell_regrown p1
  have e2 := cell_regrown p2
  have f0 := cell_regrown q0
  have f1 := cell_regrown q1
  have f2 := cell_regrown q2
  clear hD0 hD1 hD2 hD0' hD1' hD2' h hT ex' ex'' p0 p1 p2 q0 q1 q2 r0 r1 r2
  by_cases hle : A.length * Bs.length ≤ 4096
  · have t1 : decide (((A.length : Nat) : Int) * ((Bs.length : Nat) : Int) ≤ 4096) = true := by
      have : (((A.length : Nat) : Int) * ((Bs.length : Nat) : Int)) = ((A.length * Bs.length : Nat) : Int) := by simp
      simp only [this, decide_eq_true_eq]; omega
    have hA4 : A.length ≤ 4096 := Nat.le_trans (Nat.le_mul_of_pos_right _ (List.length_pos_iff.2 hb)) hle
    have hB4 : Bs.length ≤ 4096 := Nat.le_trans (Nat.le_mul_of_pos_left _ (List.length_pos_iff.2 ha)) hle
    have HM : Hid (mulL kind A Bs C = [ofL (h1 (hitsE (kindV kind) C A Bs)), ofL (h2 (hitsE (kindV kind) C A Bs)), ofL (h3 (hitsE (kindV kind) C A Bs))]) := Lib.hid (by unfold mulL; rw [if_pos hle])
    obtain ⟨R, hR⟩ : ∃ R, R = mulL kind A Bs C := ⟨_, rfl⟩
    rw [← hR] at HM ⊢
    have CR := Lib.hid (fun W => result_any kind W hk)
    have CS : Hid (∀ W, Below w.heap.size w W → Calls Tryz.prog 147 #[.func (.func (fnOf kind)) #[] #[], .slice (some ⟨g, o, none⟩) 3 x.c] W fun e w' => (∃ y : Sl, e = .returned (.slice y.A y.n y.c) ∧ DomsIn w' y R) ∧ Below W.heap.size W w') := Lib.hid (fun W hW => by
      have := solved_any (fnOf kind) (eFn kind) (kindV kind) x A Bs C W (HD.out.below hW) (HT.out.below hW) hle hA4 hB4 (fun a b W ha hb => fn_tells kind a b W hk ha hb) (fun a b r ha hb => kindV_lim ha hb)
      rw [ex, hxn, ← HM.out] at this
      exact this)
    clear hle hpl hA4 hB4 hR hk ha hb HM
    generalize A.length = na at *
    generalize Bs.length = nb at *
    go_enter Tryz.func95, Tryz.ntmps95
    go_upto_region 3 with fail
    refine wp_region_quiet_below (by kernel_rfl) (by kernel_rfl) ?_
    repeat (first | go_big_quiet_step (first | (go_at_call 102; with_reducible exact S0.out _ _) | (go_at_call 102; with_reducible exact S1.out _ _)) | quiet_step (fail))
    refine wpQuiet_nil ?_
    intro _ hw'
    obtain ⟨⟨dq, osq⟩, hw''⟩ := hw'
    subst hw''
    have b5 := below_regrown w dq osq
    generalize grow (redrawn w dq) osq = w5 at *
    have B5 := Lib.hid b5
    clear e0 e1 e2 f0 f1 f2 S0 S1 b5
    go_wp2_with fail
    refine (CR.out w5).mono ?_
    rintro e w6 ⟨rfl, rfl⟩
    clear CR
    go_wp2_with fail
    refine (CS.out w5 B5.out).mono ?_
    rintro e w7 ⟨⟨y, rfl, hy⟩, b7⟩
    have HY := Lib.hid hy
    have B7 := Lib.hid (B5.out.trans (b7.mono B5.out.size))
    clear CS hy b7
    go_wp2_with fail
    go_ret
    exact ⟨⟨y, rfl, HY.out⟩, B7.out⟩
  · have t1 : decide (((A.length : Nat) : Int) * ((Bs.length : Nat) : Int) ≤ 4096) = false := by
      have : (((A.length : Nat) : Int) * ((Bs.length : Nat) : Int)) = ((A.length * Bs.length : Nat) : Int) := by simp
      simp only [this, decide_eq_false_iff_not]; omega
    by_cases h5 : kind = 5
    · have k5 : (kind == 5) = true := by simp [h5]
      have HM : Hid (mulL kind A Bs C = [A, Bs, (C.filter fun u => decide (lowP A Bs ≤ u)).filter fun u => decide (u ≤ highP A Bs)]) := Lib.hid (by unfold mulL; rw [if_neg hle, if_pos h5])
      obtain ⟨R, hR⟩ : ∃ R, R = mulL kind A Bs C := ⟨_, rfl⟩
      rw [← hR] at HM ⊢
      have CB : Hid (∀ W, Below w.heap.size w W → Calls Tryz.prog 149 #[.agg #[.int .i64 d0.s, .slice d0.A d0.n d0.c, .int .i64 d0.z], .agg #[.int .i64 d1.s, .slice d1.A d1.n d1.c, .int .i64 d1.z], .agg #[.int .i64 d2.s, .slice d2.A d2.n d2.c, .int .i64 d2.z]] W
          fun e w' => (∃ d : Dv, e = .returned d.val ∧ IsDom w' d.val ((C.filter fun u => decide (lowP A Bs ≤ u)).filter fun u => decide (u ≤ highP A Bs))) ∧ Below W.heap.size W w') := Lib.hid (fun W hW => between_any d0 d1 d2 A Bs C W (HD0.out.below hW) (HD1.out.below hW) (HD2.out.below hW) (HT.out.below hW))
      generalize ((C.filter fun u => decide (lowP A Bs ≤ u)).filter fun u => decide (u ≤ highP A Bs)) = Q at CB HM
      clear hle hpl hR hk ha hb h5
      have LA : Hid (∀ W, IsDom W d0.val A → IsDom W d0.val A) := Lib.hid (fun _ h => h)
      go_enter Tryz.func95, Tryz.ntmps95
      go_upto_region 3 with fail
      refine wp_region_quiet_below (by kernel_rfl) (by kernel_rfl) ?_
      repeat (first | go_big_quiet_step (first | (go_at_call 102; with_reducible exact S0.out _ _) | (go_at_call 102; with_reducible exact S1.out _ _)) | quiet_step (fail))
      refine wpQuiet_nil ?_
      intro _ hw'
      obtain ⟨⟨dq, osq⟩, hw''⟩ := hw'
      subst hw''
      have b5 := below_regrown w dq osq
      generalize grow (redrawn w dq) osq = w5 at *
      have B5 := Lib.hid b5
      clear e0 e1 e2 f0 f1 f2 S0 S1 b5
      have HS : Hid (∀ W, Below w5.heap.size w5 W → Below w5.heap.size w5 W ∧ W.cell? ⟨g, o, none⟩ = some (.int .i64 d0.s) ∧ W.cell? ⟨g, o + 1, none⟩ = some (.slice d0.A d0.n d0.c) ∧ W.cell? ⟨g, o + 2, none⟩ = some (.int .i64 d0.z) ∧ W.cell? ⟨g, o + 3, none⟩ = some (.int .i64 d1.s) ∧ W.cell? ⟨g, o + 3 + 1, none⟩ = some (.slice d1.A d1.n d1.c) ∧ W.cell? ⟨g, o + 3 + 2, none⟩ = some (.int .i64 d1.z) ∧ W.cell? ⟨g, o + 6, none⟩ = some (.int .i64 d2.s) ∧ W.cell? ⟨g, o + 6 + 1, none⟩ = some (.slice d2.A d2.n d2.c) ∧ W.cell? ⟨g, o + 6 + 2, none⟩ = some (.int .i64 d2.z)) := Lib.hid (fun W hW => by
        have b := B5.out.trans (hW.mono B5.out.size)
        obtain ⟨p0, p1, p2, p3, p4, p5, p6, p7, p8⟩ := HP.out
        have k : ∀ {a : Addr} {u : Value}, w.cell? a = some u → W.cell? a = some u := fun h => (b.cell (World.block_lt_of_cell? _ _ h)).trans h
        exact ⟨hW, k p0, k p1, k p2, k p3, k p4, k p5, k p6, k p7, k p8⟩)
      go_upto_region 6 with fail
      have hS := HS.out w5.drew (Below.refl _ _).drew
      go_region_held3 (fun W => Below w5.heap.size w5 W ∧ W.cell? ⟨g, o, none⟩ = some (.int .i64 d0.s) ∧ W.cell? ⟨g, o + 1, none⟩ = some (.slice d0.A d0.n d0.c) ∧ W.cell? ⟨g, o + 2, none⟩ = some (.int .i64 d0.z) ∧ W.cell? ⟨g, o + 3, none⟩ = some (.int .i64 d1.s) ∧ W.cell? ⟨g, o + 3 + 1, none⟩ = some (.slice d1.A d1.n d1.c) ∧ W.cell? ⟨g, o + 3 + 2, none⟩ = some (.int .i64 d1.z) ∧ W.cell? ⟨g, o + 6, none⟩ = some (.int .i64 d2.s) ∧ W.cell? ⟨g, o + 6 + 1, none⟩ = some (.slice d2.A d2.n d2.c) ∧ W.cell? ⟨g, o + 6 + 2, none⟩ = some (.int .i64 d2.z)) (first | assumption | exact HS.out _ (hS.1.alloc hS.1.size _))
        (first | (go_at_call 149; refine (CB.out _ (B5.out.trans (hS.1.mono B5.out.size))).mono ?_; rintro e w6 ⟨⟨dd, rfl, hdd⟩, b6⟩; have HDD := Lib.hid hdd; have B6 := Lib.hid (B5.out.trans ((hS.1.trans (b6.mono hS.1.size)).mono B5.out.size)); have hS := HS.out _ (hS.1.trans (b6.mono hS.1.size))))
      have HF := Lib.hid (doms_build3 (HD0.out.below B6.out) (HD1.out.below B6.out) HDD.out)
      have BF := Lib.hid (B6.out.trans ((below1 w6 (.cells #[.int .i64 d0.s, .slice d0.A d0.n d0.c, .int .i64 d0.z, .int .i64 d1.s, .slice d1.A d1.n d1.c, .int .i64 d1.z, .int .i64 dd.s, .slice dd.A dd.n dd.c, .int .i64 dd.z] 77)).mono B6.out.size))
      clear HDD B6 hS HS HP
      go_wp2_with fail
      go_ret
      exact ⟨⟨⟨some ⟨w6.heap.size, 0, none⟩, 3, 3⟩, rfl, by rw [HM.out]; exact HF.out⟩, BF.out⟩
    · have k5 : (kind == 5) = false := by simp [h5]
      have HM : Hid (mulL kind A Bs C = [A, Bs.filter fun u => decide (u ≠ 0), C]) := Lib.hid (by unfold mulL; rw [if_neg hle, if_neg h5])
      obtain ⟨R, hR⟩ : ∃ R, R = mulL kind A Bs C := ⟨_, rfl⟩
      rw [← hR] at HM ⊢
      have CW : Hid (∀ W, Below w.heap.size w W → Calls Tryz.prog 150 #[.agg #[.int .i64 d1.s, .slice d1.A d1.n d1.c, .int .i64 d1.z], .int .i64 0] W (GivesDom W (Bs.filter fun u => decide (u ≠ 0)) (D.chg Bs (Bs.filter fun u => decide (u ≠ 0))))) := Lib.hid (fun W hW => D.without_dom d1.val Bs 0 W (HD1.out.below hW) (HT.out.below hW))
      generalize D.chg Bs (Bs.filter fun u => decide (u ≠ 0)) = ch at CW
      generalize (Bs.filter fun u => decide (u ≠ 0)) = Q at CW HM
      clear hle hpl hR hk ha hb h5
      go_enter Tryz.func95, Tryz.ntmps95
      go_upto_region 3 with fail
      refine wp_region_quiet_below (by kernel_rfl) (by kernel_rfl) ?_
      repeat (first | go_big_quiet_step (first | (go_at_call 102; with_reducible exact S0.out _ _) | (go_at_call 102; with_reducible exact S1.out _ _)) | quiet_step (fail))
      refine wpQuiet_nil ?_
      intro _ hw'
      obtain ⟨⟨dq, osq⟩, hw''⟩ := hw'
      subst hw''
      have b5 := below_regrown w dq osq
      generalize grow (redrawn w dq) osq = w5 at *
      have B5 := Lib.hid b5
      clear e0 e1 e2 f0 f1 f2 S0 S1 b5
      have HS : Hid (∀ W, Below w5.heap.size w5 W → W.cell? ⟨g, o, none⟩ = some (.int .i64 d0.s) ∧ W.cell? ⟨g, o + 1, none⟩ = some (.slice d0.A d0.n d0.c) ∧ W.cell? ⟨g, o + 2, none⟩ = some (.int .i64 d0.z) ∧ W.cell? ⟨g, o + 3, none⟩ = some (.int .i64 d1.s) ∧ W.cell? ⟨g, o + 3 + 1, none⟩ = some (.slice d1.A d1.n d1.c) ∧ W.cell? ⟨g, o + 3 + 2, none⟩ = some (.int .i64 d1.z) ∧ W.cell? ⟨g, o + 6, none⟩ = some (.int .i64 d2.s) ∧ W.cell? ⟨g, o + 6 + 1, none⟩ = some (.slice d2.A d2.n d2.c) ∧ W.cell? ⟨g, o + 6 + 2, none⟩ = some (.int .i64 d2.z)) := Lib.hid (fun W hW => by
        have b := B5.out.trans (hW.mono B5.out.size)
        obtain ⟨p0, p1, p2, p3, p4, p5, p6, p7, p8⟩ := HP.out
        have k : ∀ {a : Addr} {u : Value}, w.cell? a = some u → W.cell? a = some u := fun h => (b.cell (World.block_lt_of_cell? _ _ h)).trans h
        exact ⟨k p0, k p1, k p2, k p3, k p4, k p5, k p6, k p7, k p8⟩)
      obtain ⟨p0, p1, p2, p3, p4, p5, p6, p7, p8⟩ := HS.out w5 (Below.refl _ _)
      go_wp2_with fail
      refine (CW.out w5 B5.out).mono ?_
      rintro e w6 ⟨d, rfl, hd, b6⟩
      obtain ⟨dd, rfl, hz6⟩ := Dv.of hd
      have HDD := Lib.hid hd
      have B56 := Lib.hid b6
      clear p0 p1 p2 p3 p4 p5 p6 p7 p8 CW hd b6 hz6
      obtain ⟨w7, hw7⟩ : ∃ w7, w6.alloc (.cells dd.cells.toArray 77) = w7 := ⟨_, rfl⟩
      have hnew := heap_alloc_new w6 (.cells dd.cells.toArray 77)
      rw [hw7] at hnew
      have b67 : Below w6.heap.size w6 w7 := hw7 ▸ below1 w6 _
      have HN := Lib.hid hnew
      have HDD7 := Lib.hid (HDD.out.below b67)
      have B57 := Lib.hid (B56.out.trans (b67.mono B56.out.size))
      have B7 := Lib.hid (B5.out.trans (B57.out.mono B5.out.size))
      clear hnew b67 HDD B56
      go_upto_region 2 with fail
      clear hw7
      have HS7 : Hid (∀ W, Below w7.heap.size w7 W → Below w7.heap.size w7 W ∧ W.cell? ⟨g, o, none⟩ = some (.int .i64 d0.s) ∧ W.cell? ⟨g, o + 1, none⟩ = some (.slice d0.A d0.n d0.c) ∧ W.cell? ⟨g, o + 2, none⟩ = some (.int .i64 d0.z) ∧ W.cell? ⟨w6.heap.size, 0, none⟩ = some (.int .i64 dd.s) ∧ W.cell? ⟨w6.heap.size, 1, none⟩ = some (.slice dd.A dd.n dd.c) ∧ W.cell? ⟨w6.heap.size, 2, none⟩ = some (.int .i64 dd.z) ∧ W.cell? ⟨g, o + 6, none⟩ = some (.int .i64 d2.s) ∧ W.cell? ⟨g, o + 6 + 1, none⟩ = some (.slice d2.A d2.n d2.c) ∧ W.cell? ⟨g, o + 6 + 2, none⟩ = some (.int .i64 d2.z)) := Lib.hid (fun W hW => by
        obtain ⟨p0, p1, p2, p3, p4, p5, p6, p7, p8⟩ := HS.out W (B57.out.trans (hW.mono B57.out.size))
        have hk := (hW.block _ (Array.getElem?_eq_some_iff.1 HN.out).1).trans HN.out
        exact ⟨hW, p0, p1, p2, blk_cell hk rfl, blk_cell hk rfl, blk_cell hk rfl, p6, p7, p8⟩)
      have hS := HS7.out w7.drew (Below.refl _ _).drew
      go_region_held3 (fun W => Below w7.heap.size w7 W ∧ W.cell? ⟨g, o, none⟩ = some (.int .i64 d0.s) ∧ W.cell? ⟨g, o + 1, none⟩ = some (.slice d0.A d0.n d0.c) ∧ W.cell? ⟨g, o + 2, none⟩ = some (.int .i64 d0.z) ∧ W.cell? ⟨w6.heap.size, 0, none⟩ = some (.int .i64 dd.s) ∧ W.cell? ⟨w6.heap.size, 1, none⟩ = some (.slice dd.A dd.n dd.c) ∧ W.cell? ⟨w6.heap.size, 2, none⟩ = some (.int .i64 dd.z) ∧ W.cell? ⟨g, o + 6, none⟩ = some (.int .i64 d2.s) ∧ W.cell? ⟨g, o + 6 + 1, none⟩ = some (.slice d2.A d2.n d2.c) ∧ W.cell? ⟨g, o + 6 + 2, none⟩ = some (.int .i64 d2.z)) (first | assumption | exact HS7.out _ (hS.1.alloc hS.1.size _)) (fail)
      have BD : Below w7.heap.size w7 w7.drew := (Below.refl _ _).drew
      have HF := Lib.hid (doms_build3 ((HD0.out.below B7.out).below BD) (HDD7.out.below BD) ((HD2.out.below B7.out).below BD))
      have B8 := B7.out.trans (BD.mono B7.out.size)
      have BF := Lib.hid (B8.trans ((below1 w7.drew (.cells #[.int .i64 d0.s, .slice d0.A d0.n d0.c, .int .i64 d0.z, .int .i64 dd.s, .slice dd.A dd.n dd.c, .int .i64 dd.z, .int .i64 d2.s, .slice d2.A d2.n d2.c, .int .i64 d2.z] 77)).mono B8.size))
      clear HDD7 B7 B57 hS HS HS7 HP HN
      go_wp2_with fail
      go_ret
      exact ⟨⟨⟨some ⟨w7.drew.heap.size, 0, none⟩, 3, 3⟩, rfl, by rw [HM.out]; exact HF.out⟩, BF.out⟩
end Go.Proofs.YtcmdgjkoalophaaGreatDoor

/- What the document's Make makes has right numbers. No walk. Made by tools/genmkr2.py. -/
namespace Go.Proofs.YtcmdgjkoalophaaGreatDoor
open Go.RowKit

theorem mkL_none {f : Nat → Int} {n : Nat} {p : Int → Bool} (h : ∀ i, i < n → p (f i) = false) : (mkL f n).any p = false := by
  rw [List.any_eq_false]
  intro v hv
  simp only [mkL, List.mem_map, List.mem_range] at hv
  obtain ⟨i, hi, rfl⟩ := hv
  rw [h i hi]
  simp
theorem out_no {lo hi z : Int} (h : lo ≤ z ∧ z ≤ hi) : outB lo hi z = false := by unfold outB; simp; omega
theorem numE_in (l : List Int) (fr : Nat) (least wide : Int) (hw : 1 ≤ wide) (i : Nat) : -wide < numE l fr least wide i ∧ numE l fr least wide i < wide ∧ (0 ≤ least → 0 ≤ numE l fr least wide i) := by
  unfold numE
  have := tmod_in (if fr + i < l.length then l.getD (fr + i) 0 else 1) wide hw
  generalize (if fr + i < l.length then l.getD (fr + i) 0 else 1).tmod wide = t at *
  unfold absIf
  split <;> omega
theorem n5 (lc : List Int) (fr m : Nat) : (mkL (numE lc fr (-1) 5) m).any (outB (-1000000) 1000000) = false := mkL_none fun i _ => out_no (by have := numE_in lc fr (-1) 5 (by omega) i; omega)
theorem n4 (lc : List Int) (fr m : Nat) : (mkL (numE lc fr (-1) 4) m).any (outB (-1000000) 1000000) = false := mkL_none fun i _ => out_no (by have := numE_in lc fr (-1) 4 (by omega) i; omega)
theorem p4 (lc : List Int) (fr m : Nat) : (mkL (numE lc fr 0 4) m).any (outB 0 1000000) = false := mkL_none fun i _ => out_no (by have := numE_in lc fr 0 4 (by omega) i; omega)
theorem p2 (lc : List Int) (fr m : Nat) : (mkL (numE lc fr 0 2) m).any (outB 0 1000000) = false := mkL_none fun i _ => out_no (by have := numE_in lc fr 0 2 (by omega) i; omega)
theorem g3 (K : Int) (m : Nat) (hm : m ≤ 3) : (mkL (gcF K) m).any (outB (-1000000) 1000000) = false := mkL_none fun i hi => out_no (by unfold gcF; have := tmod_in K 3 (by omega); omega)
theorem ge_in (lc : List Int) (ch : Int) (hch : 0 ≤ ch) (i : Nat) : numE lc 0 0 2 i ≤ geF lc ch i ∧ geF lc ch i ≤ 3 := by
  unfold geF
  have h1 := numE_in lc 0 0 2 (by omega) i
  have h2 := tmod_in (ch / 2 ^ i) 3 (by omega)
  have h3 : 0 ≤ (ch / 2 ^ i).tmod 3 := Int.tmod_nonneg _ (Int.ediv_nonneg hch (Int.le_of_lt (Int.pow_pos (by decide))))
  omega
theorem g2 (lc : List Int) (ch : Int) (hch : 0 ≤ ch) (m : Nat) : (mkL (geF lc ch) m).any (outB 0 1000000) = false := mkL_none fun i _ => out_no (by have := ge_in lc ch hch i; have := numE_in lc 0 0 2 (by omega) i; omega)
theorem k12 (K : Int) : outB (-9999999999) 9999999999 (K.tmod 12) = false := out_no (by have := tmod_in K 12 (by omega); omega)
theorem k0 : outB (-9999999999) 9999999999 0 = false := by decide
theorem kn12 (K : Int) : outB 0 9999999999 (negI (K.tmod 12)) = false := out_no (by unfold negI; have := tmod_in K 12 (by omega); split <;> omega)
theorem r4 (lc : List Int) (n m : Nat) : ((List.range m).map (rowF lc n)).any (fun r => r.any (outB (-1000000) 1000000)) = false := by
  rw [List.any_eq_false]
  intro v hv
  obtain ⟨i, _, rfl⟩ := List.mem_map.1 hv
  unfold rowF
  rw [n4]
  simp

set_option linter.unusedSimpArgs false in
set_option linter.unusedVariables false in
theorem mk_coefs1 (la lb lc : List Int) (K ch vars : Int) (n : Nat) : coefsB (s9 lc n (s8 lc K ch (s7 lc n (s6 K 1 (s5 lc (s4 lc 1 n (s3 lb vars 0 n (s2 lb vars 0 (s1 la vars n 1))))))))) = true := by
  unfold coefsB
  simp only [s1, s2, s3, s4, s5, s6, s7, s8, s9]
  simp [lowC, secD, lowK, n5, n4, p4, p2, k12, k0, kn12, -List.any_map, -List.any_eq_true, -List.any_eq_false, r4]

set_option linter.unusedSimpArgs false in
set_option linter.unusedVariables false in
theorem mk_coefs2 (la lb lc : List Int) (K ch vars : Int) (n : Nat) : coefsB (s9 lc n (s8 lc K ch (s7 lc n (s6 K 1 (s5 lc (s4 lc 1 n (s3 lb vars 0 n (s2 lb vars 0 (s1 la vars n 2))))))))) = true := by
  unfold coefsB
  simp only [s1, s2, s3, s4, s5, s6, s7, s8, s9]
  simp [lowC, secD, lowK, n5, n4, p4, p2, k12, k0, kn12, -List.any_map, -List.any_eq_true, -List.any_eq_false, r4]

set_option linter.unusedSimpArgs false in
set_option linter.unusedVariables false in
theorem mk_coefs3 (la lb lc : List Int) (K ch vars : Int) (n : Nat) : coefsB (s9 lc n (s8 lc K ch (s7 lc n (s6 K 1 (s5 lc (s4 lc 1 n (s3 lb vars 0 n (s2 lb vars 0 (s1 la vars n 3))))))))) = true := by
  unfold coefsB
  simp only [s1, s2, s3, s4, s5, s6, s7, s8, s9]
  simp [lowC, secD, lowK, n5, n4, p4, p2, k12, k0, kn12, -List.any_map, -List.any_eq_true, -List.any_eq_false, r4]

set_option linter.unusedSimpArgs false in
set_option linter.unusedVariables false in
theorem mk_coefs4 (la lb lc : List Int) (K ch vars : Int) (n : Nat) : coefsB (s9 lc n (s8 lc K ch (s7 lc n (s6 K 1 (s5 lc (s4 lc 1 n (s3 lb vars 0 n (s2 lb vars 1 (s1 la vars n 4))))))))) = true := by
  unfold coefsB
  simp only [s1, s2, s3, s4, s5, s6, s7, s8, s9]
  simp [lowC, secD, lowK, n5, n4, p4, p2, k12, k0, kn12, -List.any_map, -List.any_eq_true, -List.any_eq_false, r4]

set_option linter.unusedSimpArgs false in
set_option linter.unusedVariables false in
theorem mk_coefs5 (la lb lc : List Int) (K ch vars : Int) : coefsB (s9 lc 3 (s8 lc K ch (s7 lc 3 (s6 K 0 (s5 lc (s4 lc 0 3 (s3 lb vars 0 3 (s2 lb vars 0 (s1 la vars 3 5))))))))) = true := by
  unfold coefsB
  simp only [s1, s2, s3, s4, s5, s6, s7, s8, s9]
  simp [lowC, secD, lowK, n5, n4, p4, p2, k12, k0, kn12, -List.any_map, -List.any_eq_true, -List.any_eq_false, r4]

set_option linter.unusedSimpArgs false in
set_option linter.unusedVariables false in
theorem mk_coefs6 (la lb lc : List Int) (K ch vars : Int) : coefsB (s9 lc 3 (s8 lc K ch (s7 lc 3 (s6 K 0 (s5 lc (s4 lc 0 3 (s3 lb vars 0 3 (s2 lb vars 0 (s1 la vars 3 6))))))))) = true := by
  unfold coefsB
  simp only [s1, s2, s3, s4, s5, s6, s7, s8, s9]
  simp [lowC, secD, lowK, n5, n4, p4, p2, k12, k0, kn12, -List.any_map, -List.any_eq_true, -List.any_eq_false, r4]

set_option linter.unusedSimpArgs false in
set_option linter.unusedVariables false in
theorem mk_coefs7 (la lb lc : List Int) (K ch vars : Int) : coefsB (s9 lc 3 (s8 lc K ch (s7 lc 3 (s6 K 0 (s5 lc (s4 lc 0 3 (s3 lb vars 0 3 (s2 lb vars 0 (s1 la vars 3 7))))))))) = true := by
  unfold coefsB
  simp only [s1, s2, s3, s4, s5, s6, s7, s8, s9]
  simp [lowC, secD, lowK, n5, n4, p4, p2, k12, k0, kn12, -List.any_map, -List.any_eq_true, -List.any_eq_false, r4]

set_option linter.unusedSimpArgs false in
set_option linter.unusedVariables false in
theorem mk_coefs8 (la lb lc : List Int) (K ch vars : Int) : coefsB (s9 lc 2 (s8 lc K ch (s7 lc 2 (s6 K 0 (s5 lc (s4 lc 0 2 (s3 lb vars 0 2 (s2 lb vars 0 (s1 la vars 2 8))))))))) = true := by
  unfold coefsB
  simp only [s1, s2, s3, s4, s5, s6, s7, s8, s9]
  simp [lowC, secD, lowK, n5, n4, p4, p2, k12, k0, kn12, -List.any_map, -List.any_eq_true, -List.any_eq_false, r4]

set_option linter.unusedSimpArgs false in
set_option linter.unusedVariables false in
theorem mk_coefs9 (la lb lc : List Int) (K ch vars : Int) : coefsB (s9 lc 3 (s8 lc K ch (s7 lc 3 (s6 K 0 (s5 lc (s4 lc 0 3 (s3 lb vars 0 3 (s2 lb vars 0 (s1 la vars 3 9))))))))) = true := by
  unfold coefsB
  simp only [s1, s2, s3, s4, s5, s6, s7, s8, s9]
  simp [lowC, secD, lowK, n5, n4, p4, p2, k12, k0, kn12, -List.any_map, -List.any_eq_true, -List.any_eq_false, r4]

set_option linter.unusedSimpArgs false in
set_option linter.unusedVariables false in
theorem mk_coefs10 (la lb lc : List Int) (K ch vars : Int) : coefsB (s9 lc 3 (s8 lc K ch (s7 lc 3 (s6 K 0 (s5 lc (s4 lc 0 3 (s3 lb vars 0 3 (s2 lb vars 0 (s1 la vars 3 10))))))))) = true := by
  unfold coefsB
  simp only [s1, s2, s3, s4, s5, s6, s7, s8, s9]
  simp [lowC, secD, lowK, n5, n4, p4, p2, k12, k0, kn12, -List.any_map, -List.any_eq_true, -List.any_eq_false, r4]

set_option linter.unusedSimpArgs false in
set_option linter.unusedVariables false in
theorem mk_coefs11 (la lb lc : List Int) (K ch vars : Int) : coefsB (s9 lc 2 (s8 lc K ch (s7 lc 2 (s6 K 0 (s5 lc (s4 lc 1 2 (s3 lb vars 0 2 (s2 lb vars 0 (s1 la vars 2 11))))))))) = true := by
  unfold coefsB
  simp only [s1, s2, s3, s4, s5, s6, s7, s8, s9]
  simp [lowC, secD, lowK, n5, n4, p4, p2, k12, k0, kn12, -List.any_map, -List.any_eq_true, -List.any_eq_false, r4]

set_option linter.unusedSimpArgs false in
set_option linter.unusedVariables false in
theorem mk_coefs12 (la lb lc : List Int) (K ch vars : Int) (n : Nat) : coefsB (s9 lc n (s8 lc K ch (s7 lc n (s6 K 0 (s5 lc (s4 lc 0 n (s3 lb vars 1 n (s2 lb vars 0 (s1 la vars n 12))))))))) = true := by
  unfold coefsB
  simp only [s1, s2, s3, s4, s5, s6, s7, s8, s9]
  simp [lowC, secD, lowK, n5, n4, p4, p2, k12, k0, kn12, -List.any_map, -List.any_eq_true, -List.any_eq_false, r4]

set_option linter.unusedSimpArgs false in
set_option linter.unusedVariables false in
theorem mk_coefs13 (la lb lc : List Int) (K ch vars : Int) : coefsB (s9 lc 1 (s8 lc K ch (s7 lc 1 (s6 K 1 (s5 lc (s4 lc 0 1 (s3 lb vars 0 1 (s2 lb vars 1 (s1 la vars 1 13))))))))) = true := by
  unfold coefsB
  simp only [s1, s2, s3, s4, s5, s6, s7, s8, s9]
  simp [lowC, secD, lowK, n5, n4, p4, p2, k12, k0, kn12, -List.any_map, -List.any_eq_true, -List.any_eq_false, r4]

set_option linter.unusedSimpArgs false in
set_option linter.unusedVariables false in
theorem mk_coefs14 (la lb lc : List Int) (K ch vars : Int) : coefsB (s9 lc 1 (s8 lc K ch (s7 lc 1 (s6 K 1 (s5 lc (s4 lc 0 1 (s3 lb vars 0 1 (s2 lb vars 1 (s1 la vars 1 14))))))))) = true := by
  unfold coefsB
  simp only [s1, s2, s3, s4, s5, s6, s7, s8, s9]
  simp [lowC, secD, lowK, n5, n4, p4, p2, k12, k0, kn12, -List.any_map, -List.any_eq_true, -List.any_eq_false, r4]

set_option linter.unusedSimpArgs false in
set_option linter.unusedVariables false in
theorem mk_coefs15 (la lb lc : List Int) (K ch vars : Int) : coefsB (s9 lc 1 (s8 lc K ch (s7 lc 1 (s6 K 1 (s5 lc (s4 lc 0 1 (s3 lb vars 0 1 (s2 lb vars 1 (s1 la vars 1 15))))))))) = true := by
  unfold coefsB
  simp only [s1, s2, s3, s4, s5, s6, s7, s8, s9]
  simp [lowC, secD, lowK, n5, n4, p4, p2, k12, k0, kn12, -List.any_map, -List.any_eq_true, -List.any_eq_false, r4]

set_option linter.unusedSimpArgs false in
set_option linter.unusedVariables false in
theorem mk_coefs16 (la lb lc : List Int) (K ch vars : Int) : coefsB (s9 lc 1 (s8 lc K ch (s7 lc 1 (s6 K 1 (s5 lc (s4 lc 0 1 (s3 lb vars 0 1 (s2 lb vars 1 (s1 la vars 1 16))))))))) = true := by
  unfold coefsB
  simp only [s1, s2, s3, s4, s5, s6, s7, s8, s9]
  simp [lowC, secD, lowK, n5, n4, p4, p2, k12, k0, kn12, -List.any_map, -List.any_eq_true, -List.any_eq_false, r4]

set_option linter.unusedSimpArgs false in
set_option linter.unusedVariables false in
theorem mk_coefs17 (la lb lc : List Int) (K ch vars : Int) (n : Nat) : coefsB (s9 lc n (s8 lc K ch (s7 lc n (s6 K 0 (s5 lc (s4 lc 0 n (s3 lb vars 0 n (s2 lb vars 0 (s1 la vars n 17))))))))) = true := by
  unfold coefsB
  simp only [s1, s2, s3, s4, s5, s6, s7, s8, s9]
  simp [lowC, secD, lowK, n5, n4, p4, p2, k12, k0, kn12, -List.any_map, -List.any_eq_true, -List.any_eq_false, r4]

set_option linter.unusedSimpArgs false in
set_option linter.unusedVariables false in
theorem mk_coefs18 (la lb lc : List Int) (K ch vars : Int) (n : Nat) : coefsB (s9 lc n (s8 lc K ch (s7 lc n (s6 K 0 (s5 lc (s4 lc 0 n (s3 lb vars 0 n (s2 lb vars 0 (s1 la vars n 18))))))))) = true := by
  unfold coefsB
  simp only [s1, s2, s3, s4, s5, s6, s7, s8, s9]
  simp [lowC, secD, lowK, n5, n4, p4, p2, k12, k0, kn12, -List.any_map, -List.any_eq_true, -List.any_eq_false, r4]

set_option linter.unusedSimpArgs false in
set_option linter.unusedVariables false in
theorem mk_coefs19 (la lb lc : List Int) (K ch vars : Int) (n : Nat) : coefsB (s9 lc n (s8 lc K ch (s7 lc n (s6 K 1 (s5 lc (s4 lc 1 n (s3 lb vars 0 n (s2 lb vars 0 (s1 la vars n 19))))))))) = true := by
  unfold coefsB
  simp only [s1, s2, s3, s4, s5, s6, s7, s8, s9]
  simp [lowC, secD, lowK, n5, n4, p4, p2, k12, k0, kn12, -List.any_map, -List.any_eq_true, -List.any_eq_false, r4]

set_option linter.unusedSimpArgs false in
set_option linter.unusedVariables false in
theorem mk_coefs20 (la lb lc : List Int) (K ch vars : Int) (n : Nat) : coefsB (s9 lc n (s8 lc K ch (s7 lc n (s6 K 0 (s5 lc (s4 lc 0 n (s3 lb vars 0 n (s2 lb vars 0 (s1 la vars n 20))))))))) = true := by
  unfold coefsB
  simp only [s1, s2, s3, s4, s5, s6, s7, s8, s9]
  simp [lowC, secD, lowK, n5, n4, p4, p2, k12, k0, kn12, -List.any_map, -List.any_eq_true, -List.any_eq_false, r4]

set_option linter.unusedSimpArgs false in
set_option linter.unusedVariables false in
theorem mk_coefs22 (la lb lc : List Int) (K ch vars : Int) (n : Nat) : coefsB (s9 lc n (s8 lc K ch (s7 lc n (s6 K 0 (s5 lc (s4 lc 0 n (s3 lb vars 1 n (s2 lb vars 0 (s1 la vars n 22))))))))) = true := by
  unfold coefsB
  simp only [s1, s2, s3, s4, s5, s6, s7, s8, s9]
  simp [lowC, secD, lowK, n5, n4, p4, p2, k12, k0, kn12, -List.any_map, -List.any_eq_true, -List.any_eq_false, r4]

set_option linter.unusedSimpArgs false in
set_option linter.unusedVariables false in
theorem mk_coefs23 (la lb lc : List Int) (K ch vars : Int) (n : Nat) : coefsB (s9 lc n (s8 lc K ch (s7 lc n (s6 K 0 (s5 lc (s4 lc 0 n (s3 lb vars 1 n (s2 lb vars 0 (s1 la vars n 23))))))))) = true := by
  unfold coefsB
  simp only [s1, s2, s3, s4, s5, s6, s7, s8, s9]
  simp [lowC, secD, lowK, n5, n4, p4, p2, k12, k0, kn12, -List.any_map, -List.any_eq_true, -List.any_eq_false, r4]

theorem cnt_ok (lc : List Int) (K ch : Int) (hch : 0 ≤ ch) (m : Nat) (c : ConL) (hC : c.C = mkL (gcF K) m) (hD : c.D = mkL (numE lc 0 0 2) m) (hE : c.E = mkL (geF lc ch) m) : countsB c = true := by
  refine counts_yes fun j hj => ?_
  rw [hC, mkL_len] at hj
  unfold cntOK
  rw [hC, hD, hE, mkL_getD _ hj, mkL_getD _ hj, mkL_getD _ hj]
  rw [Bool.and_eq_true]
  refine ⟨by simpa using (ge_in lc ch hch j).1, ?_⟩
  rw [Bool.not_eq_true', List.any_eq_false]
  intro v hv
  obtain ⟨i, hi, rfl⟩ := List.getElem_of_mem hv
  have hij : i < j := by rw [List.length_take] at hi; omega
  have e : ((mkL (gcF K) m).take j)[i] = gcF K i := by
    rw [List.getElem_take]
    simp [mkL]
  rw [e]
  unfold gcF
  simp
  omega
theorem mk_coefs21 (la lb lc : List Int) (K ch vars : Int) (n : Nat) (hch : 0 ≤ ch) : coefsB (s9 lc n (s8 lc K ch (s7 lc n (s6 K 0 (s5 lc (s4 lc 1 n (s3 lb vars 0 n (s2 lb vars 0 (s1 la vars n 21))))))))) = true := by
  have h3 := Nat.mod_lt lc.length (show 0 < 3 by decide)
  have hc := cnt_ok lc K ch hch (1 + lc.length % 3) (s9 lc n (s8 lc K ch (s7 lc n (s6 K 0 (s5 lc (s4 lc 1 n (s3 lb vars 0 n (s2 lb vars 0 (s1 la vars n 21))))))))) (by simp [s1, s2, s3, s4, s5, s6, s7, s8, s9]) (by simp [s1, s2, s3, s4, s5, s6, s7, s8, s9]) (by simp [s1, s2, s3, s4, s5, s6, s7, s8, s9])
  unfold coefsB
  rw [hc]
  have e1 := g3 K (1 + lc.length % 3) (by omega)
  have e2 := g2 lc ch hch (1 + lc.length % 3)
  simp only [s1, s2, s3, s4, s5, s6, s7, s8, s9]
  simp [lowC, secD, lowK, e1, e2, p2, k0, -List.any_map, -List.any_eq_true, -List.any_eq_false]

end Go.Proofs.YtcmdgjkoalophaaGreatDoor
