/- Contracts: holds, Holds. -/
import Derived.Test.YtppiemgdjkehkaaDoorGmeet
import Derived.Deep.RegionHeld3
namespace Go.Proofs.YtppiemgdjkehkaaDoor
open Go.RowKit Go.Sort

theorem atE_mem {a : List Int} {v : Int} (h0 : 0 ≤ v) (h1 : v < (a.length : Int)) : atE a v ∈ a := getD_mem a v.toNat (by omega)
theorem vals_in {L a : List Int} {lo hi : Int} (hL : ∀ v ∈ L, 0 ≤ v ∧ v < (a.length : Int)) (ha : ∀ v ∈ a, lo ≤ v ∧ v ≤ hi) : ∀ v ∈ valsE L a, lo ≤ v ∧ v ≤ hi := by
  intro v hv
  obtain ⟨u, hu, rfl⟩ := List.mem_map.1 hv
  exact ha _ (atE_mem (hL u hu).1 (hL u hu).2)
theorem vals_len' (l a : List Int) : (valsE l a).length = l.length := by
  unfold valsE
  simp

set_option maxHeartbeats 4000000 in
set_option maxRecDepth 100000 in
theorem gholds_any (v : ConV) (c : ConL) (y : Sl) (a : List Int) (w : World) (hE : EntIn w) (h : ConIn w v c) (hy : IsInts w y a) (ha : ∀ v ∈ a, -1000000 ≤ v ∧ v ≤ 1000000) :
    Calls Tryd.prog 21 #[v.val c.kind c.K, .slice y.A y.n y.c] w fun e w' => e = .returned (.bool (holdsB c a)) ∧ Below w.heap.size w w' := by
  obtain ⟨wb, hwb⟩ : ∃ wb, w.alloc (.cells (v.cells c.kind c.K) 30) = wb := ⟨_, rfl⟩
  have hbb : Below w.heap.size w wb := hwb ▸ below1 w _
  have bb : Below (w.heap.size + 1) (w.alloc (.cells (v.cells c.kind c.K) 30)) wb := hwb ▸ (by rw [show w.heap.size + 1 = (w.alloc (.cells (v.cells c.kind c.K) 30)).heap.size by simp]; exact Below.refl _ _)
  have CR : Hid (∀ W, Below wb.heap.size wb W → Calls Tryd.prog 26 #[v.val c.kind c.K, .int .i64 ((y.n : Nat) : Int)] W fun e w' => e = .returned (.int .i64 (rightE c ((y.n : Nat) : Int))) ∧ Below W.heap.size W w') := Lib.hid (fun W hW => right_any v c _ W ((hE.below hbb).below hW) ((h.below hbb).below hW))
  have hyl := hy.len
  have HX : Hid (∀ W, Below wb.heap.size wb W → Below wb.heap.size wb W ∧ W.cell? ⟨w.heap.size, 0, none⟩ = some (.int .i64 c.kind) ∧ W.cell? ⟨w.heap.size, 1, none⟩ = some (.slice v.a.A v.a.n v.a.c) ∧ W.cell? ⟨w.heap.size, 2, none⟩ = some (.slice v.b.A v.b.n v.b.c) ∧ W.cell? ⟨w.heap.size, 3, none⟩ = some (.slice v.c.A v.c.n v.c.c) ∧ W.cell? ⟨w.heap.size, 4, none⟩ = some (.slice v.d.A v.d.n v.d.c) ∧ W.cell? ⟨w.heap.size, 5, none⟩ = some (.slice v.e.A v.e.n v.e.c) ∧ W.cell? ⟨w.heap.size, 6, none⟩ = some (.int .i64 c.K) ∧ W.cell? ⟨w.heap.size, 7, none⟩ = some (.slice v.r.A v.r.n v.r.c)) := Lib.hid (fun W hW => by
    have h8 := box8 (t := 30) (bb.trans (hW.mono (by have := bb.size; simpa using this)))
    exact ⟨hW, h8⟩)
  by_cases hr : rightE c ((a.length : Nat) : Int) = 0
  · have r := con_r hr
    have hrv : rightE c ((y.n : Nat) : Int) = 0 := by rw [hyl]; exact hr
    have CA : Hid (∀ W, Below wb.heap.size wb W → Calls Tryd.prog 28 #[.slice v.a.A v.a.n v.a.c, .slice y.A y.n y.c] W fun e w' => (∃ z : Sl, e = .returned (.slice z.A z.n z.c) ∧ IsInts w' z (valsE c.A a)) ∧ Below W.heap.size W w') := Lib.hid (fun W hW => values_any v.a y c.A a W ((h.a.below hbb).below hW) ((hy.below hbb).below hW) r.a64 r.pa)
    have CB : Hid (∀ W, Below wb.heap.size wb W → Calls Tryd.prog 28 #[.slice v.b.A v.b.n v.b.c, .slice y.A y.n y.c] W fun e w' => (∃ z : Sl, e = .returned (.slice z.A z.n z.c) ∧ IsInts w' z (valsE c.B a)) ∧ Below W.heap.size W w') := Lib.hid (fun W hW => values_any v.b y c.B a W ((h.b.below hbb).below hW) ((hy.below hbb).below hW) r.b64 r.pb)
    have CM : Hid (∀ W (zA zB : Sl), Below wb.heap.size wb W → IsInts W zA (valsE c.A a) → IsInts W zB (valsE c.B a) → Calls Tryd.prog 27 #[v.val c.kind c.K, .slice zA.A zA.n zA.c, .slice zB.A zB.n zB.c] W fun e w' => e = .returned (.bool (meetsB c (valsE c.A a) (valsE c.B a))) ∧ Below W.heap.size W w') := Lib.hid (fun W zA zB hW h1 h2 => meets_any v c zA zB _ _ a.length W ((h.below hbb).below hW) h1 h2 r (vals_len' _ _) (vals_len' _ _) (vals_in r.pa ha) (vals_in r.pb ha))
    have HRES : Hid (meetsB c (valsE c.A a) (valsE c.B a) = holdsB c a) := Lib.hid (by unfold holdsB; rw [hr]; simp)
    generalize holdsB c a = RES at HRES ⊢
    generalize meetsB c (valsE c.A a) (valsE c.B a) = M at CM HRES
    rw [hrv] at CR
    generalize valsE c.A a = XA at CA CM
    generalize valsE c.B a = XB at CB CM
    have HBB := Lib.hid hbb
    have HWB := Lib.hid hwb
    generalize c.kind = kd at *
    generalize c.K = kk at *
    clear hr hrv r hyl hy h hE ha hwb bb hbb
    have hS := HX.out wb.drew ((Below.refl _ _).drew)
    go_enter Tryd.func21, Tryd.ntmps21
    go_upto_region 1 with fail
    change Code.wp _ _ _ _ (w.alloc (.cells (v.cells kd kk) 30))
    rw [HWB.out]
    clear HWB
    go_region_held3 (fun W => Below wb.heap.size wb W ∧ W.cell? ⟨w.heap.size, 0, none⟩ = some (.int .i64 kd) ∧ W.cell? ⟨w.heap.size, 1, none⟩ = some (.slice v.a.A v.a.n v.a.c) ∧ W.cell? ⟨w.heap.size, 2, none⟩ = some (.slice v.b.A v.b.n v.b.c) ∧ W.cell? ⟨w.heap.size, 3, none⟩ = some (.slice v.c.A v.c.n v.c.c) ∧ W.cell? ⟨w.heap.size, 4, none⟩ = some (.slice v.d.A v.d.n v.d.c) ∧ W.cell? ⟨w.heap.size, 5, none⟩ = some (.slice v.e.A v.e.n v.e.c) ∧ W.cell? ⟨w.heap.size, 6, none⟩ = some (.int .i64 kk) ∧ W.cell? ⟨w.heap.size, 7, none⟩ = some (.slice v.r.A v.r.n v.r.c)) (first | exact hS | assumption)
      (first
        | (go_at_call 26; refine (CR.out _ hS.1).mono ?_; rintro e w1 ⟨rfl, b1⟩; have hS := HX.out _ (hS.1.trans (b1.mono hS.1.size)))
        | (go_at_call_of 28 (Value.slice v.a.A v.a.n v.a.c); refine (CA.out _ hS.1).mono ?_; rintro e w2 ⟨⟨zA, rfl, hzA⟩, bA⟩; have HA := Lib.hid hzA; clear hzA; (try have HB := Lib.hid (HB.out.below bA)); have hS := HX.out _ (hS.1.trans (bA.mono hS.1.size)))
        | (go_at_call_of 28 (Value.slice v.b.A v.b.n v.b.c); refine (CB.out _ hS.1).mono ?_; rintro e w3 ⟨⟨zB, rfl, hzB⟩, bB⟩; have HB := Lib.hid hzB; clear hzB; (try have HA := Lib.hid (HA.out.below bB)); have hS := HX.out _ (hS.1.trans (bB.mono hS.1.size)))
        | (go_at_call 27; refine (CM.out _ _ _ hS.1 HA.out HB.out).mono ?_; rintro e w4 ⟨rfl, bM⟩; have hS := HX.out _ (hS.1.trans (bM.mono hS.1.size))))
    all_goals
      have BF := Lib.hid (HBB.out.trans (hS.1.mono HBB.out.size))
      clear hS HX CR CA CB CM
      go_wp2_with fail
      go_ret
      exact ⟨ret_bool HRES.out, BF.out⟩
  · have hrv : (rightE c ((y.n : Nat) : Int) == 0) = false := by rw [hyl]; simpa using hr
    have HRES : Hid (holdsB c a = false) := Lib.hid (by unfold holdsB; rw [← hyl, hrv]; rfl)
    generalize holdsB c a = RES at HRES ⊢
    have CR2 := Lib.hid (in_regrown' (w := wb) CR.out)
    obtain ⟨-, c0, c1, c2, c3, c4, c5, c6, c7⟩ := HX.out wb (Below.refl _ _)
    have k0 := cell_regrown c0
    have k1 := cell_regrown c1
    have k2 := cell_regrown c2
    have k3 := cell_regrown c3
    have k4 := cell_regrown c4
    have k5 := cell_regrown c5
    have k6 := cell_regrown c6
    have k7 := cell_regrown c7
    generalize rightE c ((y.n : Nat) : Int) = E at CR2 hrv
    have HBB := Lib.hid hbb
    have HWB := Lib.hid hwb
    generalize c.kind = kd at *
    generalize c.K = kk at *
    clear hr hyl hy h hE ha hwb bb hbb CR HX c0 c1 c2 c3 c4 c5 c6 c7
    go_enter Tryd.func21, Tryd.ntmps21
    go_upto_region 1 with fail
    change Code.wp _ _ _ _ (w.alloc (.cells (v.cells kd kk) 30))
    rw [HWB.out]
    clear HWB
    refine wp_region_quiet_below (by kernel_rfl) (by kernel_rfl) ?_
    repeat (first | go_big_quiet_step (first | (go_at_call 26; with_reducible exact CR2.out _ _)) | quiet_step (first | (go_at_call 26; with_reducible exact CR2.out _ _)))
    refine wpQuiet_nil ?_
    intro _ hw'
    obtain ⟨⟨dq, osq⟩, hw''⟩ := hw'
    subst hw''
    have B6 := Lib.hid (below_regrown wb dq osq)
    generalize grow (redrawn wb dq) osq = W6 at *
    clear CR2 k0 k1 k2 k3 k4 k5 k6 k7
    go_wp2_with fail
    go_ret
    exact ⟨ret_bool HRES.out.symm, HBB.out.trans (B6.out.mono HBB.out.size)⟩

set_option maxHeartbeats 1000000 in
set_option maxRecDepth 100000 in
theorem gHolds_any (v : ConV) (c : ConL) (y : Sl) (a : List Int) (w : World) (hE : EntIn w) (h : ConIn w v c) (hy : IsInts w y a) :
    Calls Tryd.prog 8 #[v.val c.kind c.K, .slice y.A y.n y.c] w fun e w' => e = .returned (.bool (holdsE c a)) ∧ Below w.heap.size w w' := by
  obtain ⟨wb, hwb⟩ : ∃ wb, w.alloc (.cells (v.cells c.kind c.K) 30) = wb := ⟨_, rfl⟩
  have hbb : Below w.heap.size w wb := hwb ▸ below1 w _
  have CM := Lib.hid (gmay_any y a wb (hy.below hbb))
  have CH : Hid (a.any (outB (-1000000) 1000000) = false → ∀ W, Below wb.heap.size wb W → Calls Tryd.prog 21 #[v.val c.kind c.K, .slice y.A y.n y.c] W fun e w' => e = .returned (.bool (holdsB c a)) ∧ Below W.heap.size W w') := Lib.hid (fun q W hW => gholds_any v c y a W ((hE.below hbb).below hW) ((h.below hbb).below hW) ((hy.below hbb).below hW) (fun z hz => by
    have := List.any_eq_false.1 q z hz
    unfold outB at this
    simp at this
    omega))
  have HX : Hid (∀ W, Below wb.heap.size wb W → W.cell? ⟨w.heap.size, 0, none⟩ = some (.int .i64 c.kind) ∧ W.cell? ⟨w.heap.size, 1, none⟩ = some (.slice v.a.A v.a.n v.a.c) ∧ W.cell? ⟨w.heap.size, 2, none⟩ = some (.slice v.b.A v.b.n v.b.c) ∧ W.cell? ⟨w.heap.size, 3, none⟩ = some (.slice v.c.A v.c.n v.c.c) ∧ W.cell? ⟨w.heap.size, 4, none⟩ = some (.slice v.d.A v.d.n v.d.c) ∧ W.cell? ⟨w.heap.size, 5, none⟩ = some (.slice v.e.A v.e.n v.e.c) ∧ W.cell? ⟨w.heap.size, 6, none⟩ = some (.int .i64 c.K) ∧ W.cell? ⟨w.heap.size, 7, none⟩ = some (.slice v.r.A v.r.n v.r.c)) := Lib.hid (fun W hW => by
    have bb : Below (w.heap.size + 1) (w.alloc (.cells (v.cells c.kind c.K) 30)) wb := hwb ▸ (by rw [show w.heap.size + 1 = (w.alloc (.cells (v.cells c.kind c.K) 30)).heap.size by simp]; exact Below.refl _ _)
    exact box8 (t := 30) (bb.trans (hW.mono (by have := bb.size; simpa using this))))
  unfold holdsE
  generalize holdsB c a = HB at CH ⊢
  generalize a.any (outB (-1000000) 1000000) = OB at CM CH ⊢
  have HBB := Lib.hid hbb
  have HWB := Lib.hid hwb
  generalize c.kind = kd at *
  generalize c.K = kk at *
  clear hE h hy hwb hbb
  go_enter Tryd.func8, Tryd.ntmps8
  go_upto_region 1 with fail
  change Code.wp _ _ _ _ (w.alloc (.cells (v.cells kd kk) 30))
  rw [HWB.out]
  clear HWB
  cases OB
  · have CH2 := Lib.hid (CH.out rfl)
    clear CH
    go_wp2_with fail
    refine CM.out.mono ?_
    rintro e w1 ⟨rfl, b1⟩
    have B1 := Lib.hid b1
    obtain ⟨c0, c1, c2, c3, c4, c5, c6, c7⟩ := HX.out w1 b1
    clear b1 CM HX
    go_wp2_with fail
    refine (CH2.out w1 B1.out).mono ?_
    rintro e w2 ⟨rfl, b2⟩
    have B2 := Lib.hid (B1.out.trans (b2.mono B1.out.size))
    clear b2 CH2 B1 c0 c1 c2 c3 c4 c5 c6 c7
    go_wp2_with fail
    go_ret
    exact ⟨ret_bool (by simp), HBB.out.trans (B2.out.mono HBB.out.size)⟩
  · clear CH
    go_wp2_with fail
    refine CM.out.mono ?_
    rintro e w1 ⟨rfl, b1⟩
    have B1 := Lib.hid b1
    clear b1 CM HX
    go_wp2_with fail
    go_ret
    exact ⟨ret_bool (by simp), HBB.out.trans (B1.out.mono HBB.out.size)⟩
end Go.Proofs.YtppiemgdjkehkaaDoor
