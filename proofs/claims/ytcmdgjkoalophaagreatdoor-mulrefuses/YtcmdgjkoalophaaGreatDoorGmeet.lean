/- Contracts: meets, kind by kind. Made by tools/gengmeet.py. -/
import Derived.Test.YtcmdgjkoalophaaGreatDoorGfn5
namespace Go.Proofs.YtcmdgjkoalophaaGreatDoor
open Go.RowKit Go.Sort

theorem gin_regrown {f : Nat} {args : Array Value} {w : World} {v : Value} (h : ∀ W, Below w.heap.size w W → Calls Tryz.prog f args W fun e w' => e = .returned v ∧ W = w') : ∀ d os, Calls Tryz.prog f args (grow (redrawn w d) os) fun e w'' => e = .returned v ∧ ∃ p : Regrown, w'' = grow (redrawn w p.d) p.os := fun d os => Calls.regrown_of ((h _ (below_regrown _ d os)).mono fun _ _ q => ⟨q.1, q.2 ▸ Below.refl _ _⟩)
theorem lt_of_cell {w : World} {a : Addr} {u : Value} (h : w.cell? a = some u) : a.block < w.heap.size := by
  unfold World.cell? at h
  cases hb : w.heap[a.block]?
  · rw [hb] at h
    cases h
  · exact (Array.getElem?_eq_some_iff.1 hb).1
abbrev mBox (w : World) (v : ConV) (kd kk : Int) (x y : Sl) : World := ((w.alloc (.cells (v.cells kd kk) 37)).alloc (.cells #[.slice x.A x.n x.c] 26)).alloc (.cells #[.slice y.A y.n y.c] 26)
theorem below_mBox (w : World) (v : ConV) (kd kk : Int) (x y : Sl) : Below w.heap.size w (mBox w v kd kk x y) := ((below1 w _).alloc (by simp) _).alloc (by simp; omega) _
theorem mBox_con (w : World) (v : ConV) (kd kk : Int) (x y : Sl) (j : Nat) (u : Value) (hj : (v.cells kd kk)[j]? = some u) : (mBox w v kd kk x y).cell? ⟨w.heap.size, j, none⟩ = some u := by
  have b : Below (w.heap.size + 1) (w.alloc (.cells (v.cells kd kk) 37)) (mBox w v kd kk x y) := (by
    have h := below1 (w.alloc (.cells (v.cells kd kk) 37)) (.cells #[.slice x.A x.n x.c] 26)
    have e : (w.alloc (.cells (v.cells kd kk) 37)).heap.size = w.heap.size + 1 := by simp
    rw [e] at h
    exact h.alloc (by simp) _)
  rw [b.cell (by simp)]
  have : (w.alloc (.cells (v.cells kd kk) 37)).cell? ⟨w.heap.size, j, none⟩ = (v.cells kd kk)[j]? := by simp
  rw [this, hj]
theorem cell_new1 (W : World) (x : Value) (t : TypeId) : (W.alloc (.cells #[x] t)).cell? ⟨W.heap.size, 0, none⟩ = some x := by simp
theorem mBox_x (w : World) (v : ConV) (kd kk : Int) (x y : Sl) : (mBox w v kd kk x y).cell? ⟨w.heap.size + 1, 0, none⟩ = some (.slice x.A x.n x.c) := by
  have h := below1 ((w.alloc (.cells (v.cells kd kk) 37)).alloc (.cells #[.slice x.A x.n x.c] 26)) (.cells #[.slice y.A y.n y.c] 26)
  rw [h.cell (by simp)]
  have := cell_new1 (w.alloc (.cells (v.cells kd kk) 37)) (.slice x.A x.n x.c) 26
  rwa [show (w.alloc (.cells (v.cells kd kk) 37)).heap.size = w.heap.size + 1 by simp] at this
theorem mBox_y (w : World) (v : ConV) (kd kk : Int) (x y : Sl) : (mBox w v kd kk x y).cell? ⟨w.heap.size + 1 + 1, 0, none⟩ = some (.slice y.A y.n y.c) := by
  have := cell_new1 ((w.alloc (.cells (v.cells kd kk) 37)).alloc (.cells #[.slice x.A x.n x.c] 26)) (.slice y.A y.n y.c) 26
  rwa [show ((w.alloc (.cells (v.cells kd kk) 37)).alloc (.cells #[.slice x.A x.n x.c] 26)).heap.size = w.heap.size + 1 + 1 by simp] at this

set_option maxHeartbeats 4000000 in
set_option maxRecDepth 100000 in
theorem meet1 (v : ConV) (c : ConL) (x y : Sl) (X Y : List Int) (n : Nat) (w : World) (h : ConIn w v c) (hx : IsInts w x X) (hy : IsInts w y Y) (r : ConR n c) (ha : X.length = c.A.length) (hb : Y.length = c.B.length) (bX : ∀ v ∈ X, -1000000 ≤ v ∧ v ≤ 1000000) (bY : ∀ v ∈ Y, -1000000 ≤ v ∧ v ≤ 1000000) (hk : c.kind = 1) :
    Calls Tryz.prog 109 #[v.val c.kind c.K, .slice x.A x.n x.c, .slice y.A y.n y.c] w fun e w' => e = .returned (.bool (meetsB c X Y)) ∧ Below w.heap.size w w' := by
  have he : meetsB c X Y = (linB c (dotE c.C X) Y) := by
    unfold meetsB
    simp only [hk]
    simp (config := { decide := true }) only [if_false, if_true]
  obtain ⟨wb, hwb⟩ : ∃ wb, mBox w v c.kind c.K x y = wb := ⟨_, rfl⟩
  have hbb : Below w.heap.size w wb := hwb ▸ below_mBox w v c.kind c.K x y
  have hcon : ∀ (j : Nat) (u : Value), (v.cells c.kind c.K)[j]? = some u → wb.cell? ⟨w.heap.size, j, none⟩ = some u := hwb ▸ mBox_con w v c.kind c.K x y
  have hbx : wb.cell? ⟨w.heap.size + 1, 0, none⟩ = some (.slice x.A x.n x.c) := hwb ▸ mBox_x w v c.kind c.K x y
  have hby : wb.cell? ⟨w.heap.size + 1 + 1, 0, none⟩ = some (.slice y.A y.n y.c) := hwb ▸ mBox_y w v c.kind c.K x y
  have hsz : w.heap.size < wb.heap.size := hwb ▸ (by simp; omega)
  have hX := hx.below hbb
  have hY := hy.below hbb
  have hV := h.below hbb
  have HBB := Lib.hid hbb
  have HWB := Lib.hid hwb
  have c0 := hcon 0 _ rfl
  have c3 := hcon 3 _ rfl
  have c7 := hcon 7 _ rfl
  rw [he]
  have := And.intro hb (And.intro bX (And.intro bY (And.intro hy hx)))
  clear this
  have := And.intro r ha
  clear this
  have k0 := cell_regrown (hcon 0 _ rfl)
  have k1 := cell_regrown (hcon 1 _ rfl)
  have k2 := cell_regrown (hcon 2 _ rfl)
  have k3 := cell_regrown (hcon 3 _ rfl)
  have k4 := cell_regrown (hcon 4 _ rfl)
  have k5 := cell_regrown (hcon 5 _ rfl)
  have k6 := cell_regrown (hcon 6 _ rfl)
  have k7 := cell_regrown (hcon 7 _ rfl)
  have zx := cell_regrown hbx
  have zy := cell_regrown hby
  have CS := Lib.hid (gin_regrown (w := wb) (v := .int .i64 (dotE c.C X)) (fun W hW => sum_any v.c x c.C X W (hV.c.below hW) (hX.below hW) (by rw [ha]; exact r.lin (by omega)) r.c64 r.pc bX))
  have CL := Lib.hid (bo_regrown (w := wb) (fun W hW => lin_any v c (dotE c.C X) y Y W (by omega) (hY.below hW) (fun q => by rw [hb]; exact r.reif q)))
  generalize linB c (dotE c.C X) Y = RES at CL ⊢
  generalize dotE c.C X = D at CS CL
  generalize c.K = kk at *
  generalize c.kind = kd at *
  subst hk
  clear hcon hX hY hV hx hy h r ha hb bX bY hbb hwb he hsz
  go_enter Tryz.func109, Tryz.ntmps109
  go_upto_region 1 with fail
  change Code.wp _ _ _ _ (mBox w v 1 kk x y)
  rw [HWB.out]
  go_wp2_with fail
  refine wp_region_quiet_below (by kernel_rfl) (by kernel_rfl) ?_
  repeat (first | go_big_quiet_step (first | (go_at_call 161; with_reducible exact CS.out _ _) | (go_at_call 160; with_reducible exact CL.out _ _)) | quiet_step (first | (go_at_call 161; with_reducible exact CS.out _ _) | (go_at_call 160; with_reducible exact CL.out _ _)))
  refine wpQuiet_nil ?_
  intro _ hw'
  obtain ⟨⟨dq, osq⟩, hw''⟩ := hw'
  subst hw''
  have B6 := Lib.hid (below_regrown wb dq osq)
  generalize grow (redrawn wb dq) osq = W6 at *
  clear k0 k1 k2 k3 k4 k5 k6 k7 zx zy CS CL
  go_wp2_with fail
  go_ret
  exact ⟨rfl, HBB.out.trans (B6.out.mono HBB.out.size)⟩

set_option maxHeartbeats 4000000 in
set_option maxRecDepth 100000 in
theorem meet2 (v : ConV) (c : ConL) (x y : Sl) (X Y : List Int) (n : Nat) (w : World) (h : ConIn w v c) (hx : IsInts w x X) (hy : IsInts w y Y) (r : ConR n c) (ha : X.length = c.A.length) (hb : Y.length = c.B.length) (bX : ∀ v ∈ X, -1000000 ≤ v ∧ v ≤ 1000000) (bY : ∀ v ∈ Y, -1000000 ≤ v ∧ v ≤ 1000000) (hk : c.kind = 2) :
    Calls Tryz.prog 109 #[v.val c.kind c.K, .slice x.A x.n x.c, .slice y.A y.n y.c] w fun e w' => e = .returned (.bool (meetsB c X Y)) ∧ Below w.heap.size w w' := by
  have he : meetsB c X Y = (linB c (dotE c.C X) Y) := by
    unfold meetsB
    simp only [hk]
    simp (config := { decide := true }) only [if_false, if_true]
  obtain ⟨wb, hwb⟩ : ∃ wb, mBox w v c.kind c.K x y = wb := ⟨_, rfl⟩
  have hbb : Below w.heap.size w wb := hwb ▸ below_mBox w v c.kind c.K x y
  have hcon : ∀ (j : Nat) (u : Value), (v.cells c.kind c.K)[j]? = some u → wb.cell? ⟨w.heap.size, j, none⟩ = some u := hwb ▸ mBox_con w v c.kind c.K x y
  have hbx : wb.cell? ⟨w.heap.size + 1, 0, none⟩ = some (.slice x.A x.n x.c) := hwb ▸ mBox_x w v c.kind c.K x y
  have hby : wb.cell? ⟨w.heap.size + 1 + 1, 0, none⟩ = some (.slice y.A y.n y.c) := hwb ▸ mBox_y w v c.kind c.K x y
  have hsz : w.heap.size < wb.heap.size := hwb ▸ (by simp; omega)
  have hX := hx.below hbb
  have hY := hy.below hbb
  have hV := h.below hbb
  have HBB := Lib.hid hbb
  have HWB := Lib.hid hwb
  have c0 := hcon 0 _ rfl
  have c3 := hcon 3 _ rfl
  have c7 := hcon 7 _ rfl
  rw [he]
  have := And.intro hb (And.intro bX (And.intro bY (And.intro hy hx)))
  clear this
  have := And.intro r ha
  clear this
  have k0 := cell_regrown (hcon 0 _ rfl)
  have k1 := cell_regrown (hcon 1 _ rfl)
  have k2 := cell_regrown (hcon 2 _ rfl)
  have k3 := cell_regrown (hcon 3 _ rfl)
  have k4 := cell_regrown (hcon 4 _ rfl)
  have k5 := cell_regrown (hcon 5 _ rfl)
  have k6 := cell_regrown (hcon 6 _ rfl)
  have k7 := cell_regrown (hcon 7 _ rfl)
  have zx := cell_regrown hbx
  have zy := cell_regrown hby
  have CS := Lib.hid (gin_regrown (w := wb) (v := .int .i64 (dotE c.C X)) (fun W hW => sum_any v.c x c.C X W (hV.c.below hW) (hX.below hW) (by rw [ha]; exact r.lin (by omega)) r.c64 r.pc bX))
  have CL := Lib.hid (bo_regrown (w := wb) (fun W hW => lin_any v c (dotE c.C X) y Y W (by omega) (hY.below hW) (fun q => by rw [hb]; exact r.reif q)))
  generalize linB c (dotE c.C X) Y = RES at CL ⊢
  generalize dotE c.C X = D at CS CL
  generalize c.K = kk at *
  generalize c.kind = kd at *
  subst hk
  clear hcon hX hY hV hx hy h r ha hb bX bY hbb hwb he hsz
  go_enter Tryz.func109, Tryz.ntmps109
  go_upto_region 1 with fail
  change Code.wp _ _ _ _ (mBox w v 2 kk x y)
  rw [HWB.out]
  go_wp2_with fail
  refine wp_region_quiet_below (by kernel_rfl) (by kernel_rfl) ?_
  repeat (first | go_big_quiet_step (first | (go_at_call 161; with_reducible exact CS.out _ _) | (go_at_call 160; with_reducible exact CL.out _ _)) | quiet_step (first | (go_at_call 161; with_reducible exact CS.out _ _) | (go_at_call 160; with_reducible exact CL.out _ _)))
  refine wpQuiet_nil ?_
  intro _ hw'
  obtain ⟨⟨dq, osq⟩, hw''⟩ := hw'
  subst hw''
  have B6 := Lib.hid (below_regrown wb dq osq)
  generalize grow (redrawn wb dq) osq = W6 at *
  clear k0 k1 k2 k3 k4 k5 k6 k7 zx zy CS CL
  go_wp2_with fail
  go_ret
  exact ⟨rfl, HBB.out.trans (B6.out.mono HBB.out.size)⟩

set_option maxHeartbeats 4000000 in
set_option maxRecDepth 100000 in
theorem meet3 (v : ConV) (c : ConL) (x y : Sl) (X Y : List Int) (n : Nat) (w : World) (h : ConIn w v c) (hx : IsInts w x X) (hy : IsInts w y Y) (r : ConR n c) (ha : X.length = c.A.length) (hb : Y.length = c.B.length) (bX : ∀ v ∈ X, -1000000 ≤ v ∧ v ≤ 1000000) (bY : ∀ v ∈ Y, -1000000 ≤ v ∧ v ≤ 1000000) (hk : c.kind = 3) :
    Calls Tryz.prog 109 #[v.val c.kind c.K, .slice x.A x.n x.c, .slice y.A y.n y.c] w fun e w' => e = .returned (.bool (meetsB c X Y)) ∧ Below w.heap.size w w' := by
  have he : meetsB c X Y = (linB c (dotE c.C X) Y) := by
    unfold meetsB
    simp only [hk]
    simp (config := { decide := true }) only [if_false, if_true]
  obtain ⟨wb, hwb⟩ : ∃ wb, mBox w v c.kind c.K x y = wb := ⟨_, rfl⟩
  have hbb : Below w.heap.size w wb := hwb ▸ below_mBox w v c.kind c.K x y
  have hcon : ∀ (j : Nat) (u : Value), (v.cells c.kind c.K)[j]? = some u → wb.cell? ⟨w.heap.size, j, none⟩ = some u := hwb ▸ mBox_con w v c.kind c.K x y
  have hbx : wb.cell? ⟨w.heap.size + 1, 0, none⟩ = some (.slice x.A x.n x.c) := hwb ▸ mBox_x w v c.kind c.K x y
  have hby : wb.cell? ⟨w.heap.size + 1 + 1, 0, none⟩ = some (.slice y.A y.n y.c) := hwb ▸ mBox_y w v c.kind c.K x y
  have hsz : w.heap.size < wb.heap.size := hwb ▸ (by simp; omega)
  have hX := hx.below hbb
  have hY := hy.below hbb
  have hV := h.below hbb
  have HBB := Lib.hid hbb
  have HWB := Lib.hid hwb
  have c0 := hcon 0 _ rfl
  have c3 := hcon 3 _ rfl
  have c7 := hcon 7 _ rfl
  rw [he]
  have := And.intro hb (And.intro bX (And.intro bY (And.intro hy hx)))
  clear this
  have := And.intro r ha
  clear this
  have k0 := cell_regrown (hcon 0 _ rfl)
  have k1 := cell_regrown (hcon 1 _ rfl)
  have k2 := cell_regrown (hcon 2 _ rfl)
  have k3 := cell_regrown (hcon 3 _ rfl)
  have k4 := cell_regrown (hcon 4 _ rfl)
  have k5 := cell_regrown (hcon 5 _ rfl)
  have k6 := cell_regrown (hcon 6 _ rfl)
  have k7 := cell_regrown (hcon 7 _ rfl)
  have zx := cell_regrown hbx
  have zy := cell_regrown hby
  have CS := Lib.hid (gin_regrown (w := wb) (v := .int .i64 (dotE c.C X)) (fun W hW => sum_any v.c x c.C X W (hV.c.below hW) (hX.below hW) (by rw [ha]; exact r.lin (by omega)) r.c64 r.pc bX))
  have CL := Lib.hid (bo_regrown (w := wb) (fun W hW => lin_any v c (dotE c.C X) y Y W (by omega) (hY.below hW) (fun q => by rw [hb]; exact r.reif q)))
  generalize linB c (dotE c.C X) Y = RES at CL ⊢
  generalize dotE c.C X = D at CS CL
  generalize c.K = kk at *
  generalize c.kind = kd at *
  subst hk
  clear hcon hX hY hV hx hy h r ha hb bX bY hbb hwb he hsz
  go_enter Tryz.func109, Tryz.ntmps109
  go_upto_region 1 with fail
  change Code.wp _ _ _ _ (mBox w v 3 kk x y)
  rw [HWB.out]
  go_wp2_with fail
  refine wp_region_quiet_below (by kernel_rfl) (by kernel_rfl) ?_
  repeat (first | go_big_quiet_step (first | (go_at_call 161; with_reducible exact CS.out _ _) | (go_at_call 160; with_reducible exact CL.out _ _)) | quiet_step (first | (go_at_call 161; with_reducible exact CS.out _ _) | (go_at_call 160; with_reducible exact CL.out _ _)))
  refine wpQuiet_nil ?_
  intro _ hw'
  obtain ⟨⟨dq, osq⟩, hw''⟩ := hw'
  subst hw''
  have B6 := Lib.hid (below_regrown wb dq osq)
  generalize grow (redrawn wb dq) osq = W6 at *
  clear k0 k1 k2 k3 k4 k5 k6 k7 zx zy CS CL
  go_wp2_with fail
  go_ret
  exact ⟨rfl, HBB.out.trans (B6.out.mono HBB.out.size)⟩

set_option maxHeartbeats 4000000 in
set_option maxRecDepth 100000 in
theorem meet4 (v : ConV) (c : ConL) (x y : Sl) (X Y : List Int) (n : Nat) (w : World) (h : ConIn w v c) (hx : IsInts w x X) (hy : IsInts w y Y) (r : ConR n c) (ha : X.length = c.A.length) (hb : Y.length = c.B.length) (bX : ∀ v ∈ X, -1000000 ≤ v ∧ v ≤ 1000000) (bY : ∀ v ∈ Y, -1000000 ≤ v ∧ v ≤ 1000000) (hk : c.kind = 4) :
    Calls Tryz.prog 109 #[v.val c.kind c.K, .slice x.A x.n x.c, .slice y.A y.n y.c] w fun e w' => e = .returned (.bool (meetsB c X Y)) ∧ Below w.heap.size w w' := by
  have he : meetsB c X Y = (linB c (dotE c.C X) Y) := by
    unfold meetsB
    simp only [hk]
    simp (config := { decide := true }) only [if_false, if_true]
  obtain ⟨wb, hwb⟩ : ∃ wb, mBox w v c.kind c.K x y = wb := ⟨_, rfl⟩
  have hbb : Below w.heap.size w wb := hwb ▸ below_mBox w v c.kind c.K x y
  have hcon : ∀ (j : Nat) (u : Value), (v.cells c.kind c.K)[j]? = some u → wb.cell? ⟨w.heap.size, j, none⟩ = some u := hwb ▸ mBox_con w v c.kind c.K x y
  have hbx : wb.cell? ⟨w.heap.size + 1, 0, none⟩ = some (.slice x.A x.n x.c) := hwb ▸ mBox_x w v c.kind c.K x y
  have hby : wb.cell? ⟨w.heap.size + 1 + 1, 0, none⟩ = some (.slice y.A y.n y.c) := hwb ▸ mBox_y w v c.kind c.K x y
  have hsz : w.heap.size < wb.heap.size := hwb ▸ (by simp; omega)
  have hX := hx.below hbb
  have hY := hy.below hbb
  have hV := h.below hbb
  have HBB := Lib.hid hbb
  have HWB := Lib.hid hwb
  have c0 := hcon 0 _ rfl
  have c3 := hcon 3 _ rfl
  have c7 := hcon 7 _ rfl
  rw [he]
  have := And.intro hb (And.intro bX (And.intro bY (And.intro hy hx)))
  clear this
  have := And.intro r ha
  clear this
  have k0 := cell_regrown (hcon 0 _ rfl)
  have k1 := cell_regrown (hcon 1 _ rfl)
  have k2 := cell_regrown (hcon 2 _ rfl)
  have k3 := cell_regrown (hcon 3 _ rfl)
  have k4 := cell_regrown (hcon 4 _ rfl)
  have k5 := cell_regrown (hcon 5 _ rfl)
  have k6 := cell_regrown (hcon 6 _ rfl)
  have k7 := cell_regrown (hcon 7 _ rfl)
  have zx := cell_regrown hbx
  have zy := cell_regrown hby
  have CS := Lib.hid (gin_regrown (w := wb) (v := .int .i64 (dotE c.C X)) (fun W hW => sum_any v.c x c.C X W (hV.c.below hW) (hX.below hW) (by rw [ha]; exact r.lin (by omega)) r.c64 r.pc bX))
  have CL := Lib.hid (bo_regrown (w := wb) (fun W hW => lin_any v c (dotE c.C X) y Y W (by omega) (hY.below hW) (fun q => by rw [hb]; exact r.reif q)))
  generalize linB c (dotE c.C X) Y = RES at CL ⊢
  generalize dotE c.C X = D at CS CL
  generalize c.K = kk at *
  generalize c.kind = kd at *
  subst hk
  clear hcon hX hY hV hx hy h r ha hb bX bY hbb hwb he hsz
  go_enter Tryz.func109, Tryz.ntmps109
  go_upto_region 1 with fail
  change Code.wp _ _ _ _ (mBox w v 4 kk x y)
  rw [HWB.out]
  go_wp2_with fail
  refine wp_region_quiet_below (by kernel_rfl) (by kernel_rfl) ?_
  repeat (first | go_big_quiet_step (first | (go_at_call 161; with_reducible exact CS.out _ _) | (go_at_call 160; with_reducible exact CL.out _ _)) | quiet_step (first | (go_at_call 161; with_reducible exact CS.out _ _) | (go_at_call 160; with_reducible exact CL.out _ _)))
  refine wpQuiet_nil ?_
  intro _ hw'
  obtain ⟨⟨dq, osq⟩, hw''⟩ := hw'
  subst hw''
  have B6 := Lib.hid (below_regrown wb dq osq)
  generalize grow (redrawn wb dq) osq = W6 at *
  clear k0 k1 k2 k3 k4 k5 k6 k7 zx zy CS CL
  go_wp2_with fail
  go_ret
  exact ⟨rfl, HBB.out.trans (B6.out.mono HBB.out.size)⟩

set_option maxHeartbeats 4000000 in
set_option maxRecDepth 100000 in
theorem meet5 (v : ConV) (c : ConL) (x y : Sl) (X Y : List Int) (n : Nat) (w : World) (h : ConIn w v c) (hx : IsInts w x X) (hy : IsInts w y Y) (r : ConR n c) (ha : X.length = c.A.length) (hb : Y.length = c.B.length) (bX : ∀ v ∈ X, -1000000 ≤ v ∧ v ≤ 1000000) (bY : ∀ v ∈ Y, -1000000 ≤ v ∧ v ≤ 1000000) (hk : c.kind = 5) :
    Calls Tryz.prog 109 #[v.val c.kind c.K, .slice x.A x.n x.c, .slice y.A y.n y.c] w fun e w' => e = .returned (.bool (meetsB c X Y)) ∧ Below w.heap.size w w' := by
  have he : meetsB c X Y = (worksB c.kind X) := by
    unfold meetsB
    simp only [hk]
    simp (config := { decide := true }) only [if_false, if_true]
  obtain ⟨wb, hwb⟩ : ∃ wb, mBox w v c.kind c.K x y = wb := ⟨_, rfl⟩
  have hbb : Below w.heap.size w wb := hwb ▸ below_mBox w v c.kind c.K x y
  have hcon : ∀ (j : Nat) (u : Value), (v.cells c.kind c.K)[j]? = some u → wb.cell? ⟨w.heap.size, j, none⟩ = some u := hwb ▸ mBox_con w v c.kind c.K x y
  have hbx : wb.cell? ⟨w.heap.size + 1, 0, none⟩ = some (.slice x.A x.n x.c) := hwb ▸ mBox_x w v c.kind c.K x y
  have hby : wb.cell? ⟨w.heap.size + 1 + 1, 0, none⟩ = some (.slice y.A y.n y.c) := hwb ▸ mBox_y w v c.kind c.K x y
  have hsz : w.heap.size < wb.heap.size := hwb ▸ (by simp; omega)
  have hX := hx.below hbb
  have hY := hy.below hbb
  have hV := h.below hbb
  have HBB := Lib.hid hbb
  have HWB := Lib.hid hwb
  have c0 := hcon 0 _ rfl
  have c3 := hcon 3 _ rfl
  have c7 := hcon 7 _ rfl
  rw [he]
  have := And.intro hb (And.intro bX (And.intro bY (And.intro hy hx)))
  clear this
  have := And.intro r ha
  clear this
  have CC := Lib.hid (works_any c.kind x X wb (by omega) hX (fun q => by rw [ha]; exact r.three (by omega) (by omega) q) (fun q => by rw [ha]; exact r.two (.inl q)) bX)
  generalize worksB c.kind X = RES at CC ⊢
  generalize c.K = kk at *
  generalize c.kind = kd at *
  subst hk
  clear hcon hX hY hV hx hy h r ha hb bX bY hbb hwb he hsz
  go_enter Tryz.func109, Tryz.ntmps109
  go_upto_region 1 with fail
  change Code.wp _ _ _ _ (mBox w v 5 kk x y)
  rw [HWB.out]
  go_wp2_with fail
  refine (CC.out).mono ?_
  rintro e w1 ⟨rfl, b1⟩
  have B1 := Lib.hid b1
  clear b1 CC
  go_wp2_with fail
  go_ret
  exact ⟨rfl, HBB.out.trans (B1.out.mono HBB.out.size)⟩

set_option maxHeartbeats 4000000 in
set_option maxRecDepth 100000 in
theorem meet6 (v : ConV) (c : ConL) (x y : Sl) (X Y : List Int) (n : Nat) (w : World) (h : ConIn w v c) (hx : IsInts w x X) (hy : IsInts w y Y) (r : ConR n c) (ha : X.length = c.A.length) (hb : Y.length = c.B.length) (bX : ∀ v ∈ X, -1000000 ≤ v ∧ v ≤ 1000000) (bY : ∀ v ∈ Y, -1000000 ≤ v ∧ v ≤ 1000000) (hk : c.kind = 6) :
    Calls Tryz.prog 109 #[v.val c.kind c.K, .slice x.A x.n x.c, .slice y.A y.n y.c] w fun e w' => e = .returned (.bool (meetsB c X Y)) ∧ Below w.heap.size w w' := by
  have he : meetsB c X Y = (worksB c.kind X) := by
    unfold meetsB
    simp only [hk]
    simp (config := { decide := true }) only [if_false, if_true]
  obtain ⟨wb, hwb⟩ : ∃ wb, mBox w v c.kind c.K x y = wb := ⟨_, rfl⟩
  have hbb : Below w.heap.size w wb := hwb ▸ below_mBox w v c.kind c.K x y
  have hcon : ∀ (j : Nat) (u : Value), (v.cells c.kind c.K)[j]? = some u → wb.cell? ⟨w.heap.size, j, none⟩ = some u := hwb ▸ mBox_con w v c.kind c.K x y
  have hbx : wb.cell? ⟨w.heap.size + 1, 0, none⟩ = some (.slice x.A x.n x.c) := hwb ▸ mBox_x w v c.kind c.K x y
  have hby : wb.cell? ⟨w.heap.size + 1 + 1, 0, none⟩ = some (.slice y.A y.n y.c) := hwb ▸ mBox_y w v c.kind c.K x y
  have hsz : w.heap.size < wb.heap.size := hwb ▸ (by simp; omega)
  have hX := hx.below hbb
  have hY := hy.below hbb
  have hV := h.below hbb
  have HBB := Lib.hid hbb
  have HWB := Lib.hid hwb
  have c0 := hcon 0 _ rfl
  have c3 := hcon 3 _ rfl
  have c7 := hcon 7 _ rfl
  rw [he]
  have := And.intro hb (And.intro bX (And.intro bY (And.intro hy hx)))
  clear this
  have := And.intro r ha
  clear this
  have CC := Lib.hid (works_any c.kind x X wb (by omega) hX (fun q => by rw [ha]; exact r.three (by omega) (by omega) q) (fun q => by rw [ha]; exact r.two (.inl q)) bX)
  generalize worksB c.kind X = RES at CC ⊢
  generalize c.K = kk at *
  generalize c.kind = kd at *
  subst hk
  clear hcon hX hY hV hx hy h r ha hb bX bY hbb hwb he hsz
  go_enter Tryz.func109, Tryz.ntmps109
  go_upto_region 1 with fail
  change Code.wp _ _ _ _ (mBox w v 6 kk x y)
  rw [HWB.out]
  go_wp2_with fail
  refine (CC.out).mono ?_
  rintro e w1 ⟨rfl, b1⟩
  have B1 := Lib.hid b1
  clear b1 CC
  go_wp2_with fail
  go_ret
  exact ⟨rfl, HBB.out.trans (B1.out.mono HBB.out.size)⟩

set_option maxHeartbeats 4000000 in
set_option maxRecDepth 100000 in
theorem meet7 (v : ConV) (c : ConL) (x y : Sl) (X Y : List Int) (n : Nat) (w : World) (h : ConIn w v c) (hx : IsInts w x X) (hy : IsInts w y Y) (r : ConR n c) (ha : X.length = c.A.length) (hb : Y.length = c.B.length) (bX : ∀ v ∈ X, -1000000 ≤ v ∧ v ≤ 1000000) (bY : ∀ v ∈ Y, -1000000 ≤ v ∧ v ≤ 1000000) (hk : c.kind = 7) :
    Calls Tryz.prog 109 #[v.val c.kind c.K, .slice x.A x.n x.c, .slice y.A y.n y.c] w fun e w' => e = .returned (.bool (meetsB c X Y)) ∧ Below w.heap.size w w' := by
  have he : meetsB c X Y = (worksB c.kind X) := by
    unfold meetsB
    simp only [hk]
    simp (config := { decide := true }) only [if_false, if_true]
  obtain ⟨wb, hwb⟩ : ∃ wb, mBox w v c.kind c.K x y = wb := ⟨_, rfl⟩
  have hbb : Below w.heap.size w wb := hwb ▸ below_mBox w v c.kind c.K x y
  have hcon : ∀ (j : Nat) (u : Value), (v.cells c.kind c.K)[j]? = some u → wb.cell? ⟨w.heap.size, j, none⟩ = some u := hwb ▸ mBox_con w v c.kind c.K x y
  have hbx : wb.cell? ⟨w.heap.size + 1, 0, none⟩ = some (.slice x.A x.n x.c) := hwb ▸ mBox_x w v c.kind c.K x y
  have hby : wb.cell? ⟨w.heap.size + 1 + 1, 0, none⟩ = some (.slice y.A y.n y.c) := hwb ▸ mBox_y w v c.kind c.K x y
  have hsz : w.heap.size < wb.heap.size := hwb ▸ (by simp; omega)
  have hX := hx.below hbb
  have hY := hy.below hbb
  have hV := h.below hbb
  have HBB := Lib.hid hbb
  have HWB := Lib.hid hwb
  have c0 := hcon 0 _ rfl
  have c3 := hcon 3 _ rfl
  have c7 := hcon 7 _ rfl
  rw [he]
  have := And.intro hb (And.intro bX (And.intro bY (And.intro hy hx)))
  clear this
  have := And.intro r ha
  clear this
  have CC := Lib.hid (works_any c.kind x X wb (by omega) hX (fun q => by rw [ha]; exact r.three (by omega) (by omega) q) (fun q => by rw [ha]; exact r.two (.inl q)) bX)
  generalize worksB c.kind X = RES at CC ⊢
  generalize c.K = kk at *
  generalize c.kind = kd at *
  subst hk
  clear hcon hX hY hV hx hy h r ha hb bX bY hbb hwb he hsz
  go_enter Tryz.func109, Tryz.ntmps109
  go_upto_region 1 with fail
  change Code.wp _ _ _ _ (mBox w v 7 kk x y)
  rw [HWB.out]
  go_wp2_with fail
  refine (CC.out).mono ?_
  rintro e w1 ⟨rfl, b1⟩
  have B1 := Lib.hid b1
  clear b1 CC
  go_wp2_with fail
  go_ret
  exact ⟨rfl, HBB.out.trans (B1.out.mono HBB.out.size)⟩

set_option maxHeartbeats 4000000 in
set_option maxRecDepth 100000 in
theorem meet8 (v : ConV) (c : ConL) (x y : Sl) (X Y : List Int) (n : Nat) (w : World) (h : ConIn w v c) (hx : IsInts w x X) (hy : IsInts w y Y) (r : ConR n c) (ha : X.length = c.A.length) (hb : Y.length = c.B.length) (bX : ∀ v ∈ X, -1000000 ≤ v ∧ v ≤ 1000000) (bY : ∀ v ∈ Y, -1000000 ≤ v ∧ v ≤ 1000000) (hk : c.kind = 8) :
    Calls Tryz.prog 109 #[v.val c.kind c.K, .slice x.A x.n x.c, .slice y.A y.n y.c] w fun e w' => e = .returned (.bool (meetsB c X Y)) ∧ Below w.heap.size w w' := by
  have he : meetsB c X Y = (worksB c.kind X) := by
    unfold meetsB
    simp only [hk]
    simp (config := { decide := true }) only [if_false, if_true]
  obtain ⟨wb, hwb⟩ : ∃ wb, mBox w v c.kind c.K x y = wb := ⟨_, rfl⟩
  have hbb : Below w.heap.size w wb := hwb ▸ below_mBox w v c.kind c.K x y
  have hcon : ∀ (j : Nat) (u : Value), (v.cells c.kind c.K)[j]? = some u → wb.cell? ⟨w.heap.size, j, none⟩ = some u := hwb ▸ mBox_con w v c.kind c.K x y
  have hbx : wb.cell? ⟨w.heap.size + 1, 0, none⟩ = some (.slice x.A x.n x.c) := hwb ▸ mBox_x w v c.kind c.K x y
  have hby : wb.cell? ⟨w.heap.size + 1 + 1, 0, none⟩ = some (.slice y.A y.n y.c) := hwb ▸ mBox_y w v c.kind c.K x y
  have hsz : w.heap.size < wb.heap.size := hwb ▸ (by simp; omega)
  have hX := hx.below hbb
  have hY := hy.below hbb
  have hV := h.below hbb
  have HBB := Lib.hid hbb
  have HWB := Lib.hid hwb
  have c0 := hcon 0 _ rfl
  have c3 := hcon 3 _ rfl
  have c7 := hcon 7 _ rfl
  rw [he]
  have := And.intro hb (And.intro bX (And.intro bY (And.intro hy hx)))
  clear this
  have := And.intro r ha
  clear this
  have CC := Lib.hid (works_any c.kind x X wb (by omega) hX (fun q => by rw [ha]; exact r.three (by omega) (by omega) q) (fun q => by rw [ha]; exact r.two (.inl q)) bX)
  generalize worksB c.kind X = RES at CC ⊢
  generalize c.K = kk at *
  generalize c.kind = kd at *
  subst hk
  clear hcon hX hY hV hx hy h r ha hb bX bY hbb hwb he hsz
  go_enter Tryz.func109, Tryz.ntmps109
  go_upto_region 1 with fail
  change Code.wp _ _ _ _ (mBox w v 8 kk x y)
  rw [HWB.out]
  go_wp2_with fail
  refine (CC.out).mono ?_
  rintro e w1 ⟨rfl, b1⟩
  have B1 := Lib.hid b1
  clear b1 CC
  go_wp2_with fail
  go_ret
  exact ⟨rfl, HBB.out.trans (B1.out.mono HBB.out.size)⟩

set_option maxHeartbeats 4000000 in
set_option maxRecDepth 100000 in
theorem meet9 (v : ConV) (c : ConL) (x y : Sl) (X Y : List Int) (n : Nat) (w : World) (h : ConIn w v c) (hx : IsInts w x X) (hy : IsInts w y Y) (r : ConR n c) (ha : X.length = c.A.length) (hb : Y.length = c.B.length) (bX : ∀ v ∈ X, -1000000 ≤ v ∧ v ≤ 1000000) (bY : ∀ v ∈ Y, -1000000 ≤ v ∧ v ≤ 1000000) (hk : c.kind = 9) :
    Calls Tryz.prog 109 #[v.val c.kind c.K, .slice x.A x.n x.c, .slice y.A y.n y.c] w fun e w' => e = .returned (.bool (meetsB c X Y)) ∧ Below w.heap.size w w' := by
  have he : meetsB c X Y = (worksB c.kind X) := by
    unfold meetsB
    simp only [hk]
    simp (config := { decide := true }) only [if_false, if_true]
  obtain ⟨wb, hwb⟩ : ∃ wb, mBox w v c.kind c.K x y = wb := ⟨_, rfl⟩
  have hbb : Below w.heap.size w wb := hwb ▸ below_mBox w v c.kind c.K x y
  have hcon : ∀ (j : Nat) (u : Value), (v.cells c.kind c.K)[j]? = some u → wb.cell? ⟨w.heap.size, j, none⟩ = some u := hwb ▸ mBox_con w v c.kind c.K x y
  have hbx : wb.cell? ⟨w.heap.size + 1, 0, none⟩ = some (.slice x.A x.n x.c) := hwb ▸ mBox_x w v c.kind c.K x y
  have hby : wb.cell? ⟨w.heap.size + 1 + 1, 0, none⟩ = some (.slice y.A y.n y.c) := hwb ▸ mBox_y w v c.kind c.K x y
  have hsz : w.heap.size < wb.heap.size := hwb ▸ (by simp; omega)
  have hX := hx.below hbb
  have hY := hy.below hbb
  have hV := h.below hbb
  have HBB := Lib.hid hbb
  have HWB := Lib.hid hwb
  have c0 := hcon 0 _ rfl
  have c3 := hcon 3 _ rfl
  have c7 := hcon 7 _ rfl
  rw [he]
  have := And.intro hb (And.intro bX (And.intro bY (And.intro hy hx)))
  clear this
  have := And.intro r ha
  clear this
  have CC := Lib.hid (works_any c.kind x X wb (by omega) hX (fun q => by rw [ha]; exact r.three (by omega) (by omega) q) (fun q => by rw [ha]; exact r.two (.inl q)) bX)
  generalize worksB c.kind X = RES at CC ⊢
  generalize c.K = kk at *
  generalize c.kind = kd at *
  subst hk
  clear hcon hX hY hV hx hy h r ha hb bX bY hbb hwb he hsz
  go_enter Tryz.func109, Tryz.ntmps109
  go_upto_region 1 with fail
  change Code.wp _ _ _ _ (mBox w v 9 kk x y)
  rw [HWB.out]
  go_wp2_with fail
  refine (CC.out).mono ?_
  rintro e w1 ⟨rfl, b1⟩
  have B1 := Lib.hid b1
  clear b1 CC
  go_wp2_with fail
  go_ret
  exact ⟨rfl, HBB.out.trans (B1.out.mono HBB.out.size)⟩

set_option maxHeartbeats 4000000 in
set_option maxRecDepth 100000 in
theorem meet10 (v : ConV) (c : ConL) (x y : Sl) (X Y : List Int) (n : Nat) (w : World) (h : ConIn w v c) (hx : IsInts w x X) (hy : IsInts w y Y) (r : ConR n c) (ha : X.length = c.A.length) (hb : Y.length = c.B.length) (bX : ∀ v ∈ X, -1000000 ≤ v ∧ v ≤ 1000000) (bY : ∀ v ∈ Y, -1000000 ≤ v ∧ v ≤ 1000000) (hk : c.kind = 10) :
    Calls Tryz.prog 109 #[v.val c.kind c.K, .slice x.A x.n x.c, .slice y.A y.n y.c] w fun e w' => e = .returned (.bool (meetsB c X Y)) ∧ Below w.heap.size w w' := by
  have he : meetsB c X Y = (worksB c.kind X) := by
    unfold meetsB
    simp only [hk]
    simp (config := { decide := true }) only [if_false, if_true]
  obtain ⟨wb, hwb⟩ : ∃ wb, mBox w v c.kind c.K x y = wb := ⟨_, rfl⟩
  have hbb : Below w.heap.size w wb := hwb ▸ below_mBox w v c.kind c.K x y
  have hcon : ∀ (j : Nat) (u : Value), (v.cells c.kind c.K)[j]? = some u → wb.cell? ⟨w.heap.size, j, none⟩ = some u := hwb ▸ mBox_con w v c.kind c.K x y
  have hbx : wb.cell? ⟨w.heap.size + 1, 0, none⟩ = some (.slice x.A x.n x.c) := hwb ▸ mBox_x w v c.kind c.K x y
  have hby : wb.cell? ⟨w.heap.size + 1 + 1, 0, none⟩ = some (.slice y.A y.n y.c) := hwb ▸ mBox_y w v c.kind c.K x y
  have hsz : w.heap.size < wb.heap.size := hwb ▸ (by simp; omega)
  have hX := hx.below hbb
  have hY := hy.below hbb
  have hV := h.below hbb
  have HBB := Lib.hid hbb
  have HWB := Lib.hid hwb
  have c0 := hcon 0 _ rfl
  have c3 := hcon 3 _ rfl
  have c7 := hcon 7 _ rfl
  rw [he]
  have := And.intro hb (And.intro bX (And.intro bY (And.intro hy hx)))
  clear this
  have := And.intro r ha
  clear this
  have CC := Lib.hid (works_any c.kind x X wb (by omega) hX (fun q => by rw [ha]; exact r.three (by omega) (by omega) q) (fun q => by rw [ha]; exact r.two (.inl q)) bX)
  generalize worksB c.kind X = RES at CC ⊢
  generalize c.K = kk at *
  generalize c.kind = kd at *
  subst hk
  clear hcon hX hY hV hx hy h r ha hb bX bY hbb hwb he hsz
  go_enter Tryz.func109, Tryz.ntmps109
  go_upto_region 1 with fail
  change Code.wp _ _ _ _ (mBox w v 10 kk x y)
  rw [HWB.out]
  go_wp2_with fail
  refine (CC.out).mono ?_
  rintro e w1 ⟨rfl, b1⟩
  have B1 := Lib.hid b1
  clear b1 CC
  go_wp2_with fail
  go_ret
  exact ⟨rfl, HBB.out.trans (B1.out.mono HBB.out.size)⟩

set_option maxHeartbeats 4000000 in
set_option maxRecDepth 100000 in
theorem meet13 (v : ConV) (c : ConL) (x y : Sl) (X Y : List Int) (n : Nat) (w : World) (h : ConIn w v c) (hx : IsInts w x X) (hy : IsInts w y Y) (r : ConR n c) (ha : X.length = c.A.length) (hb : Y.length = c.B.length) (bX : ∀ v ∈ X, -1000000 ≤ v ∧ v ≤ 1000000) (bY : ∀ v ∈ Y, -1000000 ≤ v ∧ v ≤ 1000000) (hk : c.kind = 13) :
    Calls Tryz.prog 109 #[v.val c.kind c.K, .slice x.A x.n x.c, .slice y.A y.n y.c] w fun e w' => e = .returned (.bool (meetsB c X Y)) ∧ Below w.heap.size w w' := by
  have he : meetsB c X Y = (toldB c.kind c.K (X.getD 0 0) (Y.getD 0 0)) := by
    unfold meetsB
    simp only [hk]
    simp (config := { decide := true }) only [if_false, if_true]
  obtain ⟨wb, hwb⟩ : ∃ wb, mBox w v c.kind c.K x y = wb := ⟨_, rfl⟩
  have hbb : Below w.heap.size w wb := hwb ▸ below_mBox w v c.kind c.K x y
  have hcon : ∀ (j : Nat) (u : Value), (v.cells c.kind c.K)[j]? = some u → wb.cell? ⟨w.heap.size, j, none⟩ = some u := hwb ▸ mBox_con w v c.kind c.K x y
  have hbx : wb.cell? ⟨w.heap.size + 1, 0, none⟩ = some (.slice x.A x.n x.c) := hwb ▸ mBox_x w v c.kind c.K x y
  have hby : wb.cell? ⟨w.heap.size + 1 + 1, 0, none⟩ = some (.slice y.A y.n y.c) := hwb ▸ mBox_y w v c.kind c.K x y
  have hsz : w.heap.size < wb.heap.size := hwb ▸ (by simp; omega)
  have hX := hx.below hbb
  have hY := hy.below hbb
  have hV := h.below hbb
  have HBB := Lib.hid hbb
  have HWB := Lib.hid hwb
  have c0 := hcon 0 _ rfl
  have c3 := hcon 3 _ rfl
  have c7 := hcon 7 _ rfl
  rw [he]
  have := And.intro hb (And.intro bX (And.intro bY (And.intro hy hx)))
  clear this
  have := And.intro r ha
  clear this
  have k0 := cell_regrown (hcon 0 _ rfl)
  have k1 := cell_regrown (hcon 1 _ rfl)
  have k2 := cell_regrown (hcon 2 _ rfl)
  have k3 := cell_regrown (hcon 3 _ rfl)
  have k4 := cell_regrown (hcon 4 _ rfl)
  have k5 := cell_regrown (hcon 5 _ rfl)
  have k6 := cell_regrown (hcon 6 _ rfl)
  have k7 := cell_regrown (hcon 7 _ rfl)
  have zx := cell_regrown hbx
  have zy := cell_regrown hby
  have hlr := r.told (by omega) (by omega)
  obtain ⟨adX, eX, hbX, hclX⟩ := hX.lies (by rw [hX.len]; omega)
  obtain ⟨adY, eY, hbY, hclY⟩ := hY.lies (by rw [hY.len]; omega)
  have z0 : ∀ d os, (grow (redrawn wb d) os).cell? adX = some (.int .i64 (X.getD 0 0)) := cell_regrown (by have := hclX 0 (by rw [hX.len]; omega); rw [gadd0] at this; exact this)
  have z1 : ∀ d os, (grow (redrawn wb d) os).cell? adY = some (.int .i64 (Y.getD 0 0)) := cell_regrown (by have := hclY 0 (by rw [hY.len]; omega); rw [gadd0] at this; exact this)
  have CT := Lib.hid (bo_regrown (w := wb) (fun W _ => told_any v c.kind c.K (X.getD 0 0) (Y.getD 0 0) W (by omega)))
  have hx1 : 1 ≤ x.n := by rw [hX.len]; omega
  have hy1 : 1 ≤ y.n := by rw [hY.len]; omega
  generalize toldB c.kind c.K (X.getD 0 0) (Y.getD 0 0) = RES at CT ⊢
  generalize X.getD 0 0 = a0 at *
  generalize Y.getD 0 0 = b0 at *
  simp only [eX] at zx
  simp only [eY] at zy
  obtain ⟨xn, hxn⟩ : ∃ q, q = x.n := ⟨_, rfl⟩
  obtain ⟨yn, hyn⟩ : ∃ q, q = y.n := ⟨_, rfl⟩
  rw [← hxn] at hx1
  rw [← hyn] at hy1
  simp only [← hxn] at zx
  simp only [← hyn] at zy
  clear hclX hclY hbX hbY hlr hxn hyn eX eY
  generalize c.K = kk at *
  generalize c.kind = kd at *
  subst hk
  clear hcon hX hY hV hx hy h r ha hb bX bY hbb hwb he hsz
  go_enter Tryz.func109, Tryz.ntmps109
  go_upto_region 1 with fail
  change Code.wp _ _ _ _ (mBox w v 13 kk x y)
  rw [HWB.out]
  go_wp2_with fail
  refine wp_region_quiet_below (by kernel_rfl) (by kernel_rfl) ?_
  repeat (first | go_big_quiet_step (first | (go_at_call 163; with_reducible exact CT.out _ _)) | quiet_step (first | (go_at_call 163; with_reducible exact CT.out _ _)))
  refine wpQuiet_nil ?_
  intro _ hw'
  obtain ⟨⟨dq, osq⟩, hw''⟩ := hw'
  subst hw''
  have B6 := Lib.hid (below_regrown wb dq osq)
  generalize grow (redrawn wb dq) osq = W6 at *
  clear k0 k1 k2 k3 k4 k5 k6 k7 zx zy z0 z1 CT
  go_wp2_with fail
  go_ret
  exact ⟨rfl, HBB.out.trans (B6.out.mono HBB.out.size)⟩

set_option maxHeartbeats 4000000 in
set_option maxRecDepth 100000 in
theorem meet14 (v : ConV) (c : ConL) (x y : Sl) (X Y : List Int) (n : Nat) (w : World) (h : ConIn w v c) (hx : IsInts w x X) (hy : IsInts w y Y) (r : ConR n c) (ha : X.length = c.A.length) (hb : Y.length = c.B.length) (bX : ∀ v ∈ X, -1000000 ≤ v ∧ v ≤ 1000000) (bY : ∀ v ∈ Y, -1000000 ≤ v ∧ v ≤ 1000000) (hk : c.kind = 14) :
    Calls Tryz.prog 109 #[v.val c.kind c.K, .slice x.A x.n x.c, .slice y.A y.n y.c] w fun e w' => e = .returned (.bool (meetsB c X Y)) ∧ Below w.heap.size w w' := by
  have he : meetsB c X Y = (toldB c.kind c.K (X.getD 0 0) (Y.getD 0 0)) := by
    unfold meetsB
    simp only [hk]
    simp (config := { decide := true }) only [if_false, if_true]
  obtain ⟨wb, hwb⟩ : ∃ wb, mBox w v c.kind c.K x y = wb := ⟨_, rfl⟩
  have hbb : Below w.heap.size w wb := hwb ▸ below_mBox w v c.kind c.K x y
  have hcon : ∀ (j : Nat) (u : Value), (v.cells c.kind c.K)[j]? = some u → wb.cell? ⟨w.heap.size, j, none⟩ = some u := hwb ▸ mBox_con w v c.kind c.K x y
  have hbx : wb.cell? ⟨w.heap.size + 1, 0, none⟩ = some (.slice x.A x.n x.c) := hwb ▸ mBox_x w v c.kind c.K x y
  have hby : wb.cell? ⟨w.heap.size + 1 + 1, 0, none⟩ = some (.slice y.A y.n y.c) := hwb ▸ mBox_y w v c.kind c.K x y
  have hsz : w.heap.size < wb.heap.size := hwb ▸ (by simp; omega)
  have hX := hx.below hbb
  have hY := hy.below hbb
  have hV := h.below hbb
  have HBB := Lib.hid hbb
  have HWB := Lib.hid hwb
  have c0 := hcon 0 _ rfl
  have c3 := hcon 3 _ rfl
  have c7 := hcon 7 _ rfl
  rw [he]
  have := And.intro hb (And.intro bX (And.intro bY (And.intro hy hx)))
  clear this
  have := And.intro r ha
  clear this
  have k0 := cell_regrown (hcon 0 _ rfl)
  have k1 := cell_regrown (hcon 1 _ rfl)
  have k2 := cell_regrown (hcon 2 _ rfl)
  have k3 := cell_regrown (hcon 3 _ rfl)
  have k4 := cell_regrown (hcon 4 _ rfl)
  have k5 := cell_regrown (hcon 5 _ rfl)
  have k6 := cell_regrown (hcon 6 _ rfl)
  have k7 := cell_regrown (hcon 7 _ rfl)
  have zx := cell_regrown hbx
  have zy := cell_regrown hby
  have hlr := r.told (by omega) (by omega)
  obtain ⟨adX, eX, hbX, hclX⟩ := hX.lies (by rw [hX.len]; omega)
  obtain ⟨adY, eY, hbY, hclY⟩ := hY.lies (by rw [hY.len]; omega)
  have z0 : ∀ d os, (grow (redrawn wb d) os).cell? adX = some (.int .i64 (X.getD 0 0)) := cell_regrown (by have := hclX 0 (by rw [hX.len]; omega); rw [gadd0] at this; exact this)
  have z1 : ∀ d os, (grow (redrawn wb d) os).cell? adY = some (.int .i64 (Y.getD 0 0)) := cell_regrown (by have := hclY 0 (by rw [hY.len]; omega); rw [gadd0] at this; exact this)
  have CT := Lib.hid (bo_regrown (w := wb) (fun W _ => told_any v c.kind c.K (X.getD 0 0) (Y.getD 0 0) W (by omega)))
  have hx1 : 1 ≤ x.n := by rw [hX.len]; omega
  have hy1 : 1 ≤ y.n := by rw [hY.len]; omega
  generalize toldB c.kind c.K (X.getD 0 0) (Y.getD 0 0) = RES at CT ⊢
  generalize X.getD 0 0 = a0 at *
  generalize Y.getD 0 0 = b0 at *
  simp only [eX] at zx
  simp only [eY] at zy
  obtain ⟨xn, hxn⟩ : ∃ q, q = x.n := ⟨_, rfl⟩
  obtain ⟨yn, hyn⟩ : ∃ q, q = y.n := ⟨_, rfl⟩
  rw [← hxn] at hx1
  rw [← hyn] at hy1
  simp only [← hxn] at zx
  simp only [← hyn] at zy
  clear hclX hclY hbX hbY hlr hxn hyn eX eY
  generalize c.K = kk at *
  generalize c.kind = kd at *
  subst hk
  clear hcon hX hY hV hx hy h r ha hb bX bY hbb hwb he hsz
  go_enter Tryz.func109, Tryz.ntmps109
  go_upto_region 1 with fail
  change Code.wp _ _ _ _ (mBox w v 14 kk x y)
  rw [HWB.out]
  go_wp2_with fail
  refine wp_region_quiet_below (by kernel_rfl) (by kernel_rfl) ?_
  repeat (first | go_big_quiet_step (first | (go_at_call 163; with_reducible exact CT.out _ _)) | quiet_step (first | (go_at_call 163; with_reducible exact CT.out _ _)))
  refine wpQuiet_nil ?_
  intro _ hw'
  obtain ⟨⟨dq, osq⟩, hw''⟩ := hw'
  subst hw''
  have B6 := Lib.hid (below_regrown wb dq osq)
  generalize grow (redrawn wb dq) osq = W6 at *
  clear k0 k1 k2 k3 k4 k5 k6 k7 zx zy z0 z1 CT
  go_wp2_with fail
  go_ret
  exact ⟨rfl, HBB.out.trans (B6.out.mono HBB.out.size)⟩

set_option maxHeartbeats 4000000 in
set_option maxRecDepth 100000 in
theorem meet15 (v : ConV) (c : ConL) (x y : Sl) (X Y : List Int) (n : Nat) (w : World) (h : ConIn w v c) (hx : IsInts w x X) (hy : IsInts w y Y) (r : ConR n c) (ha : X.length = c.A.length) (hb : Y.length = c.B.length) (bX : ∀ v ∈ X, -1000000 ≤ v ∧ v ≤ 1000000) (bY : ∀ v ∈ Y, -1000000 ≤ v ∧ v ≤ 1000000) (hk : c.kind = 15) :
    Calls Tryz.prog 109 #[v.val c.kind c.K, .slice x.A x.n x.c, .slice y.A y.n y.c] w fun e w' => e = .returned (.bool (meetsB c X Y)) ∧ Below w.heap.size w w' := by
  have he : meetsB c X Y = (toldB c.kind c.K (X.getD 0 0) (Y.getD 0 0)) := by
    unfold meetsB
    simp only [hk]
    simp (config := { decide := true }) only [if_false, if_true]
  obtain ⟨wb, hwb⟩ : ∃ wb, mBox w v c.kind c.K x y = wb := ⟨_, rfl⟩
  have hbb : Below w.heap.size w wb := hwb ▸ below_mBox w v c.kind c.K x y
  have hcon : ∀ (j : Nat) (u : Value), (v.cells c.kind c.K)[j]? = some u → wb.cell? ⟨w.heap.size, j, none⟩ = some u := hwb ▸ mBox_con w v c.kind c.K x y
  have hbx : wb.cell? ⟨w.heap.size + 1, 0, none⟩ = some (.slice x.A x.n x.c) := hwb ▸ mBox_x w v c.kind c.K x y
  have hby : wb.cell? ⟨w.heap.size + 1 + 1, 0, none⟩ = some (.slice y.A y.n y.c) := hwb ▸ mBox_y w v c.kind c.K x y
  have hsz : w.heap.size < wb.heap.size := hwb ▸ (by simp; omega)
  have hX := hx.below hbb
  have hY := hy.below hbb
  have hV := h.below hbb
  have HBB := Lib.hid hbb
  have HWB := Lib.hid hwb
  have c0 := hcon 0 _ rfl
  have c3 := hcon 3 _ rfl
  have c7 := hcon 7 _ rfl
  rw [he]
  have := And.intro hb (And.intro bX (And.intro bY (And.intro hy hx)))
  clear this
  have := And.intro r ha
  clear this
  have k0 := cell_regrown (hcon 0 _ rfl)
  have k1 := cell_regrown (hcon 1 _ rfl)
  have k2 := cell_regrown (hcon 2 _ rfl)
  have k3 := cell_regrown (hcon 3 _ rfl)
  have k4 := cell_regrown (hcon 4 _ rfl)
  have k5 := cell_regrown (hcon 5 _ rfl)
  have k6 := cell_regrown (hcon 6 _ rfl)
  have k7 := cell_regrown (hcon 7 _ rfl)
  have zx := cell_regrown hbx
  have zy := cell_regrown hby
  have hlr := r.told (by omega) (by omega)
  obtain ⟨adX, eX, hbX, hclX⟩ := hX.lies (by rw [hX.len]; omega)
  obtain ⟨adY, eY, hbY, hclY⟩ := hY.lies (by rw [hY.len]; omega)
  have z0 : ∀ d os, (grow (redrawn wb d) os).cell? adX = some (.int .i64 (X.getD 0 0)) := cell_regrown (by have := hclX 0 (by rw [hX.len]; omega); rw [gadd0] at this; exact this)
  have z1 : ∀ d os, (grow (redrawn wb d) os).cell? adY = some (.int .i64 (Y.getD 0 0)) := cell_regrown (by have := hclY 0 (by rw [hY.len]; omega); rw [gadd0] at this; exact this)
  have CT := Lib.hid (bo_regrown (w := wb) (fun W _ => told_any v c.kind c.K (X.getD 0 0) (Y.getD 0 0) W (by omega)))
  have hx1 : 1 ≤ x.n := by rw [hX.len]; omega
  have hy1 : 1 ≤ y.n := by rw [hY.len]; omega
  generalize toldB c.kind c.K (X.getD 0 0) (Y.getD 0 0) = RES at CT ⊢
  generalize X.getD 0 0 = a0 at *
  generalize Y.getD 0 0 = b0 at *
  simp only [eX] at zx
  simp only [eY] at zy
  obtain ⟨xn, hxn⟩ : ∃ q, q = x.n := ⟨_, rfl⟩
  obtain ⟨yn, hyn⟩ : ∃ q, q = y.n := ⟨_, rfl⟩
  rw [← hxn] at hx1
  rw [← hyn] at hy1
  simp only [← hxn] at zx
  simp only [← hyn] at zy
  clear hclX hclY hbX hbY hlr hxn hyn eX eY
  generalize c.K = kk at *
  generalize c.kind = kd at *
  subst hk
  clear hcon hX hY hV hx hy h r ha hb bX bY hbb hwb he hsz
  go_enter Tryz.func109, Tryz.ntmps109
  go_upto_region 1 with fail
  change Code.wp _ _ _ _ (mBox w v 15 kk x y)
  rw [HWB.out]
  go_wp2_with fail
  refine wp_region_quiet_below (by kernel_rfl) (by kernel_rfl) ?_
  repeat (first | go_big_quiet_step (first | (go_at_call 163; with_reducible exact CT.out _ _)) | quiet_step (first | (go_at_call 163; with_reducible exact CT.out _ _)))
  refine wpQuiet_nil ?_
  intro _ hw'
  obtain ⟨⟨dq, osq⟩, hw''⟩ := hw'
  subst hw''
  have B6 := Lib.hid (below_regrown wb dq osq)
  generalize grow (redrawn wb dq) osq = W6 at *
  clear k0 k1 k2 k3 k4 k5 k6 k7 zx zy z0 z1 CT
  go_wp2_with fail
  go_ret
  exact ⟨rfl, HBB.out.trans (B6.out.mono HBB.out.size)⟩

set_option maxHeartbeats 4000000 in
set_option maxRecDepth 100000 in
theorem meet16 (v : ConV) (c : ConL) (x y : Sl) (X Y : List Int) (n : Nat) (w : World) (h : ConIn w v c) (hx : IsInts w x X) (hy : IsInts w y Y) (r : ConR n c) (ha : X.length = c.A.length) (hb : Y.length = c.B.length) (bX : ∀ v ∈ X, -1000000 ≤ v ∧ v ≤ 1000000) (bY : ∀ v ∈ Y, -1000000 ≤ v ∧ v ≤ 1000000) (hk : c.kind = 16) :
    Calls Tryz.prog 109 #[v.val c.kind c.K, .slice x.A x.n x.c, .slice y.A y.n y.c] w fun e w' => e = .returned (.bool (meetsB c X Y)) ∧ Below w.heap.size w w' := by
  have he : meetsB c X Y = (toldB c.kind c.K (X.getD 0 0) (Y.getD 0 0)) := by
    unfold meetsB
    simp only [hk]
    simp (config := { decide := true }) only [if_false, if_true]
  obtain ⟨wb, hwb⟩ : ∃ wb, mBox w v c.kind c.K x y = wb := ⟨_, rfl⟩
  have hbb : Below w.heap.size w wb := hwb ▸ below_mBox w v c.kind c.K x y
  have hcon : ∀ (j : Nat) (u : Value), (v.cells c.kind c.K)[j]? = some u → wb.cell? ⟨w.heap.size, j, none⟩ = some u := hwb ▸ mBox_con w v c.kind c.K x y
  have hbx : wb.cell? ⟨w.heap.size + 1, 0, none⟩ = some (.slice x.A x.n x.c) := hwb ▸ mBox_x w v c.kind c.K x y
  have hby : wb.cell? ⟨w.heap.size + 1 + 1, 0, none⟩ = some (.slice y.A y.n y.c) := hwb ▸ mBox_y w v c.kind c.K x y
  have hsz : w.heap.size < wb.heap.size := hwb ▸ (by simp; omega)
  have hX := hx.below hbb
  have hY := hy.below hbb
  have hV := h.below hbb
  have HBB := Lib.hid hbb
  have HWB := Lib.hid hwb
  have c0 := hcon 0 _ rfl
  have c3 := hcon 3 _ rfl
  have c7 := hcon 7 _ rfl
  rw [he]
  have := And.intro hb (And.intro bX (And.intro bY (And.intro hy hx)))
  clear this
  have := And.intro r ha
  clear this
  have k0 := cell_regrown (hcon 0 _ rfl)
  have k1 := cell_regrown (hcon 1 _ rfl)
  have k2 := cell_regrown (hcon 2 _ rfl)
  have k3 := cell_regrown (hcon 3 _ rfl)
  have k4 := cell_regrown (hcon 4 _ rfl)
  have k5 := cell_regrown (hcon 5 _ rfl)
  have k6 := cell_regrown (hcon 6 _ rfl)
  have k7 := cell_regrown (hcon 7 _ rfl)
  have zx := cell_regrown hbx
  have zy := cell_regrown hby
  have hlr := r.told (by omega) (by omega)
  obtain ⟨adX, eX, hbX, hclX⟩ := hX.lies (by rw [hX.len]; omega)
  obtain ⟨adY, eY, hbY, hclY⟩ := hY.lies (by rw [hY.len]; omega)
  have z0 : ∀ d os, (grow (redrawn wb d) os).cell? adX = some (.int .i64 (X.getD 0 0)) := cell_regrown (by have := hclX 0 (by rw [hX.len]; omega); rw [gadd0] at this; exact this)
  have z1 : ∀ d os, (grow (redrawn wb d) os).cell? adY = some (.int .i64 (Y.getD 0 0)) := cell_regrown (by have := hclY 0 (by rw [hY.len]; omega); rw [gadd0] at this; exact this)
  have CT := Lib.hid (bo_regrown (w := wb) (fun W _ => told_any v c.kind c.K (X.getD 0 0) (Y.getD 0 0) W (by omega)))
  have hx1 : 1 ≤ x.n := by rw [hX.len]; omega
  have hy1 : 1 ≤ y.n := by rw [hY.len]; omega
  generalize toldB c.kind c.K (X.getD 0 0) (Y.getD 0 0) = RES at CT ⊢
  generalize X.getD 0 0 = a0 at *
  generalize Y.getD 0 0 = b0 at *
  simp only [eX] at zx
  simp only [eY] at zy
  obtain ⟨xn, hxn⟩ : ∃ q, q = x.n := ⟨_, rfl⟩
  obtain ⟨yn, hyn⟩ : ∃ q, q = y.n := ⟨_, rfl⟩
  rw [← hxn] at hx1
  rw [← hyn] at hy1
  simp only [← hxn] at zx
  simp only [← hyn] at zy
  clear hclX hclY hbX hbY hlr hxn hyn eX eY
  generalize c.K = kk at *
  generalize c.kind = kd at *
  subst hk
  clear hcon hX hY hV hx hy h r ha hb bX bY hbb hwb he hsz
  go_enter Tryz.func109, Tryz.ntmps109
  go_upto_region 1 with fail
  change Code.wp _ _ _ _ (mBox w v 16 kk x y)
  rw [HWB.out]
  go_wp2_with fail
  refine wp_region_quiet_below (by kernel_rfl) (by kernel_rfl) ?_
  repeat (first | go_big_quiet_step (first | (go_at_call 163; with_reducible exact CT.out _ _)) | quiet_step (first | (go_at_call 163; with_reducible exact CT.out _ _)))
  refine wpQuiet_nil ?_
  intro _ hw'
  obtain ⟨⟨dq, osq⟩, hw''⟩ := hw'
  subst hw''
  have B6 := Lib.hid (below_regrown wb dq osq)
  generalize grow (redrawn wb dq) osq = W6 at *
  clear k0 k1 k2 k3 k4 k5 k6 k7 zx zy z0 z1 CT
  go_wp2_with fail
  go_ret
  exact ⟨rfl, HBB.out.trans (B6.out.mono HBB.out.size)⟩

set_option maxHeartbeats 4000000 in
set_option maxRecDepth 100000 in
theorem meet11 (v : ConV) (c : ConL) (x y : Sl) (X Y : List Int) (n : Nat) (w : World) (h : ConIn w v c) (hx : IsInts w x X) (hy : IsInts w y Y) (r : ConR n c) (ha : X.length = c.A.length) (hb : Y.length = c.B.length) (bX : ∀ v ∈ X, -1000000 ≤ v ∧ v ≤ 1000000) (bY : ∀ v ∈ Y, -1000000 ≤ v ∧ v ≤ 1000000) (hk : c.kind = 11) :
    Calls Tryz.prog 109 #[v.val c.kind c.K, .slice x.A x.n x.c, .slice y.A y.n y.c] w fun e w' => e = .returned (.bool (meetsB c X Y)) ∧ Below w.heap.size w w' := by
  have he : meetsB c X Y = (placeB (X.getD 0 0) c.C.length && atE c.C (X.getD 0 0 - 1) == X.getD 1 0) := by
    unfold meetsB
    simp only [hk]
    simp (config := { decide := true }) only [if_false, if_true]
  obtain ⟨wb, hwb⟩ : ∃ wb, mBox w v c.kind c.K x y = wb := ⟨_, rfl⟩
  have hbb : Below w.heap.size w wb := hwb ▸ below_mBox w v c.kind c.K x y
  have hcon : ∀ (j : Nat) (u : Value), (v.cells c.kind c.K)[j]? = some u → wb.cell? ⟨w.heap.size, j, none⟩ = some u := hwb ▸ mBox_con w v c.kind c.K x y
  have hbx : wb.cell? ⟨w.heap.size + 1, 0, none⟩ = some (.slice x.A x.n x.c) := hwb ▸ mBox_x w v c.kind c.K x y
  have hby : wb.cell? ⟨w.heap.size + 1 + 1, 0, none⟩ = some (.slice y.A y.n y.c) := hwb ▸ mBox_y w v c.kind c.K x y
  have hsz : w.heap.size < wb.heap.size := hwb ▸ (by simp; omega)
  have hX := hx.below hbb
  have hY := hy.below hbb
  have hV := h.below hbb
  have HBB := Lib.hid hbb
  have HWB := Lib.hid hwb
  have c0 := hcon 0 _ rfl
  have c3 := hcon 3 _ rfl
  have c7 := hcon 7 _ rfl
  rw [he]
  have := And.intro hb (And.intro bX (And.intro bY (And.intro hy hx)))
  clear this
  have := And.intro r ha
  clear this
  have k3 : ∀ d os, (grow (redrawn wb d) os).cell? ⟨w.heap.size, 3, none⟩ = some (.slice v.c.A v.c.n v.c.c) := cell_regrown (hcon 3 _ rfl)
  have zx := cell_regrown hbx
  have zy := cell_regrown hby
  have hlr := r.two (.inr hk)
  have hcl := hV.c.len
  obtain ⟨adX, eX, hbX, hclX⟩ := hX.lies (by rw [hX.len]; omega)
  obtain ⟨cnn, hcnn⟩ : ∃ q, q = v.c.n := ⟨_, rfl⟩
  have z0 : ∀ d os, (grow (redrawn wb d) os).cell? adX = some (.int .i64 (X.getD 0 0)) := cell_regrown (by have := hclX 0 (by rw [hX.len]; omega); rw [gadd0] at this; exact this)
  have z1 : ∀ d os, (grow (redrawn wb d) os).cell? ⟨adX.block, adX.off + 1, none⟩ = some (.int .i64 (X.getD 1 0)) := cell_regrown (hclX 1 (by rw [hX.len]; omega))
  have CP := Lib.hid (gin_regrown (w := wb) (v := .bool (placeB (X.getD 0 0) ((v.c.n : Nat) : Int))) (fun W hW => isPlace_any (X.getD 0 0) ((v.c.n : Nat) : Int) W))
  have HC := Lib.hid hV.c
  have hx1 : 2 ≤ x.n := by rw [hX.len]; omega
  have HR : Hid ((placeB (X.getD 0 0) c.C.length && atE c.C (X.getD 0 0 - 1) == X.getD 1 0) = (placeB (X.getD 0 0) ((v.c.n : Nat) : Int) && atE c.C (X.getD 0 0 - 1) == X.getD 1 0)) := Lib.hid (by rw [hcl])
  generalize (placeB (X.getD 0 0) c.C.length && atE c.C (X.getD 0 0 - 1) == X.getD 1 0) = RES at HR ⊢
  generalize X.getD 0 0 = a0 at *
  generalize X.getD 1 0 = a1 at *
  simp only [eX] at zx
  obtain ⟨xn, hxn⟩ : ∃ q, q = x.n := ⟨_, rfl⟩
  rw [← hxn] at hx1
  simp only [← hxn] at zx
  obtain ⟨cn, hcn⟩ : ∃ q, q = v.c.n := ⟨_, rfl⟩
  have HCN := Lib.hid hcn
  rw [← hcn] at CP HR
  simp only [← hcn] at k3
  clear hclX hbX hlr hcl hcnn cnn hxn hcn eX
  generalize c.K = kk at *
  generalize c.kind = kd at *
  subst hk
  clear hcon hX hY hV hx hy h r ha hb bX bY hbb hwb he hsz
  go_enter Tryz.func109, Tryz.ntmps109
  go_upto_region 1 with fail
  change Code.wp _ _ _ _ (mBox w v 11 kk x y)
  rw [HWB.out]
  cases hz : placeB a0 ((cn : Nat) : Int)
  · rw [hz] at CP HR
    clear hz z1
    have HR2 : Hid (RES = false) := Lib.hid (by rw [HR.out]; rfl)
    go_wp2_with fail
    refine wp_region_quiet_below (by kernel_rfl) (by kernel_rfl) ?_
    repeat (first | go_big_quiet_step (first | (go_at_call 164; with_reducible exact CP.out _ _)) | quiet_step (first | (go_at_call 164; with_reducible exact CP.out _ _)))
    refine wpQuiet_nil ?_
    intro _ hw'
    obtain ⟨⟨dq, osq⟩, hw''⟩ := hw'
    subst hw''
    have B6 := Lib.hid (below_regrown wb dq osq)
    generalize grow (redrawn wb dq) osq = W6 at *
    clear k3 zx zy z0 CP
    go_wp2_with fail
    go_ret
    exact ⟨ret_bool HR2.out.symm, HBB.out.trans (B6.out.mono HBB.out.size)⟩
  · rw [hz] at CP HR
    have hzz : 1 ≤ a0 ∧ a0 ≤ cn := by unfold placeB at hz; simpa using hz
    obtain ⟨m, hm⟩ : ∃ m : Nat, a0 - 1 = (m : Int) := ⟨(a0 - 1).toNat, by omega⟩
    have w1 : IntKind.i64.wrap (a0 - 1) = (m : Nat) := by rw [hm]; exact IntWalk.i64_in _ (by have := HC.out.big; have := HCN.out; omega)
    obtain ⟨adC, eC, hbC, hclC⟩ := HC.out.lies (by have := HCN.out; omega)
    simp only [eC] at k3
    have hmc : m < cn := by omega
    have hix : ((m : Nat) : Int) < ((cn : Nat) : Int) := by omega
    have zc : ∀ d os, (grow (redrawn wb d) os).cell? (adC.add m) = some (.int .i64 (c.C.getD m 0)) := cell_regrown (hclC m (by have := HCN.out; omega))
    have HR2 : Hid (RES = (c.C.getD m 0 == a1)) := Lib.hid (by rw [HR.out]; unfold atE; rw [hm]; simp)
    generalize c.C.getD m 0 = q at zc HR2
    clear hz hzz hm hbC hclC HR eC
    go_wp2_with fail
    refine wp_region_quiet_below (by kernel_rfl) (by kernel_rfl) ?_
    repeat (first | go_big_quiet_step (first | (go_at_call 164; with_reducible exact CP.out _ _)) | quiet_step (first | (go_at_call 164; with_reducible exact CP.out _ _)))
    refine wpQuiet_nil ?_
    intro _ hw'
    obtain ⟨⟨dq, osq⟩, hw''⟩ := hw'
    subst hw''
    have B6 := Lib.hid (below_regrown wb dq osq)
    generalize grow (redrawn wb dq) osq = W6 at *
    clear k3 zx zy z0 z1 zc CP
    go_wp2_with fail
    go_ret
    exact ⟨ret_bool HR2.out.symm, HBB.out.trans (B6.out.mono HBB.out.size)⟩

set_option maxHeartbeats 4000000 in
set_option maxRecDepth 100000 in
theorem meet12 (v : ConV) (c : ConL) (x y : Sl) (X Y : List Int) (n : Nat) (w : World) (h : ConIn w v c) (hx : IsInts w x X) (hy : IsInts w y Y) (r : ConR n c) (ha : X.length = c.A.length) (hb : Y.length = c.B.length) (bX : ∀ v ∈ X, -1000000 ≤ v ∧ v ≤ 1000000) (bY : ∀ v ∈ Y, -1000000 ≤ v ∧ v ≤ 1000000) (hk : c.kind = 12) :
    Calls Tryz.prog 109 #[v.val c.kind c.K, .slice x.A x.n x.c, .slice y.A y.n y.c] w fun e w' => e = .returned (.bool (meetsB c X Y)) ∧ Below w.heap.size w w' := by
  have he : meetsB c X Y = (X.any (· == 1) || Y.any (· == 0)) := by
    unfold meetsB
    simp only [hk]
    simp (config := { decide := true }) only [if_false, if_true]
  obtain ⟨wb, hwb⟩ : ∃ wb, mBox w v c.kind c.K x y = wb := ⟨_, rfl⟩
  have hbb : Below w.heap.size w wb := hwb ▸ below_mBox w v c.kind c.K x y
  have hcon : ∀ (j : Nat) (u : Value), (v.cells c.kind c.K)[j]? = some u → wb.cell? ⟨w.heap.size, j, none⟩ = some u := hwb ▸ mBox_con w v c.kind c.K x y
  have hbx : wb.cell? ⟨w.heap.size + 1, 0, none⟩ = some (.slice x.A x.n x.c) := hwb ▸ mBox_x w v c.kind c.K x y
  have hby : wb.cell? ⟨w.heap.size + 1 + 1, 0, none⟩ = some (.slice y.A y.n y.c) := hwb ▸ mBox_y w v c.kind c.K x y
  have hsz : w.heap.size < wb.heap.size := hwb ▸ (by simp; omega)
  have hX := hx.below hbb
  have hY := hy.below hbb
  have hV := h.below hbb
  have HBB := Lib.hid hbb
  have HWB := Lib.hid hwb
  have c0 := hcon 0 _ rfl
  have c3 := hcon 3 _ rfl
  have c7 := hcon 7 _ rfl
  rw [he]
  have := And.intro hb (And.intro bX (And.intro bY (And.intro hy hx)))
  clear this
  have := And.intro r ha
  clear this
  have C1 := Lib.hid (contains_ints x X 1 wb hX)
  have C2 := Lib.hid (contains_ints y Y 0 wb hY)
  generalize X.any (· == 1) = T1 at C1 ⊢
  generalize Y.any (· == 0) = T2 at C2 ⊢
  generalize c.K = kk at *
  generalize c.kind = kd at *
  subst hk
  clear hcon hX hY hV hx hy h r ha hb bX bY hbb hwb he hsz
  go_enter Tryz.func109, Tryz.ntmps109
  go_upto_region 1 with fail
  change Code.wp _ _ _ _ (mBox w v 12 kk x y)
  rw [HWB.out]
  cases T1
  · go_wp2_with fail
    refine C1.out.mono ?_
    rintro e w1 ⟨rfl, rfl⟩
    go_wp2_with fail
    refine C2.out.mono ?_
    rintro e w1 ⟨rfl, rfl⟩
    go_wp2_with fail
    go_ret
    exact ⟨rfl, HBB.out⟩
  · go_wp2_with fail
    refine C1.out.mono ?_
    rintro e w1 ⟨rfl, rfl⟩
    go_wp2_with fail
    go_ret
    exact ⟨rfl, HBB.out⟩

set_option maxHeartbeats 4000000 in
set_option maxRecDepth 100000 in
theorem meet17 (v : ConV) (c : ConL) (x y : Sl) (X Y : List Int) (n : Nat) (w : World) (h : ConIn w v c) (hx : IsInts w x X) (hy : IsInts w y Y) (r : ConR n c) (ha : X.length = c.A.length) (hb : Y.length = c.B.length) (bX : ∀ v ∈ X, -1000000 ≤ v ∧ v ≤ 1000000) (bY : ∀ v ∈ Y, -1000000 ≤ v ∧ v ≤ 1000000) (hk : c.kind = 17) :
    Calls Tryz.prog 109 #[v.val c.kind c.K, .slice x.A x.n x.c, .slice y.A y.n y.c] w fun e w' => e = .returned (.bool (meetsB c X Y)) ∧ Below w.heap.size w w' := by
  have he : meetsB c X Y = (noneN (diffP X) X.length) := by
    unfold meetsB
    simp only [hk]
    simp (config := { decide := true }) only [if_false, if_true]
  obtain ⟨wb, hwb⟩ : ∃ wb, mBox w v c.kind c.K x y = wb := ⟨_, rfl⟩
  have hbb : Below w.heap.size w wb := hwb ▸ below_mBox w v c.kind c.K x y
  have hcon : ∀ (j : Nat) (u : Value), (v.cells c.kind c.K)[j]? = some u → wb.cell? ⟨w.heap.size, j, none⟩ = some u := hwb ▸ mBox_con w v c.kind c.K x y
  have hbx : wb.cell? ⟨w.heap.size + 1, 0, none⟩ = some (.slice x.A x.n x.c) := hwb ▸ mBox_x w v c.kind c.K x y
  have hby : wb.cell? ⟨w.heap.size + 1 + 1, 0, none⟩ = some (.slice y.A y.n y.c) := hwb ▸ mBox_y w v c.kind c.K x y
  have hsz : w.heap.size < wb.heap.size := hwb ▸ (by simp; omega)
  have hX := hx.below hbb
  have hY := hy.below hbb
  have hV := h.below hbb
  have HBB := Lib.hid hbb
  have HWB := Lib.hid hwb
  have c0 := hcon 0 _ rfl
  have c3 := hcon 3 _ rfl
  have c7 := hcon 7 _ rfl
  rw [he]
  have := And.intro hb (And.intro bX (And.intro bY (And.intro hy hx)))
  clear this
  have := And.intro r ha
  clear this
  have CC := Lib.hid (gnone_any 165 #[.pointer (some ⟨w.heap.size + 1, 0, none⟩)] eMeets1 (diffP X) x.n hX.big wb (fun i hi W hW => meets1_any x X i _ W (by rw [← hX.len]; exact hi) ((hW.cell (by have := lt_of_cell hbx; exact this)).trans hbx) (hX.below hW)))
  rw [← hX.len]
  generalize noneN (diffP X) x.n = RES at CC ⊢
  generalize c.K = kk at *
  generalize c.kind = kd at *
  subst hk
  clear hcon hX hY hV hx hy h r ha hb bX bY hbb hwb he hsz
  go_enter Tryz.func109, Tryz.ntmps109
  go_upto_region 1 with fail
  change Code.wp _ _ _ _ (mBox w v 17 kk x y)
  rw [HWB.out]
  go_wp2_with fail
  refine (CC.out).mono ?_
  rintro e w1 ⟨rfl, b1⟩
  have B1 := Lib.hid b1
  clear b1 CC
  go_wp2_with fail
  go_ret
  exact ⟨rfl, HBB.out.trans (B1.out.mono HBB.out.size)⟩

set_option maxHeartbeats 4000000 in
set_option maxRecDepth 100000 in
theorem meet18 (v : ConV) (c : ConL) (x y : Sl) (X Y : List Int) (n : Nat) (w : World) (h : ConIn w v c) (hx : IsInts w x X) (hy : IsInts w y Y) (r : ConR n c) (ha : X.length = c.A.length) (hb : Y.length = c.B.length) (bX : ∀ v ∈ X, -1000000 ≤ v ∧ v ≤ 1000000) (bY : ∀ v ∈ Y, -1000000 ≤ v ∧ v ≤ 1000000) (hk : c.kind = 18) :
    Calls Tryz.prog 109 #[v.val c.kind c.K, .slice x.A x.n x.c, .slice y.A y.n y.c] w fun e w' => e = .returned (.bool (meetsB c X Y)) ∧ Below w.heap.size w w' := by
  have he : meetsB c X Y = (c.rows.any (fun r => r == X)) := by
    unfold meetsB
    simp only [hk]
    simp (config := { decide := true }) only [if_false, if_true]
  obtain ⟨wb, hwb⟩ : ∃ wb, mBox w v c.kind c.K x y = wb := ⟨_, rfl⟩
  have hbb : Below w.heap.size w wb := hwb ▸ below_mBox w v c.kind c.K x y
  have hcon : ∀ (j : Nat) (u : Value), (v.cells c.kind c.K)[j]? = some u → wb.cell? ⟨w.heap.size, j, none⟩ = some u := hwb ▸ mBox_con w v c.kind c.K x y
  have hbx : wb.cell? ⟨w.heap.size + 1, 0, none⟩ = some (.slice x.A x.n x.c) := hwb ▸ mBox_x w v c.kind c.K x y
  have hby : wb.cell? ⟨w.heap.size + 1 + 1, 0, none⟩ = some (.slice y.A y.n y.c) := hwb ▸ mBox_y w v c.kind c.K x y
  have hsz : w.heap.size < wb.heap.size := hwb ▸ (by simp; omega)
  have hX := hx.below hbb
  have hY := hy.below hbb
  have hV := h.below hbb
  have HBB := Lib.hid hbb
  have HWB := Lib.hid hwb
  have c0 := hcon 0 _ rfl
  have c3 := hcon 3 _ rfl
  have c7 := hcon 7 _ rfl
  rw [he]
  have := And.intro hb (And.intro bX (And.intro bY (And.intro hy hx)))
  clear this
  have := And.intro r ha
  clear this
  have CC := Lib.hid (containsFunc_rows 167 #[.pointer (some ⟨w.heap.size + 1, 0, none⟩)] eMeets2 (fun r => r == X) v.r c.rows wb hV.r (fun u q W hW hu => meets2_any u x q X _ W ((hW.cell (by have := lt_of_cell hbx; exact this)).trans hbx) hu (hX.below hW)))
  generalize c.rows.any (fun r => r == X) = RES at CC ⊢
  generalize c.K = kk at *
  generalize c.kind = kd at *
  subst hk
  clear hcon hX hY hV hx hy h r ha hb bX bY hbb hwb he hsz
  go_enter Tryz.func109, Tryz.ntmps109
  go_upto_region 1 with fail
  change Code.wp _ _ _ _ (mBox w v 18 kk x y)
  rw [HWB.out]
  go_wp2_with fail
  refine (CC.out).mono ?_
  rintro e w1 ⟨rfl, b1⟩
  have B1 := Lib.hid b1
  clear b1 CC
  go_wp2_with fail
  go_ret
  exact ⟨rfl, HBB.out.trans (B1.out.mono HBB.out.size)⟩

set_option maxHeartbeats 4000000 in
set_option maxRecDepth 100000 in
theorem meet19 (v : ConV) (c : ConL) (x y : Sl) (X Y : List Int) (n : Nat) (w : World) (h : ConIn w v c) (hx : IsInts w x X) (hy : IsInts w y Y) (r : ConR n c) (ha : X.length = c.A.length) (hb : Y.length = c.B.length) (bX : ∀ v ∈ X, -1000000 ≤ v ∧ v ≤ 1000000) (bY : ∀ v ∈ Y, -1000000 ≤ v ∧ v ≤ 1000000) (hk : c.kind = 19) :
    Calls Tryz.prog 109 #[v.val c.kind c.K, .slice x.A x.n x.c, .slice y.A y.n y.c] w fun e w' => e = .returned (.bool (meetsB c X Y)) ∧ Below w.heap.size w w' := by
  have he : meetsB c X Y = (noneN (cumP c X) X.length) := by
    unfold meetsB
    simp only [hk]
    simp (config := { decide := true }) only [if_false, if_true]
  obtain ⟨wb, hwb⟩ : ∃ wb, mBox w v c.kind c.K x y = wb := ⟨_, rfl⟩
  have hbb : Below w.heap.size w wb := hwb ▸ below_mBox w v c.kind c.K x y
  have hcon : ∀ (j : Nat) (u : Value), (v.cells c.kind c.K)[j]? = some u → wb.cell? ⟨w.heap.size, j, none⟩ = some u := hwb ▸ mBox_con w v c.kind c.K x y
  have hbx : wb.cell? ⟨w.heap.size + 1, 0, none⟩ = some (.slice x.A x.n x.c) := hwb ▸ mBox_x w v c.kind c.K x y
  have hby : wb.cell? ⟨w.heap.size + 1 + 1, 0, none⟩ = some (.slice y.A y.n y.c) := hwb ▸ mBox_y w v c.kind c.K x y
  have hsz : w.heap.size < wb.heap.size := hwb ▸ (by simp; omega)
  have hX := hx.below hbb
  have hY := hy.below hbb
  have hV := h.below hbb
  have HBB := Lib.hid hbb
  have HWB := Lib.hid hwb
  have c0 := hcon 0 _ rfl
  have c3 := hcon 3 _ rfl
  have c7 := hcon 7 _ rfl
  rw [he]
  have := And.intro hb (And.intro bX (And.intro bY (And.intro hy hx)))
  clear this
  have := And.intro r ha
  clear this
  obtain ⟨l1, l2⟩ := r.cum hk
  have CC := Lib.hid (gnone_any 168 #[.pointer (some ⟨w.heap.size, 0, none⟩), .pointer (some ⟨w.heap.size + 1, 0, none⟩)] eMeets3 (cumP c X) x.n hX.big wb (fun i hi W hW => meets3_any v c x X i _ _ W (by rw [← hX.len]; exact hi) (fun j u hj => (hW.cell hsz).trans (hcon j u hj)) ((hW.cell (by have := lt_of_cell hbx; exact this)).trans hbx) (hV.c.below hW) (hV.d.below hW) (hX.below hW) (by rw [ha]; exact r.a64) (by rw [ha]; exact l1) (by rw [ha]; exact l2) r.pc (fun z hz => by have := r.pd z hz; omega) bX))
  rw [← hX.len]
  generalize noneN (cumP c X) x.n = RES at CC ⊢
  clear l1 l2
  generalize c.K = kk at *
  generalize c.kind = kd at *
  subst hk
  clear hcon hX hY hV hx hy h r ha hb bX bY hbb hwb he hsz
  go_enter Tryz.func109, Tryz.ntmps109
  go_upto_region 1 with fail
  change Code.wp _ _ _ _ (mBox w v 19 kk x y)
  rw [HWB.out]
  go_wp2_with fail
  refine (CC.out).mono ?_
  rintro e w1 ⟨rfl, b1⟩
  have B1 := Lib.hid b1
  clear b1 CC
  go_wp2_with fail
  go_ret
  exact ⟨rfl, HBB.out.trans (B1.out.mono HBB.out.size)⟩

set_option maxHeartbeats 4000000 in
set_option maxRecDepth 100000 in
theorem meet20 (v : ConV) (c : ConL) (x y : Sl) (X Y : List Int) (n : Nat) (w : World) (h : ConIn w v c) (hx : IsInts w x X) (hy : IsInts w y Y) (r : ConR n c) (ha : X.length = c.A.length) (hb : Y.length = c.B.length) (bX : ∀ v ∈ X, -1000000 ≤ v ∧ v ≤ 1000000) (bY : ∀ v ∈ Y, -1000000 ≤ v ∧ v ≤ 1000000) (hk : c.kind = 20) :
    Calls Tryz.prog 109 #[v.val c.kind c.K, .slice x.A x.n x.c, .slice y.A y.n y.c] w fun e w' => e = .returned (.bool (meetsB c X Y)) ∧ Below w.heap.size w w' := by
  have he : meetsB c X Y = (roundF X X.length 0 1) := by
    unfold meetsB
    simp only [hk]
    simp (config := { decide := true }) only [if_false, if_true]
  obtain ⟨wb, hwb⟩ : ∃ wb, mBox w v c.kind c.K x y = wb := ⟨_, rfl⟩
  have hbb : Below w.heap.size w wb := hwb ▸ below_mBox w v c.kind c.K x y
  have hcon : ∀ (j : Nat) (u : Value), (v.cells c.kind c.K)[j]? = some u → wb.cell? ⟨w.heap.size, j, none⟩ = some u := hwb ▸ mBox_con w v c.kind c.K x y
  have hbx : wb.cell? ⟨w.heap.size + 1, 0, none⟩ = some (.slice x.A x.n x.c) := hwb ▸ mBox_x w v c.kind c.K x y
  have hby : wb.cell? ⟨w.heap.size + 1 + 1, 0, none⟩ = some (.slice y.A y.n y.c) := hwb ▸ mBox_y w v c.kind c.K x y
  have hsz : w.heap.size < wb.heap.size := hwb ▸ (by simp; omega)
  have hX := hx.below hbb
  have hY := hy.below hbb
  have hV := h.below hbb
  have HBB := Lib.hid hbb
  have HWB := Lib.hid hwb
  have c0 := hcon 0 _ rfl
  have c3 := hcon 3 _ rfl
  have c7 := hcon 7 _ rfl
  rw [he]
  have := And.intro hb (And.intro bX (And.intro bY (And.intro hy hx)))
  clear this
  have := And.intro r ha
  clear this
  have CC := Lib.hid ((leadsRound_any x X wb hX (by rw [ha]; exact r.a64)).mono fun _ w' q => (⟨q.1, q.2 ▸ Below.refl _ _⟩ : _ ∧ Below wb.heap.size wb w'))
  generalize roundF X X.length 0 1 = RES at CC ⊢
  generalize c.K = kk at *
  generalize c.kind = kd at *
  subst hk
  clear hcon hX hY hV hx hy h r ha hb bX bY hbb hwb he hsz
  go_enter Tryz.func109, Tryz.ntmps109
  go_upto_region 1 with fail
  change Code.wp _ _ _ _ (mBox w v 20 kk x y)
  rw [HWB.out]
  go_wp2_with fail
  refine (CC.out).mono ?_
  rintro e w1 ⟨rfl, b1⟩
  have B1 := Lib.hid b1
  clear b1 CC
  go_wp2_with fail
  go_ret
  exact ⟨rfl, HBB.out.trans (B1.out.mono HBB.out.size)⟩

set_option maxHeartbeats 4000000 in
set_option maxRecDepth 100000 in
theorem meet21 (v : ConV) (c : ConL) (x y : Sl) (X Y : List Int) (n : Nat) (w : World) (h : ConIn w v c) (hx : IsInts w x X) (hy : IsInts w y Y) (r : ConR n c) (ha : X.length = c.A.length) (hb : Y.length = c.B.length) (bX : ∀ v ∈ X, -1000000 ≤ v ∧ v ≤ 1000000) (bY : ∀ v ∈ Y, -1000000 ≤ v ∧ v ≤ 1000000) (hk : c.kind = 21) :
    Calls Tryz.prog 109 #[v.val c.kind c.K, .slice x.A x.n x.c, .slice y.A y.n y.c] w fun e w' => e = .returned (.bool (meetsB c X Y)) ∧ Below w.heap.size w w' := by
  have he : meetsB c X Y = (noneN (gccP c X) c.C.length) := by
    unfold meetsB
    simp only [hk]
    simp (config := { decide := true }) only [if_false, if_true]
  obtain ⟨wb, hwb⟩ : ∃ wb, mBox w v c.kind c.K x y = wb := ⟨_, rfl⟩
  have hbb : Below w.heap.size w wb := hwb ▸ below_mBox w v c.kind c.K x y
  have hcon : ∀ (j : Nat) (u : Value), (v.cells c.kind c.K)[j]? = some u → wb.cell? ⟨w.heap.size, j, none⟩ = some u := hwb ▸ mBox_con w v c.kind c.K x y
  have hbx : wb.cell? ⟨w.heap.size + 1, 0, none⟩ = some (.slice x.A x.n x.c) := hwb ▸ mBox_x w v c.kind c.K x y
  have hby : wb.cell? ⟨w.heap.size + 1 + 1, 0, none⟩ = some (.slice y.A y.n y.c) := hwb ▸ mBox_y w v c.kind c.K x y
  have hsz : w.heap.size < wb.heap.size := hwb ▸ (by simp; omega)
  have hX := hx.below hbb
  have hY := hy.below hbb
  have hV := h.below hbb
  have HBB := Lib.hid hbb
  have HWB := Lib.hid hwb
  have c0 := hcon 0 _ rfl
  have c3 := hcon 3 _ rfl
  have c7 := hcon 7 _ rfl
  rw [he]
  have := And.intro hb (And.intro bX (And.intro bY (And.intro hy hx)))
  clear this
  have := And.intro r ha
  clear this
  obtain ⟨l1, l2⟩ := r.gcc hk
  have CC := Lib.hid (gnone_any 171 #[.pointer (some ⟨w.heap.size + 1, 0, none⟩), .pointer (some ⟨w.heap.size, 0, none⟩)] eMeets4 (gccP c X) v.c.n hV.c.big wb (fun i hi W hW => meets4_any v c x X i _ _ W (by rw [← hV.c.len]; exact hi) (fun j u hj => (hW.cell hsz).trans (hcon j u hj)) (Nat.lt_of_lt_of_le hsz hW.size) ((hW.cell (by have := lt_of_cell hbx; exact this)).trans hbx) (hV.c.below hW) (hV.d.below hW) (hV.e.below hW) (hX.below hW) l1 l2))
  rw [← hV.c.len]
  generalize noneN (gccP c X) v.c.n = RES at CC ⊢
  clear l1 l2
  generalize c.K = kk at *
  generalize c.kind = kd at *
  subst hk
  clear hcon hX hY hV hx hy h r ha hb bX bY hbb hwb he hsz
  go_enter Tryz.func109, Tryz.ntmps109
  go_upto_region 1 with fail
  change Code.wp _ _ _ _ (mBox w v 21 kk x y)
  rw [HWB.out]
  go_wp2_with fail
  refine (CC.out).mono ?_
  rintro e w1 ⟨rfl, b1⟩
  have B1 := Lib.hid b1
  clear b1 CC
  go_wp2_with fail
  go_ret
  exact ⟨rfl, HBB.out.trans (B1.out.mono HBB.out.size)⟩

set_option maxHeartbeats 4000000 in
set_option maxRecDepth 100000 in
theorem meet22 (v : ConV) (c : ConL) (x y : Sl) (X Y : List Int) (n : Nat) (w : World) (h : ConIn w v c) (hx : IsInts w x X) (hy : IsInts w y Y) (r : ConR n c) (ha : X.length = c.A.length) (hb : Y.length = c.B.length) (bX : ∀ v ∈ X, -1000000 ≤ v ∧ v ≤ 1000000) (bY : ∀ v ∈ Y, -1000000 ≤ v ∧ v ≤ 1000000) (hk : c.kind = 22) :
    Calls Tryz.prog 109 #[v.val c.kind c.K, .slice x.A x.n x.c, .slice y.A y.n y.c] w fun e w' => e = .returned (.bool (meetsB c X Y)) ∧ Below w.heap.size w w' := by
  have he : meetsB c X Y = (lexB X Y) := by
    unfold meetsB
    simp only [hk]
    simp (config := { decide := true }) only [if_false, if_true]
  obtain ⟨wb, hwb⟩ : ∃ wb, mBox w v c.kind c.K x y = wb := ⟨_, rfl⟩
  have hbb : Below w.heap.size w wb := hwb ▸ below_mBox w v c.kind c.K x y
  have hcon : ∀ (j : Nat) (u : Value), (v.cells c.kind c.K)[j]? = some u → wb.cell? ⟨w.heap.size, j, none⟩ = some u := hwb ▸ mBox_con w v c.kind c.K x y
  have hbx : wb.cell? ⟨w.heap.size + 1, 0, none⟩ = some (.slice x.A x.n x.c) := hwb ▸ mBox_x w v c.kind c.K x y
  have hby : wb.cell? ⟨w.heap.size + 1 + 1, 0, none⟩ = some (.slice y.A y.n y.c) := hwb ▸ mBox_y w v c.kind c.K x y
  have hsz : w.heap.size < wb.heap.size := hwb ▸ (by simp; omega)
  have hX := hx.below hbb
  have hY := hy.below hbb
  have hV := h.below hbb
  have HBB := Lib.hid hbb
  have HWB := Lib.hid hwb
  have c0 := hcon 0 _ rfl
  have c3 := hcon 3 _ rfl
  have c7 := hcon 7 _ rfl
  rw [he]
  have := And.intro hb (And.intro bX (And.intro bY (And.intro hy hx)))
  clear this
  have := And.intro r ha
  clear this
  have CC := Lib.hid ((compare_any x y X Y wb hX hY (by rw [ha, hb]; exact (r.pair (by omega)).symm)).mono fun _ w' q => (⟨q.1, q.2 ▸ Below.refl _ _⟩ : _ ∧ Below wb.heap.size wb w'))
  have HR := Lib.hid (comp_lex X Y)
  generalize lexB X Y = RES at HR ⊢
  generalize compE X Y = D at CC HR
  generalize c.K = kk at *
  generalize c.kind = kd at *
  subst hk
  clear hcon hX hY hV hx hy h r ha hb bX bY hbb hwb he hsz
  go_enter Tryz.func109, Tryz.ntmps109
  go_upto_region 1 with fail
  change Code.wp _ _ _ _ (mBox w v 22 kk x y)
  rw [HWB.out]
  go_wp2_with fail
  refine (CC.out).mono ?_
  rintro e w1 ⟨rfl, b1⟩
  have B1 := Lib.hid b1
  clear b1 CC
  go_wp2_with fail
  go_ret
  exact ⟨ret_bool HR.out, HBB.out.trans (B1.out.mono HBB.out.size)⟩

set_option maxHeartbeats 4000000 in
set_option maxRecDepth 100000 in
theorem meet23 (v : ConV) (c : ConL) (x y : Sl) (X Y : List Int) (n : Nat) (w : World) (h : ConIn w v c) (hx : IsInts w x X) (hy : IsInts w y Y) (r : ConR n c) (ha : X.length = c.A.length) (hb : Y.length = c.B.length) (bX : ∀ v ∈ X, -1000000 ≤ v ∧ v ≤ 1000000) (bY : ∀ v ∈ Y, -1000000 ≤ v ∧ v ≤ 1000000) (hk : c.kind = 23) :
    Calls Tryz.prog 109 #[v.val c.kind c.K, .slice x.A x.n x.c, .slice y.A y.n y.c] w fun e w' => e = .returned (.bool (meetsB c X Y)) ∧ Below w.heap.size w w' := by
  have he : meetsB c X Y = (noneN (invP X Y) X.length) := by
    unfold meetsB
    simp only [hk]
    simp (config := { decide := true }) only [if_false, if_true]
  obtain ⟨wb, hwb⟩ : ∃ wb, mBox w v c.kind c.K x y = wb := ⟨_, rfl⟩
  have hbb : Below w.heap.size w wb := hwb ▸ below_mBox w v c.kind c.K x y
  have hcon : ∀ (j : Nat) (u : Value), (v.cells c.kind c.K)[j]? = some u → wb.cell? ⟨w.heap.size, j, none⟩ = some u := hwb ▸ mBox_con w v c.kind c.K x y
  have hbx : wb.cell? ⟨w.heap.size + 1, 0, none⟩ = some (.slice x.A x.n x.c) := hwb ▸ mBox_x w v c.kind c.K x y
  have hby : wb.cell? ⟨w.heap.size + 1 + 1, 0, none⟩ = some (.slice y.A y.n y.c) := hwb ▸ mBox_y w v c.kind c.K x y
  have hsz : w.heap.size < wb.heap.size := hwb ▸ (by simp; omega)
  have hX := hx.below hbb
  have hY := hy.below hbb
  have hV := h.below hbb
  have HBB := Lib.hid hbb
  have HWB := Lib.hid hwb
  have c0 := hcon 0 _ rfl
  have c3 := hcon 3 _ rfl
  have c7 := hcon 7 _ rfl
  rw [he]
  have := And.intro hb (And.intro bX (And.intro bY (And.intro hy hx)))
  clear this
  have := And.intro r ha
  clear this
  have CC := Lib.hid (gnone_any 174 #[.pointer (some ⟨w.heap.size + 1, 0, none⟩), .pointer (some ⟨w.heap.size + 1 + 1, 0, none⟩)] eMeets5 (invP X Y) x.n hX.big wb (fun i hi W hW => meets5_any x y X Y i _ _ W (by rw [← hX.len]; exact hi) (by rw [ha, hb]; exact r.pair (by omega)) ((hW.cell (by have := lt_of_cell hbx; exact this)).trans hbx) ((hW.cell (by have := lt_of_cell hby; exact this)).trans hby) (hX.below hW) (hY.below hW)))
  rw [← hX.len]
  generalize noneN (invP X Y) x.n = RES at CC ⊢
  generalize c.K = kk at *
  generalize c.kind = kd at *
  subst hk
  clear hcon hX hY hV hx hy h r ha hb bX bY hbb hwb he hsz
  go_enter Tryz.func109, Tryz.ntmps109
  go_upto_region 1 with fail
  change Code.wp _ _ _ _ (mBox w v 23 kk x y)
  rw [HWB.out]
  go_wp2_with fail
  refine (CC.out).mono ?_
  rintro e w1 ⟨rfl, b1⟩
  have B1 := Lib.hid b1
  clear b1 CC
  go_wp2_with fail
  go_ret
  exact ⟨rfl, HBB.out.trans (B1.out.mono HBB.out.size)⟩


theorem meets_any (v : ConV) (c : ConL) (x y : Sl) (X Y : List Int) (n : Nat) (w : World) (h : ConIn w v c) (hx : IsInts w x X) (hy : IsInts w y Y) (r : ConR n c) (ha : X.length = c.A.length) (hb : Y.length = c.B.length) (bX : ∀ v ∈ X, -1000000 ≤ v ∧ v ≤ 1000000) (bY : ∀ v ∈ Y, -1000000 ≤ v ∧ v ≤ 1000000) :
    Calls Tryz.prog 109 #[v.val c.kind c.K, .slice x.A x.n x.c, .slice y.A y.n y.c] w fun e w' => e = .returned (.bool (meetsB c X Y)) ∧ Below w.heap.size w w' := by
  have k1 := r.k1
  have k2 := r.k23
  have hh : c.kind = 1 ∨ c.kind = 2 ∨ c.kind = 3 ∨ c.kind = 4 ∨ c.kind = 5 ∨ c.kind = 6 ∨ c.kind = 7 ∨ c.kind = 8 ∨ c.kind = 9 ∨ c.kind = 10 ∨ c.kind = 11 ∨ c.kind = 12 ∨ c.kind = 13 ∨ c.kind = 14 ∨ c.kind = 15 ∨ c.kind = 16 ∨ c.kind = 17 ∨ c.kind = 18 ∨ c.kind = 19 ∨ c.kind = 20 ∨ c.kind = 21 ∨ c.kind = 22 ∨ c.kind = 23 := by omega
  rcases hh with q | q | q | q | q | q | q | q | q | q | q | q | q | q | q | q | q | q | q | q | q | q | q
  · exact meet1 v c x y X Y n w h hx hy r ha hb bX bY q
  · exact meet2 v c x y X Y n w h hx hy r ha hb bX bY q
  · exact meet3 v c x y X Y n w h hx hy r ha hb bX bY q
  · exact meet4 v c x y X Y n w h hx hy r ha hb bX bY q
  · exact meet5 v c x y X Y n w h hx hy r ha hb bX bY q
  · exact meet6 v c x y X Y n w h hx hy r ha hb bX bY q
  · exact meet7 v c x y X Y n w h hx hy r ha hb bX bY q
  · exact meet8 v c x y X Y n w h hx hy r ha hb bX bY q
  · exact meet9 v c x y X Y n w h hx hy r ha hb bX bY q
  · exact meet10 v c x y X Y n w h hx hy r ha hb bX bY q
  · exact meet11 v c x y X Y n w h hx hy r ha hb bX bY q
  · exact meet12 v c x y X Y n w h hx hy r ha hb bX bY q
  · exact meet13 v c x y X Y n w h hx hy r ha hb bX bY q
  · exact meet14 v c x y X Y n w h hx hy r ha hb bX bY q
  · exact meet15 v c x y X Y n w h hx hy r ha hb bX bY q
  · exact meet16 v c x y X Y n w h hx hy r ha hb bX bY q
  · exact meet17 v c x y X Y n w h hx hy r ha hb bX bY q
  · exact meet18 v c x y X Y n w h hx hy r ha hb bX bY q
  · exact meet19 v c x y X Y n w h hx hy r ha hb bX bY q
  · exact meet20 v c x y X Y n w h hx hy r ha hb bX bY q
  · exact meet21 v c x y X Y n w h hx hy r ha hb bX bY q
  · exact meet22 v c x y X Y n w h hx hy r ha hb bX bY q
  · exact meet23 v c x y X Y n w h hx hy r ha hb bX bY q
end Go.Proofs.YtcmdgjkoalophaaGreatDoor
