/- Contracts: linear, told, worksOut. Made by tools/gengfn3.py. -/
import Derived.Test.YtkhmocbfkpbpfaaGreatDoorGfn2
import Derived.Lib.MinMax
namespace Go.Proofs.YtkhmocbfkpbpfaaGreatDoor
open Go.RowKit Go.Sort

theorem gadd0 (a : Addr) : a.add 0 = a := by cases a; simp [Addr.add]
theorem tdiv_abs {a b : Int} (h : -1000000 ≤ a ∧ a ≤ 1000000) : -1000000 ≤ a.tdiv b ∧ a.tdiv b ≤ 1000000 := by
  have : (a.tdiv b).natAbs ≤ a.natAbs := by
    rw [Int.natAbs_tdiv]
    exact Nat.div_le_self _ _
  omega
theorem tmod_abs {a b : Int} (h : -1000000 ≤ a ∧ a ≤ 1000000) : -1000000 ≤ a.tmod b ∧ a.tmod b ≤ 1000000 := by
  have : (a.tmod b).natAbs ≤ a.natAbs := by
    rw [Int.natAbs_tmod]
    exact Nat.mod_le _ _
  omega
set_option maxHeartbeats 2000000 in
set_option maxRecDepth 100000 in
theorem works5 (x : Sl) (X : List Int) (w : World) (h : IsInts w x X) (hl : X.length = 3) (hX : ∀ v ∈ X, -1000000 ≤ v ∧ v ≤ 1000000) :
    Calls Tryz.prog 201 #[.int .i64 5, .slice x.A x.n x.c] w fun e w' => e = .returned (.bool (X.getD 0 0 * X.getD 1 0 == X.getD 2 0)) ∧ Below w.heap.size w w' := by
  obtain ⟨A, n, c⟩ := x
  obtain ⟨hn, hL, hlen, hcap⟩ := h
  simp only at hn hL hlen ⊢
  obtain rfl : n = 3 := by omega
  obtain ⟨ad, rfl, hbk, hcl⟩ := hL (by omega)
  have z0 : ∀ d os, (grow (redrawn w d) os).cell? ad = some (.int .i64 (X.getD 0 0)) := cell_regrown (by have := hcl 0 (by omega); rw [gadd0] at this; exact this)
  have z1 : ∀ d os, (grow (redrawn w d) os).cell? ⟨ad.block, ad.off + 1, none⟩ = some (.int .i64 (X.getD 1 0)) := cell_regrown (hcl 1 (by omega))
  have z2 : ∀ d os, (grow (redrawn w d) os).cell? ⟨ad.block, ad.off + 2, none⟩ = some (.int .i64 (X.getD 2 0)) := cell_regrown (hcl 2 (by omega))
  have b0 := getD_in hX (by omega) 0
  have b1 := getD_in hX (by omega) 1
  generalize X.getD 0 0 = a at *
  generalize X.getD 1 0 = b at *
  generalize X.getD 2 0 = r at *
  clear hX hcl hL hn hl hbk
  · have hm := mul_abs b0 b1
    have w1 : IntKind.i64.wrap (a * b) = a * b := IntWalk.i64_in _ (by omega)
    clear hm b0 b1
    go_enter Tryz.func201, Tryz.ntmps201
    go_wp2_with fail
    refine wp_region_quiet_below (by kernel_rfl) (by kernel_rfl) ?_
    repeat (first | go_big_quiet_step (fail) | quiet_step (fail))
    refine wpQuiet_nil ?_
    intro _ hw'
    obtain ⟨⟨dq, osq⟩, hw''⟩ := hw'
    subst hw''
    have B6 := Lib.hid (below_regrown w dq osq)
    generalize grow (redrawn w dq) osq = W6 at *
    clear z0 z1 z2
    go_wp2_with fail
    go_ret
    exact ⟨rfl, B6.out⟩
set_option maxHeartbeats 2000000 in
set_option maxRecDepth 100000 in
theorem works6 (x : Sl) (X : List Int) (w : World) (h : IsInts w x X) (hl : X.length = 3) (hX : ∀ v ∈ X, -1000000 ≤ v ∧ v ≤ 1000000) :
    Calls Tryz.prog 201 #[.int .i64 6, .slice x.A x.n x.c] w fun e w' => e = .returned (.bool (X.getD 1 0 != 0 && (X.getD 0 0).tdiv (X.getD 1 0) == X.getD 2 0)) ∧ Below w.heap.size w w' := by
  obtain ⟨A, n, c⟩ := x
  obtain ⟨hn, hL, hlen, hcap⟩ := h
  simp only at hn hL hlen ⊢
  obtain rfl : n = 3 := by omega
  obtain ⟨ad, rfl, hbk, hcl⟩ := hL (by omega)
  have z0 : ∀ d os, (grow (redrawn w d) os).cell? ad = some (.int .i64 (X.getD 0 0)) := cell_regrown (by have := hcl 0 (by omega); rw [gadd0] at this; exact this)
  have z1 : ∀ d os, (grow (redrawn w d) os).cell? ⟨ad.block, ad.off + 1, none⟩ = some (.int .i64 (X.getD 1 0)) := cell_regrown (hcl 1 (by omega))
  have z2 : ∀ d os, (grow (redrawn w d) os).cell? ⟨ad.block, ad.off + 2, none⟩ = some (.int .i64 (X.getD 2 0)) := cell_regrown (hcl 2 (by omega))
  have b0 := getD_in hX (by omega) 0
  have b1 := getD_in hX (by omega) 1
  generalize X.getD 0 0 = a at *
  generalize X.getD 1 0 = b at *
  generalize X.getD 2 0 = r at *
  clear hX hcl hL hn hl hbk
  cases hb : (b != 0)
  · clear b0 b1
    go_enter Tryz.func201, Tryz.ntmps201
    go_wp2_with fail
    refine wp_region_quiet_below (by kernel_rfl) (by kernel_rfl) ?_
    repeat (first | go_big_quiet_step (fail) | quiet_step (fail))
    refine wpQuiet_nil ?_
    intro _ hw'
    obtain ⟨⟨dq, osq⟩, hw''⟩ := hw'
    subst hw''
    have B6 := Lib.hid (below_regrown w dq osq)
    generalize grow (redrawn w dq) osq = W6 at *
    clear z0 z1 z2
    go_wp2_with fail
    go_ret
    exact ⟨rfl, B6.out⟩
  · have hq : -1000000 ≤ a.tdiv b ∧ a.tdiv b ≤ 1000000 := tdiv_abs b0
    have w1 : IntKind.i64.wrap (a.tdiv b) = a.tdiv b := IntWalk.i64_in _ (by omega)
    have hb0 : (b == 0) = false := by simpa using hb
    have hbn : ¬ b = 0 := by simpa using hb
    clear hq b0 b1
    go_enter Tryz.func201, Tryz.ntmps201
    go_wp2_with fail
    refine wp_region_quiet_below (by kernel_rfl) (by kernel_rfl) ?_
    repeat (first | go_big_quiet_step (fail) | quiet_step (fail))
    refine wpQuiet_nil ?_
    intro _ hw'
    obtain ⟨⟨dq, osq⟩, hw''⟩ := hw'
    subst hw''
    have B6 := Lib.hid (below_regrown w dq osq)
    generalize grow (redrawn w dq) osq = W6 at *
    clear z0 z1 z2
    go_wp2_with fail
    go_ret
    exact ⟨rfl, B6.out⟩
set_option maxHeartbeats 2000000 in
set_option maxRecDepth 100000 in
theorem works7 (x : Sl) (X : List Int) (w : World) (h : IsInts w x X) (hl : X.length = 3) (hX : ∀ v ∈ X, -1000000 ≤ v ∧ v ≤ 1000000) :
    Calls Tryz.prog 201 #[.int .i64 7, .slice x.A x.n x.c] w fun e w' => e = .returned (.bool (X.getD 1 0 != 0 && (X.getD 0 0).tmod (X.getD 1 0) == X.getD 2 0)) ∧ Below w.heap.size w w' := by
  obtain ⟨A, n, c⟩ := x
  obtain ⟨hn, hL, hlen, hcap⟩ := h
  simp only at hn hL hlen ⊢
  obtain rfl : n = 3 := by omega
  obtain ⟨ad, rfl, hbk, hcl⟩ := hL (by omega)
  have z0 : ∀ d os, (grow (redrawn w d) os).cell? ad = some (.int .i64 (X.getD 0 0)) := cell_regrown (by have := hcl 0 (by omega); rw [gadd0] at this; exact this)
  have z1 : ∀ d os, (grow (redrawn w d) os).cell? ⟨ad.block, ad.off + 1, none⟩ = some (.int .i64 (X.getD 1 0)) := cell_regrown (hcl 1 (by omega))
  have z2 : ∀ d os, (grow (redrawn w d) os).cell? ⟨ad.block, ad.off + 2, none⟩ = some (.int .i64 (X.getD 2 0)) := cell_regrown (hcl 2 (by omega))
  have b0 := getD_in hX (by omega) 0
  have b1 := getD_in hX (by omega) 1
  generalize X.getD 0 0 = a at *
  generalize X.getD 1 0 = b at *
  generalize X.getD 2 0 = r at *
  clear hX hcl hL hn hl hbk
  cases hb : (b != 0)
  · clear b0 b1
    go_enter Tryz.func201, Tryz.ntmps201
    go_wp2_with fail
    refine wp_region_quiet_below (by kernel_rfl) (by kernel_rfl) ?_
    repeat (first | go_big_quiet_step (fail) | quiet_step (fail))
    refine wpQuiet_nil ?_
    intro _ hw'
    obtain ⟨⟨dq, osq⟩, hw''⟩ := hw'
    subst hw''
    have B6 := Lib.hid (below_regrown w dq osq)
    generalize grow (redrawn w dq) osq = W6 at *
    clear z0 z1 z2
    go_wp2_with fail
    go_ret
    exact ⟨rfl, B6.out⟩
  · have hq : -1000000 ≤ a.tmod b ∧ a.tmod b ≤ 1000000 := tmod_abs b0
    have w1 : IntKind.i64.wrap (a.tmod b) = a.tmod b := IntWalk.i64_in _ (by omega)
    have hb0 : (b == 0) = false := by simpa using hb
    have hbn : ¬ b = 0 := by simpa using hb
    clear hq b0 b1
    go_enter Tryz.func201, Tryz.ntmps201
    go_wp2_with fail
    refine wp_region_quiet_below (by kernel_rfl) (by kernel_rfl) ?_
    repeat (first | go_big_quiet_step (fail) | quiet_step (fail))
    refine wpQuiet_nil ?_
    intro _ hw'
    obtain ⟨⟨dq, osq⟩, hw''⟩ := hw'
    subst hw''
    have B6 := Lib.hid (below_regrown w dq osq)
    generalize grow (redrawn w dq) osq = W6 at *
    clear z0 z1 z2
    go_wp2_with fail
    go_ret
    exact ⟨rfl, B6.out⟩
set_option maxHeartbeats 2000000 in
set_option maxRecDepth 100000 in
theorem works8 (x : Sl) (X : List Int) (w : World) (h : IsInts w x X) (hl : X.length = 2) (hX : ∀ v ∈ X, -1000000 ≤ v ∧ v ≤ 1000000) :
    Calls Tryz.prog 201 #[.int .i64 8, .slice x.A x.n x.c] w fun e w' => e = .returned (.bool (max (X.getD 0 0) (-(X.getD 0 0)) == X.getD 1 0)) ∧ Below w.heap.size w w' := by
  obtain ⟨A, n, c⟩ := x
  obtain ⟨hn, hL, hlen, hcap⟩ := h
  simp only at hn hL hlen ⊢
  obtain rfl : n = 2 := by omega
  obtain ⟨ad, rfl, hbk, hcl⟩ := hL (by omega)
  have z0 : ∀ d os, (grow (redrawn w d) os).cell? ad = some (.int .i64 (X.getD 0 0)) := cell_regrown (by have := hcl 0 (by omega); rw [gadd0] at this; exact this)
  have z1 : ∀ d os, (grow (redrawn w d) os).cell? ⟨ad.block, ad.off + 1, none⟩ = some (.int .i64 (X.getD 1 0)) := cell_regrown (hcl 1 (by omega))
  have b0 := getD_in hX (by omega) 0
  have b1 := getD_in hX (by omega) 1
  generalize X.getD 0 0 = a at *
  generalize X.getD 1 0 = b at *
  clear hX hcl hL hn hl hbk
  · have w1 : IntKind.i64.wrap (-a) = -a := IntWalk.i64_in _ (by omega)
    clear b0 b1
    go_enter Tryz.func201, Tryz.ntmps201
    go_wp2_with fail
    refine wp_region_quiet_below (by kernel_rfl) (by kernel_rfl) ?_
    repeat (first | go_big_quiet_step (fail) | quiet_step (fail))
    refine wpQuiet_nil ?_
    intro _ hw'
    obtain ⟨⟨dq, osq⟩, hw''⟩ := hw'
    subst hw''
    have B6 := Lib.hid (below_regrown w dq osq)
    generalize grow (redrawn w dq) osq = W6 at *
    clear z0 z1
    go_wp2_with fail
    go_ret
    exact ⟨rfl, B6.out⟩
set_option maxHeartbeats 2000000 in
set_option maxRecDepth 100000 in
theorem works9 (x : Sl) (X : List Int) (w : World) (h : IsInts w x X) (hl : X.length = 3) (hX : ∀ v ∈ X, -1000000 ≤ v ∧ v ≤ 1000000) :
    Calls Tryz.prog 201 #[.int .i64 9, .slice x.A x.n x.c] w fun e w' => e = .returned (.bool (min (X.getD 0 0) (X.getD 1 0) == X.getD 2 0)) ∧ Below w.heap.size w w' := by
  obtain ⟨A, n, c⟩ := x
  obtain ⟨hn, hL, hlen, hcap⟩ := h
  simp only at hn hL hlen ⊢
  obtain rfl : n = 3 := by omega
  obtain ⟨ad, rfl, hbk, hcl⟩ := hL (by omega)
  have z0 : ∀ d os, (grow (redrawn w d) os).cell? ad = some (.int .i64 (X.getD 0 0)) := cell_regrown (by have := hcl 0 (by omega); rw [gadd0] at this; exact this)
  have z1 : ∀ d os, (grow (redrawn w d) os).cell? ⟨ad.block, ad.off + 1, none⟩ = some (.int .i64 (X.getD 1 0)) := cell_regrown (hcl 1 (by omega))
  have z2 : ∀ d os, (grow (redrawn w d) os).cell? ⟨ad.block, ad.off + 2, none⟩ = some (.int .i64 (X.getD 2 0)) := cell_regrown (hcl 2 (by omega))
  have b0 := getD_in hX (by omega) 0
  have b1 := getD_in hX (by omega) 1
  generalize X.getD 0 0 = a at *
  generalize X.getD 1 0 = b at *
  generalize X.getD 2 0 = r at *
  clear hX hcl hL hn hl hbk
  · clear b0 b1
    go_enter Tryz.func201, Tryz.ntmps201
    go_wp2_with fail
    refine wp_region_quiet_below (by kernel_rfl) (by kernel_rfl) ?_
    repeat (first | go_big_quiet_step (fail) | quiet_step (fail))
    refine wpQuiet_nil ?_
    intro _ hw'
    obtain ⟨⟨dq, osq⟩, hw''⟩ := hw'
    subst hw''
    have B6 := Lib.hid (below_regrown w dq osq)
    generalize grow (redrawn w dq) osq = W6 at *
    clear z0 z1 z2
    go_wp2_with fail
    go_ret
    exact ⟨rfl, B6.out⟩
set_option maxHeartbeats 2000000 in
set_option maxRecDepth 100000 in
theorem works10 (x : Sl) (X : List Int) (w : World) (h : IsInts w x X) (hl : X.length = 3) (hX : ∀ v ∈ X, -1000000 ≤ v ∧ v ≤ 1000000) :
    Calls Tryz.prog 201 #[.int .i64 10, .slice x.A x.n x.c] w fun e w' => e = .returned (.bool (max (X.getD 0 0) (X.getD 1 0) == X.getD 2 0)) ∧ Below w.heap.size w w' := by
  obtain ⟨A, n, c⟩ := x
  obtain ⟨hn, hL, hlen, hcap⟩ := h
  simp only at hn hL hlen ⊢
  obtain rfl : n = 3 := by omega
  obtain ⟨ad, rfl, hbk, hcl⟩ := hL (by omega)
  have z0 : ∀ d os, (grow (redrawn w d) os).cell? ad = some (.int .i64 (X.getD 0 0)) := cell_regrown (by have := hcl 0 (by omega); rw [gadd0] at this; exact this)
  have z1 : ∀ d os, (grow (redrawn w d) os).cell? ⟨ad.block, ad.off + 1, none⟩ = some (.int .i64 (X.getD 1 0)) := cell_regrown (hcl 1 (by omega))
  have z2 : ∀ d os, (grow (redrawn w d) os).cell? ⟨ad.block, ad.off + 2, none⟩ = some (.int .i64 (X.getD 2 0)) := cell_regrown (hcl 2 (by omega))
  have b0 := getD_in hX (by omega) 0
  have b1 := getD_in hX (by omega) 1
  generalize X.getD 0 0 = a at *
  generalize X.getD 1 0 = b at *
  generalize X.getD 2 0 = r at *
  clear hX hcl hL hn hl hbk
  · clear b0 b1
    go_enter Tryz.func201, Tryz.ntmps201
    go_wp2_with fail
    refine wp_region_quiet_below (by kernel_rfl) (by kernel_rfl) ?_
    repeat (first | go_big_quiet_step (fail) | quiet_step (fail))
    refine wpQuiet_nil ?_
    intro _ hw'
    obtain ⟨⟨dq, osq⟩, hw''⟩ := hw'
    subst hw''
    have B6 := Lib.hid (below_regrown w dq osq)
    generalize grow (redrawn w dq) osq = W6 at *
    clear z0 z1 z2
    go_wp2_with fail
    go_ret
    exact ⟨rfl, B6.out⟩
theorem works_any (k : Int) (x : Sl) (X : List Int) (w : World) (hk : 5 ≤ k ∧ k ≤ 10) (h : IsInts w x X) (hl : k ≠ 8 → X.length = 3) (hl2 : k = 8 → X.length = 2) (hX : ∀ v ∈ X, -1000000 ≤ v ∧ v ≤ 1000000) :
    Calls Tryz.prog 201 #[.int .i64 k, .slice x.A x.n x.c] w fun e w' => e = .returned (.bool (worksB k X)) ∧ Below w.heap.size w w' := by
  have hh : k = 5 ∨ k = 6 ∨ k = 7 ∨ k = 8 ∨ k = 9 ∨ k = 10 := by omega
  rcases hh with rfl | rfl | rfl | rfl | rfl | rfl
  · exact works5 x X w h (hl (by omega)) hX
  · exact works6 x X w h (hl (by omega)) hX
  · exact works7 x X w h (hl (by omega)) hX
  · exact works8 x X w h (hl2 rfl) hX
  · exact works9 x X w h (hl (by omega)) hX
  · exact works10 x X w h (hl (by omega)) hX

set_option maxRecDepth 100000 in
theorem told13 (v : ConV) (kk x b : Int) (w : World) : Calls Tryz.prog 202 #[v.val 13 kk, .int .i64 x, .int .i64 b] w fun e w' => e = .returned (.bool (justB b (x == kk))) ∧ Below w.heap.size w w' := by
  obtain ⟨c0, c1, c2, c3, c4, c5, c6, c7⟩ := box8 (w := w) (W := w.alloc (.cells (v.cells 13 kk) 32)) (v := v) (kd := 13) (kk := kk) (t := 32) (by rw [show w.heap.size + 1 = (w.alloc (.cells (v.cells 13 kk) 32)).heap.size by simp]; exact Below.refl _ _)
  have B0 := Lib.hid (below1 w (.cells (v.cells 13 kk) 32))
  have CJ := Lib.hid (justIf_any b (x == kk))
  go_enter Tryz.func202, Tryz.ntmps202
  go_wp2_with fail
  refine (CJ.out _).mono ?_
  rintro e w1 ⟨rfl, rfl⟩
  go_wp2_with fail
  go_ret
  exact ⟨rfl, B0.out⟩
set_option maxRecDepth 100000 in
theorem told14 (v : ConV) (kk x b : Int) (w : World) : Calls Tryz.prog 202 #[v.val 14 kk, .int .i64 x, .int .i64 b] w fun e w' => e = .returned (.bool (justB b (decide (x ≤ kk)))) ∧ Below w.heap.size w w' := by
  obtain ⟨c0, c1, c2, c3, c4, c5, c6, c7⟩ := box8 (w := w) (W := w.alloc (.cells (v.cells 14 kk) 32)) (v := v) (kd := 14) (kk := kk) (t := 32) (by rw [show w.heap.size + 1 = (w.alloc (.cells (v.cells 14 kk) 32)).heap.size by simp]; exact Below.refl _ _)
  have B0 := Lib.hid (below1 w (.cells (v.cells 14 kk) 32))
  have CJ := Lib.hid (justIf_any b (decide (x ≤ kk)))
  go_enter Tryz.func202, Tryz.ntmps202
  go_wp2_with fail
  refine (CJ.out _).mono ?_
  rintro e w1 ⟨rfl, rfl⟩
  go_wp2_with fail
  go_ret
  exact ⟨rfl, B0.out⟩
set_option maxRecDepth 100000 in
theorem told15 (v : ConV) (kk x b : Int) (w : World) : Calls Tryz.prog 202 #[v.val 15 kk, .int .i64 x, .int .i64 b] w fun e w' => e = .returned (.bool (b == 0 || b == 1 && x == kk)) ∧ Below w.heap.size w w' := by
  obtain ⟨c0, c1, c2, c3, c4, c5, c6, c7⟩ := box8 (w := w) (W := w.alloc (.cells (v.cells 15 kk) 32)) (v := v) (kd := 15) (kk := kk) (t := 32) (by rw [show w.heap.size + 1 = (w.alloc (.cells (v.cells 15 kk) 32)).heap.size by simp]; exact Below.refl _ _)
  have B0 := Lib.hid (below1 w (.cells (v.cells 15 kk) 32))
  by_cases h0 : b = 0
  · subst h0
    go_enter Tryz.func202, Tryz.ntmps202
    go_wp2_with fail
    go_ret
    exact ⟨rfl, B0.out⟩
  · by_cases h1 : b = 1
    · subst h1
      go_enter Tryz.func202, Tryz.ntmps202
      go_wp2_with fail
      go_ret
      exact ⟨ret_bool (by simp), B0.out⟩
    · have e0 : (b == 0) = false := by simpa using h0
      have e1 : (b == 1) = false := by simpa using h1
      clear h0 h1
      go_enter Tryz.func202, Tryz.ntmps202
      go_wp2_with fail
      go_ret
      exact ⟨ret_bool (by first | (simp; done) | (simp [e0, e1] at *; omega) | (rw [e0, e1]; rfl)), B0.out⟩
set_option maxRecDepth 100000 in
theorem told16 (v : ConV) (kk x b : Int) (w : World) : Calls Tryz.prog 202 #[v.val 16 kk, .int .i64 x, .int .i64 b] w fun e w' => e = .returned (.bool (b == 0 || b == 1 && decide (x ≤ kk))) ∧ Below w.heap.size w w' := by
  obtain ⟨c0, c1, c2, c3, c4, c5, c6, c7⟩ := box8 (w := w) (W := w.alloc (.cells (v.cells 16 kk) 32)) (v := v) (kd := 16) (kk := kk) (t := 32) (by rw [show w.heap.size + 1 = (w.alloc (.cells (v.cells 16 kk) 32)).heap.size by simp]; exact Below.refl _ _)
  have B0 := Lib.hid (below1 w (.cells (v.cells 16 kk) 32))
  by_cases h0 : b = 0
  · subst h0
    go_enter Tryz.func202, Tryz.ntmps202
    go_wp2_with fail
    go_ret
    exact ⟨rfl, B0.out⟩
  · by_cases h1 : b = 1
    · subst h1
      go_enter Tryz.func202, Tryz.ntmps202
      go_wp2_with fail
      go_ret
      exact ⟨ret_bool (by simp), B0.out⟩
    · have e0 : (b == 0) = false := by simpa using h0
      have e1 : (b == 1) = false := by simpa using h1
      clear h0 h1
      go_enter Tryz.func202, Tryz.ntmps202
      go_wp2_with fail
      go_ret
      exact ⟨ret_bool (by first | (simp; done) | (simp [e0, e1] at *; omega) | (rw [e0, e1]; rfl)), B0.out⟩
theorem told_any (v : ConV) (k kk x b : Int) (w : World) (hk : 13 ≤ k ∧ k ≤ 16) : Calls Tryz.prog 202 #[v.val k kk, .int .i64 x, .int .i64 b] w fun e w' => e = .returned (.bool (toldB k kk x b)) ∧ Below w.heap.size w w' := by
  have hh : k = 13 ∨ k = 14 ∨ k = 15 ∨ k = 16 := by omega
  rcases hh with rfl | rfl | rfl | rfl
  · exact told13 v kk x b w
  · exact told14 v kk x b w
  · exact told15 v kk x b w
  · exact told16 v kk x b w

set_option maxHeartbeats 1000000 in
set_option maxRecDepth 100000 in
theorem lin1 (v : ConV) (kk t : Int) (y : Sl) (w : World) : Calls Tryz.prog 199 #[v.val 1 kk, .int .i64 t, .slice y.A y.n y.c] w fun e w' => e = .returned (.bool (t == kk)) ∧ Below w.heap.size w w' := by
  obtain ⟨c0, c1, c2, c3, c4, c5, c6, c7⟩ := box8 (w := w) (W := w.alloc (.cells (v.cells 1 kk) 32)) (v := v) (kd := 1) (kk := kk) (t := 32) (by rw [show w.heap.size + 1 = (w.alloc (.cells (v.cells 1 kk) 32)).heap.size by simp]; exact Below.refl _ _)
  have B0 := Lib.hid (below1 w (.cells (v.cells 1 kk) 32))
  go_enter Tryz.func199, Tryz.ntmps199
  go_wp2_with fail
  go_ret
  exact ⟨rfl, B0.out⟩
set_option maxHeartbeats 1000000 in
set_option maxRecDepth 100000 in
theorem lin2 (v : ConV) (kk t : Int) (y : Sl) (w : World) : Calls Tryz.prog 199 #[v.val 2 kk, .int .i64 t, .slice y.A y.n y.c] w fun e w' => e = .returned (.bool (decide (t ≤ kk))) ∧ Below w.heap.size w w' := by
  obtain ⟨c0, c1, c2, c3, c4, c5, c6, c7⟩ := box8 (w := w) (W := w.alloc (.cells (v.cells 2 kk) 32)) (v := v) (kd := 2) (kk := kk) (t := 32) (by rw [show w.heap.size + 1 = (w.alloc (.cells (v.cells 2 kk) 32)).heap.size by simp]; exact Below.refl _ _)
  have B0 := Lib.hid (below1 w (.cells (v.cells 2 kk) 32))
  go_enter Tryz.func199, Tryz.ntmps199
  go_wp2_with fail
  go_ret
  exact ⟨rfl, B0.out⟩
set_option maxHeartbeats 1000000 in
set_option maxRecDepth 100000 in
theorem lin3 (v : ConV) (kk t : Int) (y : Sl) (w : World) : Calls Tryz.prog 199 #[v.val 3 kk, .int .i64 t, .slice y.A y.n y.c] w fun e w' => e = .returned (.bool (t != kk)) ∧ Below w.heap.size w w' := by
  obtain ⟨c0, c1, c2, c3, c4, c5, c6, c7⟩ := box8 (w := w) (W := w.alloc (.cells (v.cells 3 kk) 32)) (v := v) (kd := 3) (kk := kk) (t := 32) (by rw [show w.heap.size + 1 = (w.alloc (.cells (v.cells 3 kk) 32)).heap.size by simp]; exact Below.refl _ _)
  have B0 := Lib.hid (below1 w (.cells (v.cells 3 kk) 32))
  go_enter Tryz.func199, Tryz.ntmps199
  go_wp2_with fail
  go_ret
  exact ⟨rfl, B0.out⟩
set_option maxHeartbeats 1000000 in
set_option maxRecDepth 100000 in
theorem lin4 (v : ConV) (kk t : Int) (y : Sl) (Y : List Int) (w : World) (h : IsInts w y Y) (hl : Y.length = 1) : Calls Tryz.prog 199 #[v.val 4 kk, .int .i64 t, .slice y.A y.n y.c] w fun e w' => e = .returned (.bool (justB (Y.getD 0 0) (decide (t ≤ kk)))) ∧ Below w.heap.size w w' := by
  obtain ⟨c0, c1, c2, c3, c4, c5, c6, c7⟩ := box8 (w := w) (W := w.alloc (.cells (v.cells 4 kk) 32)) (v := v) (kd := 4) (kk := kk) (t := 32) (by rw [show w.heap.size + 1 = (w.alloc (.cells (v.cells 4 kk) 32)).heap.size by simp]; exact Below.refl _ _)
  have B0 := Lib.hid (below1 w (.cells (v.cells 4 kk) 32))
  obtain ⟨A, n, c⟩ := y
  obtain ⟨hn, hL, hlen, hcap⟩ := h.below B0.out
  have hl1 := hl
  simp only at hn hL hlen ⊢
  obtain rfl : n = 1 := by omega
  obtain ⟨ad, rfl, hbk, hcl⟩ := hL (by omega)
  obtain ⟨wb, hwb⟩ : ∃ wb, w.alloc (.cells (v.cells 4 kk) 32) = wb := ⟨_, rfl⟩
  have HWB := Lib.hid hwb
  rw [hwb] at hcl c0 c6 B0
  have z0 : ∀ d os, (grow (redrawn wb d) os).cell? ad = some (.int .i64 (Y.getD 0 0)) := cell_regrown (by have := hcl 0 (by omega); rw [gadd0] at this; exact this)
  have k6 : ∀ d os, (grow (redrawn wb d) os).cell? ⟨w.heap.size, 6, none⟩ = some (.int .i64 kk) := cell_regrown c6
  have CJ : Hid (∀ d os, Calls Tryz.prog 241 #[.int .i64 (Y.getD 0 0), .bool (decide (t ≤ kk))] (grow (redrawn wb d) os) fun e w'' => e = .returned (.bool (justB (Y.getD 0 0) (decide (t ≤ kk)))) ∧ ∃ p : Regrown, w'' = grow (redrawn wb p.d) p.os) := Lib.hid (bo_regrown (w := wb) (fun W hW => (justIf_any (Y.getD 0 0) (decide (t ≤ kk)) W).mono fun _ _ q => ⟨q.1, q.2 ▸ Below.refl _ _⟩))
  generalize justB (Y.getD 0 0) (decide (t ≤ kk)) = RES at CJ ⊢
  generalize Y.getD 0 0 = b at *
  clear h hcl hL hn hl hl1 hbk c1 c2 c3 c4 c5 c7 hwb
  · go_enter Tryz.func199, Tryz.ntmps199
    go_upto_region 1 with fail
    change Code.wp _ _ _ _ (w.alloc (.cells (v.cells 4 kk) 32))
    rw [HWB.out]
    go_wp2_with fail
    refine wp_region_quiet_below (by kernel_rfl) (by kernel_rfl) ?_
    repeat (first | go_big_quiet_step (first | (go_at_call 241; with_reducible exact CJ.out _ _)) | quiet_step (first | (go_at_call 241; with_reducible exact CJ.out _ _)))
    refine wpQuiet_nil ?_
    intro _ hw'
    obtain ⟨⟨dq, osq⟩, hw''⟩ := hw'
    subst hw''
    have B6 := Lib.hid (below_regrown wb dq osq)
    generalize grow (redrawn wb dq) osq = W6 at *
    clear CJ z0 k6 c0 c6
    go_wp2_with fail
    go_ret
    exact ⟨rfl, B0.out.trans (B6.out.mono B0.out.size)⟩
theorem lin_any (v : ConV) (c : ConL) (t : Int) (y : Sl) (Y : List Int) (w : World) (hk : 1 ≤ c.kind ∧ c.kind ≤ 4) (h : IsInts w y Y) (hl : c.kind = 4 → Y.length = 1) : Calls Tryz.prog 199 #[v.val c.kind c.K, .int .i64 t, .slice y.A y.n y.c] w fun e w' => e = .returned (.bool (linB c t Y)) ∧ Below w.heap.size w w' := by
  unfold linB
  generalize c.K = kk
  generalize c.kind = k at *
  have hh : k = 1 ∨ k = 2 ∨ k = 3 ∨ k = 4 := by omega
  rcases hh with rfl | rfl | rfl | rfl
  · exact lin1 v kk t y w
  · exact lin2 v kk t y w
  · exact lin3 v kk t y w
  · exact lin4 v kk t y Y w h (hl rfl)
end Go.Proofs.YtkhmocbfkpbpfaaGreatDoor
