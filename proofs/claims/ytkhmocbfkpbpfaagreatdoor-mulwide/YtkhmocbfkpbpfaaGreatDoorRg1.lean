/- Contracts: needed; the closures of meets. -/
import Derived.Test.YtkhmocbfkpbpfaaGreatDoorMkst
import Derived.Test.YtkhmocbfkpbpfaaGreatDoorMpure
import Derived.Deep.QuietTactic
import Derived.BigQuiet
namespace Go.Proofs.YtkhmocbfkpbpfaaGreatDoor
open Go.RowKit Go.Sort

theorem in_regrown' {f : Nat} {args : Array Value} {w : World} {z : Int} (h : ∀ W, Below w.heap.size w W → Calls Tryz.prog f args W fun e w' => e = .returned (.int .i64 z) ∧ Below W.heap.size W w') : ∀ d os, Calls Tryz.prog f args (grow (redrawn w d) os) fun e w'' => e = .returned (.int .i64 z) ∧ ∃ p : Regrown, w'' = grow (redrawn w p.d) p.os := fun d os => Calls.regrown_of (h _ (below_regrown _ d os))
set_option maxHeartbeats 2000000 in
set_option maxRecDepth 100000 in
theorem needed_any (v : ConV) (c : ConL) (x : Sl) (X : List Int) (t : Int) (w : World) (hc : IsInts w v.c c.C) (hd : IsInts w v.d c.D) (hx : IsInts w x X) (h64 : X.length ≤ 64) (lC : c.C.length = X.length) (lD : c.D.length = X.length)
    (bC : ∀ v ∈ c.C, -1000000 ≤ v ∧ v ≤ 1000000) (bD : ∀ v ∈ c.D, -1000000 ≤ v ∧ v ≤ 1000000) (bX : ∀ v ∈ X, -1000000 ≤ v ∧ v ≤ 1000000) :
    Calls Tryz.prog 208 #[v.val c.kind c.K, .slice x.A x.n x.c, .int .i64 t] w fun e w' => e = .returned (.int .i64 (needE c X t)) ∧ Below w.heap.size w w' := by
  have hnx := hx.len
  have hnc := hc.len
  have hnd := hd.len
  obtain ⟨n, hn⟩ : ∃ n, n = x.n := ⟨_, rfl⟩
  have HX := Lib.hid hx
  have HC := Lib.hid hc
  have HD := Lib.hid hd
  have BX := Lib.hid bX
  have BC := Lib.hid bC
  have BD := Lib.hid bD
  have n64 : n ≤ 64 := by omega
  have HE : Hid (needE c X t = sumN (needF c X t) n) := Lib.hid (by unfold needE; rw [hn, hnx])
  have HF : Hid (∀ i, needF c X t i = if decide (X.getD i 0 ≤ t) && decide (t < X.getD i 0 + c.C.getD i 0) then c.D.getD i 0 else 0) := Lib.hid (fun i => rfl)
  have HA : Hid (∀ i, -1000000 ≤ needF c X t i ∧ needF c X t i ≤ 1000000) := Lib.hid (fun i => by
    unfold needF
    split
    · exact getD_in bD (by omega) i
    · omega)
  generalize needE c X t = RES at HE ⊢
  generalize needF c X t = f at *
  generalize c.kind = kd at *
  generalize c.K = kk at *
  obtain ⟨va, vb, ⟨cA, cn, cc⟩, ⟨dA, dn, dc⟩, ve, vr⟩ := v
  obtain ⟨xA, xn, xc⟩ := x
  simp only at hn hnx hnc hnd HX HC HD
  obtain rfl : n = xn := hn
  obtain rfl : cn = n := by omega
  obtain rfl : dn = cn := by omega
  clear hc hd hx bX bC bD hnx hnc hnd lC lD h64
  go_enter Tryz.func208, Tryz.ntmps208
  go_wp2_with fail
  go_loopw [7, 12] (fun s i wr => ∃ (k : Nat) (u : Int), s = .int .i64 u ∧ i = .int .i64 (k : Nat) ∧ k ≤ dn ∧ Hid (u = sumN f k) ∧ Hid (Below (w.heap.size + 1) (w.alloc (.cells (ConV.cells ⟨va, vb, ⟨cA, dn, cc⟩, ⟨dA, dn, dc⟩, ve, vr⟩ kd kk) 32)) wr)) (fun _ i _ => dn - (intOf i).toNat)
  case atStart => exact ⟨0, 0, rfl, rfl, by omega, Lib.hid rfl, Lib.hid (by rw [show w.heap.size + 1 = (w.alloc (.cells (ConV.cells ⟨va, vb, ⟨cA, dn, cc⟩, ⟨dA, dn, dc⟩, ve, vr⟩ kd kk) 32)).heap.size by simp]; exact Below.refl _ _)⟩
  case round =>
    obtain ⟨k, u, rfl, rfl, hk, HT, HB⟩ := hrel
    by_cases hlt : k < dn
    · have hbw := of_boxed HB.out
      obtain ⟨adC, eC, hbC, hclC⟩ := (HC.out.below hbw).lies (by simp only; omega)
      obtain ⟨adD, eD, hbD, hclD⟩ := (HD.out.below hbw).lies (by simp only; omega)
      obtain ⟨adX, eX, hbX, hclX⟩ := (HX.out.below hbw).lies (by simp only; omega)
      simp only at eC eD eX
      subst eC eD eX
      obtain ⟨c0, c1, c2, c3, c4, c5, c6, c7⟩ := box8 HB.out
      have hC : wr.cell? (adC.add k) = some (.int .i64 (c.C.getD k 0)) := hclC k hlt
      have hD : wr.cell? (adD.add k) = some (.int .i64 (c.D.getD k 0)) := hclD k hlt
      have hX : wr.cell? (adX.add k) = some (.int .i64 (X.getD k 0)) := hclX k hlt
      have b1 := getD_in BX.out (by omega) k
      have b2 := getD_in BC.out (by omega) k
      have b3 := getD_in BD.out (by omega) k
      have hs := sumN_abs (f := f) (n := k) (b := 1000000) (fun i _ => HA.out i)
      rw [← HT.out] at hs
      have HN : Hid (u + f k = sumN f (k + 1)) := Lib.hid (by rw [HT.out]; rfl)
      rw [HF.out k] at HN
      clear hclC hclD hclX hbC hbD hbX hbw HT
      generalize c.C.getD k 0 = zc at *
      generalize c.D.getD k 0 = zd at *
      generalize X.getD k 0 = zx at *
      have w1 : IntKind.i64.wrap (zx + zc) = zx + zc := IntWalk.i64_in _ (by omega)
      have w2 : IntKind.i64.wrap (u + zd) = u + zd := IntWalk.i64_in _ (by omega)
      clear b1 b2 b3 hs
      cases e1 : decide (zx ≤ t)
      · have HN2 : Hid (u = sumN f (k + 1)) := Lib.hid (by have := HN.out; rw [e1] at this; simpa using this)
        clear HN
        go_wp2_with fail
        go_roundw
        case rel => exact ⟨k + 1, _, rfl, by go_num, by omega, HN2, HB⟩
        case measure => simp [intOf]; omega
      · cases e2 : decide (t < zx + zc)
        · have HN2 : Hid (u = sumN f (k + 1)) := Lib.hid (by have := HN.out; rw [e1, e2] at this; simpa using this)
          clear HN
          go_wp2_with fail
          go_roundw
          case rel => exact ⟨k + 1, _, rfl, by go_num, by omega, HN2, HB⟩
          case measure => simp [intOf]; omega
        · have HN2 : Hid (u + zd = sumN f (k + 1)) := Lib.hid (by have := HN.out; rw [e1, e2] at this; simpa using this)
          clear HN
          go_wp2_with fail
          go_roundw
          case rel => exact ⟨k + 1, _, rfl, by go_num, by omega, HN2, HB⟩
          case measure => simp [intOf]; omega
    · have HT2 : Hid (u = RES) := Lib.hid (by rw [HE.out, HT.out, show k = dn by omega])
      clear HT HE
      go_wp2_with fail
      go_ret
      exact ⟨by rw [← HT2.out]; rfl, of_boxed HB.out⟩

/-- A boxed slice. -/
theorem eMeets1 : ∀ args w, (callFunc 204 args).run Tryz.prog w = .ok (.enter 204 args) w := enters_of Tryz.func204 (by kernel_rfl) rfl
theorem eMeets2 : ∀ args w, (callFunc 206 args).run Tryz.prog w = .ok (.enter 206 args) w := enters_of Tryz.func206 (by kernel_rfl) rfl
theorem eMeets3 : ∀ args w, (callFunc 207 args).run Tryz.prog w = .ok (.enter 207 args) w := enters_of Tryz.func207 (by kernel_rfl) rfl
theorem eMeets4 : ∀ args w, (callFunc 210 args).run Tryz.prog w = .ok (.enter 210 args) w := enters_of Tryz.func210 (by kernel_rfl) rfl
theorem eMeets5 : ∀ args w, (callFunc 213 args).run Tryz.prog w = .ok (.enter 213 args) w := enters_of Tryz.func213 (by kernel_rfl) rfl

set_option maxRecDepth 100000 in
theorem meets1_any (x : Sl) (X : List Int) (i : Nat) (a : Addr) (w : World) (hi : i < X.length) (ha : w.cell? a = some (.slice x.A x.n x.c)) (h : IsInts w x X) :
    Calls Tryz.prog 204 (#[.int .i64 (i : Nat)] ++ #[.pointer (some a)]) w fun e w' => e = .returned (.bool (diffP X i)) ∧ Below w.heap.size w w' := by
  show Calls Tryz.prog 204 #[.int .i64 (i : Nat), .pointer (some a)] w _
  have hin : i < x.n := by rw [h.len]; exact hi
  have CK := Lib.hid (bo_regrown (w := w) (fun W hW => (contains_ints ⟨x.A, i, x.c⟩ (X.take i) (X.getD i 0) W ((h.below hW).take (by omega))).mono fun _ _ q => ⟨q.1, q.2 ▸ Below.refl _ _⟩))
  have za := cell_regrown ha
  unfold diffP
  obtain ⟨A, n, c⟩ := x
  obtain ⟨hn, hL, hbig, hcap⟩ := h
  simp only at hn hL hbig hin hcap CK za
  obtain ⟨ad, rfl, hbk, hcl⟩ := hL (by omega)
  have hck : ∀ d os, (grow (redrawn w d) os).cell? (ad.add i) = some (.int .i64 (X.getD i 0)) := cell_regrown (hcl i hin)
  generalize X.getD i 0 = z at hck CK ⊢
  generalize (X.take i).any (· == z) = T at CK ⊢
  have hix : ((i : Nat) : Int) < ((n : Nat) : Int) := by omega
  clear hcl hL hbk hi ha hn
  go_enter Tryz.func204, Tryz.ntmps204
  go_wp2_with fail
  refine wp_region_quiet_below (by kernel_rfl) (by kernel_rfl) ?_
  repeat (first | go_big_quiet_step (first | (go_at_call 27; with_reducible exact CK.out _ _)) | quiet_step (first | (go_at_call 27; with_reducible exact CK.out _ _)))
  refine wpQuiet_nil ?_
  intro _ hw'
  obtain ⟨⟨dq, osq⟩, hw''⟩ := hw'
  subst hw''
  have B6 := Lib.hid (below_regrown w dq osq)
  generalize grow (redrawn w dq) osq = W6 at *
  clear hck CK za
  go_wp2_with fail
  go_ret
  exact ⟨rfl, B6.out⟩

theorem meets2_any (u x : Sl) (r X : List Int) (a : Addr) (w : World) (ha : w.cell? a = some (.slice x.A x.n x.c)) (hu : IsInts w u r) (h : IsInts w x X) :
    Calls Tryz.prog 206 (#[.slice u.A u.n u.c] ++ #[.pointer (some a)]) w fun e w' => e = .returned (.bool (r == X)) ∧ Below w.heap.size w w' := by
  show Calls Tryz.prog 206 #[.slice u.A u.n u.c, .pointer (some a)] w _
  have C := Lib.hid (gequal_ints u x r X w hu h)
  generalize (r == X) = T at C ⊢
  clear hu h
  go_enter Tryz.func206, Tryz.ntmps206
  go_wp2_with fail
  refine C.out.mono ?_
  rintro e w1 ⟨rfl, b1⟩
  have B1 := Lib.hid b1
  clear b1 C
  go_wp2_with fail
  go_ret
  exact ⟨rfl, B1.out⟩

set_option maxHeartbeats 2000000 in
set_option maxRecDepth 100000 in
theorem meets3_any (v : ConV) (c : ConL) (x : Sl) (X : List Int) (i g : Nat) (a : Addr) (w : World) (hi : i < X.length) (hg : ∀ (j : Nat) (u : Value), (v.cells c.kind c.K)[j]? = some u → w.cell? ⟨g, j, none⟩ = some u) (ha : w.cell? a = some (.slice x.A x.n x.c)) (hc : IsInts w v.c c.C) (hd : IsInts w v.d c.D) (h : IsInts w x X) (h64 : X.length ≤ 64) (lC : c.C.length = X.length) (lD : c.D.length = X.length)
    (bC : ∀ v ∈ c.C, -1000000 ≤ v ∧ v ≤ 1000000) (bD : ∀ v ∈ c.D, -1000000 ≤ v ∧ v ≤ 1000000) (bX : ∀ v ∈ X, -1000000 ≤ v ∧ v ≤ 1000000) :
    Calls Tryz.prog 207 (#[.int .i64 (i : Nat)] ++ #[.pointer (some ⟨g, 0, none⟩), .pointer (some a)]) w fun e w' => e = .returned (.bool (cumP c X i)) ∧ Below w.heap.size w w' := by
  show Calls Tryz.prog 207 #[.int .i64 (i : Nat), .pointer (some ⟨g, 0, none⟩), .pointer (some a)] w _
  have hin : i < x.n := by rw [h.len]; exact hi
  have CK := Lib.hid (in_regrown' (w := w) (fun W hW => needed_any v c x X (X.getD i 0) W (hc.below hW) (hd.below hW) (h.below hW) h64 lC lD bC bD bX))
  have za := cell_regrown ha
  have k0 := cell_regrown (hg 0 _ rfl)
  have k1 := cell_regrown (hg 1 _ rfl)
  have k2 := cell_regrown (hg 2 _ rfl)
  have k3 := cell_regrown (hg 3 _ rfl)
  have k4 := cell_regrown (hg 4 _ rfl)
  have k5 := cell_regrown (hg 5 _ rfl)
  have k6 := cell_regrown (hg 6 _ rfl)
  have k7 := cell_regrown (hg 7 _ rfl)
  unfold cumP
  obtain ⟨A, n, cp⟩ := x
  obtain ⟨hn, hL, hbig, hcap⟩ := h
  simp only at hn hL hbig hin hcap CK za
  obtain ⟨ad, rfl, hbk, hcl⟩ := hL (by omega)
  have hck : ∀ d os, (grow (redrawn w d) os).cell? (ad.add i) = some (.int .i64 (X.getD i 0)) := cell_regrown (hcl i hin)
  generalize X.getD i 0 = z at hck CK ⊢
  generalize needE c X z = T at CK ⊢
  generalize c.kind = kd at *
  generalize c.K = kk at *
  have hix : ((i : Nat) : Int) < ((n : Nat) : Int) := by omega
  clear hcl hL hbk hi ha hg hc hd bC bD bX lC lD h64 hn
  go_enter Tryz.func207, Tryz.ntmps207
  go_wp2_with fail
  refine wp_region_quiet_below (by kernel_rfl) (by kernel_rfl) ?_
  repeat (first | go_big_quiet_step (first | (go_at_call 208; with_reducible exact CK.out _ _)) | quiet_step (first | (go_at_call 208; with_reducible exact CK.out _ _)))
  refine wpQuiet_nil ?_
  intro _ hw'
  obtain ⟨⟨dq, osq⟩, hw''⟩ := hw'
  subst hw''
  have B6 := Lib.hid (below_regrown w dq osq)
  generalize grow (redrawn w dq) osq = W6 at *
  clear hck CK za k0 k1 k2 k3 k4 k5 k6 k7
  go_wp2_with fail
  go_ret
  exact ⟨rfl, B6.out⟩

set_option maxHeartbeats 2000000 in
set_option maxRecDepth 100000 in
theorem meets4_any (v : ConV) (c : ConL) (x : Sl) (X : List Int) (i g : Nat) (a : Addr) (w : World) (hi : i < c.C.length) (hg : ∀ (j : Nat) (u : Value), (v.cells c.kind c.K)[j]? = some u → w.cell? ⟨g, j, none⟩ = some u) (hgl : g < w.heap.size) (ha : w.cell? a = some (.slice x.A x.n x.c)) (hc : IsInts w v.c c.C) (hd : IsInts w v.d c.D) (he : IsInts w v.e c.E) (h : IsInts w x X) (lD : c.D.length = c.C.length) (lE : c.E.length = c.C.length) :
    Calls Tryz.prog 210 (#[.int .i64 (i : Nat)] ++ #[.pointer (some a), .pointer (some ⟨g, 0, none⟩)]) w fun e w' => e = .returned (.bool (gccP c X i)) ∧ Below w.heap.size w w' := by
  show Calls Tryz.prog 210 #[.int .i64 (i : Nat), .pointer (some a), .pointer (some ⟨g, 0, none⟩)] w _
  have CK := Lib.hid (in_regrown' (w := w) (fun W hW => (gcount_any x X (c.C.getD i 0) W (h.below hW)).mono fun _ _ q => ⟨q.1, q.2 ▸ Below.refl _ _⟩))
  have za := cell_regrown ha
  have k3 := cell_regrown (hg 3 _ rfl)
  have k4 := hg 4 _ rfl
  have k5 := hg 5 _ rfl
  have HGL := Lib.hid hgl
  unfold gccP
  obtain ⟨va, vb, ⟨cA, cn, cc⟩, ⟨dA, dn, dc⟩, ⟨eA, en, ec⟩, vr⟩ := v
  obtain ⟨n1, L1, -, -⟩ := hc
  obtain ⟨n2, L2, -, -⟩ := hd
  obtain ⟨n3, L3, -, -⟩ := he
  simp only at n1 L1 n2 L2 n3 L3 k3 k4 k5
  obtain rfl : dn = cn := by omega
  obtain rfl : en = dn := by omega
  have hin : i < en := by omega
  obtain ⟨adC, rfl, hbC, hclC⟩ := L1 (by omega)
  obtain ⟨adD, rfl, hbD, hclD⟩ := L2 (by omega)
  obtain ⟨adE, rfl, hbE, hclE⟩ := L3 (by omega)
  have hC : ∀ d os, (grow (redrawn w d) os).cell? (adC.add i) = some (.int .i64 (c.C.getD i 0)) := cell_regrown (hclC i hin)
  have hD : w.cell? (adD.add i) = some (.int .i64 (c.D.getD i 0)) := hclD i hin
  have hE : w.cell? (adE.add i) = some (.int .i64 (c.E.getD i 0)) := hclE i hin
  have HBD := Lib.hid (show (adD.add i).block < w.heap.size by rw [add_block]; exact hbD)
  have HBE := Lib.hid (show (adE.add i).block < w.heap.size by rw [add_block]; exact hbE)
  generalize c.C.getD i 0 = zc at *
  generalize c.D.getD i 0 = zd at *
  generalize c.E.getD i 0 = ze at *
  generalize countE X zc = T at CK ⊢
  generalize c.kind = kd at *
  generalize c.K = kk at *
  have hix : ((i : Nat) : Int) < ((en : Nat) : Int) := by omega
  clear hclC hclD hclE L1 L2 L3 hbC hbD hbE hi ha hg h lD lE n1 n2 n3 hgl
  go_enter Tryz.func210, Tryz.ntmps210
  go_wp2_with fail
  refine wp_region_quiet_below (by kernel_rfl) (by kernel_rfl) ?_
  repeat (first | go_big_quiet_step (first | (go_at_call 211; with_reducible exact CK.out _ _)) | quiet_step (first | (go_at_call 211; with_reducible exact CK.out _ _)))
  refine wpQuiet_nil ?_
  intro _ hw'
  obtain ⟨⟨dq, osq⟩, hw''⟩ := hw'
  subst hw''
  have B6 := Lib.hid (below_regrown w dq osq)
  generalize grow (redrawn w dq) osq = W6 at *
  have j4 := (B6.out.cell (p := ⟨g, 4, none⟩) HGL.out).trans k4
  have j5 := (B6.out.cell (p := ⟨g, 5, none⟩) HGL.out).trans k5
  have jD := (B6.out.cell HBD.out).trans hD
  have jE := (B6.out.cell HBE.out).trans hE
  clear hC CK za k3 k4 k5 hD hE
  cases e1 : decide (T < zd)
  · cases e2 : decide (ze < T)
    · go_wp2_with fail
      go_ret
      exact ⟨ret_bool (by rw [e1, e2]; rfl), B6.out⟩
    · go_wp2_with fail
      go_ret
      exact ⟨ret_bool (by rw [e1, e2]; rfl), B6.out⟩
  · go_wp2_with fail
    go_ret
    exact ⟨ret_bool (by rw [e1]; rfl), B6.out⟩

theorem meets5_any (x y : Sl) (X Y : List Int) (i : Nat) (a b : Addr) (w : World) (hi : i < X.length) (hl : Y.length = X.length) (ha : w.cell? a = some (.slice x.A x.n x.c)) (hb : w.cell? b = some (.slice y.A y.n y.c)) (hx : IsInts w x X) (hy : IsInts w y Y) :
    Calls Tryz.prog 213 (#[.int .i64 (i : Nat)] ++ #[.pointer (some a), .pointer (some b)]) w fun e w' => e = .returned (.bool (invP X Y i)) ∧ Below w.heap.size w w' := by
  show Calls Tryz.prog 213 #[.int .i64 (i : Nat), .pointer (some a), .pointer (some b)] w _
  have C1 := Lib.hid (leadsBack_any x y X Y i w hx hy hi)
  have C2 := Lib.hid (leadsBack_any y x Y X i w hy hx (by omega))
  unfold invP
  generalize backB X Y i = T1 at C1 ⊢
  generalize backB Y X i = T2 at C2 ⊢
  clear hx hy hi hl
  cases T1
  · go_enter Tryz.func213, Tryz.ntmps213
    go_wp2_with fail
    refine C1.out.mono ?_
    rintro e w1 ⟨rfl, rfl⟩
    go_wp2_with fail
    go_ret
    exact ⟨rfl, Below.refl _ _⟩
  · go_enter Tryz.func213, Tryz.ntmps213
    go_wp2_with fail
    refine C1.out.mono ?_
    rintro e w1 ⟨rfl, rfl⟩
    go_wp2_with fail
    refine C2.out.mono ?_
    rintro e w1 ⟨rfl, rfl⟩
    go_wp2_with fail
    go_ret
    exact ⟨rfl, Below.refl _ _⟩
end Go.Proofs.YtkhmocbfkpbpfaaGreatDoor

/- Where a cell is, there is its block. No walk. -/
namespace Go.Proofs.YtkhmocbfkpbpfaaGreatDoor
open Go.RowKit

theorem lt_of_cell {w : World} {a : Addr} {u : Value} (h : w.cell? a = some u) : a.block < w.heap.size := by
  unfold World.cell? at h
  cases hb : w.heap[a.block]?
  · rw [hb] at h
    cases h
  · exact (Array.getElem?_eq_some_iff.1 hb).1
end Go.Proofs.YtkhmocbfkpbpfaaGreatDoor

/- Contracts: the document's sum, linear, size, Quo. -/
namespace Go.Proofs.YtkhmocbfkpbpfaaGreatDoor
open Go.RowKit Go.Sort

/-- A constraint's box. -/
abbrev cBox (w : World) (v : ConV) (kd kk : Int) : World := w.alloc (.cells (v.cells kd kk) 32)
theorem cBox_cell (w : World) (v : ConV) (kd kk : Int) (j : Nat) (u : Value) (hj : (v.cells kd kk)[j]? = some u) : (cBox w v kd kk).cell? ⟨w.heap.size, j, none⟩ = some u := by
  have : (cBox w v kd kk).cell? ⟨w.heap.size, j, none⟩ = (v.cells kd kk)[j]? := by simp [cBox]
  rw [this, hj]
theorem cBox_below (w : World) (v : ConV) (kd kk : Int) : Below w.heap.size w (cBox w v kd kk) := below1 w _
/-- A constraint's box beside its lists and the values. -/
structure RBox (g : Nat) (W : World) (v : ConV) (c : ConL) (y : Sl) (a : List Int) : Prop where
  cell : ∀ (j : Nat) (u : Value), (v.cells c.kind c.K)[j]? = some u → W.cell? ⟨g, j, none⟩ = some u
  lt : g < W.heap.size
  con : ConIn W v c
  ints : IsInts W y a
theorem RBox.below {g : Nat} {W W' : World} {v : ConV} {c : ConL} {y : Sl} {a : List Int} (h : RBox g W v c y a) (b : Below W.heap.size W W') : RBox g W' v c y a :=
  ⟨fun j u hj => (b.cell h.lt).trans (h.cell j u hj), Nat.lt_of_lt_of_le h.lt b.size, h.con.below b, h.ints.below b⟩
theorem RBox.start {w : World} {v : ConV} {c : ConL} {y : Sl} {a : List Int} (h : ConIn w v c) (hy : IsInts w y a) : RBox w.heap.size (cBox w v c.kind c.K) v c y a :=
  ⟨cBox_cell w v c.kind c.K, by simp [cBox], h.below (cBox_below _ _ _ _), hy.below (cBox_below _ _ _ _)⟩
section
variable {g : Nat} {W : World} {v : ConV} {c : ConL} {y : Sl} {a : List Int}
theorem RBox.c0 (h : RBox g W v c y a) : W.cell? ⟨g, 0, none⟩ = some (.int .i64 c.kind) := h.cell 0 _ rfl
theorem RBox.c1 (h : RBox g W v c y a) : W.cell? ⟨g, 1, none⟩ = some (.slice v.a.A v.a.n v.a.c) := h.cell 1 _ rfl
theorem RBox.c2 (h : RBox g W v c y a) : W.cell? ⟨g, 2, none⟩ = some (.slice v.b.A v.b.n v.b.c) := h.cell 2 _ rfl
theorem RBox.c3 (h : RBox g W v c y a) : W.cell? ⟨g, 3, none⟩ = some (.slice v.c.A v.c.n v.c.c) := h.cell 3 _ rfl
theorem RBox.c4 (h : RBox g W v c y a) : W.cell? ⟨g, 4, none⟩ = some (.slice v.d.A v.d.n v.d.c) := h.cell 4 _ rfl
theorem RBox.c5 (h : RBox g W v c y a) : W.cell? ⟨g, 5, none⟩ = some (.slice v.e.A v.e.n v.e.c) := h.cell 5 _ rfl
theorem RBox.c6 (h : RBox g W v c y a) : W.cell? ⟨g, 6, none⟩ = some (.int .i64 c.K) := h.cell 6 _ rfl
theorem RBox.c7 (h : RBox g W v c y a) : W.cell? ⟨g, 7, none⟩ = some (.slice v.r.A v.r.n v.r.c) := h.cell 7 _ rfl
end
/-- A place's value. -/
theorem place_at {W : World} {y x : Sl} {L a : List Int} (h : IsInts W y L) (hx : IsInts W x a) (hL : ∀ v ∈ L, 0 ≤ v ∧ v < (a.length : Int)) (i : Nat) (hi : i < L.length) :
    ∃ (adL ad : Addr) (p : Nat), y.A = some adL ∧ x.A = some ad ∧ W.cell? (adL.add i) = some (.int .i64 (p : Nat)) ∧ p < x.n ∧ i < y.n ∧ W.cell? (ad.add p) = some (.int .i64 ((valsE L a).getD i 0)) := by
  have hb := hL _ (getD_mem L i hi)
  obtain ⟨p, hp⟩ : ∃ p : Nat, (p : Int) = L.getD i 0 := ⟨(L.getD i 0).toNat, by omega⟩
  have hn := h.len
  have hn' := hx.len
  obtain ⟨adL, eL, hbl, hcl⟩ := h.lies (by omega)
  obtain ⟨ad, ea, hba, hca⟩ := hx.lies (by omega)
  refine ⟨adL, ad, p, eL, ea, ?_, by omega, by omega, ?_⟩
  · rw [hcl i (by omega), hp]
    rfl
  · have : (valsE L a).getD i 0 = a.getD p 0 := by
      unfold valsE
      rw [List.getD_eq_getElem?_getD, List.getElem?_map, List.getElem?_eq_getElem hi]
      have e2 : L[i] = (p : Int) := by rw [hp, List.getD_eq_getElem?_getD, List.getElem?_eq_getElem hi]; rfl
      rw [e2]
      simp [atE]
    rw [hca p (by omega), this]
    rfl
theorem vals_le {L a : List Int} {lo hi : Int} (hL : ∀ v ∈ L, 0 ≤ v ∧ v < (a.length : Int)) (ha : ∀ v ∈ a, lo ≤ v ∧ v ≤ hi) : ∀ v ∈ valsE L a, lo ≤ v ∧ v ≤ hi := by
  intro v hv
  unfold valsE at hv
  obtain ⟨u, hu, rfl⟩ := List.mem_map.1 hv
  have := hL u hu
  exact ha _ (getD_mem a u.toNat (by omega))
theorem vals_size (l a : List Int) : (valsE l a).length = l.length := by simp [valsE]

/-- What a call over a constraint begins with. -/
theorem RBox.at_ {g : Nat} {W : World} {v : ConV} {c : ConL} {y : Sl} {a : List Int} (h : RBox g W v c y a) (hL : ∀ x ∈ c.A, 0 ≤ x ∧ x < (a.length : Int)) (i : Nat) (hi : i < v.a.n) :
    ∃ (adL ad : Addr) (p : Nat), v.a.A = some adL ∧ y.A = some ad ∧ W.cell? (adL.add i) = some (.int .i64 (p : Nat)) ∧ p < y.n ∧ i < v.a.n ∧ W.cell? (ad.add p) = some (.int .i64 ((valsE c.A a).getD i 0)) :=
  place_at h.con.a h.ints hL i (by rw [← h.con.a.len]; exact hi)
theorem RBox.bt_ {g : Nat} {W : World} {v : ConV} {c : ConL} {y : Sl} {a : List Int} (h : RBox g W v c y a) (hL : ∀ x ∈ c.B, 0 ≤ x ∧ x < (a.length : Int)) (i : Nat) (hi : i < v.b.n) :
    ∃ (adL ad : Addr) (p : Nat), v.b.A = some adL ∧ y.A = some ad ∧ W.cell? (adL.add i) = some (.int .i64 (p : Nat)) ∧ p < y.n ∧ i < v.b.n ∧ W.cell? (ad.add p) = some (.int .i64 ((valsE c.B a).getD i 0)) :=
  place_at h.con.b h.ints hL i (by rw [← h.con.b.len]; exact hi)
theorem ints_at {W : World} {x : Sl} {L : List Int} (h : IsInts W x L) (i : Nat) (hi : i < x.n) : ∃ ad : Addr, x.A = some ad ∧ W.cell? (ad.add i) = some (.int .i64 (L.getD i 0)) := by
  obtain ⟨ad, e, hb, hc⟩ := h.lies (by omega)
  exact ⟨ad, e, hc i hi⟩

set_option maxHeartbeats 2000000 in
theorem rsum_any (v : ConV) (c : ConL) (y : Sl) (a : List Int) (w : World) (h : ConIn w v c) (hy : IsInts w y a) (r : ConR a.length c) (hlin : c.C.length = c.A.length) (ba : ∀ v ∈ a, -1000000 ≤ v ∧ v ≤ 1000000) :
    Calls Tryz.prog 133 #[v.val c.kind c.K, .slice y.A y.n y.c] w fun e w' => e = .returned (.int .i64 (dotE c.C (valsE c.A a))) ∧ Below w.heap.size w w' := by
  obtain ⟨wb, hwb⟩ : ∃ wb, cBox w v c.kind c.K = wb := ⟨_, rfl⟩
  have HR : Hid (RBox w.heap.size wb v c y a ∧ Below w.heap.size w wb) := Lib.hid (hwb ▸ ⟨RBox.start h hy, cBox_below _ _ _ _⟩)
  have HCN := Lib.hid (show v.c.n = v.a.n by rw [h.c.len, h.a.len, hlin])
  have h64 : v.a.n ≤ 64 := by rw [h.a.len]; exact r.a64
  have HX := Lib.hid (vals_le r.pa ba)
  have HCC := Lib.hid r.pc
  have HPA := Lib.hid r.pa
  have HE : Hid (dotE c.C (valsE c.A a) = sumN (fun i => c.C.getD i 0 * (valsE c.A a).getD i 0) v.a.n) := Lib.hid (by unfold dotE; rw [hlin, ← h.a.len])
  generalize dotE c.C (valsE c.A a) = D at HE ⊢
  have HWB := Lib.hid hwb
  clear hwb h hy r ba hlin
  go_enter Tryz.func133, Tryz.ntmps133
  go_upto_region 1 with fail
  change Code.wp _ _ _ _ (cBox w v c.kind c.K)
  rw [HWB.out]
  clear HWB
  go_wp2_with fail
  go_loopw [5, 6] (fun s i wr => ∃ (k : Nat) (t : Int), s = .int .i64 t ∧ i = .int .i64 (k : Nat) ∧ k ≤ v.a.n ∧ Hid (t = sumN (fun i => c.C.getD i 0 * (valsE c.A a).getD i 0) k) ∧ Hid (RBox w.heap.size wr v c y a ∧ Below w.heap.size w wr)) (fun _ i _ => v.a.n - (intOf i).toNat)
  case atStart => exact ⟨0, 0, rfl, rfl, by omega, Lib.hid rfl, HR⟩
  case round =>
    clear HR
    obtain ⟨k, t, rfl, rfl, hk, HT, HR⟩ := hrel
    have h1 := HR.out.1.c1
    have h3 := HR.out.1.c3
    by_cases hlt : k < v.a.n
    · obtain ⟨adL, ad, p, eL, ea, q1, q2, q3, q4⟩ := HR.out.1.at_ HPA.out k hlt
      have q6 : k < v.c.n := by have := HCN.out; omega
      obtain ⟨adC, eC, q5⟩ := ints_at HR.out.1.con.c k q6
      have hb1 := getD_in HCC.out (by omega) k
      have hb2 := getD_in HX.out (by omega) k
      have hm := mul_abs hb1 hb2
      have hs := sumN_abs (f := fun i => c.C.getD i 0 * (valsE c.A a).getD i 0) (n := k) (b := 1000000000000) (fun i hi => mul_abs (getD_in HCC.out (by omega) i) (getD_in HX.out (by omega) i))
      rw [← HT.out] at hs
      have HT2 : Hid (t + c.C.getD k 0 * (valsE c.A a).getD k 0 = sumN (fun i => c.C.getD i 0 * (valsE c.A a).getD i 0) (k + 1)) := Lib.hid (by rw [HT.out]; rfl)
      have w1 : IntKind.i64.wrap (c.C.getD k 0 * (valsE c.A a).getD k 0) = c.C.getD k 0 * (valsE c.A a).getD k 0 := IntWalk.i64_in _ (by omega)
      have w2 : IntKind.i64.wrap (t + c.C.getD k 0 * (valsE c.A a).getD k 0) = t + c.C.getD k 0 * (valsE c.A a).getD k 0 := IntWalk.i64_in _ (by omega)
      clear hb1 hb2 hm hs HT
      generalize c.C.getD k 0 = z at q5 HT2 w1 w2
      generalize (valsE c.A a).getD k 0 = u at q4 HT2 w1 w2
      rw [eL] at h1
      rw [eC] at h3
      rw [ea]
      go_upto_region 5 with fail
      go_quiet (fail)
      have HR2 := Lib.hid (show RBox w.heap.size (wr.drewN nq) v c y a ∧ Below w.heap.size w (wr.drewN nq) from ⟨HR.out.1.below (below_drewN (Below.refl _ _) nq), below_drewN HR.out.2 nq⟩)
      generalize wr.drewN nq = w3 at *
      go_wp2_with fail
      go_roundw
      case rel => exact ⟨k + 1, _, rfl, by go_num, by omega, HT2, HR2⟩
      case measure => simp [intOf]; omega
    · have HT2 : Hid (t = D) := Lib.hid (by rw [HE.out, HT.out, show k = v.a.n by omega])
      clear HT HE
      go_wp2_with fail
      go_ret
      exact ⟨by rw [← HT2.out]; rfl, HR.out.2⟩
end Go.Proofs.YtkhmocbfkpbpfaaGreatDoor

/- Right and the document's Right tell the same: the whole. No walk. -/
namespace Go.Proofs.YtkhmocbfkpbpfaaGreatDoor
open Go.RowKit

theorem alike_all (c : ConL) (k : Nat) (hk : k < 23) (h : c.kind = ((k + 1 : Nat) : Int)) : Alike c ⟨((ents.getD k noEnt).shape).toArray⟩ := by
  have hh : k = 0 ∨ k = 1 ∨ k = 2 ∨ k = 3 ∨ k = 4 ∨ k = 5 ∨ k = 6 ∨ k = 7 ∨ k = 8 ∨ k = 9 ∨ k = 10 ∨ k = 11 ∨ k = 12 ∨ k = 13 ∨ k = 14 ∨ k = 15 ∨ k = 16 ∨ k = 17 ∨ k = 18 ∨ k = 19 ∨ k = 20 ∨ k = 21 ∨ k = 22 := by omega
  rcases hh with rfl | rfl | rfl | rfl | rfl | rfl | rfl | rfl | rfl | rfl | rfl | rfl | rfl | rfl | rfl | rfl | rfl | rfl | rfl | rfl | rfl | rfl | rfl
  · exact alike1 c h
  · exact alike2 c h
  · exact alike3 c h
  · exact alike4 c h
  · exact alike5 c h
  · exact alike6 c h
  · exact alike7 c h
  · exact alike8 c h
  · exact alike9 c h
  · exact alike10 c h
  · exact alike11 c h
  · exact alike12 c h
  · exact alike13 c h
  · exact alike14 c h
  · exact alike15 c h
  · exact alike16 c h
  · exact alike17 c h
  · exact alike18 c h
  · exact alike19 c h
  · exact alike20 c h
  · exact alike21 c h
  · exact alike22 c h
  · exact alike23 c h

def highV (vars : Int) : Int := if 0 < vars then vars - 1 else -1
theorem out_high (vars z : Int) : outB 0 (highV vars) z = outV vars z := by
  unfold outB outV highV
  rw [Bool.eq_iff_iff]
  split <;> simp <;> omega

/-- What the document's Right tells. -/
def refRightE (c : ConL) (vars : Int) : Int :=
  if c.kind < 1 ∨ 23 < c.kind then 9
  else if arityB c ⟨(shapesL.getD c.kind.toNat []).toArray⟩ = false then 10
  else if (c.A.any (outB 0 (highV vars)) || c.B.any (outB 0 (highV vars))) = true then 7
  else if coefsB c = false then 11 else 0

theorem nums_coefs {c : ConL} {sh : ByteArray} (h : Alike c sh) (hs : sizesB c sh = true) : numsB c = coefsB c := by
  unfold numsB coefsB secD
  by_cases h19 : c.kind = 19
  · rw [if_pos (.inl h19)]
  · by_cases h21 : c.kind = 21
    · rw [if_pos (.inr h21)]
    · rw [if_neg (by omega)]
      obtain ⟨e1, e2⟩ := h.2.1 hs h19 h21
      rw [e1, e2]
      rfl

theorem right_same (c : ConL) (vars : Int) : rightE c vars = refRightE c vars := by
  unfold rightE refRightE
  by_cases ho : c.kind < 1 ∨ 23 < c.kind
  · rw [found_out ho, if_pos rfl, if_pos ho]
  · obtain ⟨k, hk⟩ : ∃ k : Nat, c.kind = ((k + 1 : Nat) : Int) := ⟨(c.kind - 1).toNat, by omega⟩
    have hk23 : k < 23 := by omega
    have hA := alike_all c k hk23 hk
    rw [if_neg ho, hk, found_in hk23]
    simp only [Bool.true_eq_false, if_false]
    have e1 : (((k + 1 : Nat) : Int)).toNat = k + 1 := by omega
    rw [e1, shape_in hk23]
    rw [hA.1]
    have eo : ∀ L : List Int, L.any (outB 0 (highV vars)) = L.any (outV vars) := fun L => by
      congr 1
      funext z
      exact out_high vars z
    rw [eo, eo]
    cases hb : arityB c ⟨((ents.getD k noEnt).shape).toArray⟩
    · rfl
    · rw [nums_coefs hA (hA.1.trans hb)]
end Go.Proofs.YtkhmocbfkpbpfaaGreatDoor

/- A quiet call in a world that has grown. No walk. -/
namespace Go.Proofs.YtkhmocbfkpbpfaaGreatDoor
open Go.RowKit Go.Sort

theorem gin_regrown {f : Nat} {args : Array Value} {w : World} {v : Value} (h : ∀ W, Below w.heap.size w W → Calls Tryz.prog f args W fun e w' => e = .returned v ∧ W = w') : ∀ d os, Calls Tryz.prog f args (grow (redrawn w d) os) fun e w'' => e = .returned v ∧ ∃ p : Regrown, w'' = grow (redrawn w p.d) p.os := fun d os => Calls.regrown_of ((h _ (below_regrown _ d os)).mono fun _ _ q => ⟨q.1, q.2 ▸ Below.refl _ _⟩)
end Go.Proofs.YtkhmocbfkpbpfaaGreatDoor
