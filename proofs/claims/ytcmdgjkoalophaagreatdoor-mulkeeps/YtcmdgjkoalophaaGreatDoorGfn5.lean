/- Contracts: needed; the closures of meets. -/
import Derived.Test.YtcmdgjkoalophaaGreatDoorMkst
namespace Go.Proofs.YtcmdgjkoalophaaGreatDoor
open Go.RowKit Go.Sort

theorem in_regrown' {f : Nat} {args : Array Value} {w : World} {z : Int} (h : ∀ W, Below w.heap.size w W → Calls Tryz.prog f args W fun e w' => e = .returned (.int .i64 z) ∧ Below W.heap.size W w') : ∀ d os, Calls Tryz.prog f args (grow (redrawn w d) os) fun e w'' => e = .returned (.int .i64 z) ∧ ∃ p : Regrown, w'' = grow (redrawn w p.d) p.os := fun d os => Calls.regrown_of (h _ (below_regrown _ d os))
set_option maxHeartbeats 2000000 in
set_option maxRecDepth 100000 in
theorem needed_any (v : ConV) (c : ConL) (x : Sl) (X : List Int) (t : Int) (w : World) (hc : IsInts w v.c c.C) (hd : IsInts w v.d c.D) (hx : IsInts w x X) (h64 : X.length ≤ 64) (lC : c.C.length = X.length) (lD : c.D.length = X.length)
    (bC : ∀ v ∈ c.C, -1000000 ≤ v ∧ v ≤ 1000000) (bD : ∀ v ∈ c.D, -1000000 ≤ v ∧ v ≤ 1000000) (bX : ∀ v ∈ X, -1000000 ≤ v ∧ v ≤ 1000000) :
    Calls Tryz.prog 169 #[v.val c.kind c.K, .slice x.A x.n x.c, .int .i64 t] w fun e w' => e = .returned (.int .i64 (needE c X t)) ∧ Below w.heap.size w w' := by
  have hnx := hx.len
  have hnc := hc.len
  have hnd := hd.len
  obtain ⟨n, hn⟩ : ∃ n, n = x.n := ⟨_, rfl⟩
  have HX := Lib.hid hx
  have HC := Lib.hid hc
  have HD := Lib.hid hd
  have BX := Lib.hid bX
  have BC := Lib.hid bC
  have BD := Lib.hid bD
  have n64 : n ≤ 64 := by omega
  have HE : Hid (needE c X t = sumN (needF c X t) n) := Lib.hid (by unfold needE; rw [hn, hnx])
  have HF : Hid (∀ i, needF c X t i = if decide (X.getD i 0 ≤ t) && decide (t < X.getD i 0 + c.C.getD i 0) then c.D.getD i 0 else 0) := Lib.hid (fun i => rfl)
  have HA : Hid (∀ i, -1000000 ≤ needF c X t i ∧ needF c X t i ≤ 1000000) := Lib.hid (fun i => by
    unfold needF
    split
    · exact getD_in bD (by omega) i
    · omega)
  generalize needE c X t = RES at HE ⊢
  generalize needF c X t = f at *
  generalize c.kind = kd at *
  generalize c.K = kk at *
  obtain ⟨va, vb, ⟨cA, cn, cc⟩, ⟨dA, dn, dc⟩, ve, vr⟩ := v
  obtain ⟨xA, xn, xc⟩ := x
  simp only at hn hnx hnc hnd HX HC HD
  obtain rfl : n = xn := hn
  obtain rfl : cn = n := by omega
  obtain rfl : dn = cn := by omega
  clear hc hd hx bX bC bD hnx hnc hnd lC lD h64
  go_enter Tryz.func169, Tryz.ntmps169
  go_wp2_with fail
  go_loopw [7, 12] (fun s i wr => ∃ (k : Nat) (u : Int), s = .int .i64 u ∧ i = .int .i64 (k : Nat) ∧ k ≤ dn ∧ Hid (u = sumN f k) ∧ Hid (Below (w.heap.size + 1) (w.alloc (.cells (ConV.cells ⟨va, vb, ⟨cA, dn, cc⟩, ⟨dA, dn, dc⟩, ve, vr⟩ kd kk) 37)) wr)) (fun _ i _ => dn - (intOf i).toNat)
  case atStart => exact ⟨0, 0, rfl, rfl, by omega, Lib.hid rfl, Lib.hid (by rw [show w.heap.size + 1 = (w.alloc (.cells (ConV.cells ⟨va, vb, ⟨cA, dn, cc⟩, ⟨dA, dn, dc⟩, ve, vr⟩ kd kk) 37)).heap.size by simp]; exact Below.refl _ _)⟩
  case round =>
    obtain ⟨k, u, rfl, rfl, hk, HT, HB⟩ := hrel
    by_cases hlt : k < dn
    · have hbw := of_boxed HB.out
      obtain ⟨adC, eC, hbC, hclC⟩ := (HC.out.below hbw).lies (by simp only; omega)
      obtain ⟨adD, eD, hbD, hclD⟩ := (HD.out.below hbw).lies (by simp only; omega)
      obtain ⟨adX, eX, hbX, hclX⟩ := (HX.out.below hbw).lies (by simp only; omega)
      simp only at eC eD eX
      subst eC eD eX
      obtain ⟨c0, c1, c2, c3, c4, c5, c6, c7⟩ := box8 HB.out
      have hC : wr.cell? (adC.add k) = some (.int .i64 (c.C.getD k 0)) := hclC k hlt
      have hD : wr.cell? (adD.add k) = some (.int .i64 (c.D.getD k 0)) := hclD k hlt
      have hX : wr.cell? (adX.add k) = some (.int .i64 (X.getD k 0)) := hclX k hlt
      have b1 := getD_in BX.out (by omega) k
      have b2 := getD_in BC.out (by omega) k
      have b3 := getD_in BD.out (by omega) k
      have hs := sumN_abs (f := f) (n := k) (b := 1000000) (fun i _ => HA.out i)
      rw [← HT.out] at hs
      have HN : Hid (u + f k = sumN f (k + 1)) := Lib.hid (by rw [HT.out]; rfl)
      rw [HF.out k] at HN
      clear hclC hclD hclX hbC hbD hbX hbw HT
      generalize c.C.getD k 0 = zc at *
      generalize c.D.getD k 0 = zd at *
      generalize X.getD k 0 = zx at *
      have w1 : IntKind.i64.wrap (zx + zc) = zx + zc := IntWalk.i64_in _ (by omega)
      have w2 : IntKind.i64.wrap (u + zd) = u + zd := IntWalk.i64_in _ (by omega)
      clear b1 b2 b3 hs
      cases e1 : decide (zx ≤ t)
      · have HN2 : Hid (u = sumN f (k + 1)) := Lib.hid (by have := HN.out; rw [e1] at this; simpa using this)
        clear HN
        go_wp2_with fail
        go_roundw
        case rel => exact ⟨k + 1, _, rfl, by go_num, by omega, HN2, HB⟩
        case measure => simp [intOf]; omega
      · cases e2 : decide (t < zx + zc)
        · have HN2 : Hid (u = sumN f (k + 1)) := Lib.hid (by have := HN.out; rw [e1, e2] at this; simpa using this)
          clear HN
          go_wp2_with fail
          go_roundw
          case rel => exact ⟨k + 1, _, rfl, by go_num, by omega, HN2, HB⟩
          case measure => simp [intOf]; omega
        · have HN2 : Hid (u + zd = sumN f (k + 1)) := Lib.hid (by have := HN.out; rw [e1, e2] at this; simpa using this)
          clear HN
          go_wp2_with fail
          go_roundw
          case rel => exact ⟨k + 1, _, rfl, by go_num, by omega, HN2, HB⟩
          case measure => simp [intOf]; omega
    · have HT2 : Hid (u = RES) := Lib.hid (by rw [HE.out, HT.out, show k = dn by omega])
      clear HT HE
      go_wp2_with fail
      go_ret
      exact ⟨by rw [← HT2.out]; rfl, of_boxed HB.out⟩

/-- A boxed slice. -/
theorem eMeets1 : ∀ args w, (callFunc 165 args).run Tryz.prog w = .ok (.enter 165 args) w := enters_of Tryz.func165 (by kernel_rfl) rfl
theorem eMeets2 : ∀ args w, (callFunc 167 args).run Tryz.prog w = .ok (.enter 167 args) w := enters_of Tryz.func167 (by kernel_rfl) rfl
theorem eMeets3 : ∀ args w, (callFunc 168 args).run Tryz.prog w = .ok (.enter 168 args) w := enters_of Tryz.func168 (by kernel_rfl) rfl
theorem eMeets4 : ∀ args w, (callFunc 171 args).run Tryz.prog w = .ok (.enter 171 args) w := enters_of Tryz.func171 (by kernel_rfl) rfl
theorem eMeets5 : ∀ args w, (callFunc 174 args).run Tryz.prog w = .ok (.enter 174 args) w := enters_of Tryz.func174 (by kernel_rfl) rfl

set_option maxRecDepth 100000 in
theorem meets1_any (x : Sl) (X : List Int) (i : Nat) (a : Addr) (w : World) (hi : i < X.length) (ha : w.cell? a = some (.slice x.A x.n x.c)) (h : IsInts w x X) :
    Calls Tryz.prog 165 (#[.int .i64 (i : Nat)] ++ #[.pointer (some a)]) w fun e w' => e = .returned (.bool (diffP X i)) ∧ Below w.heap.size w w' := by
  show Calls Tryz.prog 165 #[.int .i64 (i : Nat), .pointer (some a)] w _
  have hin : i < x.n := by rw [h.len]; exact hi
  have CK := Lib.hid (bo_regrown (w := w) (fun W hW => (contains_ints ⟨x.A, i, x.c⟩ (X.take i) (X.getD i 0) W ((h.below hW).take (by omega))).mono fun _ _ q => ⟨q.1, q.2 ▸ Below.refl _ _⟩))
  have za := cell_regrown ha
  unfold diffP
  obtain ⟨A, n, c⟩ := x
  obtain ⟨hn, hL, hbig, hcap⟩ := h
  simp only at hn hL hbig hin hcap CK za
  obtain ⟨ad, rfl, hbk, hcl⟩ := hL (by omega)
  have hck : ∀ d os, (grow (redrawn w d) os).cell? (ad.add i) = some (.int .i64 (X.getD i 0)) := cell_regrown (hcl i hin)
  generalize X.getD i 0 = z at hck CK ⊢
  generalize (X.take i).any (· == z) = T at CK ⊢
  have hix : ((i : Nat) : Int) < ((n : Nat) : Int) := by omega
  clear hcl hL hbk hi ha hn
  go_enter Tryz.func165, Tryz.ntmps165
  go_wp2_with fail
  refine wp_region_quiet_below (by kernel_rfl) (by kernel_rfl) ?_
  repeat (first | go_big_quiet_step (first | (go_at_call 38; with_reducible exact CK.out _ _)) | quiet_step (first | (go_at_call 38; with_reducible exact CK.out _ _)))
  refine wpQuiet_nil ?_
  intro _ hw'
  obtain ⟨⟨dq, osq⟩, hw''⟩ := hw'
  subst hw''
  have B6 := Lib.hid (below_regrown w dq osq)
  generalize grow (redrawn w dq) osq = W6 at *
  clear hck CK za
  go_wp2_with fail
  go_ret
  exact ⟨rfl, B6.out⟩

theorem meets2_any (u x : Sl) (r X : List Int) (a : Addr) (w : World) (ha : w.cell? a = some (.slice x.A x.n x.c)) (hu : IsInts w u r) (h : IsInts w x X) :
    Calls Tryz.prog 167 (#[.slice u.A u.n u.c] ++ #[.pointer (some a)]) w fun e w' => e = .returned (.bool (r == X)) ∧ Below w.heap.size w w' := by
  show Calls Tryz.prog 167 #[.slice u.A u.n u.c, .pointer (some a)] w _
  have C := Lib.hid (gequal_ints u x r X w hu h)
  generalize (r == X) = T at C ⊢
  clear hu h
  go_enter Tryz.func167, Tryz.ntmps167
  go_wp2_with fail
  refine C.out.mono ?_
  rintro e w1 ⟨rfl, b1⟩
  have B1 := Lib.hid b1
  clear b1 C
  go_wp2_with fail
  go_ret
  exact ⟨rfl, B1.out⟩

set_option maxHeartbeats 2000000 in
set_option maxRecDepth 100000 in
theorem meets3_any (v : ConV) (c : ConL) (x : Sl) (X : List Int) (i g : Nat) (a : Addr) (w : World) (hi : i < X.length) (hg : ∀ (j : Nat) (u : Value), (v.cells c.kind c.K)[j]? = some u → w.cell? ⟨g, j, none⟩ = some u) (ha : w.cell? a = some (.slice x.A x.n x.c)) (hc : IsInts w v.c c.C) (hd : IsInts w v.d c.D) (h : IsInts w x X) (h64 : X.length ≤ 64) (lC : c.C.length = X.length) (lD : c.D.length = X.length)
    (bC : ∀ v ∈ c.C, -1000000 ≤ v ∧ v ≤ 1000000) (bD : ∀ v ∈ c.D, -1000000 ≤ v ∧ v ≤ 1000000) (bX : ∀ v ∈ X, -1000000 ≤ v ∧ v ≤ 1000000) :
    Calls Tryz.prog 168 (#[.int .i64 (i : Nat)] ++ #[.pointer (some ⟨g, 0, none⟩), .pointer (some a)]) w fun e w' => e = .returned (.bool (cumP c X i)) ∧ Below w.heap.size w w' := by
  show Calls Tryz.prog 168 #[.int .i64 (i : Nat), .pointer (some ⟨g, 0, none⟩), .pointer (some a)] w _
  have hin : i < x.n := by rw [h.len]; exact hi
  have CK := Lib.hid (in_regrown' (w := w) (fun W hW => needed_any v c x X (X.getD i 0) W (hc.below hW) (hd.below hW) (h.below hW) h64 lC lD bC bD bX))
  have za := cell_regrown ha
  have k0 := cell_regrown (hg 0 _ rfl)
  have k1 := cell_regrown (hg 1 _ rfl)
  have k2 := cell_regrown (hg 2 _ rfl)
  have k3 := cell_regrown (hg 3 _ rfl)
  have k4 := cell_regrown (hg 4 _ rfl)
  have k5 := cell_regrown (hg 5 _ rfl)
  have k6 := cell_regrown (hg 6 _ rfl)
  have k7 := cell_regrown (hg 7 _ rfl)
  unfold cumP
  obtain ⟨A, n, cp⟩ := x
  obtain ⟨hn, hL, hbig, hcap⟩ := h
  simp only at hn hL hbig hin hcap CK za
  obtain ⟨ad, rfl, hbk, hcl⟩ := hL (by omega)
  have hck : ∀ d os, (grow (redrawn w d) os).cell? (ad.add i) = some (.int .i64 (X.getD i 0)) := cell_regrown (hcl i hin)
  generalize X.getD i 0 = z at hck CK ⊢
  generalize needE c X z = T at CK ⊢
  generalize c.kind = kd at *
  generalize c.K = kk at *
  have hix : ((i : Nat) : Int) < ((n : Nat) : Int) := by omega
  clear hcl hL hbk hi ha hg hc hd bC bD bX lC lD h64 hn
  go_enter Tryz.func168, Tryz.ntmps168
  go_wp2_with fail
  refine wp_region_quiet_below (by kernel_rfl) (by kernel_rfl) ?_
  repeat (first | go_big_quiet_step (first | (go_at_call 169; with_reducible exact CK.out _ _)) | quiet_step (first | (go_at_call 169; with_reducible exact CK.out _ _)))
  refine wpQuiet_nil ?_
  intro _ hw'
  obtain ⟨⟨dq, osq⟩, hw''⟩ := hw'
  subst hw''
  have B6 := Lib.hid (below_regrown w dq osq)
  generalize grow (redrawn w dq) osq = W6 at *
  clear hck CK za k0 k1 k2 k3 k4 k5 k6 k7
  go_wp2_with fail
  go_ret
  exact ⟨rfl, B6.out⟩

set_option maxHeartbeats 2000000 in
set_option maxRecDepth 100000 in
theorem meets4_any (v : ConV) (c : ConL) (x : Sl) (X : List Int) (i g : Nat) (a : Addr) (w : World) (hi : i < c.C.length) (hg : ∀ (j : Nat) (u : Value), (v.cells c.kind c.K)[j]? = some u → w.cell? ⟨g, j, none⟩ = some u) (hgl : g < w.heap.size) (ha : w.cell? a = some (.slice x.A x.n x.c)) (hc : IsInts w v.c c.C) (hd : IsInts w v.d c.D) (he : IsInts w v.e c.E) (h : IsInts w x X) (lD : c.D.length = c.C.length) (lE : c.E.length = c.C.length) :
    Calls Tryz.prog 171 (#[.int .i64 (i : Nat)] ++ #[.pointer (some a), .pointer (some ⟨g, 0, none⟩)]) w fun e w' => e = .returned (.bool (gccP c X i)) ∧ Below w.heap.size w w' := by
  show Calls Tryz.prog 171 #[.int .i64 (i : Nat), .pointer (some a), .pointer (some ⟨g, 0, none⟩)] w _
  have CK := Lib.hid (in_regrown' (w := w) (fun W hW => (gcount_any x X (c.C.getD i 0) W (h.below hW)).mono fun _ _ q => ⟨q.1, q.2 ▸ Below.refl _ _⟩))
  have za := cell_regrown ha
  have k3 := cell_regrown (hg 3 _ rfl)
  have k4 := hg 4 _ rfl
  have k5 := hg 5 _ rfl
  have HGL := Lib.hid hgl
  unfold gccP
  obtain ⟨va, vb, ⟨cA, cn, cc⟩, ⟨dA, dn, dc⟩, ⟨eA, en, ec⟩, vr⟩ := v
  obtain ⟨n1, L1, -, -⟩ := hc
  obtain ⟨n2, L2, -, -⟩ := hd
  obtain ⟨n3, L3, -, -⟩ := he
  simp only at n1 L1 n2 L2 n3 L3 k3 k4 k5
  obtain rfl : dn = cn := by omega
  obtain rfl : en = dn := by omega
  have hin : i < en := by omega
  obtain ⟨adC, rfl, hbC, hclC⟩ := L1 (by omega)
  obtain ⟨adD, rfl, hbD, hclD⟩ := L2 (by omega)
  obtain ⟨adE, rfl, hbE, hclE⟩ := L3 (by omega)
  have hC : ∀ d os, (grow (redrawn w d) os).cell? (adC.add i) = some (.int .i64 (c.C.getD i 0)) := cell_regrown (hclC i hin)
  have hD : w.cell? (adD.add i) = some (.int .i64 (c.D.getD i 0)) := hclD i hin
  have hE : w.cell? (adE.add i) = some (.int .i64 (c.E.getD i 0)) := hclE i hin
  have HBD := Lib.hid (show (adD.add i).block < w.heap.size by rw [add_block]; exact hbD)
  have HBE := Lib.hid (show (adE.add i).block < w.heap.size by rw [add_block]; exact hbE)
  generalize c.C.getD i 0 = zc at *
  generalize c.D.getD i 0 = zd at *
  generalize c.E.getD i 0 = ze at *
  generalize countE X zc = T at CK ⊢
  generalize c.kind = kd at *
  generalize c.K = kk at *
  have hix : ((i : Nat) : Int) < ((en : Nat) : Int) := by omega
  clear hclC hclD hclE L1 L2 L3 hbC hbD hbE hi ha hg h lD lE n1 n2 n3 hgl
  go_enter Tryz.func171, Tryz.ntmps171
  go_wp2_with fail
  refine wp_region_quiet_below (by kernel_rfl) (by kernel_rfl) ?_
  repeat (first | go_big_quiet_step (first | (go_at_call 172; with_reducible exact CK.out _ _)) | quiet_step (first | (go_at_call 172; with_reducible exact CK.out _ _)))
  refine wpQuiet_nil ?_
  intro _ hw'
  obtain ⟨⟨dq, osq⟩, hw''⟩ := hw'
  subst hw''
  have B6 := Lib.hid (below_regrown w dq osq)
  generalize grow (redrawn w dq) osq = W6 at *
  have j4 := (B6.out.cell (p := ⟨g, 4, none⟩) HGL.out).trans k4
  have j5 := (B6.out.cell (p := ⟨g, 5, none⟩) HGL.out).trans k5
  have jD := (B6.out.cell HBD.out).trans hD
  have jE := (B6.out.cell HBE.out).trans hE
  clear hC CK za k3 k4 k5 hD hE
  cases e1 : decide (T < zd)
  · cases e2 : decide (ze < T)
    · go_wp2_with fail
      go_ret
      exact ⟨ret_bool (by rw [e1, e2]; rfl), B6.out⟩
    · go_wp2_with fail
      go_ret
      exact ⟨ret_bool (by rw [e1, e2]; rfl), B6.out⟩
  · go_wp2_with fail
    go_ret
    exact ⟨ret_bool (by rw [e1]; rfl), B6.out⟩

theorem meets5_any (x y : Sl) (X Y : List Int) (i : Nat) (a b : Addr) (w : World) (hi : i < X.length) (hl : Y.length = X.length) (ha : w.cell? a = some (.slice x.A x.n x.c)) (hb : w.cell? b = some (.slice y.A y.n y.c)) (hx : IsInts w x X) (hy : IsInts w y Y) :
    Calls Tryz.prog 174 (#[.int .i64 (i : Nat)] ++ #[.pointer (some a), .pointer (some b)]) w fun e w' => e = .returned (.bool (invP X Y i)) ∧ Below w.heap.size w w' := by
  show Calls Tryz.prog 174 #[.int .i64 (i : Nat), .pointer (some a), .pointer (some b)] w _
  have C1 := Lib.hid (leadsBack_any x y X Y i w hx hy hi)
  have C2 := Lib.hid (leadsBack_any y x Y X i w hy hx (by omega))
  unfold invP
  generalize backB X Y i = T1 at C1 ⊢
  generalize backB Y X i = T2 at C2 ⊢
  clear hx hy hi hl
  cases T1
  · go_enter Tryz.func174, Tryz.ntmps174
    go_wp2_with fail
    refine C1.out.mono ?_
    rintro e w1 ⟨rfl, rfl⟩
    go_wp2_with fail
    go_ret
    exact ⟨rfl, Below.refl _ _⟩
  · go_enter Tryz.func174, Tryz.ntmps174
    go_wp2_with fail
    refine C1.out.mono ?_
    rintro e w1 ⟨rfl, rfl⟩
    go_wp2_with fail
    refine C2.out.mono ?_
    rintro e w1 ⟨rfl, rfl⟩
    go_wp2_with fail
    go_ret
    exact ⟨rfl, Below.refl _ _⟩
end Go.Proofs.YtcmdgjkoalophaaGreatDoor
