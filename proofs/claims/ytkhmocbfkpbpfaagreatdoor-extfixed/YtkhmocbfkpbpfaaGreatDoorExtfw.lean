/- The law ExtFixed walked. Made by tools/genlay.py. -/
import Derived.Test.YtkhmocbfkpbpfaaGreatDoorExtw
import Derived.Test.YtkhmocbfkpbpfaaGreatDoorExth
import Derived.Test.YtkhmocbfkpbpfaaGreatDoorLay1
namespace Go.Proofs.YtkhmocbfkpbpfaaGreatDoor
open Go.RowKit Go.Sort

set_option maxHeartbeats 4000000 in
set_option maxRecDepth 100000 in
theorem extFixed_walk (zA zB zC x : Sl) (la lb lc l : List Int) (k0 n K ch : Int) (w : World) (ha : IsNs .u8 w zA la) (hb : IsNs .u8 w zB lb) (hc : IsNs .i8 w zC lc) (ba : ∀ v ∈ la, 0 ≤ v ∧ v ≤ 255) (bb : ∀ v ∈ lb, 0 ≤ v ∧ v ≤ 255) (bc : ∀ v ∈ lc, -128 ≤ v ∧ v ≤ 127) (hn : 0 ≤ n ∧ n ≤ 255) (hK : -32768 ≤ K ∧ K ≤ 32767) (hch : 0 ≤ ch ∧ ch ≤ 255)
    (hx : IsNs .i8 w x l) (bx : ∀ v ∈ l, -128 ≤ v ∧ v ≤ 127) (hE : EntIn w) (hT : TabZ w) :
    Calls Tryz.prog 6 #[smV zA zB zC k0 K ch, .int .u8 n, .slice x.A x.n x.c] w fun e w' => e = .returned (.bool true) ∧ Below w.heap.size w w' := by
  obtain ⟨xA, xn, xc⟩ := x
  obtain ⟨kd, hkd⟩ : ∃ kd, kd = extK n := ⟨_, rfl⟩
  have CK := Lib.hid (fun W => extKind_any n W hn)
  rw [← hkd] at CK
  have hk3 : 8 ≤ kd ∧ kd ≤ 10 := hkd ▸ extK_in n hn
  have wk : IntKind.i64.wrap (kd - 1) = kd - 1 := IntWalk.i64_in _ (by omega)
  have wk8 : IntKind.u8.wrap (kd - 1) = kd - 1 := by unfold IntKind.wrap; simp [IntKind.bits, IntKind.signed]; omega
  obtain ⟨wa, hwa⟩ : ∃ wa, w.alloc (.cells #[.int .u8 k0, .slice zA.A zA.n zA.c, .slice zB.A zB.n zB.c, .slice zC.A zC.n zC.c, .int .i16 K, .int .u8 ch] 26) = wa := ⟨_, rfl⟩
  have hna : wa.heap[w.heap.size]? = some (.cells #[.int .u8 k0, .slice zA.A zA.n zA.c, .slice zB.A zB.n zB.c, .slice zC.A zC.n zC.c, .int .i16 K, .int .u8 ch] 26 (0, 0)) := hwa ▸ heap_new w _
  have ba' : Below w.heap.size w wa := hwa ▸ below1 w _
  obtain ⟨wb, hwb⟩ : ∃ wb, wa.setCell ⟨w.heap.size, 0, none⟩ (.int .u8 (kd - 1)) = wb := ⟨_, rfl⟩
  have hnb : wb.heap[w.heap.size]? = some (.cells #[.int .u8 (kd - 1), .slice zA.A zA.n zA.c, .slice zB.A zB.n zB.c, .slice zC.A zC.n zC.c, .int .i16 K, .int .u8 ch] 26 (0, 0)) := hwb ▸ heap_setCell_same wa _ 0 _ _ _ hna
  have bb' : Below w.heap.size w wb := hwb ▸ ba'.setCell (p := ⟨w.heap.size, 0, none⟩) (Nat.le_refl _) _
  have c0 := box_cell hna (j := 0) rfl
  have f0 := box_free hna 0
  have z0 := box_cell hnb (j := 0) (x := .int .u8 (kd - 1)) rfl
  have z1 := box_cell hnb (j := 1) (x := .slice zA.A zA.n zA.c) rfl
  have z2 := box_cell hnb (j := 2) (x := .slice zB.A zB.n zB.c) rfl
  have z3 := box_cell hnb (j := 3) (x := .slice zC.A zC.n zC.c) rfl
  have z4 := box_cell hnb (j := 4) (x := .int .i16 K) rfl
  have z5 := box_cell hnb (j := 5) (x := .int .u8 ch) rfl
  have CM := Lib.hid (make_any zA zB zC la lb lc (kd - 1) K ch 4 wb (ha.below bb') (hb.below bb') (hc.below bb') ba bb bc (by omega) hK hch (by omega))
  have hr4 := make_right la lb lc (kd - 1) K ch 4 ba bb (by omega) hch.1 (by omega)
  obtain ⟨c, hcE⟩ : ∃ c, c = makeE la lb lc (kd - 1) K ch 4 := ⟨_, rfl⟩
  have hck : c.kind = kd := by
    have : (makeE la lb lc (kd - 1) K ch 4).kind = 1 + (kd - 1).tmod 23 := makeE_kind la lb lc (kd - 1) K ch 4 (by omega)
    rw [hcE, this, Int.tmod_eq_of_lt (by omega) (by omega)]
    omega
  rw [← hcE] at CM hr4
  have hr256 := right_more hr4 (show (4 : Int) ≤ 256 by omega)
  have hN0 := some_of (n := 4) hr4
  obtain ⟨N, hN⟩ : ∃ N, N = c.A.length + c.B.length := ⟨_, rfl⟩
  rw [← hN] at hN0
  have HN0 := Lib.hid hN0
  have HNN := Lib.hid hN
  have HKD : Hid (8 ≤ c.kind ∧ c.kind ≤ 10) := Lib.hid (by rw [hck]; exact hk3)
  have HR4 := Lib.hid hr4
  have HR256 := Lib.hid hr256
  have HB0 := Lib.hid bb'
  have HX := Lib.hid hx
  have HE := Lib.hid hE
  have HT := Lib.hid hT
  have HBX := Lib.hid bx
  clear hkd hk3 hna ba' bb' hnb ha hb hc ba bb bc hn hK hch hx bx hE hT hcE hck hr4 hr256 hN hN0
  go_enter Tryz.func6, Tryz.ntmps6
  go_wp2_with fail
  refine (CK.out wa).mono ?_
  rintro e w' ⟨rfl, rfl⟩
  clear CK
  go_wp2_with fail
  refine CM.out.mono ?_
  rintro e w2 ⟨⟨v, rfl, hv⟩, b2⟩
  obtain ⟨w3, hw3⟩ : ∃ w3, w2.alloc (.cells #[.int .i64 c.kind, .slice v.a.A v.a.n v.a.c, .slice v.b.A v.b.n v.b.c, .slice v.c.A v.c.n v.c.c, .slice v.d.A v.d.n v.d.c, .slice v.e.A v.e.n v.e.c, .int .i64 c.K, .slice v.r.A v.r.n v.r.c] 32) = w3 := ⟨_, rfl⟩
  have HR3 : Hid (RBox w2.heap.size w3 v c ⟨none, 0, 0⟩ []) := Lib.hid (hw3 ▸ RBox.start hv (IsInts.nil _))
  have b3 : Below w2.heap.size w2 w3 := hw3 ▸ below1 w2 _
  have B3 := Lib.hid (HB0.out.trans ((b2.trans (b3.mono b2.size)).mono HB0.out.size))
  have CL := Lib.hid (local_any v c w3 (hv.below b3) (by have := HN0.out; have := HNN.out; omega) (by have := HN0.out; have := HNN.out; omega))
  obtain ⟨gc, hgc⟩ : ∃ gc, gc = w2.heap.size := ⟨_, rfl⟩
  rw [← hgc] at HR3
  clear CM z0 z1 z2 z3 z4 z5 c0 f0 hwa hwb hv b2 b3 HB0
  go_upto_region 3 with fail
  clear hw3
  rw [← hgc]
  clear hgc
  have d0 := HR3.out.c0
  have d1 := HR3.out.c1
  have d2 := HR3.out.c2
  have d3 := HR3.out.c3
  have d4 := HR3.out.c4
  have d5 := HR3.out.c5
  have d6 := HR3.out.c6
  have d7 := HR3.out.c7
  go_wp2_with fail
  refine CL.out.mono ?_
  rintro e w4 ⟨⟨v2, rfl, hv2⟩, b4⟩
  obtain ⟨w5, hw5⟩ : ∃ w5, w4.alloc (.cells #[.int .i64 c.kind, .slice v2.a.A v2.a.n v2.a.c, .slice v2.b.A v2.b.n v2.b.c, .slice v2.c.A v2.c.n v2.c.c, .slice v2.d.A v2.d.n v2.d.c, .slice v2.e.A v2.e.n v2.e.c, .int .i64 c.K, .slice v2.r.A v2.r.n v2.r.c] 32) = w5 := ⟨_, rfl⟩
  have HR5 : Hid (RBox w4.heap.size w5 v2 (localE c) ⟨none, 0, 0⟩ []) := Lib.hid (hw5 ▸ RBox.start hv2 (IsInts.nil _))
  have b5 : Below w4.heap.size w4 w5 := hw5 ▸ below1 w4 _
  have b35 := b4.trans (b5.mono b4.size)
  have HR35 := Lib.hid (HR3.out.below b35)
  have B5 := Lib.hid (B3.out.trans (b35.mono B3.out.size))
  obtain ⟨gl, hgl⟩ : ∃ gl, gl = w4.heap.size := ⟨_, rfl⟩
  rw [← hgl] at HR5
  clear CL d0 d1 d2 d3 d4 d5 d6 d7 hv2 b4 b5 b35 HR3 B3
  go_upto_region 4 with fail
  clear hw5
  rw [← hgl]
  clear hgl
  have wsn : IntKind.i64.wrap (((v.a.n : Nat) : Int) + ((v.b.n : Nat) : Int)) = ((N : Nat) : Int) := by
    rw [HR35.out.con.a.len, HR35.out.con.b.len, HNN.out]
    have h1 := HN0.out
    have h2 := HNN.out
    rw [IntWalk.i64_in _ (by omega)]
    simp
  have hN128 : N ≤ 128 := HN0.out.2
  have d1 := HR35.out.c1
  have d2 := HR35.out.c2
  go_wp2_with fail
  clear wsn
  go_loopw [9, 10, 31] (fun a b i wr => ∃ (k : Nat) (y z : Sl) (xs : List Sl), a = .slice y.A y.n y.c ∧ b = .slice z.A z.n z.c ∧ i = .int .i64 (k : Nat) ∧ k ≤ N ∧ Hid (RowsV w5.heap.size wr y xs (ones1 (mkL (fixE l) k)) z (mkL (fixE l) k)) ∧ Hid (xs.length = k) ∧ Hid (Below w5.heap.size w5 wr)) (fun _ _ i _ => N - (intOf i).toNat)
  case atStart => exact ⟨0, ⟨none, 0, 0⟩, ⟨none, 0, 0⟩, [], rfl, rfl, rfl, by omega, Lib.hid (RowsV.nil _ _ (Nat.le_refl _)), Lib.hid rfl, Lib.hid (Below.refl _ _)⟩
  case round =>
    obtain ⟨k, y, z, xs, rfl, rfl, rfl, hk, HV, HXL, HBR⟩ := hrel
    by_cases hlt : k < N
    · have NX : Hid (xs.length < 1000000) := Lib.hid (by rw [HXL.out]; omega)
      have NL : Hid ((mkL (fixE l) k).length < 1000000) := Lib.hid (by rw [mkL_len]; omega)
      have hxl : xn = l.length := HX.out.len
      by_cases hkm : k < xn
      · obtain ⟨ad, ex, hbk, hcl⟩ := (HX.out.below (B5.out.trans (HBR.out.mono B5.out.size))).lies (show 0 < xn by omega)
        have hck : wr.cell? (ad.add k) = some (.int .i8 (l.getD k 0)) := hcl k hkm
        have HVV : Hid (fixE l k = l.getD k 0) := Lib.hid (by unfold fixE; rw [if_pos (by omega)])
        have hin := HBX.out _ (getD_mem l k (by omega))
        obtain ⟨vv, hvv⟩ : ∃ vv, vv = l.getD k 0 := ⟨_, rfl⟩
        rw [← hvv] at hck hin HVV
        have ww : IntKind.i64.wrap vv = vv := IntWalk.i64_in _ (by omega)
        have H1 : Hid (ones1 (mkL (fixE l) (k + 1)) = ones1 (mkL (fixE l) k) ++ [[vv]]) := Lib.hid (by rw [mkL_succ, HVV.out, ones1_app]; rfl)
        have H2 : Hid (mkL (fixE l) (k + 1) = mkL (fixE l) k ++ [vv]) := Lib.hid (by rw [mkL_succ, HVV.out])
        simp only at ex
        subst ex
        clear hcl hbk hin hvv HVV hxl
        go_wp2_with (first
          | (at_builtin; refine wpList_append_fix1 rfl _ _ rfl HV.out vv rfl rfl NX.out ?_; intro y1 wA S1 q1; have HS1 := Lib.hid S1; have HB1 := Lib.hid (HBR.out.trans q1); clear S1 q1)
          | (at_builtin; refine wpList_append_fix2 rfl _ _ rfl HS1.out vv rfl rfl NL.out ?_; intro z1 wB S2 q2; have HS2 := Lib.hid S2; have HB2 := Lib.hid (HB1.out.trans q2); clear S2 q2))
        go_roundw
        case rel => exact ⟨k + 1, y1, z1, _, rfl, rfl, by go_num, by omega, Lib.hid (by rw [H1.out, H2.out]; exact HS2.out), Lib.hid (by rw [List.length_append, HXL.out]; rfl), HB2⟩
        case measure => simp [intOf]; omega
      · have HVV : Hid (fixE l k = 1 + (k : Int)) := Lib.hid (by unfold fixE; rw [if_neg (by omega)])
        have H1 : Hid (ones1 (mkL (fixE l) (k + 1)) = ones1 (mkL (fixE l) k) ++ [[1 + (k : Int)]]) := Lib.hid (by rw [mkL_succ, HVV.out, ones1_app]; rfl)
        have H2 : Hid (mkL (fixE l) (k + 1) = mkL (fixE l) k ++ [1 + (k : Int)]) := Lib.hid (by rw [mkL_succ, HVV.out])
        clear HVV hxl
        have hkm' : decide (((k : Nat) : Int) < ((xn : Nat) : Int)) = false := by simp; omega
        go_wp2_with (first
          | (at_builtin; refine wpList_append_fix1 rfl _ _ rfl HV.out (1 + (k : Int)) rfl rfl NX.out ?_; intro y1 wA S1 q1; have HS1 := Lib.hid S1; have HB1 := Lib.hid (HBR.out.trans q1); clear S1 q1)
          | (at_builtin; refine wpList_append_fix2 rfl _ _ rfl HS1.out (1 + (k : Int)) rfl rfl NL.out ?_; intro z1 wB S2 q2; have HS2 := Lib.hid S2; have HB2 := Lib.hid (HB1.out.trans q2); clear S2 q2))
        go_roundw
        case rel => exact ⟨k + 1, y1, z1, _, rfl, rfl, by go_num, by omega, Lib.hid (by rw [H1.out, H2.out]; exact HS2.out), Lib.hid (by rw [List.length_append, HXL.out]; rfl), HB2⟩
        case measure => simp [intOf]; omega
    · have e3 : N = k := by omega
      subst e3
      have HRW := Lib.hid (HV.out.rows.rows (by simp only [ones1, List.length_map, mkL_len]; omega) (by intro r hr; simp only [ones1, List.mem_map] at hr; obtain ⟨n, -, rfl⟩ := hr; simp))
      have HIV := Lib.hid (ints_own HV.out.ints (by rw [mkL_len]; omega))
      have HS : Hid (∀ W, Below wr.heap.size wr W → Below wr.heap.size wr W ∧ W.cell? ⟨gc, 0, none⟩ = some (.int .i64 c.kind) ∧ W.cell? ⟨gc, 1, none⟩ = some (.slice v.a.A v.a.n v.a.c) ∧ W.cell? ⟨gc, 2, none⟩ = some (.slice v.b.A v.b.n v.b.c) ∧ W.cell? ⟨gc, 3, none⟩ = some (.slice v.c.A v.c.n v.c.c) ∧ W.cell? ⟨gc, 4, none⟩ = some (.slice v.d.A v.d.n v.d.c) ∧ W.cell? ⟨gc, 5, none⟩ = some (.slice v.e.A v.e.n v.e.c) ∧ W.cell? ⟨gc, 6, none⟩ = some (.int .i64 c.K) ∧ W.cell? ⟨gc, 7, none⟩ = some (.slice v.r.A v.r.n v.r.c)) := Lib.hid (fun W hW => by
        have h := (HR35.out.below HBR.out).below hW
        exact ⟨hW, h.c0, h.c1, h.c2, h.c3, h.c4, h.c5, h.c6, h.c7⟩)
      have BW := Lib.hid (B5.out.trans (HBR.out.mono B5.out.size))
      have CD : Hid (∀ W, Below wr.heap.size wr W → Calls Tryz.prog 18 #[.slice y.A y.n y.c] W fun e w' => (∃ (y' : Sl), e = .returned (.slice y'.A y'.n y'.c) ∧ DomsIn w' y' (ones1 (mkL (fixE l) N))) ∧ Below W.heap.size W w') := Lib.hid (fun W hW => by
        refine (doms_any y _ W (HRW.out.below hW) (by simp only [ones1, List.length_map, mkL_len]; omega) (by intro r hr; simp only [ones1, List.mem_map] at hr; obtain ⟨n, -, rfl⟩ := hr; simp)).mono ?_
        rintro e w' ⟨⟨y', ds, rfl, h⟩, b⟩
        rw [fix_rows l HBX.out N (by omega)] at h
        exact ⟨⟨y', rfl, h.within (by simp only [ones1, List.length_map, mkL_len]; omega)⟩, b⟩)
      have CF0 := Lib.hid (fun W y' (hW : Below wr.heap.size wr W) (hd : DomsIn W y' (ones1 (mkL (fixE l) N))) => ext_any v c y' _ W (HE.out.below (BW.out.trans (hW.mono BW.out.size))) (HT.out.below (BW.out.trans (hW.mono BW.out.size))) ((HR35.out.below HBR.out).below hW).con hd (ones1_short _))
      have HM : Hid (extE c (ones1 (mkL (fixE l) N)) = if holdsR c (mkL (fixE l) N) = true then some (ones1 (mkL (fixE l) N)) else none) := Lib.hid
        (extFix HKD.out HR256.out (by rw [mkL_len]; exact HNN.out) (fun q hq => by
          simp only [mkL, List.mem_map, List.mem_range] at hq
          obtain ⟨i, hi, rfl⟩ := hq
          exact fixE_in l HBX.out i (by omega)))
      have CW := Lib.hid (fun W (hW : Below wr.heap.size wr W) => extWakes_any W (HE.out.below (BW.out.trans (hW.mono BW.out.size))) (HT.out.below (BW.out.trans (hW.mono BW.out.size))))
      have CH : Hid (∀ W, Below wr.heap.size wr W → Calls Tryz.prog 31 #[v2.val c.kind c.K, .slice z.A z.n z.c] W fun e w' => e = .returned (.bool (holdsR c (mkL (fixE l) N))) ∧ Below W.heap.size W w') := Lib.hid (fun W hW => by
        have hr := conr_local (con_r (n := 4) HR4.out)
        rw [← HNN.out] at hr
        have h := rHolds_any v2 (localE c) z (mkL (fixE l) N) W ((HR5.out.below HBR.out).below hW).con (by have := HIV.out.below hW; exact this) (by rw [mkL_len]; exact hr) (by
          intro q hq
          simp only [mkL, List.mem_map, List.mem_range] at hq
          obtain ⟨i, hi, rfl⟩ := hq
          exact fixE_in l HBX.out i (by omega))
        exact h)
      have HG := Lib.hid (fun W (hW : Below wr.heap.size wr W) => (HR5.out.below HBR.out).below hW)
      clear hlt HV d1 d2 HX HBX HR4 HR256 HKD HN0 HNN HR35 HR5 HIV
      go_upto_region 14 with fail
      have hS := HS.out wr.drew (Below.refl _ _).drew
      cases hw : holdsR c (mkL (fixE l) N)
      case' true =>
        rw [hw] at HM CH
        have CF : Hid (∀ W y', Below wr.heap.size wr W → DomsIn W y' (ones1 (mkL (fixE l) N)) → Calls Tryz.prog 17 #[v.val c.kind c.K, .slice y'.A y'.n y'.c] W fun e w' => (∃ y : Sl, e = .returned (.tuple #[.slice y.A y.n y.c, .bool true]) ∧ DomsIn w' y (ones1 (mkL (fixE l) N))) ∧ Below W.heap.size W w') := Lib.hid (fun W y' hW hd => by
          have h := CF0.out W y' hW hd
          rw [HM.out] at h
          exact h)
      case' false =>
        rw [hw] at HM CH
        have CF : Hid (∀ W y', Below wr.heap.size wr W → DomsIn W y' (ones1 (mkL (fixE l) N)) → Calls Tryz.prog 17 #[v.val c.kind c.K, .slice y'.A y'.n y'.c] W fun e w' => (∃ y : Sl, e = .returned (.tuple #[.slice y.A y.n y.c, .bool false]) ∧ DomsIn w' y []) ∧ Below W.heap.size W w') := Lib.hid (fun W y' hW hd => by
          have h := CF0.out W y' hW hd
          rw [HM.out] at h
          exact h)
      all_goals
        clear HM CF0 hw
        go_region_held3 (fun W => Below wr.heap.size wr W ∧ W.cell? ⟨gc, 0, none⟩ = some (.int .i64 c.kind) ∧ W.cell? ⟨gc, 1, none⟩ = some (.slice v.a.A v.a.n v.a.c) ∧ W.cell? ⟨gc, 2, none⟩ = some (.slice v.b.A v.b.n v.b.c) ∧ W.cell? ⟨gc, 3, none⟩ = some (.slice v.c.A v.c.n v.c.c) ∧ W.cell? ⟨gc, 4, none⟩ = some (.slice v.d.A v.d.n v.d.c) ∧ W.cell? ⟨gc, 5, none⟩ = some (.slice v.e.A v.e.n v.e.c) ∧ W.cell? ⟨gc, 6, none⟩ = some (.int .i64 c.K) ∧ W.cell? ⟨gc, 7, none⟩ = some (.slice v.r.A v.r.n v.r.c)) (first | assumption)
          (first
            | (go_at_call 18; refine (CD.out _ hS.1).mono ?_; rintro e w6 ⟨⟨y6, rfl, h6⟩, b6⟩; have HD6 := Lib.hid h6; have hS := HS.out _ (hS.1.trans (b6.mono hS.1.size)))
            | (go_at_call 17; refine (CF.out _ y6 hS.1 HD6.out).mono ?_; rintro e w7 ⟨⟨y7, rfl, h7⟩, b7⟩; have HD7 := Lib.hid h7; have B7 := Lib.hid (hS.1.trans (b7.mono hS.1.size)); have hS := HS.out _ B7.out))
      all_goals
        clear hS HS CD CF
        go_wp2_with fail
        refine (CW.out w7 B7.out).mono ?_
        rintro e w8 ⟨rfl, b8⟩
        have B8 := Lib.hid (B7.out.trans (b8.mono B7.out.size))
        have HD8 := Lib.hid (HD7.out.below b8)
        have G := HG.out w8 B8.out
        have g0 : w8.cell? ⟨gl, 0, none⟩ = some (.int .i64 c.kind) := G.c0
        have g1 := G.c1
        have g2 := G.c2
        have g3 := G.c3
        have g4 := G.c4
        have g5 := G.c5
        have g6 : w8.cell? ⟨gl, 6, none⟩ = some (.int .i64 c.K) := G.c6
        have g7 := G.c7
        have CHW := Lib.hid (CH.out w8 B8.out)
        clear b8 G HD7 CW HG CH
        go_wp2_with fail
        refine CHW.out.mono ?_
        rintro e w9 ⟨rfl, b9⟩
        have B9 := Lib.hid (B8.out.trans (b9.mono B8.out.size))
        have HD9 := Lib.hid (HD8.out.below b9)
        have BE := Lib.hid (BW.out.trans (B9.out.mono BW.out.size))
        clear b9 g0 g1 g2 g3 g4 g5 g6 g7 CHW HD8 B8
        go_wp2_with fail
      · go_ret
        exact ⟨rfl, BE.out⟩
      · have CLs := Lib.hid (lists_any y7 _ w9 HD9.out (HT.out.below BE.out) (by simp only [ones1, List.length_map, mkL_len]; omega))
        refine CLs.out.mono ?_
        rintro e w10 ⟨⟨y10, xs10, rfl, h10⟩, b10⟩
        have B10 := Lib.hid (B9.out.trans (b10.mono B9.out.size))
        have HRa := Lib.hid (h10.rows (by simp only [ones1, List.length_map, mkL_len]; omega) (by intro r hr; simp only [ones1, List.mem_map] at hr; obtain ⟨n, -, rfl⟩ := hr; simp))
        have CQ := same2_any y10 y _ _ w10 HRa.out (HRW.out.below B10.out)
        rw [beq_self_eq_true] at CQ
        have CQ := Lib.hid CQ
        clear CLs h10 b10
        go_wp2_with fail
        refine CQ.out.mono ?_
        rintro e w11 ⟨rfl, b11⟩
        have BF := Lib.hid (BW.out.trans ((B10.out.trans (b11.mono B10.out.size)).mono BW.out.size))
        clear b11 CQ
        go_wp2_with fail
        go_ret
        exact ⟨rfl, BF.out⟩
end Go.Proofs.YtkhmocbfkpbpfaaGreatDoor
