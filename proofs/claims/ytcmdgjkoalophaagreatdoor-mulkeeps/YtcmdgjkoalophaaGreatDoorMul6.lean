/- Contracts of mul's filter and Filter. -/
import Derived.Test.YtcmdgjkoalophaaGreatDoorMul3
import Derived.Test.YtcmdgjkoalophaaGreatDoorGfn5
import Derived.Lib.QuietBelow
import Derived.Test.YtcmdgjkoalophaaGreatDoorMshapes
namespace Go.Proofs.YtcmdgjkoalophaaGreatDoor
open Go.RowKit Go.Sort

theorem head_mem {L : List Int} (h : L ≠ []) : L.head?.getD 0 ∈ L := by
  cases L with
  | nil => exact absurd rfl h
  | cons a l => simp
theorem last_mem {L : List Int} (h : L ≠ []) : L.getLast?.getD 0 ∈ L := by
  rw [List.getLast?_eq_some_getLast h]
  exact List.getLast_mem h
theorem head_lim {L : List Int} (h : ∀ v ∈ L, -2000000 ≤ v ∧ v ≤ 2000000) : -2000000 ≤ L.head?.getD 0 ∧ L.head?.getD 0 ≤ 2000000 := by
  by_cases e : L = []
  · subst e; simp
  · exact h _ (head_mem e)
theorem last_lim {L : List Int} (h : ∀ v ∈ L, -2000000 ≤ v ∧ v ≤ 2000000) : -2000000 ≤ L.getLast?.getD 0 ∧ L.getLast?.getD 0 ≤ 2000000 := by
  by_cases e : L = []
  · subst e; simp
  · exact h _ (last_mem e)

theorem run_min4 {P : Program} (w : World) (ts : Array TypeId) (t : TypeId) (k : IntKind) (a b c d : Int) : (Builtin.min_ ts t #[.int k a, .int k b, .int k c, .int k d]).run P w = .ok (.int k (min4 a b c d)) w := by
  have e : ∀ x y : Int, (if y < x then y else x) = min x y := fun x y => by
    rw [Int.min_def]
    split <;> split <;> omega
  simp [Builtin.min_, Builtin.min2, e, min4]
theorem run_max4 {P : Program} (w : World) (ts : Array TypeId) (t : TypeId) (k : IntKind) (a b c d : Int) : (Builtin.max_ ts t #[.int k a, .int k b, .int k c, .int k d]).run P w = .ok (.int k (max4 a b c d)) w := by
  have e : ∀ x y : Int, (if y > x then y else x) = max x y := fun x y => by
    rw [Int.max_def]
    split <;> split <;> omega
  simp [Builtin.max_, Builtin.max2, e, max4]

/-- A block of three cells, written whole. -/
theorem put3_block {W : World} {g : Nat} {a0 a1 a2 x y z : Value} {t : TypeId} (h : W.heap[g]? = some (.cells #[a0, a1, a2] t (0, 0))) : (((W.setCell ⟨g, 0, none⟩ x).setCell ⟨g, 1, none⟩ y).setCell ⟨g, 2, none⟩ z).heap[g]? = some (.cells #[x, y, z] t (0, 0)) :=
  heap_setCell_same _ g 2 _ t z (heap_setCell_same _ g 1 _ t y (heap_setCell_same W g 0 _ t x h))
theorem put3_far {W : World} {g k : Nat} {x y z : Value} (h : k ≠ g) : (((W.setCell ⟨g, 0, none⟩ x).setCell ⟨g, 1, none⟩ y).setCell ⟨g, 2, none⟩ z).heap[k]? = W.heap[k]? :=
  (heap_setCell_other _ _ k z h).trans ((heap_setCell_other _ _ k y h).trans (heap_setCell_other _ _ k x h))

set_option maxHeartbeats 4000000 in
set_option maxRecDepth 100000 in
theorem between_any (d1 d2 d3 : Dv) (A Bs C : List Int) (w : World) (h1 : IsDom w d1.val A) (h2 : IsDom w d2.val Bs) (h3 : IsDom w d3.val C) (hT : TabZ w) :
    Calls Tryz.prog 149 #[.agg #[.int .i64 d1.s, .slice d1.A d1.n d1.c, .int .i64 d1.z], .agg #[.int .i64 d2.s, .slice d2.A d2.n d2.c, .int .i64 d2.z], .agg #[.int .i64 d3.s, .slice d3.A d3.n d3.c, .int .i64 d3.z]] w
      fun e w' => (∃ d : Dv, e = .returned d.val ∧ IsDom w' d.val ((C.filter fun u => decide (lowP A Bs ≤ u)).filter fun u => decide (u ≤ highP A Bs))) ∧ Below w.heap.size w w' := by
  obtain ⟨w4, hw4⟩ : ∃ w4, (((w.alloc (.cells #[.int .i64 d1.s, .slice d1.A d1.n d1.c, .int .i64 d1.z] 77)).alloc (.cells #[.int .i64 d2.s, .slice d2.A d2.n d2.c, .int .i64 d2.z] 77)).alloc (.cells #[.int .i64 d3.s, .slice d3.A d3.n d3.c, .int .i64 d3.z] 77)).alloc (.cells #[.int .i64 0, .slice none 0 0, .int .i64 0] 77) = w4 := ⟨_, rfl⟩
  obtain ⟨wa, hwa⟩ : ∃ wa, w.alloc (.cells #[.int .i64 d1.s, .slice d1.A d1.n d1.c, .int .i64 d1.z] 77) = wa := ⟨_, rfl⟩
  obtain ⟨wb, hwb⟩ : ∃ wb, wa.alloc (.cells #[.int .i64 d2.s, .slice d2.A d2.n d2.c, .int .i64 d2.z] 77) = wb := ⟨_, rfl⟩
  obtain ⟨wc, hwc⟩ : ∃ wc, wb.alloc (.cells #[.int .i64 d3.s, .slice d3.A d3.n d3.c, .int .i64 d3.z] 77) = wc := ⟨_, rfl⟩
  have hwd := hw4
  rw [hwa, hwb, hwc] at hwd
  have sa : wa.heap.size = w.heap.size + 1 := by rw [← hwa]; simp
  have sb : wb.heap.size = w.heap.size + 1 + 1 := by rw [← hwb]; simp [sa]
  have sc : wc.heap.size = w.heap.size + 1 + 1 + 1 := by rw [← hwc]; simp [sb]
  have s4 : w4.heap.size = w.heap.size + 1 + 1 + 1 + 1 := by rw [← hwd]; simp [sc]
  have ba : Below w.heap.size w wa := hwa ▸ below1 w _
  have bb : Below wa.heap.size wa wb := hwb ▸ below1 wa _
  have bc : Below wb.heap.size wb wc := hwc ▸ below1 wb _
  have bd : Below wc.heap.size wc w4 := hwd ▸ below1 wc _
  have n1 : wa.heap[w.heap.size]? = some (.cells #[.int .i64 d1.s, .slice d1.A d1.n d1.c, .int .i64 d1.z] 77 (0, 0)) := hwa ▸ heap_new w _
  have n2 : wb.heap[w.heap.size + 1]? = some (.cells #[.int .i64 d2.s, .slice d2.A d2.n d2.c, .int .i64 d2.z] 77 (0, 0)) := by rw [← sa, ← hwb]; exact heap_new wa _
  have n3 : wc.heap[w.heap.size + 1 + 1]? = some (.cells #[.int .i64 d3.s, .slice d3.A d3.n d3.c, .int .i64 d3.z] 77 (0, 0)) := by rw [← sb, ← hwc]; exact heap_new wb _
  have n4 : w4.heap[w.heap.size + 1 + 1 + 1]? = some (.cells #[.int .i64 0, .slice none 0 0, .int .i64 0] 77 (0, 0)) := by rw [← sc, ← hwd]; exact heap_new wc _
  have b24 : Below wb.heap.size wb w4 := bc.trans (bd.mono bc.size)
  have b14 : Below wa.heap.size wa w4 := bb.trans (b24.mono bb.size)
  have b4 : Below w.heap.size w w4 := ba.trans (b14.mono ba.size)
  have HN1 : Hid (w4.heap[w.heap.size]? = some (.cells #[.int .i64 d1.s, .slice d1.A d1.n d1.c, .int .i64 d1.z] 77 (0, 0))) := Lib.hid ((b14.block _ (by omega)).trans n1)
  have HN2 : Hid (w4.heap[w.heap.size + 1]? = some (.cells #[.int .i64 d2.s, .slice d2.A d2.n d2.c, .int .i64 d2.z] 77 (0, 0))) := Lib.hid ((b24.block _ (by omega)).trans n2)
  have HN3 : Hid (w4.heap[w.heap.size + 1 + 1]? = some (.cells #[.int .i64 d3.s, .slice d3.A d3.n d3.c, .int .i64 d3.z] 77 (0, 0))) := Lib.hid ((bd.block _ (by omega)).trans n3)
  have HN4 := Lib.hid n4
  have B4 := Lib.hid b4
  have S4 := Lib.hid s4
  have HD1 := Lib.hid (h1.below b4)
  have HD2 := Lib.hid (h2.below b4)
  have HD3 := Lib.hid (h3.below b4)
  have HT4 := Lib.hid (hT.below b4)
  have HT := Lib.hid hT
  have B0 := Lib.hid b4
  have la := head_lim h1.lim
  have lb := last_lim h1.lim
  have lc := head_lim h2.lim
  have ld := last_lim h2.lim
  obtain ⟨am, ham⟩ : ∃ v, v = A.head?.getD 0 := ⟨_, rfl⟩
  obtain ⟨ax, hax⟩ : ∃ v, v = A.getLast?.getD 0 := ⟨_, rfl⟩
  obtain ⟨bm, hbm⟩ : ∃ v, v = Bs.head?.getD 0 := ⟨_, rfl⟩
  obtain ⟨bx, hbx⟩ : ∃ v, v = Bs.getLast?.getD 0 := ⟨_, rfl⟩
  rw [← ham] at la; rw [← hax] at lb; rw [← hbm] at lc; rw [← hbx] at ld
  have GA : Hid (∀ W, Below w4.heap.size w4 W → Calls Tryz.prog 183 #[.agg #[.int .i64 d1.s, .slice d1.A d1.n d1.c, .int .i64 d1.z]] W fun e w' => e = .returned (.int .i64 am) ∧ Below W.heap.size W w') := Lib.hid (fun W hW => by have := D.min_dom d1.val A W (HD1.out.below hW) (HT4.out.below hW); rw [← ham] at this; exact this)
  have GB : Hid (∀ W, Below w4.heap.size w4 W → Calls Tryz.prog 77 #[.agg #[.int .i64 d1.s, .slice d1.A d1.n d1.c, .int .i64 d1.z]] W fun e w' => e = .returned (.int .i64 ax) ∧ Below W.heap.size W w') := Lib.hid (fun W hW => by have := D.max_dom d1.val A W (HD1.out.below hW); rw [← hax] at this; exact this)
  have GC : Hid (∀ W, Below w4.heap.size w4 W → Calls Tryz.prog 183 #[.agg #[.int .i64 d2.s, .slice d2.A d2.n d2.c, .int .i64 d2.z]] W fun e w' => e = .returned (.int .i64 bm) ∧ Below W.heap.size W w') := Lib.hid (fun W hW => by have := D.min_dom d2.val Bs W (HD2.out.below hW) (HT4.out.below hW); rw [← hbm] at this; exact this)
  have GD : Hid (∀ W, Below w4.heap.size w4 W → Calls Tryz.prog 77 #[.agg #[.int .i64 d2.s, .slice d2.A d2.n d2.c, .int .i64 d2.z]] W fun e w' => e = .returned (.int .i64 bx) ∧ Below W.heap.size W w') := Lib.hid (fun W hW => by have := D.max_dom d2.val Bs W (HD2.out.below hW); rw [← hbx] at this; exact this)
  have CA := Lib.hid (in_regrown' (w := w4) GA.out)
  have CC := Lib.hid (in_regrown' (w := w4) GC.out)
  have CD := Lib.hid (in_regrown' (w := w4) GD.out)
  have HLO : Hid (lowP A Bs = min4 (am * bm) (am * bx) (ax * bm) (ax * bx)) := Lib.hid (by unfold lowP; rw [ham, hax, hbm, hbx])
  have HHI : Hid (highP A Bs = max4 (am * bm) (am * bx) (ax * bm) (ax * bx)) := Lib.hid (by unfold highP; rw [ham, hax, hbm, hbx])
  have p1 := prod_lim la lc
  have p2 := prod_lim la ld
  have p3 := prod_lim lb lc
  have p4 := prod_lim lb ld
  have w1 : IntKind.i64.wrap (am * bm) = am * bm := IntWalk.i64_in _ (by omega)
  have w2 : IntKind.i64.wrap (am * bx) = am * bx := IntWalk.i64_in _ (by omega)
  have w3 : IntKind.i64.wrap (ax * bm) = ax * bm := IntWalk.i64_in _ (by omega)
  have w5 : IntKind.i64.wrap (ax * bx) = ax * bx := IntWalk.i64_in _ (by omega)
  have e0 := cell_regrown (box_cell HN1.out (j := 0) (x := .int .i64 d1.s) rfl)
  have e1 := cell_regrown (box_cell HN1.out (j := 1) (x := .slice d1.A d1.n d1.c) rfl)
  have e2 := cell_regrown (box_cell HN1.out (j := 2) (x := .int .i64 d1.z) rfl)
  have f0 := cell_regrown (box_cell HN2.out (j := 0) (x := .int .i64 d2.s) rfl)
  have f1 := cell_regrown (box_cell HN2.out (j := 1) (x := .slice d2.A d2.n d2.c) rfl)
  have f2 := cell_regrown (box_cell HN2.out (j := 2) (x := .int .i64 d2.z) rfl)
  clear hwa hwb hwc hwd sa sb sc s4 ba bb bc bd n1 n2 n3 n4 b24 b14 b4 h1 h2 h3 hT la lb lc ld ham hax hbm hbx p1 p2 p3 p4
  go_enter Tryz.func149, Tryz.ntmps149
  go_upto_region 1 with fail
  clear hw4
  refine wp_region_quiet_below (by kernel_rfl) (by kernel_rfl) ?_
  repeat (first | go_big_quiet_step (first | (go_at_call 183; with_reducible exact CA.out _ _) | (go_at_call 183; with_reducible exact CC.out _ _) | (go_at_call 77; with_reducible exact CD.out _ _)) | quiet_step (fail))
  refine wpQuiet_nil ?_
  intro _ hw'
  obtain ⟨⟨dq, osq⟩, hw''⟩ := hw'
  subst hw''
  have b45 := below_regrown w4 dq osq
  generalize grow (redrawn w4 dq) osq = w5 at *
  have B45 := Lib.hid b45
  have CA5 := Lib.hid (in_regrown' (w := w5) (fun W hW => GA.out W (B45.out.trans (hW.mono B45.out.size))))
  have CB5 := Lib.hid (in_regrown' (w := w5) (fun W hW => GB.out W (B45.out.trans (hW.mono B45.out.size))))
  have CC5 := Lib.hid (in_regrown' (w := w5) (fun W hW => GC.out W (B45.out.trans (hW.mono B45.out.size))))
  have CD5 := Lib.hid (in_regrown' (w := w5) (fun W hW => GD.out W (B45.out.trans (hW.mono B45.out.size))))
  have K1 := (b45.block _ (Array.getElem?_eq_some_iff.1 HN1.out).1).trans HN1.out
  have K2 := (b45.block _ (Array.getElem?_eq_some_iff.1 HN2.out).1).trans HN2.out
  clear e0 e1 e2 f0 f1 f2 CA CC CD
  have e0 := cell_regrown (box_cell K1 (j := 0) (x := .int .i64 d1.s) rfl)
  have e1 := cell_regrown (box_cell K1 (j := 1) (x := .slice d1.A d1.n d1.c) rfl)
  have e2 := cell_regrown (box_cell K1 (j := 2) (x := .int .i64 d1.z) rfl)
  have f0 := cell_regrown (box_cell K2 (j := 0) (x := .int .i64 d2.s) rfl)
  have f1 := cell_regrown (box_cell K2 (j := 1) (x := .slice d2.A d2.n d2.c) rfl)
  have f2 := cell_regrown (box_cell K2 (j := 2) (x := .int .i64 d2.z) rfl)
  clear K1 K2 b45 GA GB GC GD
  go_upto_region 2 with fail
  refine wp_region_quiet_below (by kernel_rfl) (by kernel_rfl) ?_
  repeat (first | go_big_quiet_step (first | (go_at_call 183; with_reducible exact CA5.out _ _) | (go_at_call 183; with_reducible exact CC5.out _ _) | (go_at_call 77; with_reducible exact CB5.out _ _) | (go_at_call 77; with_reducible exact CD5.out _ _)) | quiet_step (fail))
  refine wpQuiet_nil ?_
  intro _ hw'
  obtain ⟨⟨dq, osq⟩, hw''⟩ := hw'
  subst hw''
  have b56 := below_regrown w5 dq osq
  generalize grow (redrawn w5 dq) osq = w6 at *
  have B6 := Lib.hid (B45.out.trans (b56.mono B45.out.size))
  have K3 := (B6.out.block _ (Array.getElem?_eq_some_iff.1 HN3.out).1).trans HN3.out
  have g0 := box_cell K3 (j := 0) (x := .int .i64 d3.s) rfl
  have g1 := box_cell K3 (j := 1) (x := .slice d3.A d3.n d3.c) rfl
  have g2 := box_cell K3 (j := 2) (x := .int .i64 d3.z) rfl
  have k0 := box_free K3 0
  have k1 := box_free K3 1
  have k2 := box_free K3 2
  have HK3 := Lib.hid K3
  have hmin : ∀ W : World, (Builtin.min_ #[3, 3, 3, 3] 3 #[.int .i64 (am * bm), .int .i64 (am * bx), .int .i64 (ax * bm), .int .i64 (ax * bx)]).run Tryz.prog W = .ok (.int .i64 (min4 (am * bm) (am * bx) (ax * bm) (ax * bx))) W := fun W => run_min4 W _ _ _ _ _ _ _
  have hmax : ∀ W : World, (Builtin.max_ #[3, 3, 3, 3] 3 #[.int .i64 (am * bm), .int .i64 (am * bx), .int .i64 (ax * bm), .int .i64 (ax * bx)]).run Tryz.prog W = .ok (.int .i64 (max4 (am * bm) (am * bx) (ax * bm) (ax * bx))) W := fun W => run_max4 W _ _ _ _ _ _ _
  have CL := D.least_dom d3.val C (lowP A Bs) w6 (HD3.out.below B6.out) (HT4.out.below B6.out)
  have HLQ : Hid (lowP A Bs = min4 (am * bm) (am * bx) (ax * bm) (ax * bx)) := HLO
  rw [HLO.out] at CL HLQ
  have CL := Lib.hid CL
  generalize min4 (am * bm) (am * bx) (ax * bm) (ax * bx) = lo at hmin HLO CL
  generalize max4 (am * bm) (am * bx) (ax * bm) (ax * bx) = hi at hmax HHI
  clear e0 e1 e2 f0 f1 f2 CA5 CB5 CC5 CD5 K3 b56 B45 HLQ
  go_wp2_with fail
  refine CL.out.mono ?_
  rintro e w7 ⟨d, rfl, hd, b7⟩
  obtain ⟨v7, rfl, hz7⟩ := Dv.of hd
  have HD7 := Lib.hid hd
  have B7 := Lib.hid (B6.out.trans (b7.mono B6.out.size))
  have j0 := (b7.cell (World.block_lt_of_cell? _ _ g0)).trans g0
  have j1 := (b7.cell (World.block_lt_of_cell? _ _ g1)).trans g1
  have j2 := (b7.cell (World.block_lt_of_cell? _ _ g2)).trans g2
  have HK7 := Lib.hid ((b7.block _ (Array.getElem?_eq_some_iff.1 HK3.out).1).trans HK3.out)
  clear g0 g1 g2 k0 k1 k2 CL hd b7 hz7 HK3 B6
  have k0 := box_free HK7.out 0
  have k1 := box_free HK7.out 1
  have k2 := box_free HK7.out 2
  go_upto_region 4 with fail
  obtain ⟨w8, hw8⟩ : ∃ w8, ((w7.setCell ⟨w.heap.size + 1 + 1, 0, none⟩ (.int .i64 v7.s)).setCell ⟨w.heap.size + 1 + 1, 1, none⟩ (.slice v7.A v7.n v7.c)).setCell ⟨w.heap.size + 1 + 1, 2, none⟩ (.int .i64 v7.z) = w8 := ⟨_, rfl⟩
  rw [hw8]
  have HD8 : Hid (IsDom w8 v7.val (C.filter fun u => decide (lo ≤ u))) := Lib.hid (hw8 ▸ HD7.out.put3 HK7.out (plain_int _ _ (by decide)) (plain_sl _ _ _) (plain_int _ _ (by decide)) _ _ _ (plain_int _ _ (by decide)) (plain_sl _ _ _))
  have B07 := B0.out.trans (B7.out.mono B0.out.size)
  have B8 : Hid (Below w.heap.size w w8) := Lib.hid (hw8 ▸ out_below B07 (w.heap.size + 1 + 1) (by omega) _ _ _)
  have HK8 : Hid (w8.heap[w.heap.size + 1 + 1]? = some (.cells #[.int .i64 v7.s, .slice v7.A v7.n v7.c, .int .i64 v7.z] 77 (0, 0))) := Lib.hid (hw8 ▸ put3_block HK7.out)
  have HR8 : Hid (w8.heap[w.heap.size + 1 + 1 + 1]? = some (.cells #[.int .i64 0, .slice none 0 0, .int .i64 0] 77 (0, 0))) := Lib.hid (hw8 ▸ (put3_far (by omega)).trans ((B7.out.block _ (by rw [S4.out]; omega)).trans HN4.out))
  have CM := Lib.hid (D.most_dom v7.val (C.filter fun u => decide (lo ≤ u)) hi w8 HD8.out (HT.out.below B8.out))
  have g0 := box_cell HK8.out (j := 0) (x := .int .i64 v7.s) rfl
  have g1 := box_cell HK8.out (j := 1) (x := .slice v7.A v7.n v7.c) rfl
  have g2 := box_cell HK8.out (j := 2) (x := .int .i64 v7.z) rfl
  clear hw8 HD7 HK7 j0 j1 j2 k0 k1 k2 B7 B07 hmin
  go_wp2_with fail
  refine CM.out.mono ?_
  rintro e w9 ⟨d, rfl, hd, b9⟩
  obtain ⟨v9, rfl, hz9⟩ := Dv.of hd
  have HD9 := Lib.hid hd
  have B9 := Lib.hid (B8.out.trans (b9.mono B8.out.size))
  have HK9 := Lib.hid ((b9.block _ (Array.getElem?_eq_some_iff.1 HK8.out).1).trans HK8.out)
  have HR9 := Lib.hid ((b9.block _ (Array.getElem?_eq_some_iff.1 HR8.out).1).trans HR8.out)
  have j0 := box_cell HK9.out (j := 0) (x := .int .i64 v7.s) rfl
  have j1 := box_cell HK9.out (j := 1) (x := .slice v7.A v7.n v7.c) rfl
  have j2 := box_cell HK9.out (j := 2) (x := .int .i64 v7.z) rfl
  have k0 := box_free HK9.out 0
  have k1 := box_free HK9.out 1
  have k2 := box_free HK9.out 2
  clear CM g0 g1 g2 hd b9 hz9 HD8 HK8 HR8 B8 hmax
  go_upto_region 5 with fail
  obtain ⟨w10, hw10⟩ : ∃ w10, ((w9.setCell ⟨w.heap.size + 1 + 1, 0, none⟩ (.int .i64 v9.s)).setCell ⟨w.heap.size + 1 + 1, 1, none⟩ (.slice v9.A v9.n v9.c)).setCell ⟨w.heap.size + 1 + 1, 2, none⟩ (.int .i64 v9.z) = w10 := ⟨_, rfl⟩
  rw [hw10]
  have HD10 := Lib.hid (hw10 ▸ HD9.out.put3 HK9.out (plain_int _ _ (by decide)) (plain_sl _ _ _) (plain_int _ _ (by decide)) (.int .i64 v9.s) (.slice v9.A v9.n v9.c) (.int .i64 v9.z) (plain_int _ _ (by decide)) (plain_sl _ _ _))
  have B10 : Hid (Below w.heap.size w w10) := Lib.hid (hw10 ▸ out_below B9.out (w.heap.size + 1 + 1) (by omega) _ _ _)
  have HK10 : Hid (w10.heap[w.heap.size + 1 + 1]? = some (.cells #[.int .i64 v9.s, .slice v9.A v9.n v9.c, .int .i64 v9.z] 77 (0, 0))) := Lib.hid (hw10 ▸ put3_block HK9.out)
  have HR10 : Hid (w10.heap[w.heap.size + 1 + 1 + 1]? = some (.cells #[.int .i64 0, .slice none 0 0, .int .i64 0] 77 (0, 0))) := Lib.hid (hw10 ▸ (put3_far (by omega)).trans HR9.out)
  have g0 := box_cell HK10.out (j := 0) (x := .int .i64 v9.s) rfl
  have g1 := box_cell HK10.out (j := 1) (x := .slice v9.A v9.n v9.c) rfl
  have g2 := box_cell HK10.out (j := 2) (x := .int .i64 v9.z) rfl
  clear hw10 HD9 HK9 HR9 j0 j1 j2 k0 k1 k2 B9
  have e0 := box_cell HR10.out (j := 0) (x := .int .i64 0) rfl
  have e1 := box_cell HR10.out (j := 1) (x := .slice none 0 0) rfl
  have e2 := box_cell HR10.out (j := 2) (x := .int .i64 0) rfl
  have k0 := box_free HR10.out 0
  have k1 := box_free HR10.out 1
  have k2 := box_free HR10.out 2
  go_wp2_with fail
  obtain ⟨q0, q1, q2⟩ := out_cells w10 (w.heap.size + 1 + 1 + 1) _ _ _ (.int .i64 v9.s) (.slice v9.A v9.n v9.c) (.int .i64 v9.z) e0 e1 e2
  refine bodyPost_ret (v := .agg #[.int .i64 v9.s, .slice v9.A v9.n v9.c, .int .i64 v9.z]) (by simp [results, Tryz.results149, go_sem, q0, q1, q2]) rfl ⟨⟨v9, rfl, ?_⟩, ?_⟩
  · rw [HLO.out, HHI.out]
    exact HD10.out.put3 HR10.out (plain_int _ _ (by decide)) (plain_sl _ _ _) (plain_int _ _ (by decide)) _ _ _ (plain_int _ _ (by decide)) (plain_sl _ _ _)
  · exact out_below B10.out _ (by omega) _ _ _
end Go.Proofs.YtcmdgjkoalophaaGreatDoor

namespace Go.Proofs.YtcmdgjkoalophaaGreatDoor
open Go.RowKit Go.Sort

theorem three_mul {c : ConL} {n : Int} (h : rightE c n = 0) (hk : c.kind = 5 ∨ c.kind = 6 ∨ c.kind = 7) : c.A.length = 3 ∧ c.B.length = 0 := by
  obtain ⟨k1, k2, hs, ha, hb, hn⟩ := right_parts h
  rcases hk with hk | hk | hk
  · rw [size_5 c hk] at hs; omega
  · rw [size_6 c hk] at hs; omega
  · rw [size_7 c hk] at hs; omega
/-- Where the constraint is one of these and fits, there are three domains. -/
theorem fits_three {c : ConL} {D : List (List Int)} (h : fitsE c D 5 7 = true) : ∃ A B C, D = [A, B, C] ∧ (c.kind = 5 ∨ c.kind = 6 ∨ c.kind = 7) ∧ A ≠ [] ∧ B ≠ [] ∧ C ≠ [] := by
  unfold fitsE at h
  simp only [Bool.and_eq_true, Bool.not_eq_true', decide_eq_false_iff_not, decide_eq_true_eq, beq_iff_eq] at h
  obtain ⟨⟨⟨⟨h1, h2⟩, h3⟩, h4⟩, h5⟩ := h
  have hk : c.kind = 5 ∨ c.kind = 6 ∨ c.kind = 7 := by omega
  obtain ⟨l1, l2⟩ := three_mul h4 hk
  match D, h3, h5 with
  | [A, B, C], _, h5 =>
    simp only [List.any_cons, List.any_nil, Bool.or_false, Bool.or_eq_false_iff, beq_eq_false_iff_ne, ne_eq, List.length_eq_zero_iff] at h5
    exact ⟨A, B, C, rfl, hk, h5.1, h5.2.1, h5.2.2⟩
  | [], h3, _ => simp at h3; omega
  | [_], h3, _ => simp at h3; omega
  | [_, _], h3, _ => simp at h3; omega
  | _ :: _ :: _ :: _ :: _, h3, _ => simp at h3; omega

set_option maxHeartbeats 4000000 in
set_option maxRecDepth 100000 in
theorem mayMul_any (v : ConV) (c : ConL) (x : Sl) (D : List (List Int)) (w : World) (hE : EntIn w) (h : ConIn w v c) (hx : DomsIn w x D) :
    Calls Tryz.prog 94 #[v.val c.kind c.K, .slice x.A x.n x.c] w fun e w' => e = .returned (.bool (fitsE c D 5 7)) ∧ Below w.heap.size w w' := by
  obtain ⟨wb, hwb⟩ : ∃ wb, cBox w v c.kind c.K = wb := ⟨_, rfl⟩
  have HR : Hid (RBox w.heap.size wb v c ⟨none, 0, 0⟩ [] ∧ Below w.heap.size w wb) := Lib.hid (hwb ▸ ⟨RBox.start h (IsInts.nil _), cBox_below _ _ _ _⟩)
  have HD := Lib.hid (hx.below HR.out.2)
  have hxb := hx.big
  have hab := h.a.big
  have hbb := h.b.big
  have CR : Hid (Calls Tryz.prog 108 #[v.val c.kind c.K, .int .i64 256] wb fun e w' => e = .returned (.int .i64 (rightE c 256)) ∧ Below wb.heap.size wb w') := Lib.hid (right_any v c 256 wb (hE.below HR.out.2) HR.out.1.con)
  have HV : Hid (fitsE c D 5 7 = (!decide (c.kind < 5) && !decide (7 < c.kind) && decide (x.n = v.a.n + v.b.n) && (rightE c 256 == 0) && !D.any (fun l => l.length == 0))) := Lib.hid (by unfold fitsE; rw [h.a.len, h.b.len, hx.len])
  obtain ⟨RES, hRES⟩ : ∃ B, B = fitsE c D 5 7 := ⟨_, rfl⟩
  rw [← hRES] at HV ⊢
  have HWB := Lib.hid hwb
  obtain ⟨rr, hrr⟩ : ∃ rr, rr = rightE c 256 := ⟨_, rfl⟩
  rw [← hrr] at CR HV
  have CE : Hid (∀ W, Below wb.heap.size wb W → Calls Tryz.prog 96 #[.slice x.A x.n x.c, .func (.func 97) #[] #[]] W fun e w' => e = .returned (.bool (D.any fun l => l.length == 0)) ∧ Below W.heap.size W w') := Lib.hid (fun W hW => anyEmpty_any x D W (HD.out.below hW))
  obtain ⟨OB, hOB⟩ : ∃ B, B = D.any (fun l => l.length == 0) := ⟨_, rfl⟩
  rw [← hOB] at HV CE
  have ws : IntKind.i64.wrap (((v.a.n : Nat) : Int) + ((v.b.n : Nat) : Int)) = ((v.a.n : Nat) : Int) + ((v.b.n : Nat) : Int) := IntWalk.i64_in _ (by omega)
  have HB := Lib.hid HR.out.2
  clear hwb h hx hRES hrr hOB hE
  by_cases hk : c.kind = 5 ∨ c.kind = 6 ∨ c.kind = 7
  · have hk' : ((c.kind == 5) = true) ∨ ((c.kind == 5) = false ∧ (c.kind == 6) = true) ∨ ((c.kind == 5) = false ∧ (c.kind == 6) = false ∧ (c.kind == 7) = true) := by
      rcases hk with hk | hk | hk <;> simp [hk]
    have HV1 : Hid (RES = (decide (x.n = v.a.n + v.b.n) && (rr == 0) && !OB)) := Lib.hid (by
      rw [HV.out, decide_eq_false (show ¬ c.kind < 5 by omega), decide_eq_false (show ¬ 7 < c.kind by omega)]; simp)
    have d0 := HR.out.1.c0
    have d1 := HR.out.1.c1
    have d2 := HR.out.1.c2
    have d3 := HR.out.1.c3
    have d4 := HR.out.1.c4
    have d5 := HR.out.1.c5
    have d6 := HR.out.1.c6
    have d7 := HR.out.1.c7
    clear hk HV
    have HH : ((rr == 0) = false ∧ Hid (RES = false)) ∨ ((rr == 0) = true ∧ ((((x.n : Nat) : Int) == ((v.a.n : Nat) : Int) + ((v.b.n : Nat) : Int)) = false) ∧ Hid (RES = false)) ∨ ((rr == 0) = true ∧ ((((x.n : Nat) : Int) == ((v.a.n : Nat) : Int) + ((v.b.n : Nat) : Int)) = true) ∧ Hid (RES = !OB)) := by
      cases g1 : (rr == 0)
      · exact .inl ⟨rfl, Lib.hid (by rw [HV1.out, g1]; simp)⟩
      · by_cases g2 : x.n = v.a.n + v.b.n
        · exact .inr (.inr ⟨rfl, by simp; omega, Lib.hid (by rw [HV1.out, decide_eq_true g2, g1]; simp)⟩)
        · exact .inr (.inl ⟨rfl, by simp; omega, Lib.hid (by rw [HV1.out, decide_eq_false g2]; simp)⟩)
    clear HV1
    rcases HH with ⟨g1, HF⟩ | ⟨g1, g4, HF⟩ | ⟨g1, g4, HF⟩ <;> rcases hk' with k5 | ⟨k5, k6⟩ | ⟨k5, k6, k7⟩
    all_goals
      go_enter Tryz.func94, Tryz.ntmps94
      go_upto_region 1 with fail
      change Code.wp _ _ _ _ (cBox w v c.kind c.K)
      rw [HWB.out]
      clear HWB
      go_wp2_with fail
      refine CR.out.mono ?_
      rintro e w1 ⟨rfl, b1⟩
      have B1 := Lib.hid b1
      have d1' := (b1.cell (World.block_lt_of_cell? _ _ d1)).trans d1
      have d2' := (b1.cell (World.block_lt_of_cell? _ _ d2)).trans d2
      clear b1 CR d0 d1 d2 d3 d4 d5 d6 d7
      go_wp2_with fail
      first
        | (go_ret; exact ⟨ret_bool HF.out.symm, HB.out.trans (B1.out.mono HB.out.size)⟩)
        | (refine (CE.out w1 B1.out).mono ?_
           rintro e w2 ⟨rfl, b2⟩
           have B2 := Lib.hid (HB.out.trans ((B1.out.trans (b2.mono B1.out.size)).mono HB.out.size))
           clear b2 CE
           go_wp2_with fail
           go_ret
           exact ⟨ret_bool HF.out.symm, B2.out⟩)
  · have HF : Hid (RES = false) := Lib.hid (by
      rw [HV.out]
      have : c.kind < 5 ∨ 7 < c.kind := by omega
      rcases this with g | g
      · rw [decide_eq_true g]; simp
      · rw [decide_eq_true g]; simp)
    have k5 : (c.kind == 5) = false := by simp; omega
    have k6 : (c.kind == 6) = false := by simp; omega
    have k7 : (c.kind == 7) = false := by simp; omega
    have d0 := HR.out.1.c0
    clear hk HV
    go_enter Tryz.func94, Tryz.ntmps94
    go_upto_region 1 with fail
    change Code.wp _ _ _ _ (cBox w v c.kind c.K)
    rw [HWB.out]
    clear HWB
    go_wp2_with fail
    go_ret
    exact ⟨ret_bool HF.out.symm, HB.out⟩
end Go.Proofs.YtcmdgjkoalophaaGreatDoor

namespace Go.Proofs.YtcmdgjkoalophaaGreatDoor
open Go.RowKit Go.Sort

theorem IsDom.len_lim {W : World} {d : Value} {L : List Int} (h : IsDom W d L) : L.length ≤ 2000064 := by
  obtain ⟨s, A, ws, c, -, -, hF, rfl⟩ := h
  have h1 := len_le_listOf ws s
  have h2 := hF.len
  omega

set_option maxHeartbeats 4000000 in
set_option maxRecDepth 100000 in
theorem mulFilter_any (kind : Int) (x : Sl) (A Bs C : List Int) (w : World) (hk : kind = 5 ∨ kind = 6 ∨ kind = 7) (h : DomsIn w x [A, Bs, C]) (hT : TabZ w) (ha : A ≠ []) (hb : Bs ≠ []) :
    Calls Tryz.prog 95 #[.int .i64 kind, .slice x.A x.n x.c] w fun e w' => (∃ y : Sl, e = .returned (.slice y.A y.n y.c) ∧ DomsIn w' y (mulL kind A Bs C)) ∧ Below w.heap.size w w' := by
  have HD := Lib.hid h
  have HT := Lib.hid hT
  have hxn : x.n = 3 := h.len
  obtain ⟨g, o, d0, ex, p0, p1, p2, hD0⟩ := h.at_ 0 (by omega)
  obtain ⟨g', o', d1, ex', q0, q1, q2, hD1⟩ := h.at_ 1 (by omega)
  obtain ⟨g'', o'', d2, ex'', r0, r1, r2, hD2⟩ := h.at_ 2 (by omega)
  have eg1 : g = g' ∧ o = o' := by rw [ex] at ex'; injection ex' with ex'; injection ex' with e1 e2 _; exact ⟨e1, e2⟩
  have eg2 : g = g'' ∧ o = o'' := by rw [ex] at ex''; injection ex'' with ex''; injection ex'' with e1 e2 _; exact ⟨e1, e2⟩
  obtain ⟨rfl, rfl⟩ := eg1
  obtain ⟨rfl, rfl⟩ := eg2
  have hD0' : IsDom w d0.val A := hD0
  have hD1' : IsDom w d1.val Bs := hD1
  have hD2' : IsDom w d2.val C := hD2
  have HD0 := Lib.hid hD0'
  have HD1 := Lib.hid hD1'
  have HD2 := Lib.hid hD2'
  rw [ex]
  rw [Nat.zero_mul, Nat.add_zero] at p0 p1 p2
  rw [Nat.one_mul] at q0 q1 q2
  have r0 : w.cell? ⟨g, o + 6, none⟩ = some (.int .i64 d2.s) := r0
  have r1 : w.cell? ⟨g, o + 6 + 1, none⟩ = some (.slice d2.A d2.n d2.c) := r1
  have r2 : w.cell? ⟨g, o + 6 + 2, none⟩ = some (.int .i64 d2.z) := r2
  have HP := Lib.hid (And.intro p0 (And.intro p1 (And.intro p2 (And.intro q0 (And.intro q1 (And.intro q2 (And.intro r0 (And.intro r1 r2))))))))
  have la := hD0'.len_lim
  have lb := hD1'.len_lim
  have S0 := Lib.hid (in_regrown' (w := w) (fun W hW => D.size_dom d0.val A W (HD0.out.below hW)))
  have S1 := Lib.hid (in_regrown' (w := w) (fun W hW => D.size_dom d1.val Bs W (HD1.out.below hW)))
  have hpl : A.length * Bs.length ≤ 2000064 * 2000064 := Nat.mul_le_mul la lb
  have hwr : IntKind.i64.wrap (((A.length : Nat) : Int) * ((Bs.length : Nat) : Int)) = ((A.length : Nat) : Int) * ((Bs.length : Nat) : Int) := IntWalk.i64_in _ (by
    have : (((A.length : Nat) : Int) * ((Bs.length : Nat) : Int)) = ((A.length * Bs.length : Nat) : Int) := by simp
    omega)
  have e0 := cell_regrown p0
  have e1 := cell_regrown p1
  have e2 := cell_regrown p2
  have f0 := cell_regrown q0
  have f1 := cell_regrown q1
  have f2 := cell_regrown q2
  clear hD0 hD1 hD2 hD0' hD1' hD2' h hT ex' ex'' p0 p1 p2 q0 q1 q2 r0 r1 r2
  by_cases hle : A.length * Bs.length ≤ 4096
  · have t1 : decide (((A.length : Nat) : Int) * ((Bs.length : Nat) : Int) ≤ 4096) = true := by
      have : (((A.length : Nat) : Int) * ((Bs.length : Nat) : Int)) = ((A.length * Bs.length : Nat) : Int) := by simp
      simp only [this, decide_eq_true_eq]; omega
    have hA4 : A.length ≤ 4096 := Nat.le_trans (Nat.le_mul_of_pos_right _ (List.length_pos_iff.2 hb)) hle
    have hB4 : Bs.length ≤ 4096 := Nat.le_trans (Nat.le_mul_of_pos_left _ (List.length_pos_iff.2 ha)) hle
    have HM : Hid (mulL kind A Bs C = [ofL (h1 (hitsE (kindV kind) C A Bs)), ofL (h2 (hitsE (kindV kind) C A Bs)), ofL (h3 (hitsE (kindV kind) C A Bs))]) := Lib.hid (by unfold mulL; rw [if_pos hle])
    obtain ⟨R, hR⟩ : ∃ R, R = mulL kind A Bs C := ⟨_, rfl⟩
    rw [← hR] at HM ⊢
    have CR := Lib.hid (fun W => result_any kind W hk)
    have CS : Hid (∀ W, Below w.heap.size w W → Calls Tryz.prog 147 #[.func (.func (fnOf kind)) #[] #[], .slice (some ⟨g, o, none⟩) 3 x.c] W fun e w' => (∃ y : Sl, e = .returned (.slice y.A y.n y.c) ∧ DomsIn w' y R) ∧ Below W.heap.size W w') := Lib.hid (fun W hW => by
      have := solved_any (fnOf kind) (eFn kind) (kindV kind) x A Bs C W (HD.out.below hW) (HT.out.below hW) hle hA4 hB4 (fun a b W ha hb => fn_tells kind a b W hk ha hb) (fun a b r ha hb => kindV_lim ha hb)
      rw [ex, hxn, ← HM.out] at this
      exact this)
    clear hle hpl hA4 hB4 hR hk ha hb HM
    generalize A.length = na at *
    generalize Bs.length = nb at *
    go_enter Tryz.func95, Tryz.ntmps95
    go_upto_region 3 with fail
    refine wp_region_quiet_below (by kernel_rfl) (by kernel_rfl) ?_
    repeat (first | go_big_quiet_step (first | (go_at_call 102; with_reducible exact S0.out _ _) | (go_at_call 102; with_reducible exact S1.out _ _)) | quiet_step (fail))
    refine wpQuiet_nil ?_
    intro _ hw'
    obtain ⟨⟨dq, osq⟩, hw''⟩ := hw'
    subst hw''
    have b5 := below_regrown w dq osq
    generalize grow (redrawn w dq) osq = w5 at *
    have B5 := Lib.hid b5
    clear e0 e1 e2 f0 f1 f2 S0 S1 b5
    go_wp2_with fail
    refine (CR.out w5).mono ?_
    rintro e w6 ⟨rfl, rfl⟩
    clear CR
    go_wp2_with fail
    refine (CS.out w5 B5.out).mono ?_
    rintro e w7 ⟨⟨y, rfl, hy⟩, b7⟩
    have HY := Lib.hid hy
    have B7 := Lib.hid (B5.out.trans (b7.mono B5.out.size))
    clear CS hy b7
    go_wp2_with fail
    go_ret
    exact ⟨⟨y, rfl, HY.out⟩, B7.out⟩
  · have t1 : decide (((A.length : Nat) : Int) * ((Bs.length : Nat) : Int) ≤ 4096) = false := by
      have : (((A.length : Nat) : Int) * ((Bs.length : Nat) : Int)) = ((A.length * Bs.length : Nat) : Int) := by simp
      simp only [this, decide_eq_false_iff_not]; omega
    by_cases h5 : kind = 5
    · have k5 : (kind == 5) = true := by simp [h5]
      have HM : Hid (mulL kind A Bs C = [A, Bs, (C.filter fun u => decide (lowP A Bs ≤ u)).filter fun u => decide (u ≤ highP A Bs)]) := Lib.hid (by unfold mulL; rw [if_neg hle, if_pos h5])
      obtain ⟨R, hR⟩ : ∃ R, R = mulL kind A Bs C := ⟨_, rfl⟩
      rw [← hR] at HM ⊢
      have CB : Hid (∀ W, Below w.heap.size w W → Calls Tryz.prog 149 #[.agg #[.int .i64 d0.s, .slice d0.A d0.n d0.c, .int .i64 d0.z], .agg #[.int .i64 d1.s, .slice d1.A d1.n d1.c, .int .i64 d1.z], .agg #[.int .i64 d2.s, .slice d2.A d2.n d2.c, .int .i64 d2.z]] W
          fun e w' => (∃ d : Dv, e = .returned d.val ∧ IsDom w' d.val ((C.filter fun u => decide (lowP A Bs ≤ u)).filter fun u => decide (u ≤ highP A Bs))) ∧ Below W.heap.size W w') := Lib.hid (fun W hW => between_any d0 d1 d2 A Bs C W (HD0.out.below hW) (HD1.out.below hW) (HD2.out.below hW) (HT.out.below hW))
      generalize ((C.filter fun u => decide (lowP A Bs ≤ u)).filter fun u => decide (u ≤ highP A Bs)) = Q at CB HM
      clear hle hpl hR hk ha hb h5
      have LA : Hid (∀ W, IsDom W d0.val A → IsDom W d0.val A) := Lib.hid (fun _ h => h)
      go_enter Tryz.func95, Tryz.ntmps95
      go_upto_region 3 with fail
      refine wp_region_quiet_below (by kernel_rfl) (by kernel_rfl) ?_
      repeat (first | go_big_quiet_step (first | (go_at_call 102; with_reducible exact S0.out _ _) | (go_at_call 102; with_reducible exact S1.out _ _)) | quiet_step (fail))
      refine wpQuiet_nil ?_
      intro _ hw'
      obtain ⟨⟨dq, osq⟩, hw''⟩ := hw'
      subst hw''
      have b5 := below_regrown w dq osq
      generalize grow (redrawn w dq) osq = w5 at *
      have B5 := Lib.hid b5
      clear e0 e1 e2 f0 f1 f2 S0 S1 b5
      have HS : Hid (∀ W, Below w5.heap.size w5 W → Below w5.heap.size w5 W ∧ W.cell? ⟨g, o, none⟩ = some (.int .i64 d0.s) ∧ W.cell? ⟨g, o + 1, none⟩ = some (.slice d0.A d0.n d0.c) ∧ W.cell? ⟨g, o + 2, none⟩ = some (.int .i64 d0.z) ∧ W.cell? ⟨g, o + 3, none⟩ = some (.int .i64 d1.s) ∧ W.cell? ⟨g, o + 3 + 1, none⟩ = some (.slice d1.A d1.n d1.c) ∧ W.cell? ⟨g, o + 3 + 2, none⟩ = some (.int .i64 d1.z) ∧ W.cell? ⟨g, o + 6, none⟩ = some (.int .i64 d2.s) ∧ W.cell? ⟨g, o + 6 + 1, none⟩ = some (.slice d2.A d2.n d2.c) ∧ W.cell? ⟨g, o + 6 + 2, none⟩ = some (.int .i64 d2.z)) := Lib.hid (fun W hW => by
        have b := B5.out.trans (hW.mono B5.out.size)
        obtain ⟨p0, p1, p2, p3, p4, p5, p6, p7, p8⟩ := HP.out
        have k : ∀ {a : Addr} {u : Value}, w.cell? a = some u → W.cell? a = some u := fun h => (b.cell (World.block_lt_of_cell? _ _ h)).trans h
        exact ⟨hW, k p0, k p1, k p2, k p3, k p4, k p5, k p6, k p7, k p8⟩)
      go_upto_region 6 with fail
      have hS := HS.out w5.drew (Below.refl _ _).drew
      go_region_held3 (fun W => Below w5.heap.size w5 W ∧ W.cell? ⟨g, o, none⟩ = some (.int .i64 d0.s) ∧ W.cell? ⟨g, o + 1, none⟩ = some (.slice d0.A d0.n d0.c) ∧ W.cell? ⟨g, o + 2, none⟩ = some (.int .i64 d0.z) ∧ W.cell? ⟨g, o + 3, none⟩ = some (.int .i64 d1.s) ∧ W.cell? ⟨g, o + 3 + 1, none⟩ = some (.slice d1.A d1.n d1.c) ∧ W.cell? ⟨g, o + 3 + 2, none⟩ = some (.int .i64 d1.z) ∧ W.cell? ⟨g, o + 6, none⟩ = some (.int .i64 d2.s) ∧ W.cell? ⟨g, o + 6 + 1, none⟩ = some (.slice d2.A d2.n d2.c) ∧ W.cell? ⟨g, o + 6 + 2, none⟩ = some (.int .i64 d2.z)) (first | assumption | exact HS.out _ (hS.1.alloc hS.1.size _))
        (first | (go_at_call 149; refine (CB.out _ (B5.out.trans (hS.1.mono B5.out.size))).mono ?_; rintro e w6 ⟨⟨dd, rfl, hdd⟩, b6⟩; have HDD := Lib.hid hdd; have B6 := Lib.hid (B5.out.trans ((hS.1.trans (b6.mono hS.1.size)).mono B5.out.size)); have hS := HS.out _ (hS.1.trans (b6.mono hS.1.size))))
      have HF := Lib.hid (doms_build3 (HD0.out.below B6.out) (HD1.out.below B6.out) HDD.out)
      have BF := Lib.hid (B6.out.trans ((below1 w6 (.cells #[.int .i64 d0.s, .slice d0.A d0.n d0.c, .int .i64 d0.z, .int .i64 d1.s, .slice d1.A d1.n d1.c, .int .i64 d1.z, .int .i64 dd.s, .slice dd.A dd.n dd.c, .int .i64 dd.z] 77)).mono B6.out.size))
      clear HDD B6 hS HS HP
      go_wp2_with fail
      go_ret
      exact ⟨⟨⟨some ⟨w6.heap.size, 0, none⟩, 3, 3⟩, rfl, by rw [HM.out]; exact HF.out⟩, BF.out⟩
    · have k5 : (kind == 5) = false := by simp [h5]
      have HM : Hid (mulL kind A Bs C = [A, Bs.filter fun u => decide (u ≠ 0), C]) := Lib.hid (by unfold mulL; rw [if_neg hle, if_neg h5])
      obtain ⟨R, hR⟩ : ∃ R, R = mulL kind A Bs C := ⟨_, rfl⟩
      rw [← hR] at HM ⊢
      have CW : Hid (∀ W, Below w.heap.size w W → Calls Tryz.prog 150 #[.agg #[.int .i64 d1.s, .slice d1.A d1.n d1.c, .int .i64 d1.z], .int .i64 0] W (GivesDom W (Bs.filter fun u => decide (u ≠ 0)) (D.chg Bs (Bs.filter fun u => decide (u ≠ 0))))) := Lib.hid (fun W hW => D.without_dom d1.val Bs 0 W (HD1.out.below hW) (HT.out.below hW))
      generalize D.chg Bs (Bs.filter fun u => decide (u ≠ 0)) = ch at CW
      generalize (Bs.filter fun u => decide (u ≠ 0)) = Q at CW HM
      clear hle hpl hR hk ha hb h5
      go_enter Tryz.func95, Tryz.ntmps95
      go_upto_region 3 with fail
      refine wp_region_quiet_below (by kernel_rfl) (by kernel_rfl) ?_
      repeat (first | go_big_quiet_step (first | (go_at_call 102; with_reducible exact S0.out _ _) | (go_at_call 102; with_reducible exact S1.out _ _)) | quiet_step (fail))
      refine wpQuiet_nil ?_
      intro _ hw'
      obtain ⟨⟨dq, osq⟩, hw''⟩ := hw'
      subst hw''
      have b5 := below_regrown w dq osq
      generalize grow (redrawn w dq) osq = w5 at *
      have B5 := Lib.hid b5
      clear e0 e1 e2 f0 f1 f2 S0 S1 b5
      have HS : Hid (∀ W, Below w5.heap.size w5 W → W.cell? ⟨g, o, none⟩ = some (.int .i64 d0.s) ∧ W.cell? ⟨g, o + 1, none⟩ = some (.slice d0.A d0.n d0.c) ∧ W.cell? ⟨g, o + 2, none⟩ = some (.int .i64 d0.z) ∧ W.cell? ⟨g, o + 3, none⟩ = some (.int .i64 d1.s) ∧ W.cell? ⟨g, o + 3 + 1, none⟩ = some (.slice d1.A d1.n d1.c) ∧ W.cell? ⟨g, o + 3 + 2, none⟩ = some (.int .i64 d1.z) ∧ W.cell? ⟨g, o + 6, none⟩ = some (.int .i64 d2.s) ∧ W.cell? ⟨g, o + 6 + 1, none⟩ = some (.slice d2.A d2.n d2.c) ∧ W.cell? ⟨g, o + 6 + 2, none⟩ = some (.int .i64 d2.z)) := Lib.hid (fun W hW => by
        have b := B5.out.trans (hW.mono B5.out.size)
        obtain ⟨p0, p1, p2, p3, p4, p5, p6, p7, p8⟩ := HP.out
        have k : ∀ {a : Addr} {u : Value}, w.cell? a = some u → W.cell? a = some u := fun h => (b.cell (World.block_lt_of_cell? _ _ h)).trans h
        exact ⟨k p0, k p1, k p2, k p3, k p4, k p5, k p6, k p7, k p8⟩)
      obtain ⟨p0, p1, p2, p3, p4, p5, p6, p7, p8⟩ := HS.out w5 (Below.refl _ _)
      go_wp2_with fail
      refine (CW.out w5 B5.out).mono ?_
      rintro e w6 ⟨d, rfl, hd, b6⟩
      obtain ⟨dd, rfl, hz6⟩ := Dv.of hd
      have HDD := Lib.hid hd
      have B56 := Lib.hid b6
      clear p0 p1 p2 p3 p4 p5 p6 p7 p8 CW hd b6 hz6
      obtain ⟨w7, hw7⟩ : ∃ w7, w6.alloc (.cells dd.cells.toArray 77) = w7 := ⟨_, rfl⟩
      have hnew := heap_alloc_new w6 (.cells dd.cells.toArray 77)
      rw [hw7] at hnew
      have b67 : Below w6.heap.size w6 w7 := hw7 ▸ below1 w6 _
      have HN := Lib.hid hnew
      have HDD7 := Lib.hid (HDD.out.below b67)
      have B57 := Lib.hid (B56.out.trans (b67.mono B56.out.size))
      have B7 := Lib.hid (B5.out.trans (B57.out.mono B5.out.size))
      clear hnew b67 HDD B56
      go_upto_region 2 with fail
      clear hw7
      have HS7 : Hid (∀ W, Below w7.heap.size w7 W → Below w7.heap.size w7 W ∧ W.cell? ⟨g, o, none⟩ = some (.int .i64 d0.s) ∧ W.cell? ⟨g, o + 1, none⟩ = some (.slice d0.A d0.n d0.c) ∧ W.cell? ⟨g, o + 2, none⟩ = some (.int .i64 d0.z) ∧ W.cell? ⟨w6.heap.size, 0, none⟩ = some (.int .i64 dd.s) ∧ W.cell? ⟨w6.heap.size, 1, none⟩ = some (.slice dd.A dd.n dd.c) ∧ W.cell? ⟨w6.heap.size, 2, none⟩ = some (.int .i64 dd.z) ∧ W.cell? ⟨g, o + 6, none⟩ = some (.int .i64 d2.s) ∧ W.cell? ⟨g, o + 6 + 1, none⟩ = some (.slice d2.A d2.n d2.c) ∧ W.cell? ⟨g, o + 6 + 2, none⟩ = some (.int .i64 d2.z)) := Lib.hid (fun W hW => by
        obtain ⟨p0, p1, p2, p3, p4, p5, p6, p7, p8⟩ := HS.out W (B57.out.trans (hW.mono B57.out.size))
        have hk := (hW.block _ (Array.getElem?_eq_some_iff.1 HN.out).1).trans HN.out
        exact ⟨hW, p0, p1, p2, blk_cell hk rfl, blk_cell hk rfl, blk_cell hk rfl, p6, p7, p8⟩)
      have hS := HS7.out w7.drew (Below.refl _ _).drew
      go_region_held3 (fun W => Below w7.heap.size w7 W ∧ W.cell? ⟨g, o, none⟩ = some (.int .i64 d0.s) ∧ W.cell? ⟨g, o + 1, none⟩ = some (.slice d0.A d0.n d0.c) ∧ W.cell? ⟨g, o + 2, none⟩ = some (.int .i64 d0.z) ∧ W.cell? ⟨w6.heap.size, 0, none⟩ = some (.int .i64 dd.s) ∧ W.cell? ⟨w6.heap.size, 1, none⟩ = some (.slice dd.A dd.n dd.c) ∧ W.cell? ⟨w6.heap.size, 2, none⟩ = some (.int .i64 dd.z) ∧ W.cell? ⟨g, o + 6, none⟩ = some (.int .i64 d2.s) ∧ W.cell? ⟨g, o + 6 + 1, none⟩ = some (.slice d2.A d2.n d2.c) ∧ W.cell? ⟨g, o + 6 + 2, none⟩ = some (.int .i64 d2.z)) (first | assumption | exact HS7.out _ (hS.1.alloc hS.1.size _)) (fail)
      have BD : Below w7.heap.size w7 w7.drew := (Below.refl _ _).drew
      have HF := Lib.hid (doms_build3 ((HD0.out.below B7.out).below BD) (HDD7.out.below BD) ((HD2.out.below B7.out).below BD))
      have B8 := B7.out.trans (BD.mono B7.out.size)
      have BF := Lib.hid (B8.trans ((below1 w7.drew (.cells #[.int .i64 d0.s, .slice d0.A d0.n d0.c, .int .i64 d0.z, .int .i64 dd.s, .slice dd.A dd.n dd.c, .int .i64 dd.z, .int .i64 d2.s, .slice d2.A d2.n d2.c, .int .i64 d2.z] 77)).mono B8.size))
      clear HDD7 B7 B57 hS HS HS7 HP HN
      go_wp2_with fail
      go_ret
      exact ⟨⟨⟨some ⟨w7.drew.heap.size, 0, none⟩, 3, 3⟩, rfl, by rw [HM.out]; exact HF.out⟩, BF.out⟩
end Go.Proofs.YtcmdgjkoalophaaGreatDoor
