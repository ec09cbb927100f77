/- Contract of mul's between: what of a domain lies between the least and the greatest product of two. -/
import Derived.Test.YtcmdgjkoalophaaGreatDoorMkr
import Derived.Test.YtcmdgjkoalophaaGreatDoorGfn5
import Derived.Test.YtcmdgjkoalophaaGreatDoorMshapes
import Derived.Test.YtcmdgjkoalophaaGreatDoorMkmore
import Derived.Test.YtcmdgjkoalophaaGreatDoorRg2
import Derived.Test.YtcmdgjkoalophaaGreatDoorMkst
import Derived.Lib.QuietBelow
namespace Go.Proofs.YtcmdgjkoalophaaGreatDoor
open Go.RowKit Go.Sort

theorem head_mem {L : List Int} (h : L ≠ []) : L.head?.getD 0 ∈ L := by
  cases L with
  | nil => exact absurd rfl h
  | cons a l => simp
theorem last_mem {L : List Int} (h : L ≠ []) : L.getLast?.getD 0 ∈ L := by
  rw [List.getLast?_eq_some_getLast h]
  exact List.getLast_mem h
theorem head_lim {L : List Int} (h : ∀ v ∈ L, -2000000 ≤ v ∧ v ≤ 2000000) : -2000000 ≤ L.head?.getD 0 ∧ L.head?.getD 0 ≤ 2000000 := by
  by_cases e : L = []
  · subst e; simp
  · exact h _ (head_mem e)
theorem last_lim {L : List Int} (h : ∀ v ∈ L, -2000000 ≤ v ∧ v ≤ 2000000) : -2000000 ≤ L.getLast?.getD 0 ∧ L.getLast?.getD 0 ≤ 2000000 := by
  by_cases e : L = []
  · subst e; simp
  · exact h _ (last_mem e)

theorem run_min4 {P : Program} (w : World) (ts : Array TypeId) (t : TypeId) (k : IntKind) (a b c d : Int) : (Builtin.min_ ts t #[.int k a, .int k b, .int k c, .int k d]).run P w = .ok (.int k (min4 a b c d)) w := by
  have e : ∀ x y : Int, (if y < x then y else x) = min x y := fun x y => by
    rw [Int.min_def]
    split <;> split <;> omega
  simp [Builtin.min_, Builtin.min2, e, min4]
theorem run_max4 {P : Program} (w : World) (ts : Array TypeId) (t : TypeId) (k : IntKind) (a b c d : Int) : (Builtin.max_ ts t #[.int k a, .int k b, .int k c, .int k d]).run P w = .ok (.int k (max4 a b c d)) w := by
  have e : ∀ x y : Int, (if y > x then y else x) = max x y := fun x y => by
    rw [Int.max_def]
    split <;> split <;> omega
  simp [Builtin.max_, Builtin.max2, e, max4]

/-- A block of three cells, written whole. -/
theorem put3_block {W : World} {g : Nat} {a0 a1 a2 x y z : Value} {t : TypeId} (h : W.heap[g]? = some (.cells #[a0, a1, a2] t (0, 0))) : (((W.setCell ⟨g, 0, none⟩ x).setCell ⟨g, 1, none⟩ y).setCell ⟨g, 2, none⟩ z).heap[g]? = some (.cells #[x, y, z] t (0, 0)) :=
  heap_setCell_same _ g 2 _ t z (heap_setCell_same _ g 1 _ t y (heap_setCell_same W g 0 _ t x h))
theorem put3_far {W : World} {g k : Nat} {x y z : Value} (h : k ≠ g) : (((W.setCell ⟨g, 0, none⟩ x).setCell ⟨g, 1, none⟩ y).setCell ⟨g, 2, none⟩ z).heap[k]? = W.heap[k]? :=
  (heap_setCell_other _ _ k z h).trans ((heap_setCell_other _ _ k y h).trans (heap_setCell_other _ _ k x h))

set_option maxHeartbeats 4000000 in
set_option maxRecDepth 100000 in
theorem between_any (d1 d2 d3 : Dv) (A Bs C : List Int) (w : World) (h1 : IsDom w d1.val A) (h2 : IsDom w d2.val Bs) (h3 : IsDom w d3.val C) (hT : TabZ w) :
    Calls Tryz.prog 149 #[.agg #[.int .i64 d1.s, .slice d1.A d1.n d1.c, .int .i64 d1.z], .agg #[.int .i64 d2.s, .slice d2.A d2.n d2.c, .int .i64 d2.z], .agg #[.int .i64 d3.s, .slice d3.A d3.n d3.c, .int .i64 d3.z]] w
      fun e w' => (∃ d : Dv, e = .returned d.val ∧ IsDom w' d.val ((C.filter fun u => decide (lowP A Bs ≤ u)).filter fun u => decide (u ≤ highP A Bs))) ∧ Below w.heap.size w w' := by
  obtain ⟨w4, hw4⟩ : ∃ w4, (((w.alloc (.cells #[.int .i64 d1.s, .slice d1.A d1.n d1.c, .int .i64 d1.z] 77)).alloc (.cells #[.int .i64 d2.s, .slice d2.A d2.n d2.c, .int .i64 d2.z] 77)).alloc (.cells #[.int .i64 d3.s, .slice d3.A d3.n d3.c, .int .i64 d3.z] 77)).alloc (.cells #[.int .i64 0, .slice none 0 0, .int .i64 0] 77) = w4 := ⟨_, rfl⟩
  obtain ⟨wa, hwa⟩ : ∃ wa, w.alloc (.cells #[.int .i64 d1.s, .slice d1.A d1.n d1.c, .int .i64 d1.z] 77) = wa := ⟨_, rfl⟩
  obtain ⟨wb, hwb⟩ : ∃ wb, wa.alloc (.cells #[.int .i64 d2.s, .slice d2.A d2.n d2.c, .int .i64 d2.z] 77) = wb := ⟨_, rfl⟩
  obtain ⟨wc, hwc⟩ : ∃ wc, wb.alloc (.cells #[.int .i64 d3.s, .slice d3.A d3.n d3.c, .int .i64 d3.z] 77) = wc := ⟨_, rfl⟩
  have hwd := hw4
  rw [hwa, hwb, hwc] at hwd
  have sa : wa.heap.size = w.heap.size + 1 := by rw [← hwa]; simp
  have sb : wb.heap.size = w.heap.size + 1 + 1 := by rw [← hwb]; simp [sa]
  have sc : wc.heap.size = w.heap.size + 1 + 1 + 1 := by rw [← hwc]; simp [sb]
  have s4 : w4.heap.size = w.heap.size + 1 + 1 + 1 + 1 := by rw [← hwd]; simp [sc]
  have ba : Below w.heap.size w wa := hwa ▸ below1 w _
  have bb : Below wa.heap.size wa wb := hwb ▸ below1 wa _
  have bc : Below wb.heap.size wb wc := hwc ▸ below1 wb _
  have bd : Below wc.heap.size wc w4 := hwd ▸ below1 wc _
  have n1 : wa.heap[w.heap.size]? = some (.cells #[.int .i64 d1.s, .slice d1.A d1.n d1.c, .int .i64 d1.z] 77 (0, 0)) := hwa ▸ heap_new w _
  have n2 : wb.heap[w.heap.size + 1]? = some (.cells #[.int .i64 d2.s, .slice d2.A d2.n d2.c, .int .i64 d2.z] 77 (0, 0)) := by rw [← sa, ← hwb]; exact heap_new wa _
  have n3 : wc.heap[w.heap.size + 1 + 1]? = some (.cells #[.int .i64 d3.s, .slice d3.A d3.n d3.c, .int .i64 d3.z] 77 (0, 0)) := by rw [← sb, ← hwc]; exact heap_new wb _
  have n4 : w4.heap[w.heap.size + 1 + 1 + 1]? = some (.cells #[.int .i64 0, .slice none 0 0, .int .i64 0] 77 (0, 0)) := by rw [← sc, ← hwd]; exact heap_new wc _
  have b24 : Below wb.heap.size wb w4 := bc.trans (bd.mono bc.size)
  have b14 : Below wa.heap.size wa w4 := bb.trans (b24.mono bb.size)
  have b4 : Below w.heap.size w w4 := ba.trans (b14.mono ba.size)
  have HN1 : Hid (w4.heap[w.heap.size]? = some (.cells #[.int .i64 d1.s, .slice d1.A d1.n d1.c, .int .i64 d1.z] 77 (0, 0))) := Lib.hid ((b14.block _ (by omega)).trans n1)
  have HN2 : Hid (w4.heap[w.heap.size + 1]? = some (.cells #[.int .i64 d2.s, .slice d2.A d2.n d2.c, .int .i64 d2.z] 77 (0, 0))) := Lib.hid ((b24.block _ (by omega)).trans n2)
  have HN3 : Hid (w4.heap[w.heap.size + 1 + 1]? = some (.cells #[.int .i64 d3.s, .slice d3.A d3.n d3.c, .int .i64 d3.z] 77 (0, 0))) := Lib.hid ((bd.block _ (by omega)).trans n3)
  have HN4 := Lib.hid n4
  have B4 := Lib.hid b4
  have S4 := Lib.hid s4
  have HD1 := Lib.hid (h1.below b4)
  have HD2 := Lib.hid (h2.below b4)
  have HD3 := Lib.hid (h3.below b4)
  have HT4 := Lib.hid (hT.below b4)
  have HT := Lib.hid hT
  have B0 := Lib.hid b4
  have la := head_lim h1.lim
  have lb := last_lim h1.lim
  have lc := head_lim h2.lim
  have ld := last_lim h2.lim
  obtain ⟨am, ham⟩ : ∃ v, v = A.head?.getD 0 := ⟨_, rfl⟩
  obtain ⟨ax, hax⟩ : ∃ v, v = A.getLast?.getD 0 := ⟨_, rfl⟩
  obtain ⟨bm, hbm⟩ : ∃ v, v = Bs.head?.getD 0 := ⟨_, rfl⟩
  obtain ⟨bx, hbx⟩ : ∃ v, v = Bs.getLast?.getD 0 := ⟨_, rfl⟩
  rw [← ham] at la; rw [← hax] at lb; rw [← hbm] at lc; rw [← hbx] at ld
  have GA : Hid (∀ W, Below w4.heap.size w4 W → Calls Tryz.prog 183 #[.agg #[.int .i64 d1.s, .slice d1.A d1.n d1.c, .int .i64 d1.z]] W fun e w' => e = .returned (.int .i64 am) ∧ Below W.heap.size W w') := Lib.hid (fun W hW => by have := D.min_dom d1.val A W (HD1.out.below hW) (HT4.out.below hW); rw [← ham] at this; exact this)
  have GB : Hid (∀ W, Below w4.heap.size w4 W → Calls Tryz.prog 77 #[.agg #[.int .i64 d1.s, .slice d1.A d1.n d1.c, .int .i64 d1.z]] W fun e w' => e = .returned (.int .i64 ax) ∧ Below W.heap.size W w') := Lib.hid (fun W hW => by have := D.max_dom d1.val A W (HD1.out.below hW); rw [← hax] at this; exact this)
  have GC : Hid (∀ W, Below w4.heap.size w4 W → Calls Tryz.prog 183 #[.agg #[.int .i64 d2.s, .slice d2.A d2.n d2.c, .int .i64 d2.z]] W fun e w' => e = .returned (.int .i64 bm) ∧ Below W.heap.size W w') := Lib.hid (fun W hW => by have := D.min_dom d2.val Bs W (HD2.out.below hW) (HT4.out.below hW); rw [← hbm] at this; exact this)
  have GD : Hid (∀ W, Below w4.heap.size w4 W → Calls Tryz.prog 77 #[.agg #[.int .i64 d2.s, .slice d2.A d2.n d2.c, .int .i64 d2.z]] W fun e w' => e = .returned (.int .i64 bx) ∧ Below W.heap.size W w') := Lib.hid (fun W hW => by have := D.max_dom d2.val Bs W (HD2.out.below hW); rw [← hbx] at this; exact this)
  have CA := Lib.hid (in_regrown' (w := w4) GA.out)
  have CC := Lib.hid (in_regrown' (w := w4) GC.out)
  have CD := Lib.hid (in_regrown' (w := w4) GD.out)
  have HLO : Hid (lowP A Bs = min4 (am * bm) (am * bx) (ax * bm) (ax * bx)) := Lib.hid (by unfold lowP; rw [ham, hax, hbm, hbx])
  have HHI : Hid (highP A Bs = max4 (am * bm) (am * bx) (ax * bm) (ax * bx)) := Lib.hid (by unfold highP; rw [ham, hax, hbm, hbx])
  have p1 := prod_lim la lc
  have p2 := prod_lim la ld
  have p3 := prod_lim lb lc
  have p4 := prod_lim lb ld
  have w1 : IntKind.i64.wrap (am * bm) = am * bm := IntWalk.i64_in _ (by omega)
  have w2 : IntKind.i64.wrap (am * bx) = am * bx := IntWalk.i64_in _ (by omega)
  have w3 : IntKind.i64.wrap (ax * bm) = ax * bm := IntWalk.i64_in _ (by omega)
  have w5 : IntKind.i64.wrap (ax * bx) = ax * bx := IntWalk.i64_in _ (by omega)
  have e0 := cell_regrown (box_cell HN1.out (j := 0) (x := .int .i64 d1.s) rfl)
  have e1 := cell_regrown (box_cell HN1.out (j := 1) (x := .slice d1.A d1.n d1.c) rfl)
  have e2 := cell_regrown (box_cell HN1.out (j := 2) (x := .int .i64 d1.z) rfl)
  have f0 := cell_regrown (box_cell HN2.out (j := 0) (x := .int .i64 d2.s) rfl)
  have f1 := cell_regrown (box_cell HN2.out (j := 1) (x := .slice d2.A d2.n d2.c) rfl)
  have f2 := cell_regrown (box_cell HN2.out (j := 2) (x := .int .i64 d2.z) rfl)
  clear hwa hwb hwc hwd sa sb sc s4 ba bb bc bd n1 n2 n3 n4 b24 b14 b4 h1 h2 h3 hT la lb lc ld ham hax hbm hbx p1 p2 p3 p4
  go_enter Tryz.func149, Tryz.ntmps149
  go_upto_region 1 with fail
  clear hw4
  refine wp_region_quiet_below (by kernel_rfl) (by kernel_rfl) ?_
  repeat (first | go_big_quiet_step (first | (go_at_call 183; with_reducible exact CA.out _ _) | (go_at_call 183; with_reducible exact CC.out _ _) | (go_at_call 77; with_reducible exact CD.out _ _)) | quiet_step (fail))
  refine wpQuiet_nil ?_
  intro _ hw'
  obtain ⟨⟨dq, osq⟩, hw''⟩ := hw'
  subst hw''
  have b45 := below_regrown w4 dq osq
  generalize grow (redrawn w4 dq) osq = w5 at *
  have B45 := Lib.hid b45
  have CA5 := Lib.hid (in_regrown' (w := w5) (fun W hW => GA.out W (B45.out.trans (hW.mono B45.out.size))))
  have CB5 := Lib.hid (in_regrown' (w := w5) (fun W hW => GB.out W (B45.out.trans (hW.mono B45.out.size))))
  have CC5 := Lib.hid (in_regrown' (w := w5) (fun W hW => GC.out W (B45.out.trans (hW.mono B45.out.size))))
  have CD5 := Lib.hid (in_regrown' (w := w5) (fun W hW => GD.out W (B45.out.trans (hW.mono B45.out.size))))
  have K1 := (b45.block _ (Array.getElem?_eq_some_iff.1 HN1.out).1).trans HN1.out
  have K2 := (b45.block _ (Array.getElem?_eq_some_iff.1 HN2.out).1).trans HN2.out
  clear e0 e1 e2 f0 f1 f2 CA CC CD
  have e0 := cell_regrown (box_cell K1 (j := 0) (x := .int .i64 d1.s) rfl)
  have e1 := cell_regrown (box_cell K1 (j := 1) (x := .slice d1.A d1.n d1.c) rfl)
  have e2 := cell_regrown (box_cell K1 (j := 2) (x := .int .i64 d1.z) rfl)
  have f0 := cell_regrown (box_cell K2 (j := 0) (x := .int .i64 d2.s) rfl)
  have f1 := cell_regrown (box_cell K2 (j := 1) (x := .slice d2.A d2.n d2.c) rfl)
  have f2 := cell_regrown (box_cell K2 (j := 2) (x := .int .i64 d2.z) rfl)
  clear K1 K2 b45 GA GB GC GD
  go_upto_region 2 with fail
  refine wp_region_quiet_below (by kernel_rfl) (by kernel_rfl) ?_
  repeat (first | go_big_quiet_step (first | (go_at_call 183; with_reducible exact CA5.out _ _) | (go_at_call 183; with_reducible exact CC5.out _ _) | (go_at_call 77; with_reducible exact CB5.out _ _) | (go_at_call 77; with_reducible exact CD5.out _ _)) | quiet_step (fail))
  refine wpQuiet_nil ?_
  intro _ hw'
  obtain ⟨⟨dq, osq⟩, hw''⟩ := hw'
  subst hw''
  have b56 := below_regrown w5 dq osq
  generalize grow (redrawn w5 dq) osq = w6 at *
  have B6 := Lib.hid (B45.out.trans (b56.mono B45.out.size))
  have K3 := (B6.out.block _ (Array.getElem?_eq_some_iff.1 HN3.out).1).trans HN3.out
  have g0 := box_cell K3 (j := 0) (x := .int .i64 d3.s) rfl
  have g1 := box_cell K3 (j := 1) (x := .slice d3.A d3.n d3.c) rfl
  have g2 := box_cell K3 (j := 2) (x := .int .i64 d3.z) rfl
  have k0 := box_free K3 0
  have k1 := box_free K3 1
  have k2 := box_free K3 2
  have HK3 := Lib.hid K3
  have hmin : ∀ W : World, (Builtin.min_ #[3, 3, 3, 3] 3 #[.int .i64 (am * bm), .int .i64 (am * bx), .int .i64 (ax * bm), .int .i64 (ax * bx)]).run Tryz.prog W = .ok (.int .i64 (min4 (am * bm) (am * bx) (ax * bm) (ax * bx))) W := fun W => run_min4 W _ _ _ _ _ _ _
  have hmax : ∀ W : World, (Builtin.max_ #[3, 3, 3, 3] 3 #[.int .i64 (am * bm), .int .i64 (am * bx), .int .i64 (ax * bm), .int .i64 (ax * bx)]).run Tryz.prog W = .ok (.int .i64 (max4 (am * bm) (am * bx) (ax * bm) (ax * bx))) W := fun W => run_max4 W _ _ _ _ _ _ _
  have CL := D.least_dom d3.val C (lowP A Bs) w6 (HD3.out.below B6.out) (HT4.out.below B6.out)
  have HLQ : Hid (lowP A Bs = min4 (am * bm) (am * bx) (ax * bm) (ax * bx)) := HLO
  rw [HLO.out] at CL HLQ
  have CL := Lib.hid CL
  generalize min4 (am * bm) (am * bx) (ax * bm) (ax * bx) = lo at hmin HLO CL
  generalize max4 (am * bm) (am * bx) (ax * bm) (ax * bx) = hi at hmax HHI
  clear e0 e1 e2 f0 f1 f2 CA5 CB5 CC5 CD5 K3 b56 B45 HLQ
  go_wp2_with fail
  refine CL.out.mono ?_
  rintro e w7 ⟨d, rfl, hd, b7⟩
  obtain ⟨v7, rfl, hz7⟩ := Dv.of hd
  have HD7 := Lib.hid hd
  have B7 := Lib.hid (B6.out.trans (b7.mono B6.out.size))
  have j0 := (b7.cell (World.block_lt_of_cell? _ _ g0)).trans g0
  have j1 := (b7.cell (World.block_lt_of_cell? _ _ g1)).trans g1
  have j2 := (b7.cell (World.block_lt_of_cell? _ _ g2)).trans g2
  have HK7 := Lib.hid ((b7.block _ (Array.getElem?_eq_some_iff.1 HK3.out).1).trans HK3.out)
  clear g0 g1 g2 k0 k1 k2 CL hd b7 hz7 HK3 B6
  have k0 := box_free HK7.out 0
  have k1 := box_free HK7.out 1
  have k2 := box_free HK7.out 2
  go_upto_region 4 with fail
  obtain ⟨w8, hw8⟩ : ∃ w8, ((w7.setCell ⟨w.heap.size + 1 + 1, 0, none⟩ (.int .i64 v7.s)).setCell ⟨w.heap.size + 1 + 1, 1, none⟩ (.slice v7.A v7.n v7.c)).setCell ⟨w.heap.size + 1 + 1, 2, none⟩ (.int .i64 v7.z) = w8 := ⟨_, rfl⟩
  rw [hw8]
  have HD8 : Hid (IsDom w8 v7.val (C.filter fun u => decide (lo ≤ u))) := Lib.hid (hw8 ▸ HD7.out.put3 HK7.out (plain_int _ _ (by decide)) (plain_sl _ _ _) (plain_int _ _ (by decide)) _ _ _ (plain_int _ _ (by decide)) (plain_sl _ _ _))
  have B07 := B0.out.trans (B7.out.mono B0.out.size)
  have B8 : Hid (Below w.heap.size w w8) := Lib.hid (hw8 ▸ out_below B07 (w.heap.size + 1 + 1) (by omega) _ _ _)
  have HK8 : Hid (w8.heap[w.heap.size + 1 + 1]? = some (.cells #[.int .i64 v7.s, .slice v7.A v7.n v7.c, .int .i64 v7.z] 77 (0, 0))) := Lib.hid (hw8 ▸ put3_block HK7.out)
  have HR8 : Hid (w8.heap[w.heap.size + 1 + 1 + 1]? = some (.cells #[.int .i64 0, .slice none 0 0, .int .i64 0] 77 (0, 0))) := Lib.hid (hw8 ▸ (put3_far (by omega)).trans ((B7.out.block _ (by rw [S4.out]; omega)).trans HN4.out))
  have CM := Lib.hid (D.most_dom v7.val (C.filter fun u => decide (lo ≤ u)) hi w8 HD8.out (HT.out.below B8.out))
  have g0 := box_cell HK8.out (j := 0) (x := .int .i64 v7.s) rfl
  have g1 := box_cell HK8.out (j := 1) (x := .slice v7.A v7.n v7.c) rfl
  have g2 := box_cell HK8.out (j := 2) (x := .int .i64 v7.z) rfl
  clear hw8 HD7 HK7 j0 j1 j2 k0 k1 k2 B7 B07 hmin
  go_wp2_with fail
  refine CM.out.mono ?_
  rintro e w9 ⟨d, rfl, hd, b9⟩
  obtain ⟨v9, rfl, hz9⟩ := Dv.of hd
  have HD9 := Lib.hid hd
  have B9 := Lib.hid (B8.out.trans (b9.mono B8.out.size))
  have HK9 := Lib.hid ((b9.block _ (Array.getElem?_eq_some_iff.1 HK8.out).1).trans HK8.out)
  have HR9 := Lib.hid ((b9.block _ (Array.getElem?_eq_some_iff.1 HR8.out).1).trans HR8.out)
  have j0 := box_cell HK9.out (j := 0) (x := .int .i64 v7.s) rfl
  have j1 := box_cell HK9.out (j := 1) (x := .slice v7.A v7.n v7.c) rfl
  have j2 := box_cell HK9.out (j := 2) (x := .int .i64 v7.z) rfl
  have k0 := box_free HK9.out 0
  have k1 := box_free HK9.out 1
  have k2 := box_free HK9.out 2
  clear CM g0 g1 g2 hd b9 hz9 HD8 HK8 HR8 B8 hmax
  go_upto_region 5 with fail
  obtain ⟨w10, hw10⟩ : ∃ w10, ((w9.setCell ⟨w.heap.size + 1 + 1, 0, none⟩ (.int .i64 v9.s)).setCell ⟨w.heap.size + 1 + 1, 1, none⟩ (.slice v9.A v9.n v9.c)).setCell ⟨w.heap.size + 1 + 1, 2, none⟩ (.int .i64 v9.z) = w10 := ⟨_, rfl⟩
  rw [hw10]
  have HD10 := Lib.hid (hw10 ▸ HD9.out.put3 HK9.out (plain_int _ _ (by decide)) (plain_sl _ _ _) (plain_int _ _ (by decide)) (.int .i64 v9.s) (.slice v9.A v9.n v9.c) (.int .i64 v9.z) (plain_int _ _ (by decide)) (plain_sl _ _ _))
  have B10 : Hid (Below w.heap.size w w10) := Lib.hid (hw10 ▸ out_below B9.out (w.heap.size + 1 + 1) (by omega) _ _ _)
  have HK10 : Hid (w10.heap[w.heap.size + 1 + 1]? = some (.cells #[.int .i64 v9.s, .slice v9.A v9.n v9.c, .int .i64 v9.z] 77 (0, 0))) := Lib.hid (hw10 ▸ put3_block HK9.out)
  have HR10 : Hid (w10.heap[w.heap.size + 1 + 1 + 1]? = some (.cells #[.int .i64 0, .slice none 0 0, .int .i64 0] 77 (0, 0))) := Lib.hid (hw10 ▸ (put3_far (by omega)).trans HR9.out)
  have g0 := box_cell HK10.out (j := 0) (x := .int .i64 v9.s) rfl
  have g1 := box_cell HK10.out (j := 1) (x := .slice v9.A v9.n v9.c) rfl
  have g2 := box_cell HK10.out (j := 2) (x := .int .i64 v9.z) rfl
  clear hw10 HD9 HK9 HR9 j0 j1 j2 k0 k1 k2 B9
  have e0 := box_cell HR10.out (j := 0) (x := .int .i64 0) rfl
  have e1 := box_cell HR10.out (j := 1) (x := .slice none 0 0) rfl
  have e2 := box_cell HR10.out (j := 2) (x := .int .i64 0) rfl
  have k0 := box_free HR10.out 0
  have k1 := box_free HR10.out 1
  have k2 := box_free HR10.out 2
  go_wp2_with fail
  obtain ⟨q0, q1, q2⟩ := out_cells w10 (w.heap.size + 1 + 1 + 1) _ _ _ (.int .i64 v9.s) (.slice v9.A v9.n v9.c) (.int .i64 v9.z) e0 e1 e2
  refine bodyPost_ret (v := .agg #[.int .i64 v9.s, .slice v9.A v9.n v9.c, .int .i64 v9.z]) (by simp [results, Tryz.results149, go_sem, q0, q1, q2]) rfl ⟨⟨v9, rfl, ?_⟩, ?_⟩
  · rw [HLO.out, HHI.out]
    exact HD10.out.put3 HR10.out (plain_int _ _ (by decide)) (plain_sl _ _ _) (plain_int _ _ (by decide)) _ _ _ (plain_int _ _ (by decide)) (plain_sl _ _ _)
  · exact out_below B10.out _ (by omega) _ _ _
end Go.Proofs.YtcmdgjkoalophaaGreatDoor

/- Contract of mul's mayFilter: it is the document's Fits. -/
namespace Go.Proofs.YtcmdgjkoalophaaGreatDoor
open Go.RowKit Go.Sort

theorem three_mul {c : ConL} {n : Int} (h : rightE c n = 0) (hk : c.kind = 5 ∨ c.kind = 6 ∨ c.kind = 7) : c.A.length = 3 ∧ c.B.length = 0 := by
  obtain ⟨k1, k2, hs, ha, hb, hn⟩ := right_parts h
  rcases hk with hk | hk | hk
  · rw [size_5 c hk] at hs; omega
  · rw [size_6 c hk] at hs; omega
  · rw [size_7 c hk] at hs; omega
/-- Where the constraint is one of these and fits, there are three domains. -/
theorem fits_three {c : ConL} {D : List (List Int)} (h : fitsE c D 5 7 = true) : ∃ A B C, D = [A, B, C] ∧ (c.kind = 5 ∨ c.kind = 6 ∨ c.kind = 7) ∧ A ≠ [] ∧ B ≠ [] ∧ C ≠ [] := by
  unfold fitsE at h
  simp only [Bool.and_eq_true, Bool.not_eq_true', decide_eq_false_iff_not, decide_eq_true_eq, beq_iff_eq] at h
  obtain ⟨⟨⟨⟨h1, h2⟩, h3⟩, h4⟩, h5⟩ := h
  have hk : c.kind = 5 ∨ c.kind = 6 ∨ c.kind = 7 := by omega
  obtain ⟨l1, l2⟩ := three_mul h4 hk
  match D, h3, h5 with
  | [A, B, C], _, h5 =>
    simp only [List.any_cons, List.any_nil, Bool.or_false, Bool.or_eq_false_iff, beq_eq_false_iff_ne, ne_eq, List.length_eq_zero_iff] at h5
    exact ⟨A, B, C, rfl, hk, h5.1, h5.2.1, h5.2.2⟩
  | [], h3, _ => simp at h3; omega
  | [_], h3, _ => simp at h3; omega
  | [_, _], h3, _ => simp at h3; omega
  | _ :: _ :: _ :: _ :: _, h3, _ => simp at h3; omega

set_option maxHeartbeats 4000000 in
set_option maxRecDepth 100000 in
theorem mayMul_any (v : ConV) (c : ConL) (x : Sl) (D : List (List Int)) (w : World) (hE : EntIn w) (h : ConIn w v c) (hx : DomsIn w x D) :
    Calls Tryz.prog 94 #[v.val c.kind c.K, .slice x.A x.n x.c] w fun e w' => e = .returned (.bool (fitsE c D 5 7)) ∧ Below w.heap.size w w' := by
  obtain ⟨wb, hwb⟩ : ∃ wb, cBox w v c.kind c.K = wb := ⟨_, rfl⟩
  have HR : Hid (RBox w.heap.size wb v c ⟨none, 0, 0⟩ [] ∧ Below w.heap.size w wb) := Lib.hid (hwb ▸ ⟨RBox.start h (IsInts.nil _), cBox_below _ _ _ _⟩)
  have HD := Lib.hid (hx.below HR.out.2)
  have hxb := hx.big
  have hab := h.a.big
  have hbb := h.b.big
  have CR : Hid (Calls Tryz.prog 108 #[v.val c.kind c.K, .int .i64 256] wb fun e w' => e = .returned (.int .i64 (rightE c 256)) ∧ Below wb.heap.size wb w') := Lib.hid (right_any v c 256 wb (hE.below HR.out.2) HR.out.1.con)
  have HV : Hid (fitsE c D 5 7 = (!decide (c.kind < 5) && !decide (7 < c.kind) && decide (x.n = v.a.n + v.b.n) && (rightE c 256 == 0) && !D.any (fun l => l.length == 0))) := Lib.hid (by unfold fitsE; rw [h.a.len, h.b.len, hx.len])
  obtain ⟨RES, hRES⟩ : ∃ B, B = fitsE c D 5 7 := ⟨_, rfl⟩
  rw [← hRES] at HV ⊢
  have HWB := Lib.hid hwb
  obtain ⟨rr, hrr⟩ : ∃ rr, rr = rightE c 256 := ⟨_, rfl⟩
  rw [← hrr] at CR HV
  have CE : Hid (∀ W, Below wb.heap.size wb W → Calls Tryz.prog 96 #[.slice x.A x.n x.c, .func (.func 97) #[] #[]] W fun e w' => e = .returned (.bool (D.any fun l => l.length == 0)) ∧ Below W.heap.size W w') := Lib.hid (fun W hW => anyEmpty_any x D W (HD.out.below hW))
  obtain ⟨OB, hOB⟩ : ∃ B, B = D.any (fun l => l.length == 0) := ⟨_, rfl⟩
  rw [← hOB] at HV CE
  have ws : IntKind.i64.wrap (((v.a.n : Nat) : Int) + ((v.b.n : Nat) : Int)) = ((v.a.n : Nat) : Int) + ((v.b.n : Nat) : Int) := IntWalk.i64_in _ (by omega)
  have HB := Lib.hid HR.out.2
  clear hwb h hx hRES hrr hOB hE
  by_cases hk : c.kind = 5 ∨ c.kind = 6 ∨ c.kind = 7
  · have hk' : ((c.kind == 5) = true) ∨ ((c.kind == 5) = false ∧ (c.kind == 6) = true) ∨ ((c.kind == 5) = false ∧ (c.kind == 6) = false ∧ (c.kind == 7) = true) := by
      rcases hk with hk | hk | hk <;> simp [hk]
    have HV1 : Hid (RES = (decide (x.n = v.a.n + v.b.n) && (rr == 0) && !OB)) := Lib.hid (by
      rw [HV.out, decide_eq_false (show ¬ c.kind < 5 by omega), decide_eq_false (show ¬ 7 < c.kind by omega)]; simp)
    have d0 := HR.out.1.c0
    have d1 := HR.out.1.c1
    have d2 := HR.out.1.c2
    have d3 := HR.out.1.c3
    have d4 := HR.out.1.c4
    have d5 := HR.out.1.c5
    have d6 := HR.out.1.c6
    have d7 := HR.out.1.c7
    clear hk HV
    have HH : ((rr == 0) = false ∧ Hid (RES = false)) ∨ ((rr == 0) = true ∧ ((((x.n : Nat) : Int) == ((v.a.n : Nat) : Int) + ((v.b.n : Nat) : Int)) = false) ∧ Hid (RES = false)) ∨ ((rr == 0) = true ∧ ((((x.n : Nat) : Int) == ((v.a.n : Nat) : Int) + ((v.b.n : Nat) : Int)) = true) ∧ Hid (RES = !OB)) := by
      cases g1 : (rr == 0)
      · exact .inl ⟨rfl, Lib.hid (by rw [HV1.out, g1]; simp)⟩
      · by_cases g2 : x.n = v.a.n + v.b.n
        · exact .inr (.inr ⟨rfl, by simp; omega, Lib.hid (by rw [HV1.out, decide_eq_true g2, g1]; simp)⟩)
        · exact .inr (.inl ⟨rfl, by simp; omega, Lib.hid (by rw [HV1.out, decide_eq_false g2]; simp)⟩)
    clear HV1
    rcases HH with ⟨g1, HF⟩ | ⟨g1, g4, HF⟩ | ⟨g1, g4, HF⟩ <;> rcases hk' with k5 | ⟨k5, k6⟩ | ⟨k5, k6, k7⟩
    all_goals
      go_enter Tryz.func94, Tryz.ntmps94
      go_upto_region 1 with fail
      change Code.wp _ _ _ _ (cBox w v c.kind c.K)
      rw [HWB.out]
      clear HWB
      go_wp2_with fail
      refine CR.out.mono ?_
      rintro e w1 ⟨rfl, b1⟩
      have B1 := Lib.hid b1
      have d1' := (b1.cell (World.block_lt_of_cell? _ _ d1)).trans d1
      have d2' := (b1.cell (World.block_lt_of_cell? _ _ d2)).trans d2
      clear b1 CR d0 d1 d2 d3 d4 d5 d6 d7
      go_wp2_with fail
      first
        | (go_ret; exact ⟨ret_bool HF.out.symm, HB.out.trans (B1.out.mono HB.out.size)⟩)
        | (refine (CE.out w1 B1.out).mono ?_
           rintro e w2 ⟨rfl, b2⟩
           have B2 := Lib.hid (HB.out.trans ((B1.out.trans (b2.mono B1.out.size)).mono HB.out.size))
           clear b2 CE
           go_wp2_with fail
           go_ret
           exact ⟨ret_bool HF.out.symm, B2.out⟩)
  · have HF : Hid (RES = false) := Lib.hid (by
      rw [HV.out]
      have : c.kind < 5 ∨ 7 < c.kind := by omega
      rcases this with g | g
      · rw [decide_eq_true g]; simp
      · rw [decide_eq_true g]; simp)
    have k5 : (c.kind == 5) = false := by simp; omega
    have k6 : (c.kind == 6) = false := by simp; omega
    have k7 : (c.kind == 7) = false := by simp; omega
    have d0 := HR.out.1.c0
    clear hk HV
    go_enter Tryz.func94, Tryz.ntmps94
    go_upto_region 1 with fail
    change Code.wp _ _ _ _ (cBox w v c.kind c.K)
    rw [HWB.out]
    clear HWB
    go_wp2_with fail
    go_ret
    exact ⟨ret_bool HF.out.symm, HB.out⟩
end Go.Proofs.YtcmdgjkoalophaaGreatDoor

/- Contract of the document's Local (layer 10): shared by layers 10 to 22. -/
namespace Go.Proofs.YtcmdgjkoalophaaGreatDoor
open Go.RowKit Go.Sort

/-- A constraint whose places are variables by themselves. -/
def localE (c : ConL) : ConL := { c with A := mkL (fun i => (i : Int)) c.A.length, B := mkL (fun i => (c.A.length : Int) + (i : Int)) c.B.length }
theorem grow_box {G : Nat} {wl wr w7 : World} {u : Array Value} {t : TypeId} {y y' : Sl} {n : Nat} {xs : List Value} {x z : Value} {o : Obj} (k : Kp G wl wr) (hb : wr.heap[G]? = some (.cells u t (0, 0))) (hG : G < wl.heap.size)
    (hO : wr.ownsRow wl.heap.size 3 1 (.slice y.A y.n y.c) n xs) (hg : (wr.alloc o).grownBy w7 (Value.slice y.A y.n y.c).ownBlock) (h7 : w7.ownsRow wl.heap.size 3 1 (.slice y'.A y'.n y'.c) (n + 1) (xs ++ [x])) (j : Nat) :
    w7.heap[G]? = some (.cells u t (0, 0)) ∧ Kp G wl (w7.setCell ⟨G, j, none⟩ z) ∧ (w7.setCell ⟨G, j, none⟩ z).heap[G]? = some (.cells (u.setIfInBounds j z) t (0, 0)) ∧ (w7.setCell ⟨G, j, none⟩ z).ownsRow wl.heap.size 3 1 (.slice y'.A y'.n y'.c) (n + 1) (xs ++ [x]) := by
  have hb7 := box_grown' hb hg (fun k e => by have := (own_lt' hO e).1; omega)
  have k7 : Kp G wl w7 := (k.alloc o).grown hg (fun j e => (own_lt' hO e).1)
  exact ⟨hb7, k7.put j _, box_put hb7, own_keep' h7 (fun g hgx => Below.heap_setCell _ _ _ _ (by have := (own_lt' h7 hgx).1; simp only; omega))⟩

set_option maxHeartbeats 4000000 in
set_option maxRecDepth 100000 in
theorem local_any (v : ConV) (c : ConL) (w : World) (h : ConIn w v c) (ha : c.A.length ≤ 1000) (hb : c.B.length ≤ 1000) :
    Calls Tryz.prog 40 #[v.val c.kind c.K] w fun e w' => (∃ v' : ConV, e = .returned (v'.val c.kind c.K) ∧ ConIn w' v' (localE c)) ∧ Below w.heap.size w w' := by
  obtain ⟨i0, hi, hz0, hz1, hz2⟩ := info_parts Tryz.info3
  have HI := Lib.hid (And.intro hi (And.intro hz0 (And.intro hz1 hz2)))
  have HC := Lib.hid h
  have HAN := Lib.hid h.a.len
  have HBN := Lib.hid h.b.len
  have han : v.a.n ≤ 1000 := by rw [h.a.len]; exact ha
  have hbn : v.b.n ≤ 1000 := by rw [h.b.len]; exact hb
  clear hi hz0 hz1 hz2 h ha hb
  obtain ⟨G, hG⟩ : ∃ G, G = w.heap.size + 1 + 1 := ⟨_, rfl⟩
  obtain ⟨wL, hwL⟩ : ∃ wL, ((w.alloc (.cells (v.cells c.kind c.K) 37)).alloc (.cells zeroC 37)).alloc (.cells (({ v with a := ⟨none, 0, 0⟩, b := ⟨none, 0, 0⟩ } : ConV).cells c.kind c.K) 37) = wL := ⟨_, rfl⟩
  have e1 := heap_new w (.cells (v.cells c.kind c.K) 37)
  have e2 := heap_new (w.alloc (.cells (v.cells c.kind c.K) 37)) (.cells zeroC 37)
  have e3 := heap_new ((w.alloc (.cells (v.cells c.kind c.K) 37)).alloc (.cells zeroC 37)) (.cells (({ v with a := ⟨none, 0, 0⟩, b := ⟨none, 0, 0⟩ } : ConV).cells c.kind c.K) 37)
  have z1 : (w.alloc (.cells (v.cells c.kind c.K) 37)).heap.size = w.heap.size + 1 := by simp
  have z2 : ((w.alloc (.cells (v.cells c.kind c.K) 37)).alloc (.cells zeroC 37)).heap.size = w.heap.size + 1 + 1 := by simp
  rw [z1] at e2
  rw [z2, hwL, ← hG] at e3
  have HZ : Hid (wL.heap[w.heap.size]? = some (.cells (v.cells c.kind c.K) 37 (0, 0))) := Lib.hid (by
    rw [← hwL, Below.heap_alloc _ _ _ (by rw [z2]; omega), Below.heap_alloc _ _ _ (by rw [z1]; omega)]
    exact e1)
  have HO : Hid (wL.heap[w.heap.size + 1]? = some (.cells zeroC 37 (0, 0))) := Lib.hid (by
    rw [← hwL, Below.heap_alloc _ _ _ (by rw [z2]; omega)]
    exact e2)
  have HBX := Lib.hid e3
  have HLOW : Hid (Below w.heap.size w wL) := Lib.hid (hwL ▸ ((below1 w _).alloc (by simp) _).alloc (by simp; omega) _)
  have HSZ : Hid (wL.heap.size = w.heap.size + 1 + 1 + 1) := Lib.hid (by rw [← hwL]; simp)
  have HGS := Lib.hid hG
  have HWL := Lib.hid hwL
  clear e1 e2 e3 z1 z2 hwL
  go_enter Tryz.func40, Tryz.ntmps40
  go_upto_region 4 with fail
  change Code.wp _ _ _ _ (((w.alloc (.cells (v.cells c.kind c.K) 37)).alloc (.cells zeroC 37)).alloc (.cells (({ v with a := ⟨none, 0, 0⟩, b := ⟨none, 0, 0⟩ } : ConV).cells c.kind c.K) 37))
  rw [HWL.out, ← hG]
  clear HWL hG
  go_wp2_with fail
  go_loopw [4] (fun i wr => ∃ (k : Nat) (y : Sl), i = .int .i64 (k : Nat) ∧ k ≤ v.a.n ∧ Hid (Kp G wL wr) ∧ Hid (wr.heap[G]? = some (.cells (({ v with a := y, b := ⟨none, 0, 0⟩ } : ConV).cells c.kind c.K) 37 (0, 0))) ∧ Hid (wr.ownsRow wL.heap.size 3 1 (.slice y.A y.n y.c) k (I (mkL (fun i => (i : Int)) k)))) (fun i _ => v.a.n - (intOf i).toNat)
  case atStart => exact ⟨0, ⟨none, 0, 0⟩, rfl, by omega, Lib.hid (Kp.refl _ _), HBX, Lib.hid (World.ownsRow_nil _ _ _ _)⟩
  case round =>
    clear HBX
    obtain ⟨k, y, rfl, hk, HK, HB, HR⟩ := hrel
    have HZr : Hid (wr.heap[w.heap.size]? = some (.cells (v.cells c.kind c.K) 37 (0, 0))) := Lib.hid ((HK.out.block _ (by have := HSZ.out; omega) (by have := HGS.out; omega)).trans HZ.out)
    have q1 := box_cell HZr.out (j := 1) (x := .slice v.a.A v.a.n v.a.c) rfl
    by_cases hlt : k < v.a.n
    · have q2 := box_cell HB.out (j := 1) (x := .slice y.A y.n y.c) rfl
      have HT : Hid (I (mkL (fun i => (i : Int)) (k + 1)) = I (mkL (fun i => (i : Int)) k) ++ [.int .i64 (k : Nat)]) := Lib.hid (by rw [mkL_succ, I_append]; rfl)
      have Z5 := Lib.hid HK.out.size
      go_wp2_with (at_builtin; refine wpList_append_own _ rfl _ _ 26 rfl wL.heap.size 3 i0 (.int .i64 0) 1 8 Tryz.underlying26 HI.out.1 HI.out.2.1 HI.out.2.2.1 HI.out.2.2.2 rfl (by decide) _ _ _ rfl (HR.out.alloc _) ⟨_, 0, none⟩ 1 1 [.int .i64 (k : Nat)] rfl rfl ?c1 ?c2 ?c3 ?c4 ?c5 ?_)
      case c1 => intro j u hj; match j, hj with | 0, hj => simp at hj; subst hj; simp [Addr.add]
      case c2 => intro u hu; simp at hu; subst hu; rfl
      case c3 => unfold maxLen; omega
      case c4 => omega
      case c5 => have := Z5.out; simp; omega
      intro v' w7 hown' hgrow _
      obtain ⟨Y, kY, rfl⟩ := slice_row hown'
      obtain ⟨b7, k8, b8, r8⟩ := grow_box (y' := ⟨Y, k + 1, kY⟩) (z := .slice Y (k + 1) kY) HK.out HB.out (by have := HSZ.out; have := HGS.out; omega) HR.out hgrow hown' 1
      rw [← HT.out] at r8
      have K8 := Lib.hid k8
      have B8 : Hid ((w7.setCell ⟨G, 1, none⟩ (.slice Y (k + 1) kY)).heap[G]? = some (.cells (({ v with a := ⟨Y, k + 1, kY⟩, b := ⟨none, 0, 0⟩ } : ConV).cells c.kind c.K) 37 (0, 0))) := Lib.hid b8
      have R8 := Lib.hid r8
      have q7 := box_cell b7 (j := 1) (x := .slice y.A y.n y.c) rfl
      have f7 := box_free b7 1
      clear b7 k8 b8 r8 hown' hgrow HK HB HR HT q1 q2
      go_wp2_with fail
      go_roundw
      case rel => exact ⟨k + 1, ⟨Y, _, kY⟩, by go_num, by omega, K8, B8, R8⟩
      case measure => simp [intOf]; omega
    · obtain rfl : k = v.a.n := by omega
      have KA := HK
      have HXA := HB
      have RA := HR
      have q3 := box_cell HZr.out (j := 2) (x := .slice v.b.A v.b.n v.b.c) rfl
      clear HK HB HR hlt
      obtain ⟨wA, rfl⟩ : ∃ wA, wA = wr := ⟨_, rfl⟩
      have HSA : Hid (G < wA.heap.size ∧ w.heap.size + 1 + 1 + 1 ≤ wA.heap.size) := Lib.hid (by have := KA.out.size; have := HSZ.out; have := HGS.out; omega)
      go_wp2_with fail
      clear q1 q3
      go_loopw [5] (fun i wr => ∃ (k : Nat) (z : Sl), i = .int .i64 (k : Nat) ∧ k ≤ v.b.n ∧ Hid (Kp G wA wr) ∧ Hid (wr.heap[G]? = some (.cells (({ v with a := y, b := z } : ConV).cells c.kind c.K) 37 (0, 0))) ∧ Hid (wr.ownsRow wA.heap.size 3 1 (.slice z.A z.n z.c) k (I (mkL (fun i => ((v.a.n : Nat) : Int) + (i : Int)) k)))) (fun i _ => v.b.n - (intOf i).toNat)
      case atStart => exact ⟨0, ⟨none, 0, 0⟩, rfl, by omega, Lib.hid (Kp.refl _ _), HXA, Lib.hid (World.ownsRow_nil _ _ _ _)⟩
      case round =>
        clear HXA
        obtain ⟨j, z, rfl, hj, HK, HB, HR⟩ := hrel
        have HZs : Hid (wr.heap[w.heap.size]? = some (.cells (v.cells c.kind c.K) 37 (0, 0))) := Lib.hid ((HK.out.block _ (by have := HSA.out; omega) (by have := HGS.out; omega)).trans HZr.out)
        have q1 := box_cell HZs.out (j := 1) (x := .slice v.a.A v.a.n v.a.c) rfl
        have q3 := box_cell HZs.out (j := 2) (x := .slice v.b.A v.b.n v.b.c) rfl
        by_cases hlt : j < v.b.n
        · have q2 := box_cell HB.out (j := 2) (x := .slice z.A z.n z.c) rfl
          have HT : Hid (I (mkL (fun i => ((v.a.n : Nat) : Int) + (i : Int)) (j + 1)) = I (mkL (fun i => ((v.a.n : Nat) : Int) + (i : Int)) j) ++ [.int .i64 (((v.a.n : Nat) : Int) + (j : Nat))]) := Lib.hid (by rw [mkL_succ, I_append]; rfl)
          have Z5 := Lib.hid HK.out.size
          have ws : IntKind.i64.wrap (((v.a.n : Nat) : Int) + (j : Nat)) = ((v.a.n : Nat) : Int) + (j : Nat) := IntWalk.i64_in _ (by omega)
          go_wp2_with (at_builtin; refine wpList_append_own _ rfl _ _ 26 rfl wA.heap.size 3 i0 (.int .i64 0) 1 8 Tryz.underlying26 HI.out.1 HI.out.2.1 HI.out.2.2.1 HI.out.2.2.2 rfl (by decide) _ _ _ rfl (HR.out.alloc _) ⟨_, 0, none⟩ 1 1 [.int .i64 (((v.a.n : Nat) : Int) + (j : Nat))] rfl rfl ?c1 ?c2 ?c3 ?c4 ?c5 ?_)
          case c1 => intro j u hj; match j, hj with | 0, hj => simp at hj; subst hj; simp [Addr.add]
          case c2 => intro u hu; simp at hu; subst hu; rfl
          case c3 => unfold maxLen; omega
          case c4 => omega
          case c5 => have := Z5.out; simp; omega
          intro v' w7 hown' hgrow _
          obtain ⟨Y, kY, rfl⟩ := slice_row hown'
          obtain ⟨b7, k8, b8, r8⟩ := grow_box (y' := ⟨Y, j + 1, kY⟩) (z := .slice Y (j + 1) kY) HK.out HB.out HSA.out.1 HR.out hgrow hown' 2
          rw [← HT.out] at r8
          have K8 := Lib.hid k8
          have B8 : Hid ((w7.setCell ⟨G, 2, none⟩ (.slice Y (j + 1) kY)).heap[G]? = some (.cells (({ v with a := y, b := ⟨Y, j + 1, kY⟩ } : ConV).cells c.kind c.K) 37 (0, 0))) := Lib.hid b8
          have R8 := Lib.hid r8
          have q7 := box_cell b7 (j := 2) (x := .slice z.A z.n z.c) rfl
          have f7 := box_free b7 2
          clear b7 k8 b8 r8 hown' hgrow HK HB HR HT q1 q2 q3 ws
          go_wp2_with fail
          go_roundw
          case rel => exact ⟨j + 1, ⟨Y, _, kY⟩, by go_num, by omega, K8, B8, R8⟩
          case measure => simp [intOf]; omega
        · obtain rfl : j = v.b.n := by omega
          have HOr : Hid (wr.heap[w.heap.size + 1]? = some (.cells zeroC 37 (0, 0))) := Lib.hid ((HK.out.block _ (by have := HSA.out; omega) (by have := HGS.out; omega)).trans ((KA.out.block _ (by have := HSZ.out; omega) (by have := HGS.out; omega)).trans HO.out))
          have x0 := box_cell HB.out (j := 0) (x := .int .i64 c.kind) rfl
          have x1 := box_cell HB.out (j := 1) (x := .slice y.A y.n y.c) rfl
          have x2 := box_cell HB.out (j := 2) (x := .slice z.A z.n z.c) rfl
          have x3 := box_cell HB.out (j := 3) (x := .slice v.c.A v.c.n v.c.c) rfl
          have x4 := box_cell HB.out (j := 4) (x := .slice v.d.A v.d.n v.d.c) rfl
          have x5 := box_cell HB.out (j := 5) (x := .slice v.e.A v.e.n v.e.c) rfl
          have x6 := box_cell HB.out (j := 6) (x := .int .i64 c.K) rfl
          have x7 := box_cell HB.out (j := 7) (x := .slice v.r.A v.r.n v.r.c) rfl
          have y0 := box_cell HOr.out (j := 0) rfl
          have y1 := box_cell HOr.out (j := 1) rfl
          have y2 := box_cell HOr.out (j := 2) rfl
          have y3 := box_cell HOr.out (j := 3) rfl
          have y4 := box_cell HOr.out (j := 4) rfl
          have y5 := box_cell HOr.out (j := 5) rfl
          have y6 := box_cell HOr.out (j := 6) rfl
          have y7 := box_cell HOr.out (j := 7) rfl
          have f0 := box_free HOr.out 0
          have f1 := box_free HOr.out 1
          have f2 := box_free HOr.out 2
          have f3 := box_free HOr.out 3
          have f4 := box_free HOr.out 4
          have f5 := box_free HOr.out 5
          have f6 := box_free HOr.out 6
          have f7 := box_free HOr.out 7
          obtain ⟨hQ, kQ⟩ := out8 HOr.out (.int .i64 c.kind) (.slice y.A y.n y.c) (.slice z.A z.n z.c) (.slice v.c.A v.c.n v.c.c) (.slice v.d.A v.d.n v.d.c) (.slice v.e.A v.e.n v.e.c) (.int .i64 c.K) (.slice v.r.A v.r.n v.r.c)
          have hlowr : Below w.heap.size w wr := (HLOW.out.trans (KA.out.below (by have := HSZ.out; omega) (by have := HGS.out; omega))).trans (HK.out.below (by have := HSA.out; omega) (by have := HGS.out; omega))
          have hlowQ := hlowr.trans (kQ.below (by have := HK.out.size; have := HSA.out; omega) (by omega))
          have rA : Row3 wr wL.heap.size y (mkL (fun i => (i : Int)) v.a.n) := by
            unfold Row3
            rw [mkL_len]
            exact own_keep' RA.out fun g hg => by have := own_lt' RA.out hg; exact HK.out.block g this.2 (by have := HSZ.out; have := HGS.out; omega)
          have rB : Row3 wr wA.heap.size z (mkL (fun i => ((v.a.n : Nat) : Int) + (i : Int)) v.b.n) := by
            unfold Row3
            rw [mkL_len]
            exact HR.out
          have rA2 := rA.kp kQ (by have := HSZ.out; omega)
          have rB2 := rB.kp kQ (by have := HSA.out; omega)
          have hcc := HC.out.below hlowQ
          have hE : localE c = { c with A := mkL (fun i => (i : Int)) v.a.n, B := mkL (fun i => ((v.a.n : Nat) : Int) + (i : Int)) v.b.n } := by unfold localE; rw [HAN.out, HBN.out]
          have HCON : Hid (ConIn _ ({ v with a := y, b := z } : ConV) (localE c)) := Lib.hid (by
            rw [hE]
            exact ⟨ints_own rA2 (by rw [mkL_len]; omega), ints_own rB2 (by rw [mkL_len]; omega), hcc.c, hcc.d, hcc.e, hcc.r⟩)
          have HLQ := Lib.hid hlowQ
          have q0 := box_cell (j := 0) hQ rfl
          have q1 := box_cell (j := 1) hQ rfl
          have q2 := box_cell (j := 2) hQ rfl
          have q3 := box_cell (j := 3) hQ rfl
          have q4 := box_cell (j := 4) hQ rfl
          have q5 := box_cell (j := 5) hQ rfl
          have q6 := box_cell (j := 6) hQ rfl
          have q7 := box_cell (j := 7) hQ rfl
          have HQ := Lib.hid (And.intro q0 (And.intro q1 (And.intro q2 (And.intro q3 (And.intro q4 (And.intro q5 (And.intro q6 q7)))))))
          have q3 := box_cell HZs.out (j := 2) (x := .slice v.b.A v.b.n v.b.c) rfl
          clear q0 q1 q2 q4 q5 q6 q7 hQ kQ hlowr hlowQ rA rB rA2 rB2 hcc hE hlt HK HB HR KA RA
          go_wp2_with fail
          obtain ⟨q0, q1, q2, q3, q4, q5, q6, q7⟩ := HQ.out
          exact bodyPost_ret (v := ({ v with a := y, b := z } : ConV).val c.kind c.K) (by simp [results, Tryz.results40, go_sem, q0, q1, q2, q3, q4, q5, q6, q7]) rfl ⟨⟨_, rfl, HCON.out⟩, HLQ.out⟩
end Go.Proofs.YtcmdgjkoalophaaGreatDoor
